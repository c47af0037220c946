/- The device: what a block's own functions do: wipe, program, erase. -/
import Derived.Test.YtnndhbppgmnefaaDc
namespace Go.Proofs.Ytnndhbppgmnefaa
open Go.RowKit Go.Gf Go.Fl
set_option linter.unusedVariables false
set_option linter.unusedSimpArgs false
attribute [local go_sem ↓] Cl.quiet_after Cl.quiet_since
/-- the first m pages of block b are blank -/
def wiped (M : Dev) (b m : Nat) : Dev := { M with pg := fun i j => if i = b ∧ j < m then blankPg M.n else M.pg i j }
theorem wiped_zero (M : Dev) (b : Nat) : wiped M b 0 = M := by
  unfold wiped
  have : (fun i j => if i = b ∧ j < 0 then blankPg M.n else M.pg i j) = M.pg := by
    funext i j
    rw [if_neg (by omega)]
  rw [this]
theorem wiped_step (M : Dev) (b m : Nat) : { wiped M b m with pg := setPg (wiped M b m).pg b m (blankPg M.n) } = wiped M b (m + 1) := by
  unfold wiped setPg
  dsimp only
  congr 1
  funext i j
  by_cases h1 : i = b ∧ j = m
  · rw [if_pos h1, if_pos (by omega)]
  · rw [if_neg h1]
    by_cases h2 : i = b ∧ j < m
    · rw [if_pos h2, if_pos (by omega)]
    · rw [if_neg h2, if_neg (by omega)]
theorem erase1 {w : World} {F : Nat → Prop} {L : Lay} {M : Dev} (h : Rep w F L M) (hF : ∀ b, w.heap.size ≤ b → F b) {b j : Nat} (hb : b < M.B) (hj : j < M.P) :
    Calls Try.prog 98 #[.pointer (some (L.pa b j))] w fun e w' => e = .returned (.tuple #[]) ∧ Cl.Keeps (fun b => ¬ F b) w w' ∧ Rep w' F L { M with pg := setPg M.pg b j (blankPg M.n) } := by
  obtain ⟨o, h⟩ := h
  refine (c_erase (h.own1 hb hj) (fun b hb => Or.inr hb)).mono ?_
  rintro e w' ⟨rfl, hk, ss', hp⟩
  refine ⟨rfl, Own1.not hF hk, h.page hF hb hj hk ?_ ?_⟩
  · rw [h.len b hb j hj] at hp
    exact hp.any_ss (by decide) _
  · show (List.replicate M.n ((0 : Int), (0 : Int))).length = M.n
    rw [List.length_replicate]
set_option maxHeartbeats 2000000 in
theorem wipe_any {w : World} {F : Nat → Prop} {L : Lay} {M : Dev} (h : Rep w F L M) (hF : ∀ b, w.heap.size ≤ b → F b) {b m c : Nat} (hb : b < M.B) (hm : m ≤ M.P) :
    Calls Try.prog 83 #[.slice (some ⟨L.kp b, 0, none⟩) m c] w fun e w' => e = .returned (.tuple #[]) ∧ Cl.Keeps (fun b => ¬ F b) w w' ∧ Rep w' F L (wiped M b m) := by
  have hm32 : m ≤ 32 := by obtain ⟨o, h⟩ := h; have := Ge.may_of h.geo; omega
  have h0 : Hid (Rep w F L (wiped M b 0)) := by rw [wiped_zero]; exact h
  replace hm := Lib.hid hm
  clear h
  go_enter Try.func83, Try.ntmps83
  go_wp2_with fail
  go_loopw [6] (fun q wr => ∃ i : Nat, i ≤ m ∧ q = .int .i64 i ∧ Rep wr F L (wiped M b i) ∧ Cl.Keeps (fun b => ¬ F b) w wr) (fun q _ => m - (intOf q).toNat)
  case atStart => exact ⟨0, Nat.zero_le _, rfl, h0.out, Cl.Keeps.refl _ _⟩
  case round =>
    obtain ⟨i, hi, rfl, hR, hK⟩ := hrel
    by_cases hin : i < m
    · have hiI : (i : Int) < (m : Int) := by omega
      have hdi : decide (i < m) = true := decide_eq_true hin
      have hiP : i < M.P := by have := hm.out; omega
      have hcl : wr.cell? ⟨L.kp b, i, none⟩ = some (.pointer (some (L.pa b i))) := by obtain ⟨o, hR⟩ := hR; exact hR.pp b hb i hiP
      have her := Lib.hid (erase1 hR (fun b hb => hF b (Nat.le_trans hK.size hb)) (b := b) (j := i) hb hiP)
      replace hK := Lib.hid hK
      clear hR
      go_wp2_with (go_at_call 98; (with_reducible refine her.out.mono ?_); rintro e w2 ⟨rfl, hk2, hr2⟩; have hK2 := Lib.hid (hK.out.trans hk2); have hR2 := Lib.hid (hr2.eq (wiped_step M b i)); clear hk2 hr2)
      go_roundw
      case rel => exact ⟨i + 1, by omega, by go_num, hR2.out, hK2.out⟩
      case measure => simp [intOf]; omega
    · obtain rfl : i = m := by omega
      have hdi : decide (i < i) = false := decide_eq_false (Nat.lt_irrefl _)
      replace hR := Lib.hid hR
      replace hK := Lib.hid hK
      go_wp2_with fail
      go_end0
      exact ⟨rfl, hK.out, hR.out⟩
end Go.Proofs.Ytnndhbppgmnefaa
