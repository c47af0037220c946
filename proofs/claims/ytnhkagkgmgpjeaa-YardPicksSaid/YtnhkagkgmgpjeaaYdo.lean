/- Pick walked. -/
import Derived.Test.YtnhkagkgmgpjeaaYdn
namespace Go.Proofs.Ytnhkagkgmgpjeaa.Yd
open Go.RowKit
set_option linter.unusedVariables false
set_option linter.unusedSimpArgs false
/-- of the first i, those that are so -/
def upto (P : Nat → Bool) (i j : Nat) : Bool := decide (j < i) && P j
theorem upto_step (P : Nat → Bool) {i : Nat} {b : Bool} (hb : P i = b) (j : Nat) : (if j = i then Value.bool b else We.bF (upto P i) j) = We.bF (upto P (i + 1)) j := by
  unfold We.bF upto
  by_cases h1 : j = i
  · subst h1; simp [hb]
  · rw [if_neg h1]
    have : decide (j < i) = decide (j < i + 1) := by rw [decide_eq_decide]; omega
    rw [this]
theorem upto_zero (P : Nat → Bool) (j : Nat) : We.bF (fun _ => false) j = We.bF (upto P 0) j := by unfold We.bF upto; simp
theorem upto_all (P : Nat → Bool) {i j : Nat} (h : j < i) : We.bF (upto P i) j = We.bF P j := by unfold We.bF upto; simp [h]
theorem YM.other {w : World} {lo hi G k g1 g2 : Nat} {st er : Nat → Int} (m : YM w lo hi G k st er g1 g2) {g i : Nat} (v : Value) (h : g ≠ G ∧ g ≠ g1 ∧ g ≠ g2) : YM (w.setCell ⟨g, i, none⟩ v) lo hi G k st er g1 g2 :=
  ⟨m.box.keep (We.setCell_block w v (Ne.symm h.1)), m.sts.other v (Ne.symm h.2.1), m.ers.other v (Ne.symm h.2.2), m.ne, m.rng, m.le⟩
set_option maxHeartbeats 4000000 in
theorem pick_yd {w : World} {lo hi G k g1 g2 : Nat} {st er : Nat → Int} (m : YM w lo hi G k st er g1 g2) :
    Calls Try.prog 15 #[.pointer (some ⟨G, 0, none⟩)] w (We.Ans w (pkV (pk k st er))) := by
  have M := Lib.hid m
  have hk3 := Lib.hid m.le
  have c0 := m.box.c0
  clear m
  obtain ⟨P, hP⟩ : ∃ P, isS st 1 = P := ⟨_, rfl⟩
  have hPs := Lib.hid (show ∀ i, (st i == 1) = P i from fun i => by rw [← hP]; unfold isS; rw [Bool.eq_iff_iff]; simp)
  unfold pk
  rw [hP]
  clear hP
  have mk := We.run_makeF w k (by have := hk3.out; omega)
  go_enter Try.func15, Try.ntmps15
  go_upto_region 4 with fail
  have B1 := We.below_alloc w (.cells (We.zF k) 4)
  have p1 := Lib.hid ((We.PV.bools w k).congr fun j _ => upto_zero P j)
  have M1 := Lib.hid (M.out.keep fun b _ _ hl => B1.block b hl)
  have hg := Lib.hid (show w.heap.size < (w.alloc (.cells (We.zF k) 4)).heap.size by rw [World.size_alloc]; omega)
  have hn1 := Lib.hid (show w.heap.size ≠ G ∧ w.heap.size ≠ g1 ∧ w.heap.size ≠ g2 by have := M.out.box.lt; have := M.out.sts.lt; have := M.out.ers.lt; omega)
  replace B1 := Lib.hid B1
  have hg0 : Hid (w.heap.size ≤ w.heap.size) := Lib.hid (Nat.le_refl _)
  clear mk M c0
  generalize w.alloc (.cells (We.zF k) 4) = w1 at *
  generalize hgf : w.heap.size = gf at *
  replace hgf := Lib.hid hgf
  have c0 := M1.out.box.c0
  go_wp2_with fail
  go_loopw [20] (fun q wr => ∃ i : Nat, q = .int .i64 (i : Int) ∧ i ≤ k ∧ Hid (We.PV wr 4 gf k (We.bF (upto P i))) ∧ Hid (YM wr lo hi G k st er g1 g2) ∧ Hid (Below gf w wr)) (fun q _ => k - (intOf q).toNat)
  case atStart => exact ⟨0, rfl, Nat.zero_le _, p1, M1, B1⟩
  case round =>
    obtain ⟨i, rfl, hi', hR, M, hB⟩ := hrel
    clear p1 M1 B1 c0
    by_cases hik : i < k
    · have hikI : (i : Int) < (k : Int) := by omega
      have d1 : decide ((i : Int) < (k : Int)) = true := decide_eq_true hikI
      have c1 := M.out.st_at hik
      have c2 := hR.out.cell hik
      have f2 := hR.out.frozen i
      have hi1 : wrap64 ((i : Int) + 1) = ((i + 1 : Nat) : Int) := by have := hk3.out; rw [IntWalk.wrap64_in _ (by omega)]; omega
      have e := hPs.out i
      obtain ⟨S, hS⟩ : ∃ S, st i = S := ⟨_, rfl⟩
      rw [hS] at c1 e
      clear hS
      obtain ⟨b, hb⟩ : ∃ b, P i = b := ⟨_, rfl⟩
      rw [hb] at e
      have R2 := Lib.hid ((hR.out.set_ i (.bool b)).congr (fun j _ => upto_step P hb j))
      have M2 := Lib.hid (M.out.other (i := i) (.bool b) hn1.out)
      have B2 := Lib.hid (We.below_set (i := i) hB.out (Nat.le_refl gf) (.bool b))
      clear hR M hB
      replace hb := Lib.hid hb
      go_wp2_with fail
      go_roundw
      case rel => exact ⟨i + 1, by rw [hi1], by omega, R2, M2, B2⟩
      case measure => rw [hi1]; simp only [intOf, Int.toNat_natCast]; omega
    · obtain rfl : i = k := by omega
      have d1 : decide ((i : Int) < (i : Int)) = false := decide_eq_false (by omega)
      have c0 := M.out.box.c0
      have c1 := M.out.box.c1
      have hc := We.pick_any (some ⟨g2, 0, none⟩) i i er (some ⟨gf, 0, none⟩) i i P wr (M.out.ers.sf) ((hR.out.congr fun j hj => upto_all P hj).sf) (by have := hk3.out; omega)
      have hmn : We.mn i i = i := by unfold We.mn; split <;> rfl
      rw [hmn] at hc
      replace hc := Lib.hid hc
      go_wp2_with (go_at_call 21; (with_reducible refine hc.out.mono ?_); rintro e w2 ⟨rfl, hb2⟩; have hb3 := Lib.hid (show Below gf w w2 from hB.out.trans (hb2.mono (Nat.le_of_lt hR.out.lt))))
      go_ret2
      exact ⟨rfl, by rw [hgf.out]; exact hb3.out⟩
end Go.Proofs.Ytnhkagkgmgpjeaa.Yd
