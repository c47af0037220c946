/- What Program asks and sets: is something no symbol, and which state lies behind it. -/
import Derived.Test.YtnndhbppgmnefaaYn
namespace Go.Proofs.Ytnndhbppgmnefaa
open Go.RowKit Go.Gf Go.Fl
set_option linter.unusedVariables false
set_option linter.unusedSimpArgs false
theorem cbeyond_any (x : Nat) (w : World) : Calls Try.prog 95 #[.int .u16 (x : Int)] w fun e w' => e = .returned (.bool (decide (1024 ≤ x))) ∧ w = w' := by
  have h : decide ((1024 : Int) ≤ (x : Int)) = decide (1024 ≤ x) := by rw [decide_eq_decide]; omega
  go_enter Try.func95, Try.ntmps95
  go_wp2_with fail
  go_ret
  exact ⟨rfl, rfl⟩
/-- is there one that is no symbol? -/
def anyC (xs : List Nat) : Bool := xs.any fun x => decide (1024 ≤ x)
theorem anyC_none {xs : List Nat} (h : ∀ k (h : k < xs.length), xs[k] < 1024) : anyC xs = false := by
  rw [Bool.eq_false_iff]
  intro e
  obtain ⟨x, hx, h2⟩ := List.any_eq_true.1 e
  obtain ⟨k, hk, rfl⟩ := List.getElem_of_mem hx
  have := h k hk
  simp at h2; omega
theorem anyC_some {xs : List Nat} {k : Nat} (hk : k < xs.length) (h : 1024 ≤ xs[k]) : anyC xs = true :=
  List.any_eq_true.2 ⟨xs[k], List.getElem_mem hk, by simpa using h⟩
set_option maxHeartbeats 2000000 in
theorem cindex_any (A : Option Addr) (c : Nat) (xs : List Nat) (w : World) (h : Sl w w.heap.size A xs) (hl : xs.length ≤ 1000000) (n : Nat) (hn : xs.length = n) :
    Calls Try.prog 93 #[.slice A n c, .func (.func 95) #[] #[]] w fun e w' => (∃ k : Int, e = .returned (.int .i64 k) ∧ anyC xs = decide (0 ≤ k)) ∧ w = w' := by
  subst hn
  have H := Lib.hid h
  clear h
  have hno : Hid ((∀ k (h : k < xs.length), xs[k] < 1024) → anyC xs = false) := anyC_none
  have hyes : Hid (∀ {k : Nat} (hk : k < xs.length), 1024 ≤ xs[k] → anyC xs = true) := anyC_some
  generalize anyC xs = T at *
  go_enter Try.func93, Try.ntmps93
  go_wp2_with fail
  go_loop [8] (fun n => ∃ k : Nat, k ≤ xs.length ∧ Hid (∀ j (h : j < xs.length), j < k → xs[j] < 1024) ∧ n = .int .i64 k) (fun n => xs.length - (intOf n).toNat)
  case atStart => exact ⟨0, Nat.zero_le _, Lib.hid (fun j _ h => absurd h (by omega)), rfl⟩
  case round =>
    obtain ⟨k, hk, HK, rfl⟩ := hrel
    by_cases hlt : k < xs.length
    · obtain ⟨a, rfl, hab, hcell⟩ := H.out.at_ hlt
      have hx := H.out.1 xs[k] (List.getElem_mem hlt)
      have hc := cbeyond_any xs[k] w
      by_cases hb : 1024 ≤ xs[k]
      · obtain rfl := hyes.out hlt hb
        rw [decide_eq_true hb] at hc
        replace hc := Lib.hid hc
        clear hb
        go_wp2_with (go_at_call 95; (with_reducible refine hc.out.mono ?_); rintro e w1 ⟨rfl, rfl⟩)
        go_ret
        exact ⟨⟨_, rfl, by rw [eq_comm, decide_eq_true_eq]; omega⟩, rfl⟩
      · rw [decide_eq_false hb] at hc
        replace hc := Lib.hid hc
        have HK' : Hid (∀ j (h : j < xs.length), j < k + 1 → xs[j] < 1024) := fun j hj hjk => by
          rcases Nat.lt_or_ge j k with h1 | h1
          · exact HK.out j hj h1
          · obtain rfl : j = k := by omega
            omega
        clear hb HK
        go_wp2_with (go_at_call 95; (with_reducible refine hc.out.mono ?_); rintro e w1 ⟨rfl, rfl⟩)
        go_round
        case rel => exact ⟨k + 1, by omega, HK', by go_num⟩
        case measure => simp [intOf]; omega
    · obtain rfl : k = xs.length := by omega
      obtain rfl := hno.out (fun j hj => HK.out j hj hj)
      clear HK
      go_wp2_with fail
      go_ret
      exact ⟨⟨-1, rfl, by decide⟩, rfl⟩
set_option maxHeartbeats 1000000 in
theorem ccontains_any (A : Option Addr) (c : Nat) (xs : List Nat) (w : World) (h : Sl w w.heap.size A xs) (hl : xs.length ≤ 1000000) (n : Nat) (hn : xs.length = n) :
    Calls Try.prog 79 #[.slice A n c, .func (.func 95) #[] #[]] w fun e w' => e = .returned (.bool (anyC xs)) ∧ w = w' := by
  have hc := Lib.hid (cindex_any A c xs w h hl n hn)
  clear h hn
  generalize anyC xs = T at *
  go_enter Try.func79, Try.ntmps79
  go_wp2_with (go_at_call 93; (with_reducible refine hc.out.mono ?_); rintro e w1 ⟨⟨k, rfl, hk⟩, rfl⟩)
  go_ret
  exact ⟨by rw [hk]; rfl, rfl⟩
theorem behind_any (keep : Int) (n : Nat) (w : World) : Calls Try.prog 97 #[.int .i64 keep, .int .i64 (n : Int)] w fun e w' => e = .returned (.int .i64 (progS n keep)) ∧ w = w' := by
  unfold progS
  by_cases h1 : keep ≤ 0
  · rw [if_pos h1]
    go_enter Try.func97, Try.ntmps97
    go_wp2_with fail
    go_ret
    exact ⟨rfl, rfl⟩
  · rw [if_neg h1]
    by_cases h2 : (n : Int) ≤ keep
    · rw [if_pos h2]
      go_enter Try.func97, Try.ntmps97
      go_wp2_with fail
      go_ret
      exact ⟨rfl, rfl⟩
    · rw [if_neg h2]
      go_enter Try.func97, Try.ntmps97
      go_wp2_with fail
      go_ret
      exact ⟨rfl, rfl⟩
theorem p_arg {w : World} {F : Nat → Prop} {p : Addr} {ps : List (Int × Int)} {ss : List Nat} (h : Page w F p ps ss 0) {A : Option Addr} {xs : List Nat} {c : Nat} {keep : Int} (hs : Sl w w.heap.size A xs) (hl : xs.length = ps.length) (hn : xs.length ≤ 65536) (hx : ∃ x ∈ xs, 1024 ≤ x) :
    Calls Try.prog 82 #[.pointer (some p), .slice A xs.length c, .int .i64 keep] w (Ans w (.int .i64 1)) := by
  obtain ⟨⟨g, k, d, rfl, hg, hgl, hk, hkl, hgk, hfr, c0, c1, hr, hc⟩, hbd, hsm⟩ := h
  have hany : anyC xs = true := List.any_eq_true.2 (by obtain ⟨x, h1, h2⟩ := hx; exact ⟨x, h1, decide_eq_true h2⟩)
  have hcc := Lib.hid (ccontains_any A c xs w hs (by omega) xs.length rfl)
  rw [hany] at hcc
  rw [← hl] at c0
  clear hr hc hs hany hx hsm hbd hl
  generalize xs.length = n at *
  go_enter Try.func82, Try.ntmps82
  go_wp2_with (go_at_call 79; (with_reducible refine hcc.out.mono ?_); rintro e w1 ⟨rfl, rfl⟩)
  go_ret
  exact ⟨rfl, Below.refl _ _⟩
end Go.Proofs.Ytnndhbppgmnefaa
