/- The program's closures, first, Pick, Victim, Gap walked. -/
import Derived.Test.YtnhkagkgmgpjeaaWra
namespace Go.Proofs.Ytnhkagkgmgpjeaa.We
open Go.RowKit
set_option linter.unusedVariables false
set_option linter.unusedSimpArgs false

set_option maxHeartbeats 1000000 in
theorem pick1_any (g : Nat) (A : Option Addr) (n c : Nat) (e : Nat → Int) (w : World) (hb : w.cell? ⟨g, 0, none⟩ = some (.slice A n c)) (hs : SF w w.heap.size A n (iF e)) (a b : Nat) (ha : a < n) (hb2 : b < n) :
    Calls Try.prog 24 #[.int .i64 (a : Int), .int .i64 (b : Int), .pointer (some ⟨g, 0, none⟩)] w (Ans w (.bool (lo e a b))) := by
  obtain ⟨p, rfl, _, c0⟩ := hs.at_ ha
  obtain ⟨q, e1, _, c1⟩ := hs.at_ hb2
  injection e1 with e1
  subst e1
  have haI : (a : Int) < (n : Int) := by omega
  have hbI : (b : Int) < (n : Int) := by omega
  obtain ⟨X, hX⟩ : ∃ X, Hid (e a = X) := ⟨_, Lib.hid rfl⟩
  obtain ⟨Y, hY⟩ : ∃ Y, Hid (e b = Y) := ⟨_, Lib.hid rfl⟩
  simp only [iF] at c0 c1
  rw [hX.out] at c0
  rw [hY.out] at c1
  have ht : lo e a b = decide (X < Y) := by rw [lo, hX.out, hY.out]
  rw [ht]
  clear ht hs
  go_enter Try.func24, Try.ntmps24
  go_wp2_with fail
  go_quiet (fail)
  go_wp2_with fail
  go_ret
  exact ⟨rfl, below_drewN _ _⟩
/-- what a call of that function value answers, of two below the number -/
def AheadIs (k : Nat) (cap : Array Value) (N : Nat) (ah : Nat → Nat → Bool) (w0 : World) : Prop :=
  ∀ w, Below w0.heap.size w0 w → ∀ a b : Nat, a < N → b < N → Calls Try.prog k (#[.int .i64 (a : Int), .int .i64 (b : Int)] ++ cap) w (Ans w (.bool (ah a b)))
set_option maxHeartbeats 2000000 in
theorem first_pick (x : Value) (N : Nat) (ah : Nat → Nat → Bool) (n : Nat) (B : Option Addr) (m d : Nat) (μ : Nat → Bool) (w : World) (hm : SF w w.heap.size B m (bF μ)) (hN : (if m < n then m else n) = N) (h62 : N ≤ 4611686018427387904)
    (hk : AheadIs 24 #[x] N ah w) :
    Calls Try.prog 23 #[.int .i64 (n : Int), .slice B m d, .func (.func 24) #[] #[x]] w (Ans w (.tuple #[.int .i64 (((fst μ ah N).getD 0 : Nat) : Int), .bool (fst μ ah N).isSome])) := by
  have hmin : (if m < n then (m : Int) else (n : Int)) = (N : Int) := by
    rw [← hN]; split <;> rfl
  have hNm : N ≤ m := by rw [← hN]; split <;> omega
  have H := Lib.hid hm
  have HK := Lib.hid hk
  clear hk hm hN
  go_enter Try.func23, Try.ntmps23
  go_wp2_with fail
  clear hmin
  go_loopw [8, 9, 15] (fun p q r wr => ∃ j : Nat, j ≤ N ∧ p = .int .i64 (((fst μ ah j).getD 0 : Nat) : Int) ∧ q = .bool (fst μ ah j).isSome ∧ r = .int .i64 (j : Int) ∧ Hid (Below w.heap.size w wr)) (fun _ _ r _ => N - (intOf r).toNat)
  case atStart => exact ⟨0, Nat.zero_le _, rfl, rfl, rfl, Lib.hid (Below.refl _ _)⟩
  case round =>
    obtain ⟨j, hj, rfl, rfl, rfl, hB⟩ := hrel
    by_cases hlt : j < N
    · have hjI : (j : Int) < (N : Int) := by omega
      have hdj : decide (j < N) = true := decide_eq_true hlt
      have hjm : j < m := by omega
      have hjmI : (j : Int) < (m : Int) := by omega
      obtain ⟨a, rfl, _, c0⟩ := (H.out.below hB.out).at_ hjm
      simp only [bF] at c0
      cases hmu : μ j
      · rw [hmu] at c0
        have hf := Lib.hid (fst_no (ah := ah) hmu)
        generalize hG : fst μ ah j = G at *
        replace hG := Lib.hid hG
        go_wp2_with fail
        go_roundw
        case rel => exact ⟨j + 1, by omega, by rw [hf.out], by rw [hf.out], by go_num, hB⟩
        case measure => simp [intOf]; omega
      · rw [hmu] at c0
        cases hG : fst μ ah j with
        | none =>
          have hf1 := Lib.hid (fst_new hmu hG)
          simp only [Option.getD_none, Option.isSome_none]
          clear hG
          go_wp2_with fail
          go_roundw
          case rel => exact ⟨j + 1, by omega, by rw [hf1.out]; rfl, by rw [hf1.out]; rfl, by go_num, hB⟩
          case measure => simp [intOf]; omega
        | some b =>
          have hb := fst_lt hG
          simp only [Option.getD_some, Option.isSome_some]
          have hc : Hid (Calls Try.prog 24 #[.int .i64 (j : Int), .int .i64 (b : Int), x] wr (Ans wr (.bool (ah j b)))) := Lib.hid (HK.out wr hB.out j b hlt (by omega))
          have hup := hB.out.size
          cases hx : ah j b
          · rw [hx] at hc
            have hf1 := Lib.hid (fst_stay hG hx)
            clear hG hb
            go_wp2_with (go_at_call 24; (with_reducible refine hc.out.mono ?_); rintro e w1 ⟨rfl, hb1⟩; have hb1 := Lib.hid (below_trans hB.out hb1))
            go_roundw
            case rel => exact ⟨j + 1, by omega, by rw [hf1.out]; rfl, by rw [hf1.out]; rfl, by go_num, hb1⟩
            case measure => simp [intOf]; omega
          · rw [hx] at hc
            have hf1 := Lib.hid (fst_turn hmu hG hx)
            clear hG hb
            go_wp2_with (go_at_call 24; (with_reducible refine hc.out.mono ?_); rintro e w1 ⟨rfl, hb1⟩; have hb1 := Lib.hid (below_trans hB.out hb1))
            go_roundw
            case rel => exact ⟨j + 1, by omega, by rw [hf1.out]; rfl, by rw [hf1.out]; rfl, by go_num, hb1⟩
            case measure => simp [intOf]; omega
    · obtain rfl : j = N := by omega
      have hnI : ¬ (j : Int) < (j : Int) := by omega
      have hdj : decide (j < j) = false := decide_eq_false hlt
      generalize hG : fst μ ah j = G at *
      go_wp2_with fail
      go_ret2
      exact ⟨rfl, hB.out⟩
end Go.Proofs.Ytnhkagkgmgpjeaa.We
