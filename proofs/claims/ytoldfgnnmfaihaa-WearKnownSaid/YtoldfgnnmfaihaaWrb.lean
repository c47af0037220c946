/- The program's closures, first, Pick, Victim, Gap walked. -/
import Derived.Test.YtoldfgnnmfaihaaWra
namespace Go.Proofs.Ytoldfgnnmfaihaa.We
open Go.RowKit
set_option linter.unusedVariables false
set_option linter.unusedSimpArgs false

set_option maxHeartbeats 1000000 in
theorem pick1_any (g : Nat) (A : Option Addr) (n c : Nat) (e : Nat → Int) (w : World) (hb : w.cell? ⟨g, 0, none⟩ = some (.slice A n c)) (hs : SF w w.heap.size A n (iF e)) (a b : Nat) (ha : a < n) (hb2 : b < n) :
    Calls Try.prog 15 #[.int .i64 (a : Int), .int .i64 (b : Int), .pointer (some ⟨g, 0, none⟩)] w (Ans w (.bool (lo e a b))) := by
  obtain ⟨p, rfl, _, c0⟩ := hs.at_ ha
  obtain ⟨q, e1, _, c1⟩ := hs.at_ hb2
  injection e1 with e1
  subst e1
  have haI : (a : Int) < (n : Int) := by omega
  have hbI : (b : Int) < (n : Int) := by omega
  obtain ⟨X, hX⟩ : ∃ X, Hid (e a = X) := ⟨_, Lib.hid rfl⟩
  obtain ⟨Y, hY⟩ : ∃ Y, Hid (e b = Y) := ⟨_, Lib.hid rfl⟩
  simp only [iF] at c0 c1
  rw [hX.out] at c0
  rw [hY.out] at c1
  have ht : lo e a b = decide (X < Y) := by rw [lo, hX.out, hY.out]
  rw [ht]
  clear ht hs
  go_enter Try.func15, Try.ntmps15
  go_wp2_with fail
  go_quiet (fail)
  go_wp2_with fail
  go_ret
  exact ⟨rfl, below_drewN _ _⟩
set_option maxHeartbeats 1000000 in
theorem gap1_any (g : Nat) (A : Option Addr) (n c : Nat) (e : Nat → Int) (w : World) (hb : w.cell? ⟨g, 0, none⟩ = some (.slice A n c)) (hs : SF w w.heap.size A n (iF e)) (a b : Nat) (ha : a < n) (hb2 : b < n) :
    Calls Try.prog 17 #[.int .i64 (a : Int), .int .i64 (b : Int), .pointer (some ⟨g, 0, none⟩)] w (Ans w (.bool (hi e a b))) := by
  obtain ⟨p, rfl, _, c0⟩ := hs.at_ ha
  obtain ⟨q, e1, _, c1⟩ := hs.at_ hb2
  injection e1 with e1
  subst e1
  have haI : (a : Int) < (n : Int) := by omega
  have hbI : (b : Int) < (n : Int) := by omega
  obtain ⟨X, hX⟩ : ∃ X, Hid (e a = X) := ⟨_, Lib.hid rfl⟩
  obtain ⟨Y, hY⟩ : ∃ Y, Hid (e b = Y) := ⟨_, Lib.hid rfl⟩
  simp only [iF] at c0 c1
  rw [hX.out] at c0
  rw [hY.out] at c1
  have ht : hi e a b = decide (Y < X) := by rw [hi, hX.out, hY.out]
  rw [ht]
  clear ht hs
  go_enter Try.func17, Try.ntmps17
  go_wp2_with fail
  go_quiet (fail)
  go_wp2_with fail
  go_ret
  exact ⟨rfl, below_drewN _ _⟩
set_option maxHeartbeats 2000000 in
theorem victim1_any (g g' : Nat) (A A' : Option Addr) (n n' c c' : Nat) (v e : Nat → Int) (w : World) (hb : w.cell? ⟨g, 0, none⟩ = some (.slice A n c)) (hb' : w.cell? ⟨g', 0, none⟩ = some (.slice A' n' c')) (hs : SF w w.heap.size A n (iF v)) (hs' : SF w w.heap.size A' n' (iF e)) (a b : Nat) (ha : a < n) (hb2 : b < n) (ha' : a < n') (hb2' : b < n') :
    Calls Try.prog 16 #[.int .i64 (a : Int), .int .i64 (b : Int), .pointer (some ⟨g, 0, none⟩), .pointer (some ⟨g', 0, none⟩)] w (Ans w (.bool (lx v e a b))) := by
  obtain ⟨p, rfl, _, c0⟩ := hs.at_ ha
  obtain ⟨q, e1, _, c1⟩ := hs.at_ hb2
  injection e1 with e1
  subst e1
  obtain ⟨p', rfl, _, d0⟩ := hs'.at_ ha'
  obtain ⟨q', e1, _, d1⟩ := hs'.at_ hb2'
  injection e1 with e1
  subst e1
  have haI : (a : Int) < (n : Int) := by omega
  have hbI : (b : Int) < (n : Int) := by omega
  have haI' : (a : Int) < (n' : Int) := by omega
  have hbI' : (b : Int) < (n' : Int) := by omega
  obtain ⟨X, hX⟩ : ∃ X, Hid (v a = X) := ⟨_, Lib.hid rfl⟩
  obtain ⟨Y, hY⟩ : ∃ Y, Hid (v b = Y) := ⟨_, Lib.hid rfl⟩
  obtain ⟨Z, hZ⟩ : ∃ Z, Hid (e a = Z) := ⟨_, Lib.hid rfl⟩
  obtain ⟨T, hT⟩ : ∃ T, Hid (e b = T) := ⟨_, Lib.hid rfl⟩
  simp only [iF] at c0 c1 d0 d1
  rw [hX.out] at c0
  rw [hY.out] at c1
  rw [hZ.out] at d0
  rw [hT.out] at d1
  have ht : lx v e a b = (decide (X < Y) || decide (X = Y) && decide (Z < T)) := by rw [lx, hX.out, hY.out, hZ.out, hT.out]
  rw [ht]
  clear ht hs hs'
  by_cases hXY : X = Y
  · have hne : (X != Y) = false := by simp [hXY]
    have ht : (decide (X < Y) || decide (X = Y) && decide (Z < T)) = decide (Z < T) := by simp [hXY]
    rw [ht]
    clear ht hXY
    go_enter Try.func16, Try.ntmps16
    go_wp2_with fail
    go_quiet (fail)
    go_wp2_with fail
    go_quiet (fail)
    go_wp2_with fail
    go_ret
    exact ⟨rfl, (below_drewN w _).trans (below_drewN (w.drewN _) _)⟩
  · have hne : (X != Y) = true := by simp [hXY]
    have ht : (decide (X < Y) || decide (X = Y) && decide (Z < T)) = decide (X < Y) := by simp [hXY]
    rw [ht]
    clear ht hXY
    go_enter Try.func16, Try.ntmps16
    go_wp2_with fail
    go_quiet (fail)
    go_wp2_with fail
    go_quiet (fail)
    go_wp2_with fail
    go_ret
    exact ⟨rfl, (below_drewN w _).trans (below_drewN (w.drewN _) _)⟩
/-- what a call of that function value answers, of two below the number -/
def AheadIs (k : Nat) (cap : Array Value) (N : Nat) (ah : Nat → Nat → Bool) (w0 : World) : Prop :=
  ∀ w, Below w0.heap.size w0 w → ∀ a b : Nat, a < N → b < N → Calls Try.prog k (#[.int .i64 (a : Int), .int .i64 (b : Int)] ++ cap) w (Ans w (.bool (ah a b)))
set_option maxHeartbeats 2000000 in
theorem first_pick (x : Value) (N : Nat) (ah : Nat → Nat → Bool) (n : Nat) (B : Option Addr) (m d : Nat) (μ : Nat → Bool) (w : World) (hm : SF w w.heap.size B m (bF μ)) (hN : (if m < n then m else n) = N) (h62 : N ≤ 4611686018427387904)
    (hk : AheadIs 15 #[x] N ah w) :
    Calls Try.prog 14 #[.int .i64 (n : Int), .slice B m d, .func (.func 15) #[] #[x]] w (Ans w (.tuple #[.int .i64 (((fst μ ah N).getD 0 : Nat) : Int), .bool (fst μ ah N).isSome])) := by
  have hmin : (if m < n then (m : Int) else (n : Int)) = (N : Int) := by
    rw [← hN]; split <;> rfl
  have hNm : N ≤ m := by rw [← hN]; split <;> omega
  have H := Lib.hid hm
  have HK := Lib.hid hk
  clear hk hm hN
  go_enter Try.func14, Try.ntmps14
  go_wp2_with fail
  clear hmin
  go_loopw [8, 9, 15] (fun p q r wr => ∃ j : Nat, j ≤ N ∧ p = .int .i64 (((fst μ ah j).getD 0 : Nat) : Int) ∧ q = .bool (fst μ ah j).isSome ∧ r = .int .i64 (j : Int) ∧ Hid (Below w.heap.size w wr)) (fun _ _ r _ => N - (intOf r).toNat)
  case atStart => exact ⟨0, Nat.zero_le _, rfl, rfl, rfl, Lib.hid (Below.refl _ _)⟩
  case round =>
    obtain ⟨j, hj, rfl, rfl, rfl, hB⟩ := hrel
    by_cases hlt : j < N
    · have hjI : (j : Int) < (N : Int) := by omega
      have hdj : decide (j < N) = true := decide_eq_true hlt
      have hjm : j < m := by omega
      have hjmI : (j : Int) < (m : Int) := by omega
      obtain ⟨a, rfl, _, c0⟩ := (H.out.below hB.out).at_ hjm
      simp only [bF] at c0
      cases hmu : μ j
      · rw [hmu] at c0
        have hf := Lib.hid (fst_no (ah := ah) hmu)
        generalize hG : fst μ ah j = G at *
        replace hG := Lib.hid hG
        go_wp2_with fail
        go_roundw
        case rel => exact ⟨j + 1, by omega, by rw [hf.out], by rw [hf.out], by go_num, hB⟩
        case measure => simp [intOf]; omega
      · rw [hmu] at c0
        cases hG : fst μ ah j with
        | none =>
          have hf1 := Lib.hid (fst_new hmu hG)
          simp only [Option.getD_none, Option.isSome_none]
          clear hG
          go_wp2_with fail
          go_roundw
          case rel => exact ⟨j + 1, by omega, by rw [hf1.out]; rfl, by rw [hf1.out]; rfl, by go_num, hB⟩
          case measure => simp [intOf]; omega
        | some b =>
          have hb := fst_lt hG
          simp only [Option.getD_some, Option.isSome_some]
          have hc : Hid (Calls Try.prog 15 #[.int .i64 (j : Int), .int .i64 (b : Int), x] wr (Ans wr (.bool (ah j b)))) := Lib.hid (HK.out wr hB.out j b hlt (by omega))
          have hup := hB.out.size
          cases hx : ah j b
          · rw [hx] at hc
            have hf1 := Lib.hid (fst_stay hG hx)
            clear hG hb
            go_wp2_with (go_at_call 15; (with_reducible refine hc.out.mono ?_); rintro e w1 ⟨rfl, hb1⟩; have hb1 := Lib.hid (below_trans hB.out hb1))
            go_roundw
            case rel => exact ⟨j + 1, by omega, by rw [hf1.out]; rfl, by rw [hf1.out]; rfl, by go_num, hb1⟩
            case measure => simp [intOf]; omega
          · rw [hx] at hc
            have hf1 := Lib.hid (fst_turn hmu hG hx)
            clear hG hb
            go_wp2_with (go_at_call 15; (with_reducible refine hc.out.mono ?_); rintro e w1 ⟨rfl, hb1⟩; have hb1 := Lib.hid (below_trans hB.out hb1))
            go_roundw
            case rel => exact ⟨j + 1, by omega, by rw [hf1.out]; rfl, by rw [hf1.out]; rfl, by go_num, hb1⟩
            case measure => simp [intOf]; omega
    · obtain rfl : j = N := by omega
      have hnI : ¬ (j : Int) < (j : Int) := by omega
      have hdj : decide (j < j) = false := decide_eq_false hlt
      generalize hG : fst μ ah j = G at *
      go_wp2_with fail
      go_ret2
      exact ⟨rfl, hB.out⟩
set_option maxHeartbeats 2000000 in
theorem first_gap (x : Value) (N : Nat) (ah : Nat → Nat → Bool) (n : Nat) (B : Option Addr) (m d : Nat) (μ : Nat → Bool) (w : World) (hm : SF w w.heap.size B m (bF μ)) (hN : (if m < n then m else n) = N) (h62 : N ≤ 4611686018427387904)
    (hk : AheadIs 17 #[x] N ah w) :
    Calls Try.prog 14 #[.int .i64 (n : Int), .slice B m d, .func (.func 17) #[] #[x]] w (Ans w (.tuple #[.int .i64 (((fst μ ah N).getD 0 : Nat) : Int), .bool (fst μ ah N).isSome])) := by
  have hmin : (if m < n then (m : Int) else (n : Int)) = (N : Int) := by
    rw [← hN]; split <;> rfl
  have hNm : N ≤ m := by rw [← hN]; split <;> omega
  have H := Lib.hid hm
  have HK := Lib.hid hk
  clear hk hm hN
  go_enter Try.func14, Try.ntmps14
  go_wp2_with fail
  clear hmin
  go_loopw [8, 9, 15] (fun p q r wr => ∃ j : Nat, j ≤ N ∧ p = .int .i64 (((fst μ ah j).getD 0 : Nat) : Int) ∧ q = .bool (fst μ ah j).isSome ∧ r = .int .i64 (j : Int) ∧ Hid (Below w.heap.size w wr)) (fun _ _ r _ => N - (intOf r).toNat)
  case atStart => exact ⟨0, Nat.zero_le _, rfl, rfl, rfl, Lib.hid (Below.refl _ _)⟩
  case round =>
    obtain ⟨j, hj, rfl, rfl, rfl, hB⟩ := hrel
    by_cases hlt : j < N
    · have hjI : (j : Int) < (N : Int) := by omega
      have hdj : decide (j < N) = true := decide_eq_true hlt
      have hjm : j < m := by omega
      have hjmI : (j : Int) < (m : Int) := by omega
      obtain ⟨a, rfl, _, c0⟩ := (H.out.below hB.out).at_ hjm
      simp only [bF] at c0
      cases hmu : μ j
      · rw [hmu] at c0
        have hf := Lib.hid (fst_no (ah := ah) hmu)
        generalize hG : fst μ ah j = G at *
        replace hG := Lib.hid hG
        go_wp2_with fail
        go_roundw
        case rel => exact ⟨j + 1, by omega, by rw [hf.out], by rw [hf.out], by go_num, hB⟩
        case measure => simp [intOf]; omega
      · rw [hmu] at c0
        cases hG : fst μ ah j with
        | none =>
          have hf1 := Lib.hid (fst_new hmu hG)
          simp only [Option.getD_none, Option.isSome_none]
          clear hG
          go_wp2_with fail
          go_roundw
          case rel => exact ⟨j + 1, by omega, by rw [hf1.out]; rfl, by rw [hf1.out]; rfl, by go_num, hB⟩
          case measure => simp [intOf]; omega
        | some b =>
          have hb := fst_lt hG
          simp only [Option.getD_some, Option.isSome_some]
          have hc : Hid (Calls Try.prog 17 #[.int .i64 (j : Int), .int .i64 (b : Int), x] wr (Ans wr (.bool (ah j b)))) := Lib.hid (HK.out wr hB.out j b hlt (by omega))
          have hup := hB.out.size
          cases hx : ah j b
          · rw [hx] at hc
            have hf1 := Lib.hid (fst_stay hG hx)
            clear hG hb
            go_wp2_with (go_at_call 17; (with_reducible refine hc.out.mono ?_); rintro e w1 ⟨rfl, hb1⟩; have hb1 := Lib.hid (below_trans hB.out hb1))
            go_roundw
            case rel => exact ⟨j + 1, by omega, by rw [hf1.out]; rfl, by rw [hf1.out]; rfl, by go_num, hb1⟩
            case measure => simp [intOf]; omega
          · rw [hx] at hc
            have hf1 := Lib.hid (fst_turn hmu hG hx)
            clear hG hb
            go_wp2_with (go_at_call 17; (with_reducible refine hc.out.mono ?_); rintro e w1 ⟨rfl, hb1⟩; have hb1 := Lib.hid (below_trans hB.out hb1))
            go_roundw
            case rel => exact ⟨j + 1, by omega, by rw [hf1.out]; rfl, by rw [hf1.out]; rfl, by go_num, hb1⟩
            case measure => simp [intOf]; omega
    · obtain rfl : j = N := by omega
      have hnI : ¬ (j : Int) < (j : Int) := by omega
      have hdj : decide (j < j) = false := decide_eq_false hlt
      generalize hG : fst μ ah j = G at *
      go_wp2_with fail
      go_ret2
      exact ⟨rfl, hB.out⟩
set_option maxHeartbeats 2000000 in
theorem first_victim (x y : Value) (N : Nat) (ah : Nat → Nat → Bool) (n : Nat) (B : Option Addr) (m d : Nat) (μ : Nat → Bool) (w : World) (hm : SF w w.heap.size B m (bF μ)) (hN : (if m < n then m else n) = N) (h62 : N ≤ 4611686018427387904)
    (hk : AheadIs 16 #[x, y] N ah w) :
    Calls Try.prog 14 #[.int .i64 (n : Int), .slice B m d, .func (.func 16) #[] #[x, y]] w (Ans w (.tuple #[.int .i64 (((fst μ ah N).getD 0 : Nat) : Int), .bool (fst μ ah N).isSome])) := by
  have hmin : (if m < n then (m : Int) else (n : Int)) = (N : Int) := by
    rw [← hN]; split <;> rfl
  have hNm : N ≤ m := by rw [← hN]; split <;> omega
  have H := Lib.hid hm
  have HK := Lib.hid hk
  clear hk hm hN
  go_enter Try.func14, Try.ntmps14
  go_wp2_with fail
  clear hmin
  go_loopw [8, 9, 15] (fun p q r wr => ∃ j : Nat, j ≤ N ∧ p = .int .i64 (((fst μ ah j).getD 0 : Nat) : Int) ∧ q = .bool (fst μ ah j).isSome ∧ r = .int .i64 (j : Int) ∧ Hid (Below w.heap.size w wr)) (fun _ _ r _ => N - (intOf r).toNat)
  case atStart => exact ⟨0, Nat.zero_le _, rfl, rfl, rfl, Lib.hid (Below.refl _ _)⟩
  case round =>
    obtain ⟨j, hj, rfl, rfl, rfl, hB⟩ := hrel
    by_cases hlt : j < N
    · have hjI : (j : Int) < (N : Int) := by omega
      have hdj : decide (j < N) = true := decide_eq_true hlt
      have hjm : j < m := by omega
      have hjmI : (j : Int) < (m : Int) := by omega
      obtain ⟨a, rfl, _, c0⟩ := (H.out.below hB.out).at_ hjm
      simp only [bF] at c0
      cases hmu : μ j
      · rw [hmu] at c0
        have hf := Lib.hid (fst_no (ah := ah) hmu)
        generalize hG : fst μ ah j = G at *
        replace hG := Lib.hid hG
        go_wp2_with fail
        go_roundw
        case rel => exact ⟨j + 1, by omega, by rw [hf.out], by rw [hf.out], by go_num, hB⟩
        case measure => simp [intOf]; omega
      · rw [hmu] at c0
        cases hG : fst μ ah j with
        | none =>
          have hf1 := Lib.hid (fst_new hmu hG)
          simp only [Option.getD_none, Option.isSome_none]
          clear hG
          go_wp2_with fail
          go_roundw
          case rel => exact ⟨j + 1, by omega, by rw [hf1.out]; rfl, by rw [hf1.out]; rfl, by go_num, hB⟩
          case measure => simp [intOf]; omega
        | some b =>
          have hb := fst_lt hG
          simp only [Option.getD_some, Option.isSome_some]
          have hc : Hid (Calls Try.prog 16 #[.int .i64 (j : Int), .int .i64 (b : Int), x, y] wr (Ans wr (.bool (ah j b)))) := Lib.hid (HK.out wr hB.out j b hlt (by omega))
          have hup := hB.out.size
          cases hx : ah j b
          · rw [hx] at hc
            have hf1 := Lib.hid (fst_stay hG hx)
            clear hG hb
            go_wp2_with (go_at_call 16; (with_reducible refine hc.out.mono ?_); rintro e w1 ⟨rfl, hb1⟩; have hb1 := Lib.hid (below_trans hB.out hb1))
            go_roundw
            case rel => exact ⟨j + 1, by omega, by rw [hf1.out]; rfl, by rw [hf1.out]; rfl, by go_num, hb1⟩
            case measure => simp [intOf]; omega
          · rw [hx] at hc
            have hf1 := Lib.hid (fst_turn hmu hG hx)
            clear hG hb
            go_wp2_with (go_at_call 16; (with_reducible refine hc.out.mono ?_); rintro e w1 ⟨rfl, hb1⟩; have hb1 := Lib.hid (below_trans hB.out hb1))
            go_roundw
            case rel => exact ⟨j + 1, by omega, by rw [hf1.out]; rfl, by rw [hf1.out]; rfl, by go_num, hb1⟩
            case measure => simp [intOf]; omega
    · obtain rfl : j = N := by omega
      have hnI : ¬ (j : Int) < (j : Int) := by omega
      have hdj : decide (j < j) = false := decide_eq_false hlt
      generalize hG : fst μ ah j = G at *
      go_wp2_with fail
      go_ret2
      exact ⟨rfl, hB.out⟩
end Go.Proofs.Ytoldfgnnmfaihaa.We
