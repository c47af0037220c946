/- What orders fates, and what may not befall: the program's small functions. -/
import Derived.Test.YtfohnffhcfiliaaZb
import Derived.Sort.Grow
namespace Go.Proofs.Ytfohnffhcfiliaa
open Go.RowKit
set_option linter.unusedVariables false
set_option linter.unusedSimpArgs false

def cmpI (x y : Int) : Int := if x < y then -1 else if y < x then 1 else 0
theorem cmpI_lt (x y : Int) : cmpI x y < 0 ↔ x < y := by unfold cmpI; split <;> (try split) <;> omega
theorem cmpI_eq (x y : Int) : cmpI x y = 0 ↔ x = y := by unfold cmpI; split <;> (try split) <;> omega
theorem isnan_any (x : Int) (w : World) : Calls Try.prog 34 #[.int .i64 x] w fun e w' => e = .returned (.bool false) ∧ w = w' := by
  have h : (x != x) = false := by simp
  go_enter Try.func34, Try.ntmps34
  go_wp2_with fail
  go_ret
  exact ⟨rfl, rfl⟩
set_option maxHeartbeats 1000000 in
theorem cmp_any (x y : Int) (w : World) : Calls Try.prog 21 #[.int .i64 x, .int .i64 y] w fun e w' => e = .returned (.int .i64 (cmpI x y)) ∧ w = w' := by
  have hx := Lib.hid (isnan_any x w)
  have hy := Lib.hid (isnan_any y w)
  rcases Int.lt_trichotomy x y with h | h | h
  · have e : cmpI x y = -1 := by unfold cmpI; rw [if_pos h]
    rw [e]
    go_enter Try.func21, Try.ntmps21
    go_wp2_with (go_at_call 34; (first | (with_reducible refine hx.out.mono ?_) | (with_reducible refine hy.out.mono ?_)); rintro e w1 ⟨rfl, rfl⟩)
    go_ret
    exact ⟨rfl, rfl⟩
  · have e : cmpI x y = 0 := by unfold cmpI; rw [if_neg (by omega), if_neg (by omega)]
    rw [e]
    have h1 : ¬ x < y := by omega
    have h2 : ¬ y < x := by omega
    clear h e
    go_enter Try.func21, Try.ntmps21
    go_wp2_with (go_at_call 34; (first | (with_reducible refine hx.out.mono ?_) | (with_reducible refine hy.out.mono ?_)); rintro e w1 ⟨rfl, rfl⟩)
    go_ret
    exact ⟨rfl, rfl⟩
  · have e : cmpI x y = 1 := by unfold cmpI; rw [if_neg (by omega), if_pos h]
    rw [e]
    have h1 : ¬ x < y := by omega
    go_enter Try.func21, Try.ntmps21
    go_wp2_with (go_at_call 34; (first | (with_reducible refine hx.out.mono ?_) | (with_reducible refine hy.out.mono ?_)); rintro e w1 ⟨rfl, rfl⟩)
    go_ret
    exact ⟨rfl, rfl⟩
set_option maxHeartbeats 1000000 in
theorem earlier_any (x y : Int × Int × Int) (W : World) : Calls Try.prog 15 #[.agg #[.int .i64 x.1, .int .i64 x.2.1, .int .i64 x.2.2], .agg #[.int .i64 y.1, .int .i64 y.2.1, .int .i64 y.2.2]] W fun e w' => e = .returned (.int .i64 (cmpI x.1 y.1)) ∧ ∃ q os', w' = Sort.grow (W.drewN q) os' := by
  have hcon := fun W' => Lib.hid (cmp_any x.1 y.1 W')
  generalize cmpI x.1 y.1 = r at *
  go_enter Try.func15, Try.ntmps15
  go_wp2_with (go_at_call 21; (with_reducible refine (hcon _).out.mono ?_); rintro e w1 ⟨rfl, rfl⟩)
  go_ret
  exact ⟨rfl, 0, _, by rw [Sort.alloc_eq_grow, Sort.alloc_eq_grow, Sort.grow_grow]; rfl⟩
theorem against_any (x : Int × Int × Int) (n : Int) (W : World) : Calls Try.prog 23 #[.agg #[.int .i64 x.1, .int .i64 x.2.1, .int .i64 x.2.2], .int .i64 n] W (Ans W (.int .i64 (cmpI x.1 n))) := by
  have hcon := fun W' => Lib.hid (cmp_any x.1 n W')
  generalize cmpI x.1 n = r at *
  go_enter Try.func23, Try.ntmps23
  go_wp2_with (go_at_call 21; (with_reducible refine (hcon _).out.mono ?_); rintro e w1 ⟨rfl, rfl⟩)
  go_ret
  exact ⟨rfl, below_alloc _ _⟩
set_option maxHeartbeats 1000000 in
theorem never_any (x : Int × Int × Int) (W : World) : Calls Try.prog 12 #[.agg #[.int .i64 x.1, .int .i64 x.2.1, .int .i64 x.2.2]] W (Ans W (.bool (!okT x))) := by
  obtain ⟨P, Q, R⟩ := x
  have hb := fun T => Lib.hid (below_alloc W (.cells #[.int .i64 P, .int .i64 Q, .int .i64 R] T))
  rcases Int.lt_or_le P 0 with h1 | h1
  · rw [show okT (P, Q, R) = false from decide_eq_false (by intro h; omega)]
    go_enter Try.func12, Try.ntmps12
    go_wp2_with fail
    go_ret
    exact ⟨rfl, (hb _).out⟩
  rcases Int.lt_or_le 1099511627776 P with h2 | h2
  · rw [show okT (P, Q, R) = false from decide_eq_false (by intro h; omega)]
    go_enter Try.func12, Try.ntmps12
    go_wp2_with fail
    go_ret
    exact ⟨rfl, (hb _).out⟩
  rcases Int.lt_or_le R 0 with h3 | h3
  · rw [show okT (P, Q, R) = false from decide_eq_false (by intro h; have := h.2.2.2; dsimp only at this; omega)]
    rcases (by omega : Q = 1 ∨ Q ≠ 1) with rfl | h4
    · go_enter Try.func12, Try.ntmps12
      go_wp2_with fail
      go_ret
      exact ⟨rfl, (hb _).out⟩
    · have e4 : (Q != 1) = true := by simpa using h4
      rcases (by omega : Q = 2 ∨ Q ≠ 2) with rfl | h5
      · go_enter Try.func12, Try.ntmps12
        go_wp2_with fail
        go_ret
        exact ⟨rfl, (hb _).out⟩
      · have e5 : (Q != 2) = true := by simpa using h5
        go_enter Try.func12, Try.ntmps12
        go_wp2_with fail
        go_ret
        exact ⟨rfl, (hb _).out⟩
  · have d1 : decide (P < 0) = false := decide_eq_false (by omega)
    have d2 : decide (1099511627776 < P) = false := decide_eq_false (by omega)
    have d3 : decide (R < 0) = false := decide_eq_false (by omega)
    rcases (by omega : Q = 1 ∨ Q ≠ 1) with rfl | h4
    · rw [show okT (P, 1, R) = true from decide_eq_true ⟨h1, h2, Or.inl rfl, h3⟩]
      go_enter Try.func12, Try.ntmps12
      go_wp2_with fail
      go_ret
      exact ⟨rfl, (hb _).out⟩
    · have e4 : (Q != 1) = true := by simpa using h4
      rcases (by omega : Q = 2 ∨ Q ≠ 2) with rfl | h5
      · rw [show okT (P, 2, R) = true from decide_eq_true ⟨h1, h2, Or.inr rfl, h3⟩]
        clear h4 e4
        go_enter Try.func12, Try.ntmps12
        go_wp2_with fail
        go_ret
        exact ⟨rfl, (hb _).out⟩
      · rw [show okT (P, Q, R) = false from decide_eq_false (fun h => by
                                                                              rcases h.2.2.1 with h | h
                                                                              · exact h4 h
                                                                              · exact h5 h)]
        have e5 : (Q != 2) = true := by simpa using h5
        go_enter Try.func12, Try.ntmps12
        go_wp2_with fail
        go_ret
        exact ⟨rfl, (hb _).out⟩
end Go.Proofs.Ytfohnffhcfiliaa
