/- LmapKnown walked. -/
import Derived.Test.YtcnnmnjepofomaaLmp
namespace Go.Proofs.Ytcnnmnjepofomaa.Lm
open Go.RowKit Go.Bw Go.Proofs.Ytcnnmnjepofomaa.Vl
set_option linter.unusedVariables false
set_option linter.unusedSimpArgs false
set_option maxHeartbeats 4000000 in
theorem known_law15 (w : World) : Calls Try.prog 6 #[] w (We.Ans w (.bool true)) := by
  have ha := Lib.hid (awake_any w)
  have h1 := Lib.hid (fun w => new_lit 3 4 3 4 rfl rfl (by decide) (by decide) w)
  have n1 := Lib.hid (show (putM 3 4 (fun _ => -1) 0 2).1 = -1 ∧ (putM 3 4 (fun _ => -1) 0 2).2.1 = 0 ∧ ∀ i, i < 3 → (putM 3 4 (fun _ => -1) 0 2).2.2 i = fl [2, -1, -1] i by decide +kernel)
  have n2 := Lib.hid (show (putM 3 4 (fl [2, -1, -1]) 0 2).1 = -1 ∧ (putM 3 4 (fl [2, -1, -1]) 0 2).2.1 = 0 ∧ ∀ i, i < 3 → (putM 3 4 (fl [2, -1, -1]) 0 2).2.2 i = fl [2, -1, -1] i by decide +kernel)
  have n3 := Lib.hid (show (putM 3 4 (fl [2, -1, -1]) 1 2).1 = 0 ∧ (putM 3 4 (fl [2, -1, -1]) 1 2).2.1 = 1 ∧ ∀ i, i < 3 → (putM 3 4 (fl [2, -1, -1]) 1 2).2.2 i = fl [2, -1, -1] i by decide +kernel)
  have n4 := Lib.hid (show (putM 3 4 (fl [2, -1, -1]) 1 3).1 = -1 ∧ (putM 3 4 (fl [2, -1, -1]) 1 3).2.1 = 0 ∧ ∀ i, i < 3 → (putM 3 4 (fl [2, -1, -1]) 1 3).2.2 i = fl [2, 3, -1] i by decide +kernel)
  have n5 := Lib.hid (show (dropM 3 (fl [2, 3, -1]) 0).1 = 2 ∧ (dropM 3 (fl [2, 3, -1]) 0).2.1 = true ∧ ∀ i, i < 3 → (dropM 3 (fl [2, 3, -1]) 0).2.2 i = fl [-1, 3, -1] i by decide +kernel)
  have n6 := Lib.hid (show (putM 3 4 (fl [-1, 3, -1]) 1 2).1 = 3 ∧ (putM 3 4 (fl [-1, 3, -1]) 1 2).2.1 = 0 ∧ ∀ i, i < 3 → (putM 3 4 (fl [-1, 3, -1]) 1 2).2.2 i = fl [-1, 2, -1] i by decide +kernel)
  have n7 := Lib.hid (show (dropM 3 (fl [-1, 2, -1]) 0).1 = 0 ∧ (dropM 3 (fl [-1, 2, -1]) 0).2.1 = false ∧ ∀ i, i < 3 → (dropM 3 (fl [-1, 2, -1]) 0).2.2 i = fl [-1, 2, -1] i by decide +kernel)
  have n8 := Lib.hid (show owV (ow (fl [-1, 2, -1]) 3 3) = .tuple #[.int .i64 0, .bool false] by rw [show ow (fl [-1, 2, -1]) 3 3 = none by decide +kernel]; rfl)
  have n9 := Lib.hid (show ((pc (fun i => decide (0 ≤ fl [-1, 2, -1] i)) 3 : Nat) : Int) = 1 by decide +kernel)
  have n10 := Lib.hid (show ((pc (fun i => decide (0 ≤ fl [-1, 2, -1] i) && decide (0 ≤ fl [-1, 2, -1] i) && decide (fl [-1, 2, -1] i < 4)) 3 : Nat) : Int) = 1 by decide +kernel)
  have n11 := Lib.hid (show ((pc (fun i => decide (0 ≤ fl [-1, 2, -1] i) && decide (3 ≤ fl [-1, 2, -1] i) && decide (fl [-1, 2, -1] i < 4)) 3 : Nat) : Int) = 0 by decide +kernel)
  generalize fl [2, -1, -1] = f1 at *
  generalize fl [2, 3, -1] = f2 at *
  generalize fl [-1, 3, -1] = f3 at *
  generalize fl [-1, 2, -1] = f4 at *
  go_enter Try.func6, Try.ntmps6
  go_wp2_with (go_at_call 8; (with_reducible refine ha.out.mono ?_); rintro e w0 ⟨rfl, hB0⟩; replace hB0 := Lib.hid hB0)
  go_wp2_with (go_at_call 9; (with_reducible refine (h1.out _).mono ?_); rintro e w1 ⟨K, rfl, hB, m⟩; replace hB := Lib.hid hB; replace m := Lib.hid m)
  have hc := Lib.hid (put_lit hB.out (Nat.le_refl _) m.out 0 2 (-1) 0 f1 n1.out)
  go_wp2_with (go_at_call 11; (with_reducible refine hc.out.mono ?_); clear hc; rintro e w2 ⟨rfl, hB2, m2⟩; replace hB2 := Lib.hid hB2; replace m2 := Lib.hid m2)
  have hc := Lib.hid (put_lit hB2.out (Nat.le_refl _) m2.out 0 2 (-1) 0 f1 n2.out)
  go_wp2_with (go_at_call 11; (with_reducible refine hc.out.mono ?_); clear hc; rintro e w3 ⟨rfl, hB3, m3⟩; replace hB3 := Lib.hid hB3; replace m3 := Lib.hid m3)
  have hc := Lib.hid (put_lit hB3.out (Nat.le_refl _) m3.out 1 2 0 1 f1 n3.out)
  go_wp2_with (go_at_call 11; (with_reducible refine hc.out.mono ?_); clear hc; rintro e w4 ⟨rfl, hB4, m4⟩; replace hB4 := Lib.hid hB4; replace m4 := Lib.hid m4)
  have hc := Lib.hid (put_lit hB4.out (Nat.le_refl _) m4.out 1 3 (-1) 0 f2 n4.out)
  go_wp2_with (go_at_call 11; (with_reducible refine hc.out.mono ?_); clear hc; rintro e w5 ⟨rfl, hB5, m5⟩; replace hB5 := Lib.hid hB5; replace m5 := Lib.hid m5)
  have hc := Lib.hid (drop_lit hB5.out (Nat.le_refl _) m5.out 0 2 true f3 n5.out)
  go_wp2_with (go_at_call 16; (with_reducible refine hc.out.mono ?_); clear hc; rintro e w6 ⟨rfl, hB6, m6⟩; replace hB6 := Lib.hid hB6; replace m6 := Lib.hid m6)
  have hc := Lib.hid (put_lit hB6.out (Nat.le_refl _) m6.out 1 2 3 0 f4 n6.out)
  go_wp2_with (go_at_call 11; (with_reducible refine hc.out.mono ?_); clear hc; rintro e w7 ⟨rfl, hB7, m7⟩; replace hB7 := Lib.hid hB7; replace m7 := Lib.hid m7)
  have hc := Lib.hid (drop_lit hB7.out (Nat.le_refl _) m7.out 0 0 false f4 n7.out)
  go_wp2_with (go_at_call 16; (with_reducible refine hc.out.mono ?_); clear hc; rintro e w8 ⟨rfl, hB8, m8⟩; replace hB8 := Lib.hid hB8; replace m8 := Lib.hid m8)
  have hc := Lib.hid (owner_lit hB8.out m8.out 3 0 false n8.out)
  go_wp2_with (go_at_call 14; (with_reducible refine hc.out.mono ?_); clear hc; rintro e w9 ⟨rfl, hB9, m9⟩; replace hB9 := Lib.hid hB9; replace m9 := Lib.hid m9)
  have hc := Lib.hid (many_lit hB9.out m9.out 1 n9.out)
  go_wp2_with (go_at_call 19; (with_reducible refine hc.out.mono ?_); clear hc; rintro e w10 ⟨rfl, hB10, m10⟩; replace hB10 := Lib.hid hB10; replace m10 := Lib.hid m10)
  have hc := Lib.hid (count_lit m10.out 0 4 1 (by decide) n10.out)
  go_wp2_with (go_at_call 18; (with_reducible refine hc.out.mono ?_); clear hc; rintro e w11 ⟨rfl, rfl⟩)
  have hc := Lib.hid (count_lit m10.out 3 4 0 (by decide) n11.out)
  go_wp2_with (go_at_call 18; (with_reducible refine hc.out.mono ?_); clear hc; rintro e w12 ⟨rfl, rfl⟩)
  go_ret
  exact ⟨rfl, We.below_trans hB0.out hB10.out⟩
end Go.Proofs.Ytcnnmnjepofomaa.Lm
