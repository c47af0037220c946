/- LmapArgs walked. -/
import Derived.Test.YtcnnmnjepofomaaLmp
namespace Go.Proofs.Ytcnnmnjepofomaa.Lm
open Go.RowKit Go.Bw Go.Proofs.Ytcnnmnjepofomaa.Vl
set_option linter.unusedVariables false
set_option linter.unusedSimpArgs false
theorem may_no {a b : Int} (h : a < 0 ∨ 1048576 < a ∨ b < 0 ∨ 1048576 < b) : mayN a b = false := by
  unfold mayN
  rcases h with h | h | h | h
  · rw [show decide (0 ≤ a) = false from decide_eq_false (by omega)]; rfl
  · rw [show decide (a ≤ 1048576) = false from decide_eq_false (by omega)]; simp
  · rw [show decide (0 ≤ b) = false from decide_eq_false (by omega)]; simp
  · rw [show decide (b ≤ 1048576) = false from decide_eq_false (by omega)]; simp
theorem put_far {lp pg : Nat} {a b : Int} (h : (inB lp a && inB pg b) = false) : (putM lp pg (fun _ => -1) a b).1 = 0 ∧ (putM lp pg (fun _ => -1) a b).2.1 = 2 ∧ ∀ i, i < lp → (putM lp pg (fun _ => -1) a b).2.2 i = (fun _ => -1) i := by
  unfold putM; rw [h]; exact ⟨rfl, rfl, fun _ _ => rfl⟩
theorem inB_end (n : Nat) : inB n (n : Int) = false := by unfold inB; simp
set_option maxHeartbeats 2000000 in
theorem args_ok (w : World) (lp pg : Nat) (hl : lp ≤ 2000) (hp : pg ≤ 2000) : Calls Try.prog 4 #[.int .i64 (lp : Int), .int .i64 (pg : Int)] w (We.Ans w (.bool true)) := by
  have ha := Lib.hid (awake_any w)
  have h1 := Lib.hid (fun w => new_lit lp pg lp pg rfl rfl (by omega) (by omega) w)
  have n1 := Lib.hid (put_far (lp := lp) (pg := pg) (a := lp) (b := 0) (by rw [inB_end]; rfl))
  have n2 := Lib.hid (put_far (lp := lp) (pg := pg) (a := 0) (b := pg) (by rw [inB_end]; simp))
  have n3 := Lib.hid (show getM (fun _ => -1) lp (lp : Int) = (0, false) by unfold getM; rw [inB_end]; rfl)
  have n4 := Lib.hid (show ((pc (fun i => decide (0 ≤ (fun _ : Nat => (-1 : Int)) i)) lp : Nat) : Int) = 0 by rw [pc_zero fun j hj => by simp]; rfl)
  have a1 : decide (2000 < (lp : Int)) = false := decide_eq_false (by omega)
  have b1 : decide (2000 < (pg : Int)) = false := decide_eq_false (by omega)
  have a3 : decide ((lp : Int) < 0) = false := decide_eq_false (by omega)
  have b3 : decide ((pg : Int) < 0) = false := decide_eq_false (by omega)
  have a4 : decide (1048576 < (lp : Int)) = false := decide_eq_false (by omega)
  have b4 : decide (1048576 < (pg : Int)) = false := decide_eq_false (by omega)
  clear hl hp
  go_enter Try.func4, Try.ntmps4
  go_wp2_with (go_at_call 8; (with_reducible refine ha.out.mono ?_); rintro e w0 ⟨rfl, hB0⟩; replace hB0 := Lib.hid hB0)
  go_wp2_with (go_at_call 9; (with_reducible refine (h1.out _).mono ?_); rintro e w1 ⟨K, rfl, hB, m⟩; replace hB := Lib.hid hB; replace m := Lib.hid m)
  have hc := Lib.hid (put_lit hB.out (Nat.le_refl _) m.out (lp : Int) 0 0 2 _ n1.out)
  go_wp2_with (go_at_call 11; (with_reducible refine hc.out.mono ?_); clear hc; rintro e w2 ⟨rfl, hB2, m2⟩; replace hB2 := Lib.hid hB2; replace m2 := Lib.hid m2)
  have hc := Lib.hid (put_lit hB2.out (Nat.le_refl _) m2.out 0 (pg : Int) 0 2 _ n2.out)
  go_wp2_with (go_at_call 11; (with_reducible refine hc.out.mono ?_); clear hc; rintro e w3 ⟨rfl, hB3, m3⟩; replace hB3 := Lib.hid hB3; replace m3 := Lib.hid m3)
  have hc := Lib.hid (get_lit hB3.out m3.out (lp : Int) 0 false n3.out)
  go_wp2_with (go_at_call 13; (with_reducible refine hc.out.mono ?_); clear hc; rintro e w4 ⟨rfl, hB4, m4⟩; replace hB4 := Lib.hid hB4; replace m4 := Lib.hid m4)
  have hc := Lib.hid (many_lit hB4.out m4.out 0 n4.out)
  go_wp2_with (go_at_call 19; (with_reducible refine hc.out.mono ?_); clear hc; rintro e w5 ⟨rfl, hB5, m5⟩; replace hB5 := Lib.hid hB5; replace m5 := Lib.hid m5)
  go_ret
  exact ⟨rfl, We.below_trans hB0.out hB5.out⟩
set_option maxHeartbeats 8000000 in
theorem args_law15 (w : World) (a b : Int) : Calls Try.prog 4 #[.int .i64 a, .int .i64 b] w (We.Ans w (.bool true)) := by
  have ha := Lib.hid (awake_any w)
  rcases (show a < 0 ∨ (0 ≤ a ∧ a ≤ 2000) ∨ (2000 < a ∧ a ≤ 1048576) ∨ 1048576 < a by omega) with A | A | A | A <;> rcases (show b < 0 ∨ (0 ≤ b ∧ b ≤ 2000) ∨ (2000 < b ∧ b ≤ 1048576) ∨ 1048576 < b by omega) with B | B | B | B
  · have a1 : decide (2000 < a) = false := decide_eq_false (by omega)
    have a2 : decide (a ≤ 1048576) = true := decide_eq_true (by omega)
    have a3 : decide (a < 0) = true := decide_eq_true (by omega)
    have a4 : decide (1048576 < a) = false := decide_eq_false (by omega)
    have b1 : decide (2000 < b) = false := decide_eq_false (by omega)
    have b2 : decide (b ≤ 1048576) = true := decide_eq_true (by omega)
    have b3 : decide (b < 0) = true := decide_eq_true (by omega)
    have b4 : decide (1048576 < b) = false := decide_eq_false (by omega)
    have hn := Lib.hid (fun w => new_no w a b (may_no (by omega)))
    replace A := Lib.hid A
    replace B := Lib.hid B
    go_enter Try.func4, Try.ntmps4
    go_wp2_with (go_at_call 8; (with_reducible refine ha.out.mono ?_); rintro e w0 ⟨rfl, hB0⟩; replace hB0 := Lib.hid hB0)
    go_wp2_with (go_at_call 9; (with_reducible refine (hn.out _).mono ?_); rintro e w1 ⟨rfl, rfl⟩)
    go_ret
    exact ⟨rfl, hB0.out⟩
  · have a1 : decide (2000 < a) = false := decide_eq_false (by omega)
    have a2 : decide (a ≤ 1048576) = true := decide_eq_true (by omega)
    have a3 : decide (a < 0) = true := decide_eq_true (by omega)
    have a4 : decide (1048576 < a) = false := decide_eq_false (by omega)
    have b1 : decide (2000 < b) = false := decide_eq_false (by omega)
    have b2 : decide (b ≤ 1048576) = true := decide_eq_true (by omega)
    have b3 : decide (b < 0) = false := decide_eq_false (by omega)
    have b4 : decide (1048576 < b) = false := decide_eq_false (by omega)
    have hn := Lib.hid (fun w => new_no w a b (may_no (by omega)))
    replace A := Lib.hid A
    replace B := Lib.hid B
    go_enter Try.func4, Try.ntmps4
    go_wp2_with (go_at_call 8; (with_reducible refine ha.out.mono ?_); rintro e w0 ⟨rfl, hB0⟩; replace hB0 := Lib.hid hB0)
    go_wp2_with (go_at_call 9; (with_reducible refine (hn.out _).mono ?_); rintro e w1 ⟨rfl, rfl⟩)
    go_ret
    exact ⟨rfl, hB0.out⟩
  · have a1 : decide (2000 < a) = false := decide_eq_false (by omega)
    have a2 : decide (a ≤ 1048576) = true := decide_eq_true (by omega)
    have a3 : decide (a < 0) = true := decide_eq_true (by omega)
    have a4 : decide (1048576 < a) = false := decide_eq_false (by omega)
    have b1 : decide (2000 < b) = true := decide_eq_true (by omega)
    have b2 : decide (b ≤ 1048576) = true := decide_eq_true (by omega)
    have b3 : decide (b < 0) = false := decide_eq_false (by omega)
    have b4 : decide (1048576 < b) = false := decide_eq_false (by omega)
    replace A := Lib.hid A
    replace B := Lib.hid B
    go_enter Try.func4, Try.ntmps4
    go_wp2_with (go_at_call 8; (with_reducible refine ha.out.mono ?_); rintro e w0 ⟨rfl, hB0⟩; replace hB0 := Lib.hid hB0)
    go_ret
    exact ⟨rfl, hB0.out⟩
  · have a1 : decide (2000 < a) = false := decide_eq_false (by omega)
    have a2 : decide (a ≤ 1048576) = true := decide_eq_true (by omega)
    have a3 : decide (a < 0) = true := decide_eq_true (by omega)
    have a4 : decide (1048576 < a) = false := decide_eq_false (by omega)
    have b1 : decide (2000 < b) = true := decide_eq_true (by omega)
    have b2 : decide (b ≤ 1048576) = false := decide_eq_false (by omega)
    have b3 : decide (b < 0) = false := decide_eq_false (by omega)
    have b4 : decide (1048576 < b) = true := decide_eq_true (by omega)
    have hn := Lib.hid (fun w => new_no w a b (may_no (by omega)))
    replace A := Lib.hid A
    replace B := Lib.hid B
    go_enter Try.func4, Try.ntmps4
    go_wp2_with (go_at_call 8; (with_reducible refine ha.out.mono ?_); rintro e w0 ⟨rfl, hB0⟩; replace hB0 := Lib.hid hB0)
    go_wp2_with (go_at_call 9; (with_reducible refine (hn.out _).mono ?_); rintro e w1 ⟨rfl, rfl⟩)
    go_ret
    exact ⟨rfl, hB0.out⟩
  · have a1 : decide (2000 < a) = false := decide_eq_false (by omega)
    have a2 : decide (a ≤ 1048576) = true := decide_eq_true (by omega)
    have a3 : decide (a < 0) = false := decide_eq_false (by omega)
    have a4 : decide (1048576 < a) = false := decide_eq_false (by omega)
    have b1 : decide (2000 < b) = false := decide_eq_false (by omega)
    have b2 : decide (b ≤ 1048576) = true := decide_eq_true (by omega)
    have b3 : decide (b < 0) = true := decide_eq_true (by omega)
    have b4 : decide (1048576 < b) = false := decide_eq_false (by omega)
    have hn := Lib.hid (fun w => new_no w a b (may_no (by omega)))
    replace A := Lib.hid A
    replace B := Lib.hid B
    go_enter Try.func4, Try.ntmps4
    go_wp2_with (go_at_call 8; (with_reducible refine ha.out.mono ?_); rintro e w0 ⟨rfl, hB0⟩; replace hB0 := Lib.hid hB0)
    go_wp2_with (go_at_call 9; (with_reducible refine (hn.out _).mono ?_); rintro e w1 ⟨rfl, rfl⟩)
    go_ret
    exact ⟨rfl, hB0.out⟩
  · obtain ⟨lp, rfl⟩ : ∃ lp : Nat, a = (lp : Int) := ⟨a.toNat, by omega⟩
    obtain ⟨pg, rfl⟩ : ∃ pg : Nat, b = (pg : Int) := ⟨b.toNat, by omega⟩
    exact args_ok w lp pg (by omega) (by omega)
  · have a1 : decide (2000 < a) = false := decide_eq_false (by omega)
    have a2 : decide (a ≤ 1048576) = true := decide_eq_true (by omega)
    have a3 : decide (a < 0) = false := decide_eq_false (by omega)
    have a4 : decide (1048576 < a) = false := decide_eq_false (by omega)
    have b1 : decide (2000 < b) = true := decide_eq_true (by omega)
    have b2 : decide (b ≤ 1048576) = true := decide_eq_true (by omega)
    have b3 : decide (b < 0) = false := decide_eq_false (by omega)
    have b4 : decide (1048576 < b) = false := decide_eq_false (by omega)
    replace A := Lib.hid A
    replace B := Lib.hid B
    go_enter Try.func4, Try.ntmps4
    go_wp2_with (go_at_call 8; (with_reducible refine ha.out.mono ?_); rintro e w0 ⟨rfl, hB0⟩; replace hB0 := Lib.hid hB0)
    go_ret
    exact ⟨rfl, hB0.out⟩
  · have a1 : decide (2000 < a) = false := decide_eq_false (by omega)
    have a2 : decide (a ≤ 1048576) = true := decide_eq_true (by omega)
    have a3 : decide (a < 0) = false := decide_eq_false (by omega)
    have a4 : decide (1048576 < a) = false := decide_eq_false (by omega)
    have b1 : decide (2000 < b) = true := decide_eq_true (by omega)
    have b2 : decide (b ≤ 1048576) = false := decide_eq_false (by omega)
    have b3 : decide (b < 0) = false := decide_eq_false (by omega)
    have b4 : decide (1048576 < b) = true := decide_eq_true (by omega)
    have hn := Lib.hid (fun w => new_no w a b (may_no (by omega)))
    replace A := Lib.hid A
    replace B := Lib.hid B
    go_enter Try.func4, Try.ntmps4
    go_wp2_with (go_at_call 8; (with_reducible refine ha.out.mono ?_); rintro e w0 ⟨rfl, hB0⟩; replace hB0 := Lib.hid hB0)
    go_wp2_with (go_at_call 9; (with_reducible refine (hn.out _).mono ?_); rintro e w1 ⟨rfl, rfl⟩)
    go_ret
    exact ⟨rfl, hB0.out⟩
  · have a1 : decide (2000 < a) = true := decide_eq_true (by omega)
    have a2 : decide (a ≤ 1048576) = true := decide_eq_true (by omega)
    have a3 : decide (a < 0) = false := decide_eq_false (by omega)
    have a4 : decide (1048576 < a) = false := decide_eq_false (by omega)
    have b1 : decide (2000 < b) = false := decide_eq_false (by omega)
    have b2 : decide (b ≤ 1048576) = true := decide_eq_true (by omega)
    have b3 : decide (b < 0) = true := decide_eq_true (by omega)
    have b4 : decide (1048576 < b) = false := decide_eq_false (by omega)
    replace A := Lib.hid A
    replace B := Lib.hid B
    go_enter Try.func4, Try.ntmps4
    go_wp2_with (go_at_call 8; (with_reducible refine ha.out.mono ?_); rintro e w0 ⟨rfl, hB0⟩; replace hB0 := Lib.hid hB0)
    go_ret
    exact ⟨rfl, hB0.out⟩
  · have a1 : decide (2000 < a) = true := decide_eq_true (by omega)
    have a2 : decide (a ≤ 1048576) = true := decide_eq_true (by omega)
    have a3 : decide (a < 0) = false := decide_eq_false (by omega)
    have a4 : decide (1048576 < a) = false := decide_eq_false (by omega)
    have b1 : decide (2000 < b) = false := decide_eq_false (by omega)
    have b2 : decide (b ≤ 1048576) = true := decide_eq_true (by omega)
    have b3 : decide (b < 0) = false := decide_eq_false (by omega)
    have b4 : decide (1048576 < b) = false := decide_eq_false (by omega)
    replace A := Lib.hid A
    replace B := Lib.hid B
    go_enter Try.func4, Try.ntmps4
    go_wp2_with (go_at_call 8; (with_reducible refine ha.out.mono ?_); rintro e w0 ⟨rfl, hB0⟩; replace hB0 := Lib.hid hB0)
    go_ret
    exact ⟨rfl, hB0.out⟩
  · have a1 : decide (2000 < a) = true := decide_eq_true (by omega)
    have a2 : decide (a ≤ 1048576) = true := decide_eq_true (by omega)
    have a3 : decide (a < 0) = false := decide_eq_false (by omega)
    have a4 : decide (1048576 < a) = false := decide_eq_false (by omega)
    have b1 : decide (2000 < b) = true := decide_eq_true (by omega)
    have b2 : decide (b ≤ 1048576) = true := decide_eq_true (by omega)
    have b3 : decide (b < 0) = false := decide_eq_false (by omega)
    have b4 : decide (1048576 < b) = false := decide_eq_false (by omega)
    replace A := Lib.hid A
    replace B := Lib.hid B
    go_enter Try.func4, Try.ntmps4
    go_wp2_with (go_at_call 8; (with_reducible refine ha.out.mono ?_); rintro e w0 ⟨rfl, hB0⟩; replace hB0 := Lib.hid hB0)
    go_ret
    exact ⟨rfl, hB0.out⟩
  · have a1 : decide (2000 < a) = true := decide_eq_true (by omega)
    have a2 : decide (a ≤ 1048576) = true := decide_eq_true (by omega)
    have a3 : decide (a < 0) = false := decide_eq_false (by omega)
    have a4 : decide (1048576 < a) = false := decide_eq_false (by omega)
    have b1 : decide (2000 < b) = true := decide_eq_true (by omega)
    have b2 : decide (b ≤ 1048576) = false := decide_eq_false (by omega)
    have b3 : decide (b < 0) = false := decide_eq_false (by omega)
    have b4 : decide (1048576 < b) = true := decide_eq_true (by omega)
    replace A := Lib.hid A
    replace B := Lib.hid B
    go_enter Try.func4, Try.ntmps4
    go_wp2_with (go_at_call 8; (with_reducible refine ha.out.mono ?_); rintro e w0 ⟨rfl, hB0⟩; replace hB0 := Lib.hid hB0)
    go_ret
    exact ⟨rfl, hB0.out⟩
  · have a1 : decide (2000 < a) = true := decide_eq_true (by omega)
    have a2 : decide (a ≤ 1048576) = false := decide_eq_false (by omega)
    have a3 : decide (a < 0) = false := decide_eq_false (by omega)
    have a4 : decide (1048576 < a) = true := decide_eq_true (by omega)
    have b1 : decide (2000 < b) = false := decide_eq_false (by omega)
    have b2 : decide (b ≤ 1048576) = true := decide_eq_true (by omega)
    have b3 : decide (b < 0) = true := decide_eq_true (by omega)
    have b4 : decide (1048576 < b) = false := decide_eq_false (by omega)
    have hn := Lib.hid (fun w => new_no w a b (may_no (by omega)))
    replace A := Lib.hid A
    replace B := Lib.hid B
    go_enter Try.func4, Try.ntmps4
    go_wp2_with (go_at_call 8; (with_reducible refine ha.out.mono ?_); rintro e w0 ⟨rfl, hB0⟩; replace hB0 := Lib.hid hB0)
    go_wp2_with (go_at_call 9; (with_reducible refine (hn.out _).mono ?_); rintro e w1 ⟨rfl, rfl⟩)
    go_ret
    exact ⟨rfl, hB0.out⟩
  · have a1 : decide (2000 < a) = true := decide_eq_true (by omega)
    have a2 : decide (a ≤ 1048576) = false := decide_eq_false (by omega)
    have a3 : decide (a < 0) = false := decide_eq_false (by omega)
    have a4 : decide (1048576 < a) = true := decide_eq_true (by omega)
    have b1 : decide (2000 < b) = false := decide_eq_false (by omega)
    have b2 : decide (b ≤ 1048576) = true := decide_eq_true (by omega)
    have b3 : decide (b < 0) = false := decide_eq_false (by omega)
    have b4 : decide (1048576 < b) = false := decide_eq_false (by omega)
    have hn := Lib.hid (fun w => new_no w a b (may_no (by omega)))
    replace A := Lib.hid A
    replace B := Lib.hid B
    go_enter Try.func4, Try.ntmps4
    go_wp2_with (go_at_call 8; (with_reducible refine ha.out.mono ?_); rintro e w0 ⟨rfl, hB0⟩; replace hB0 := Lib.hid hB0)
    go_wp2_with (go_at_call 9; (with_reducible refine (hn.out _).mono ?_); rintro e w1 ⟨rfl, rfl⟩)
    go_ret
    exact ⟨rfl, hB0.out⟩
  · have a1 : decide (2000 < a) = true := decide_eq_true (by omega)
    have a2 : decide (a ≤ 1048576) = false := decide_eq_false (by omega)
    have a3 : decide (a < 0) = false := decide_eq_false (by omega)
    have a4 : decide (1048576 < a) = true := decide_eq_true (by omega)
    have b1 : decide (2000 < b) = true := decide_eq_true (by omega)
    have b2 : decide (b ≤ 1048576) = true := decide_eq_true (by omega)
    have b3 : decide (b < 0) = false := decide_eq_false (by omega)
    have b4 : decide (1048576 < b) = false := decide_eq_false (by omega)
    replace A := Lib.hid A
    replace B := Lib.hid B
    go_enter Try.func4, Try.ntmps4
    go_wp2_with (go_at_call 8; (with_reducible refine ha.out.mono ?_); rintro e w0 ⟨rfl, hB0⟩; replace hB0 := Lib.hid hB0)
    go_ret
    exact ⟨rfl, hB0.out⟩
  · have a1 : decide (2000 < a) = true := decide_eq_true (by omega)
    have a2 : decide (a ≤ 1048576) = false := decide_eq_false (by omega)
    have a3 : decide (a < 0) = false := decide_eq_false (by omega)
    have a4 : decide (1048576 < a) = true := decide_eq_true (by omega)
    have b1 : decide (2000 < b) = true := decide_eq_true (by omega)
    have b2 : decide (b ≤ 1048576) = false := decide_eq_false (by omega)
    have b3 : decide (b < 0) = false := decide_eq_false (by omega)
    have b4 : decide (1048576 < b) = true := decide_eq_true (by omega)
    have hn := Lib.hid (fun w => new_no w a b (may_no (by omega)))
    replace A := Lib.hid A
    replace B := Lib.hid B
    go_enter Try.func4, Try.ntmps4
    go_wp2_with (go_at_call 8; (with_reducible refine ha.out.mono ?_); rintro e w0 ⟨rfl, hB0⟩; replace hB0 := Lib.hid hB0)
    go_wp2_with (go_at_call 9; (with_reducible refine (hn.out _).mono ?_); rintro e w1 ⟨rfl, rfl⟩)
    go_ret
    exact ⟨rfl, hB0.out⟩
end Go.Proofs.Ytcnnmnjepofomaa.Lm
