/- The reference's Turns walked. -/
import Derived.Test.YtnhkagkgmgpjeaaYdc
namespace Go.Proofs.Ytnhkagkgmgpjeaa.Yd
open Go.RowKit
set_option linter.unusedVariables false
set_option linter.unusedSimpArgs false
theorem turns_as (a b : Int) : turns a b = ((a == 1) && (b == 2) || (a == 2) && (b == 3) || (a == 3) && (b == 1) || (decide (1 ≤ a) && decide (a < 4)) && (b == 4)) := by
  unfold turns; rw [Bool.eq_iff_iff]; simp
set_option maxHeartbeats 4000000 in
theorem refturns_any (w : World) (a b : Int) : Calls Try.prog 11 #[.int .i64 a, .int .i64 b] w fun e w' => e = .returned (.bool (turns a b)) ∧ w = w' := by
  rw [turns_as]
  rcases (show a = 1 ∨ a = 2 ∨ a = 3 ∨ a < 1 ∨ 4 ≤ a by omega) with rfl | rfl | rfl | h | h
  · cases b2 : (b == 2) <;> cases b4 : (b == 4) <;>
    · go_enter Try.func11, Try.ntmps11
      go_wp2_with fail
      go_ret
      exact ⟨by simp, rfl⟩
  · cases b3 : (b == 3) <;> cases b4 : (b == 4) <;>
    · go_enter Try.func11, Try.ntmps11
      go_wp2_with fail
      go_ret
      exact ⟨by simp, rfl⟩
  · cases b1 : (b == 1) <;> cases b4 : (b == 4) <;>
    · go_enter Try.func11, Try.ntmps11
      go_wp2_with fail
      go_ret
      exact ⟨by simp, rfl⟩
  · have a1 : (a == 1) = false := by simp; omega
    have a2 : (a == 2) = false := by simp; omega
    have a3 : (a == 3) = false := by simp; omega
    have a4 : decide (1 ≤ a) = false := decide_eq_false (by omega)
    rw [a1, a2, a3, a4]
    go_enter Try.func11, Try.ntmps11
    go_wp2_with fail
    go_ret
    exact ⟨by simp, rfl⟩
  · have a1 : (a == 1) = false := by simp; omega
    have a2 : (a == 2) = false := by simp; omega
    have a3 : (a == 3) = false := by simp; omega
    have a4 : decide (1 ≤ a) = true := decide_eq_true (by omega)
    have a5 : decide (a < 4) = false := decide_eq_false (by omega)
    rw [a1, a2, a3, a4, a5]
    go_enter Try.func11, Try.ntmps11
    go_wp2_with fail
    go_ret
    exact ⟨by simp, rfl⟩
end Go.Proofs.Ytnhkagkgmgpjeaa.Yd
