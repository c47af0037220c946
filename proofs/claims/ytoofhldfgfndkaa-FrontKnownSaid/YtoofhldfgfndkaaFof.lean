/- The laws of chapter 17, as their shells ask for them, for whatever is a frontier: mkT.sh's THM is '(Fo.known_row Fo.the_front)'. -/
import Derived.Test.YtoofhldfgfndkaaFoe
import Derived.Test.YtoofhldfgfndkaaFob
namespace Go.Proofs.Ytoofhldfgfndkaa.Fo
open Go.RowKit
set_option linter.unusedVariables false
set_option linter.unusedSimpArgs false
theorem u8_nat {a : Int} (h : (Lit.int .u8 a).wf = true) : ∃ n : Nat, n < 256 ∧ a = (n : Int) := by
  have hr : 0 ≤ a ∧ a < 256 := by simp [Lit.wf, IntKind.min, IntKind.max, IntKind.signed, IntKind.bits] at h; omega
  exact ⟨a.toNat, by omega, (Int.toNat_of_nonneg hr.1).symm⟩
section
variable {F : World → Nat → Nat → Nat → Int → Int → Int → Int → Option (Nat × Nat) → Prop}
theorem known_row (C : FC F) (w : World) : Calls Try.prog 5 #[] w (We.Ans w (.bool true)) := known_law C w
theorem takes_row (C : FC F) (B P W K : Int) (hB : (Lit.int .i64 B).wf = true) (hP : (Lit.int .i64 P).wf = true) (hW : (Lit.int .i64 W).wf = true) (hK : (Lit.int .i64 K).wf = true) (a : Int) (ha : (Lit.int .u8 a).wf = true) (b : Int) (hb : (Lit.int .u8 b).wf = true) (w : World) :
    Calls Try.prog 4 #[.agg #[.int .i64 B, .int .i64 P, .int .i64 W, .int .i64 K], .int .u8 a, .int .u8 b] w (We.Ans w (.bool true)) := by
  obtain ⟨N, hN, rfl⟩ := u8_nat ha
  obtain ⟨M, hM, rfl⟩ := u8_nat hb
  exact takes_law C B P W K N M hN hM w
theorem shuts_row (C : FC F) (B P W K : Int) (hB : (Lit.int .i64 B).wf = true) (hP : (Lit.int .i64 P).wf = true) (hW : (Lit.int .i64 W).wf = true) (hK : (Lit.int .i64 K).wf = true) (a : Int) (ha : (Lit.int .u8 a).wf = true) (A : Option Addr) (n : Nat) (x : Nat → Bool) (c : Nat) (hl : n ≤ c) (hm : c ≤ maxLen) (w : World) (hs : We.SF w w.heap.size A n (We.bF x)) :
    Calls Try.prog 6 #[.agg #[.int .i64 B, .int .i64 P, .int .i64 W, .int .i64 K], .int .u8 a, .slice A n c] w (We.Ans w (.bool true)) := by
  obtain ⟨N, hN, rfl⟩ := u8_nat ha
  exact shuts_law C B P W K N hN A n c x w hs
theorem plays_row (C : FC F) (B P W K : Int) (hB : (Lit.int .i64 B).wf = true) (hP : (Lit.int .i64 P).wf = true) (hW : (Lit.int .i64 W).wf = true) (hK : (Lit.int .i64 K).wf = true) (A : Option Addr) (n : Nat) (q : Nat → Int × Int × Int) (c : Nat) (hl : n ≤ c) (hm : c ≤ maxLen) (w : World) (hs : Lm.DT w w.heap.size A n q) :
    Calls Try.prog 3 #[.agg #[.int .i64 B, .int .i64 P, .int .i64 W, .int .i64 K], .slice A n c] w (We.Ans w (.bool true)) := plays_law C B P W K A n c q w hs
end
end Go.Proofs.Ytoofhldfgfndkaa.Fo
