/- A law of chapter 18, as its shell asks for it, for whatever has scan's contracts: mkT.sh's THM is '(Sc.blank_row Sc.the_scan)'. -/
import Derived.Test.YtjhoecfhmndcgaaGreatWSci
namespace Go.Proofs.YtjhoecfhmndcgaaGreat.Sc
open Go.RowKit
set_option linter.unusedVariables false
set_option linter.unusedSimpArgs false
theorem u8_nat {a : Int} (h : (Lit.int .u8 a).wf = true) : ∃ n : Nat, n < 256 ∧ a = (n : Int) := by
  have hr : 0 ≤ a ∧ a < 256 := by simp [Lit.wf, IntKind.min, IntKind.max, IntKind.signed, IntKind.bits] at h; omega
  exact ⟨a.toNat, by omega, (Int.toNat_of_nonneg hr.1).symm⟩
theorem blank_row (C : SC) (B P W K : Int) (hB : (Lit.int .i64 B).wf = true) (hP : (Lit.int .i64 P).wf = true) (hW : (Lit.int .i64 W).wf = true) (hK : (Lit.int .i64 K).wf = true) (a : Int) (ha : (Lit.int .u8 a).wf = true) (b : Int) (hb : (Lit.int .u8 b).wf = true) (w : World) :
    Calls Tryz.prog 4 #[.agg #[.int .i64 B, .int .i64 P, .int .i64 W, .int .i64 K], .int .u8 a, .int .u8 b] w (We.Ans w (.bool true)) := by
  obtain ⟨N, hN, rfl⟩ := u8_nat ha
  obtain ⟨M, hM, rfl⟩ := u8_nat hb
  exact blank_law C B P W K N M hN hM w
end Go.Proofs.YtjhoecfhmndcgaaGreat.Sc
