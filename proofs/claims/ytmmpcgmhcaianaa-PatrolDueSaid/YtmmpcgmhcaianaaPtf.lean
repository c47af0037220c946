/- The laws of chapter 19, as their shells ask for them, for whatever is a patrol: mkT.sh's THM is '(Pt.goes_row Pt.the_patrol)'. -/
import Derived.Test.YtmmpcgmhcaianaaPte
namespace Go.Proofs.Ytmmpcgmhcaianaa.Pt
open Go.RowKit
set_option linter.unusedVariables false
set_option linter.unusedSimpArgs false
theorem u8_nat {a : Int} (h : (Lit.int .u8 a).wf = true) : ∃ n : Nat, n < 256 ∧ a = (n : Int) := by
  have hr : 0 ≤ a ∧ a < 256 := by simp [Lit.wf, IntKind.min, IntKind.max, IntKind.signed, IntKind.bits] at h; omega
  exact ⟨a.toNat, by omega, (Int.toNat_of_nonneg hr.1).symm⟩
theorem u16_nat {a : Int} (h : (Lit.int .u16 a).wf = true) : ∃ n : Nat, n < 65536 ∧ a = (n : Int) := by
  have hr : 0 ≤ a ∧ a < 65536 := by simp [Lit.wf, IntKind.min, IntKind.max, IntKind.signed, IntKind.bits] at h; omega
  exact ⟨a.toNat, by omega, (Int.toNat_of_nonneg hr.1).symm⟩
section
variable {Q : World → Nat → Nat → Nat → Int → Int → Int → Int → Nat → Prop}
theorem goes_row (C : PC Q) (B P W K : Int) (hB : (Lit.int .i64 B).wf = true) (hP : (Lit.int .i64 P).wf = true) (hW : (Lit.int .i64 W).wf = true) (hK : (Lit.int .i64 K).wf = true) (k : Int) (hk : (Lit.int .i64 k).wf = true) (A : Option Addr) (n : Nat) (x : Nat → Nat → Int) (c : Nat) (hl : n ≤ c) (hm : c ≤ maxLen) (w : World) (hs : We.RF w w.heap.size A 2 n .i64 x) :
    Calls Try.prog 3 #[.agg #[.int .i64 B, .int .i64 P, .int .i64 W, .int .i64 K], .int .i64 k, .slice A n c] w (We.Ans w (.bool true)) := goes_law C B P W K k hk A n x c w hs
theorem rounds_row (C : PC Q) (B P W K : Int) (hB : (Lit.int .i64 B).wf = true) (hP : (Lit.int .i64 P).wf = true) (hW : (Lit.int .i64 W).wf = true) (hK : (Lit.int .i64 K).wf = true) (a : Int) (ha : (Lit.int .u8 a).wf = true) (w : World) :
    Calls Try.prog 4 #[.agg #[.int .i64 B, .int .i64 P, .int .i64 W, .int .i64 K], .int .u8 a] w (We.Ans w (.bool true)) := by
  obtain ⟨N, hN, rfl⟩ := u8_nat ha
  exact rounds_law C B P W K N hN w
theorem due_row (C : PC Q) (A : Option Addr) (n : Nat) (x : Nat → Int) (c : Nat) (hl : n ≤ c) (hm : c ≤ maxLen) (hx : ∀ j, (Lit.int .u8 (x j)).wf = true) (a : Int) (ha : (Lit.int .u8 a).wf = true) (w : World) (hs : We.SF w w.heap.size A n (fun j => .int .u8 (x j))) :
    Calls Try.prog 5 #[.slice A n c, .int .u8 a] w (We.Ans w (.bool true)) := by
  obtain ⟨N, hN, rfl⟩ := u8_nat ha
  have e : x = fun j => (((x j).toNat : Nat) : Int) := by
    funext j
    obtain ⟨m, h1, h2⟩ := u8_nat (hx j)
    rw [h2]; rfl
  rw [e] at hs
  exact due_law C A n (fun j => (x j).toNat) (fun j => by obtain ⟨m, h1, h2⟩ := u8_nat (hx j); show (x j).toNat < 256; rw [h2]; exact h1) c N hN w hs
theorem visits_row (C : PC Q) (B P W K : Int) (hB : (Lit.int .i64 B).wf = true) (hP : (Lit.int .i64 P).wf = true) (hW : (Lit.int .i64 W).wf = true) (hK : (Lit.int .i64 K).wf = true) (a : Int) (ha : (Lit.int .u16 a).wf = true) (w : World) :
    Calls Try.prog 6 #[.agg #[.int .i64 B, .int .i64 P, .int .i64 W, .int .i64 K], .int .u16 a] w (We.Ans w (.bool true)) := by
  obtain ⟨N, hN, rfl⟩ := u16_nat ha
  exact visits_law C B P W K N hN w
end
end Go.Proofs.Ytmmpcgmhcaianaa.Pt
