/- Pick, Victim, Gap walked. -/
import Derived.Test.YtmmpcgmhcaianaaWrb
namespace Go.Proofs.Ytmmpcgmhcaianaa.We
open Go.RowKit
set_option linter.unusedVariables false
set_option linter.unusedSimpArgs false

/-- the lesser of two lengths -/
def mn (n m : Nat) : Nat := if m < n then m else n
theorem mn_le (n m : Nat) : mn n m ≤ n ∧ mn n m ≤ m := by unfold mn; split <;> omega
theorem SF.boxed {w : World} {A : Option Addr} {n : Nat} {f : Nat → Value} (h : SF w w.heap.size A n f) (o : Obj) : SF (w.alloc o) (w.alloc o).heap.size A n f := h.far (below_alloc w o)


end Go.Proofs.Ytmmpcgmhcaianaa.We
