/- The program's closures, first, Pick, Victim, Gap walked. -/
import Derived.Test.YtmmpcgmhcaianaaWra
namespace Go.Proofs.Ytmmpcgmhcaianaa.We
open Go.RowKit
set_option linter.unusedVariables false
set_option linter.unusedSimpArgs false



/-- what a call of that function value answers, of two below the number -/
def AheadIs (k : Nat) (cap : Array Value) (N : Nat) (ah : Nat → Nat → Bool) (w0 : World) : Prop :=
  ∀ w, Below w0.heap.size w0 w → ∀ a b : Nat, a < N → b < N → Calls Try.prog k (#[.int .i64 (a : Int), .int .i64 (b : Int)] ++ cap) w (Ans w (.bool (ah a b)))


end Go.Proofs.Ytmmpcgmhcaianaa.We
