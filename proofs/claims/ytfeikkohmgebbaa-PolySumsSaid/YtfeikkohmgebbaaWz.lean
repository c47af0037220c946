/- The region with calls that make memory, its order looked over once in a text of its own (no program is named here). -/
import Derived.Test.YtfeikkohmgebbaaWy
import Derived.Test.YtfeikkohmgebbaaCl
namespace Go.Cl
open Go.RowKit
theorem region_way_at {P : Program} {Q : Exit → Act → World → Prop} {id : Nat} {a : Act} {w : World} {l : List Oper} (K : Nat → Prop) (n : Nat) (π : List (Nat × Step)) {c : Code} (hm : P.follows .mixedOrders = true)
    (hB : (opsAt id c).map (fun ops => wayB .any ops n π) = some true) (ho : opsAt id c = some l.toArray) (h : ∀ w₁, Keeps K w w₁ → wpWay P l.toArray (Calm Q) K π a w₁) : (Code.region id l.toArray true).wp P Q a w :=
  region_way K n π hm (by rw [ho] at hB; simpa using hB) h
end Go.Cl
