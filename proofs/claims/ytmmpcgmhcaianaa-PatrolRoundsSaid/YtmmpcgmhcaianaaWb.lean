/- Regions that draw their order: nothing has changed ahead of them. -/
import Derived.Test.YtmmpcgmhcaianaaWy
namespace Go.Cl
open Go.RowKit
section
variable {P : Program} {ops : Array Oper} {Q : Exit → Act → World → Prop} {K : Nat → Prop}
/-- a region that draws, by the walk of one order; ahead of it nothing has changed -/
theorem region_way0 {id : Nat} {a : Act} {w : World} {l : List Oper} (K : Nat → Prop) (n : Nat) (π : List (Nat × Step)) (hm : P.follows .mixedOrders = true)
    (hB : wayB .any l.toArray n π = true) (h : ∀ w₁, Keeps (fun _ => True) w w₁ → wpWay P l.toArray (Calm Q) K π a w₁) : (Code.region id l.toArray true).wp P Q a w := by
  refine Code.wp_mono Calm.imp ?_
  simp only [wayB, Bool.and_eq_true, beq_iff_eq] at hB
  obtain ⟨⟨⟨h1, h2⟩, h3⟩, h4⟩ := hB
  refine wp_region_any hm (wpAny_of_R (K := K) (n := n) _ _ _ _ ?_)
  have := wpAnyR_way (K := K) h3 h1 (fun _ _ _ _ _ h => h) π _ a _ ⟨by simp, fun j oj hj hl => (by rw [getD_replicate_false] at hl; cases hl), fun t _ ht => by simp only [Array.getD, Array.size_replicate]; rw [dif_pos ht]; simp⟩ h4 (h _ (Keeps.drew (fun _ => True) w))
  rw [h2] at this
  exact this
theorem Since.cell {w1 : World} (y : Since K w1) {p : Addr} (hp : p.block < w1.heap.size) (hK : K p.block) : y.w.cell? p = w1.cell? p := World.cell?_of_block (y.keeps.block p.block hp hK)
end
end Go.Cl
