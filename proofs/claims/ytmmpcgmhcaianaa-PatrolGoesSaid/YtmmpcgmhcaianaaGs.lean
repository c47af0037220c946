/- A struct of four whole numbers by value among the arguments: how it is read as data. -/
import Derived.ProofKit
import Derived.OpenShut
import Derived.Lib.SmallJoins
namespace Go.ChangeShapes
open Go.WideShapes Go.Joins Go.Deep
variable {H : Type} {enc : TypeId × Value → H} {P : Program} {w : World} {base : Nat} {spare : Nat → Bool} {held : Bool}

theorem open_four {r : Reach} {b0 : Nat} {t : TypeId} {f0 f1 f2 f3 : Field} {k : IntKind} {v : Value} {d : DataW H} {p : List MemPlace} (ht : P.underlying t = some (.struct #[f0, f1, f2, f3])) (hone : oneCellFields P #[f0, f1, f2, f3] = true) (hC : P.cellsOf t = 4)
    (e0 : P.underlying f0.type = some (.int k)) (e1 : P.underlying f1.type = some (.int k)) (e2 : P.underlying f2.type = some (.int k)) (e3 : P.underlying f3.type = some (.int k))
    (hv : Value.okWide P w r b0 t v) (h : DataW.Trod enc P w base spare held t v d p) :
    ∃ a b c e : Int, v = .agg #[.int k a, .int k b, .int k c, .int k e] ∧ d = .agg [.lit (.int k a), .lit (.int k b), .lit (.int k c), .lit (.int k e)] ∧ p = [] ∧ (Lit.int k a).wf = true ∧ (Lit.int k b).wf = true ∧ (Lit.int k c).wf = true ∧ (Lit.int k e).wf = true := by
  obtain ⟨v0, v1, v2, v3, y0, y1, y2, y3, n, rfl, rfl, rfl, h0, h1, h2, h3⟩ := open_agg4 ht hone hC hv h
  obtain ⟨x0, q0, rfl, w0⟩ := DataW.trod_int e0 h0
  obtain ⟨x1, q1, rfl, w1⟩ := DataW.trod_int e1 h1
  obtain ⟨x2, q2, rfl, w2⟩ := DataW.trod_int e2 h2
  obtain ⟨x3, q3, rfl, w3⟩ := DataW.trod_int e3 h3
  simp at q0 q1 q2 q3
  subst q0 q1 q2 q3
  exact ⟨x0, x1, x2, x3, rfl, rfl, rfl, w0, w1, w2, w3⟩
theorem shut_four {t : TypeId} {f0 f1 f2 f3 : Field} {k : IntKind} {a b c e : Int} (ht : P.underlying t = some (.struct #[f0, f1, f2, f3])) (hone : oneCellFields P #[f0, f1, f2, f3] = true) (hC : P.cellsOf t = 4)
    (e0 : P.underlying f0.type = some (.int k)) (e1 : P.underlying f1.type = some (.int k)) (e2 : P.underlying f2.type = some (.int k)) (e3 : P.underlying f3.type = some (.int k))
    (wa : (Lit.int k a).wf = true) (wb : (Lit.int k b).wf = true) (wc : (Lit.int k c).wf = true) (we : (Lit.int k e).wf = true) :
    DataW.Trod enc P w base spare held t (.agg #[.int k a, .int k b, .int k c, .int k e]) (.agg [.lit (.int k a), .lit (.int k b), .lit (.int k c), .lit (.int k e)]) [] :=
  shut_agg4 (y0 := (.lit (.int k a), [])) (y1 := (.lit (.int k b), [])) (y2 := (.lit (.int k c), [])) (y3 := (.lit (.int k e), [])) ht hone hC
    ⟨1, by simp [DataW.trod, e0, wa]⟩ ⟨1, by simp [DataW.trod, e1, wb]⟩ ⟨1, by simp [DataW.trod, e2, wc]⟩ ⟨1, by simp [DataW.trod, e3, we]⟩
end Go.ChangeShapes
