/- A region that draws, in which two operations that make memory stand side by side: both orders are walked. -/
import Derived.Test.YtciafkobnlfpbaaWy
namespace Go.Cl
open Go.RowKit
section
variable {P : Program} {ops : Array Oper} {Q : Exit → Act → World → Prop} {md : Region.Mode} {K : Nat → Prop}

theorem quiet_yields {o : Oper} {a : Act} {w : World} {N : Act → Prop} (hp : plainOp o.op = true) (h : wpQuiet P ops (fun w' => ∃ x : Since K w, w' = x.w) N [o] a) :
    ∃ v, YieldsIf P ops (Keeps K w) o v a ∧ N (a.put o.dst v) := by
  simp only [wpQuiet] at h
  by_cases hw : Region.wanted o (yielded ops a.tmps) = true
  · rw [if_pos hw] at h
    obtain ⟨v, h1, h2⟩ := h
    refine ⟨v, Or.inl ⟨hw, fun w' hk => ?_⟩, h2⟩
    have h3 := h1 w' ⟨⟨w', hk⟩, rfl⟩
    unfold Oper.quietAt at h3
    cases hrun : (execOp a.eval o).run P w' with
    | ok n w'' =>
      obtain ⟨u, rfl⟩ := plainOp_value hp hrun
      rw [hrun] at h3
      obtain ⟨rfl, rfl⟩ := h3
      rfl
    | halt x w'' => rw [hrun] at h3; exact h3.elim
  · rw [if_neg hw] at h
    exact ⟨undef, Or.inr ⟨by simpa using hw, rfl⟩, h⟩
/-- first the read i0, then i and j in either order, then what waits for both -/
def rfB (md : Region.Mode) (ops : Array Oper) (n i0 i j : Nat) (π1 π2 : List (Nat × Step)) : Bool :=
  Region.noSelect ops && (π1.length + 2 == ops.size) && (π2.length + 2 == ops.size) && lastB md ops n && decide (i0 < n) && decide (i < n) && decide (j < n) &&
    (Region.ready md ops (Array.replicate ops.size false)).contains i0 && Region.free md ops (Array.replicate ops.size false) i0 && (match ops[i0]? with | some o => plainOp o.op | none => false) &&
    (Region.ready md ops ((Array.replicate ops.size false).setIfInBounds i0 true) == [i, j]) &&
    wayFrom md ops n π1 (((Array.replicate ops.size false).setIfInBounds i0 true).setIfInBounds i true) &&
    wayFrom md ops n π2 (((Array.replicate ops.size false).setIfInBounds i0 true).setIfInBounds j true)
theorem region_way_rf {id : Nat} {a : Act} {w : World} {l : List Oper} {o0 : Oper} (K : Nat → Prop) (n i0 i j : Nat) (π1 π2 : List (Nat × Step)) (hm : P.follows .mixedOrders = true)
    (hB : rfB .any l.toArray n i0 i j π1 π2 = true) (ho : l[i0]? = some o0)
    (h : ∀ w₁, Keeps (fun _ => True) w w₁ → wpQuiet P l.toArray (fun w' => ∃ x : Since K w₁, w' = x.w) (fun a' =>
      wpWay P l.toArray (Calm Q) K ((i, .c) :: π1) a' w₁ ∧ wpWay P l.toArray (Calm Q) K ((j, .c) :: π2) a' w₁) [o0] a) :
    (Code.region id l.toArray true).wp P Q a w := by
  refine Code.wp_mono Calm.imp ?_
  simp only [rfB, Bool.and_eq_true, beq_iff_eq, decide_eq_true_eq] at hB
  obtain ⟨⟨⟨⟨⟨⟨⟨⟨⟨⟨⟨⟨h1, h2⟩, h2'⟩, h3⟩, hin⟩, hi⟩, hj⟩, hr⟩, hf⟩, hp⟩, hr2⟩, hw1⟩, hw2⟩ := hB
  refine wp_region_any hm (wpAny_of_R (K := K) (n := n) _ _ _ _ ?_)
  generalize hls : Array.replicate l.toArray.size false = ls at *
  have inv : HeadInv .any l.toArray n ls := by
    subst hls
    exact ⟨by simp, fun j oj hj hl => (by rw [getD_replicate_false] at hl; cases hl), fun t _ ht => by simp only [Array.getD, Array.size_replicate]; rw [dif_pos ht]; simp⟩
  have h0 := h _ (Keeps.drew (fun _ => True) w)
  generalize ({ w with drawn := w.drawn + 1 } : World) = w1 at h0 ⊢
  have hr' : i0 ∈ Region.ready .any l.toArray ls := by simpa using hr
  have ho : l.toArray[i0]? = some o0 := by simpa using ho
  rw [ho] at hp
  obtain ⟨v, hy, hK1, hK2⟩ := quiet_yields (o := o0) hp h0
  have hQ : ∀ c a d v w, Calm Q (.panic c) (Act.put a d v) w → Calm Q (.panic c) a w := fun _ _ _ _ _ h => h
  rw [show l.toArray.size = (π1.length + 1) + 1 by omega]
  refine wpAnyR_first h3 hin ho (Region.noSelect_spec h1) (fun c a w => hQ c a _ _ w) (π1.length + 1) ls a _ inv (Region.free_spec ho hf) hr' hy (Keeps.refl _ _) ?_
  have inv2 := inv.set hr' hin
  refine ⟨fun h0 => (by rw [hr2] at h0; cases h0), fun t ht => ?_⟩
  have ht0 := ht
  rw [hr2] at ht
  simp only [List.mem_cons, List.not_mem_nil, or_false] at ht
  rcases ht with rfl | rfl
  · rw [wpWay] at hK1
    exact wpOp_of_list (Q' := wayQ K w1 (wpWay P l.toArray (Calm Q) K π1) (Calm Q)) (fun a' w' h' => ⟨fun _ => h'.1, wpAnyR_way h3 h1 hQ π1 _ a' w' (inv2.set ht0 hi) hw1 h'.2⟩) (fun e a' w' he h' => by cases e <;> first | exact absurd rfl he | exact h') (fun h' => h') hK1
  · rw [wpWay] at hK2
    rw [show π1.length = π2.length by omega]
    exact wpOp_of_list (Q' := wayQ K w1 (wpWay P l.toArray (Calm Q) K π2) (Calm Q)) (fun a' w' h' => ⟨fun _ => h'.1, wpAnyR_way h3 h1 hQ π2 _ a' w' (inv2.set ht0 hj) hw2 h'.2⟩) (fun e a' w' he h' => by cases e <;> first | exact absurd rfl he | exact h') (fun h' => h') hK2
end
end Go.Cl
