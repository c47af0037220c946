/- A region that draws its order, where memory may be made ahead of or behind a call: the walk of a tree of orders. -/
import Derived.Test.YtmmpcgmhcaianaaWy
namespace Go.Cl
open Go.RowKit
section
variable {P : Program} {ops : Array Oper} {Q : Exit → Act → World → Prop} {K : Nat → Prop} {md : Region.Mode}
/-- the orders: an operation that only reads what is kept; the one that is carried out next; either of two is carried out next; the last one -/
inductive Tree where
  | e
  | r (i : Nat) (t : Tree)
  | c (i : Nat) (t : Tree)
  | b (i j : Nat) (t u : Tree)
  | b3 (i j k : Nat) (t u v : Tree)
  | z (i : Nat)
def Tree.size : Tree → Nat
  | .e => 0
  | .r _ t => t.size + 1
  | .c _ t => t.size + 1
  | .b _ _ t _ => t.size + 1
  | .b3 _ _ _ t _ _ => t.size + 1
  | .z _ => 1
/-- the walk of all of them -/
def wpTree (P : Program) (ops : Array Oper) (Q : Exit → Act → World → Prop) (K : Nat → Prop) : Tree → Act → World → Prop
  | .e, a, w => Q .normal a w
  | .r i t, a, w => wpQuiet P ops (fun w' => ∃ x : Since K w, w' = x.w) (fun a' => wpTree P ops Q K t a' w) (ops[i]?.toList) a
  | .c i t, a, w => wpList P ops (wayQ K w (wpTree P ops Q K t) Q) (ops[i]?.toList) a w
  | .b i j t u, a, w => wpList P ops (wayQ K w (wpTree P ops Q K t) Q) (ops[i]?.toList) a w ∧ wpList P ops (wayQ K w (wpTree P ops Q K u) Q) (ops[j]?.toList) a w
  | .b3 i j k t u v, a, w => wpList P ops (wayQ K w (wpTree P ops Q K t) Q) (ops[i]?.toList) a w ∧ wpList P ops (wayQ K w (wpTree P ops Q K u) Q) (ops[j]?.toList) a w ∧ wpList P ops (wayQ K w (wpTree P ops Q K v) Q) (ops[k]?.toList) a w
  | .z i, a, w => wpList P ops Q (ops[i]?.toList) a w
def treeFrom (md : Region.Mode) (ops : Array Oper) (n : Nat) : Tree → Array Bool → Bool
  | .e, listed => (Region.ready md ops listed).isEmpty
  | .r i t, listed => decide (i < n) && (Region.ready md ops listed).contains i && Region.free md ops listed i && (match ops[i]? with | some o => plainOp o.op | none => false) && treeFrom md ops n t (listed.setIfInBounds i true)
  | .c i t, listed => decide (i < n) && Region.ready md ops listed == [i] && treeFrom md ops n t (listed.setIfInBounds i true)
  | .b i j t u, listed => decide (i < n) && decide (j < n) && Region.ready md ops listed == [i, j] && (t.size == u.size) && treeFrom md ops n t (listed.setIfInBounds i true) && treeFrom md ops n u (listed.setIfInBounds j true)
  | .b3 i j k t u v, listed => decide (i < n) && decide (j < n) && decide (k < n) && Region.ready md ops listed == [i, j, k] && (t.size == u.size) && (t.size == v.size) && treeFrom md ops n t (listed.setIfInBounds i true) && treeFrom md ops n u (listed.setIfInBounds j true) && treeFrom md ops n v (listed.setIfInBounds k true)
  | .z i, listed => i == n && Region.ready md ops listed == [i] && (Region.ready md ops (listed.setIfInBounds i true)).isEmpty
/-- do those orders serve for all? -/
def treeB (md : Region.Mode) (ops : Array Oper) (n : Nat) (t : Tree) : Bool := Region.noSelect ops && t.size == ops.size && lastB md ops n && treeFrom md ops n t (Array.replicate ops.size false)
theorem quiet_gives {o : Oper} {a : Act} {w : World} {N : Act → Prop} (hp : plainOp o.op = true) (h : wpQuiet P ops (fun w' => ∃ x : Since K w, w' = x.w) N [o] a) :
    ∃ v, YieldsIf P ops (Keeps K w) o v a ∧ N (a.put o.dst v) := by
  simp only [wpQuiet] at h
  by_cases hw : Region.wanted o (yielded ops a.tmps) = true
  · rw [if_pos hw] at h
    obtain ⟨v, h1, h2⟩ := h
    refine ⟨v, Or.inl ⟨hw, fun w' hk => ?_⟩, h2⟩
    have h3 := h1 w' ⟨⟨w', hk⟩, rfl⟩
    unfold Oper.quietAt at h3
    cases hrun : (execOp a.eval o).run P w' with
    | ok n w'' =>
      obtain ⟨u, rfl⟩ := plainOp_value hp hrun
      rw [hrun] at h3
      obtain ⟨rfl, rfl⟩ := h3
      rfl
    | halt x w'' => rw [hrun] at h3; exact h3.elim
  · rw [if_neg hw] at h
    exact ⟨undef, Or.inr ⟨by simpa using hw, rfl⟩, h⟩
theorem wpAnyR_tree {n : Nat} (hl : lastB md ops n = true) (hs : Region.noSelect ops = true) (hQ : ∀ c a d v w, Q (.panic c) (Act.put a d v) w → Q (.panic c) a w) : ∀ (t : Tree) (listed : Array Bool) (a : Act) (w : World),
    HeadInv md ops n listed → treeFrom md ops n t listed = true → wpTree P ops Q K t a w → wpAnyR P md ops Q K n t.size listed a w
  | .e, listed, a, w, _, hB, h => ⟨by simpa [treeFrom] using hB, h⟩
  | .r i t, listed, a, w, inv, hB, h => by
    simp only [treeFrom, Bool.and_eq_true, decide_eq_true_eq] at hB
    obtain ⟨⟨⟨⟨hin, hr⟩, hf⟩, hp⟩, hB'⟩ := hB
    have hr' : i ∈ Region.ready md ops listed := by simpa using hr
    cases h0 : ops[i]? with
    | none => rw [h0] at hp; cases hp
    | some o =>
      rw [h0] at hp
      replace hp : plainOp o.op = true := hp
      rw [wpTree, h0] at h
      obtain ⟨v, hy, hK⟩ := quiet_gives (o := o) hp h
      exact wpAnyR_first hl hin h0 (Region.noSelect_spec hs) (fun c a w => hQ c a _ _ w) t.size listed a w inv (Region.free_spec h0 hf) hr' hy (Keeps.refl _ _)
        (wpAnyR_tree hl hs hQ t _ _ w (inv.set hr' hin) hB' hK)
  | .c i t, listed, a, w, inv, hB, h => by
    simp only [treeFrom, Bool.and_eq_true, beq_iff_eq, decide_eq_true_eq] at hB
    obtain ⟨⟨hin, hr⟩, hB'⟩ := hB
    refine ⟨fun h0 => (by rw [h0] at hr; cases hr), fun j hj => ?_⟩
    have hj0 := hj
    rw [hr] at hj
    obtain rfl : j = i := by simpa using hj
    rw [wpTree] at h
    exact wpOp_of_list (Q' := wayQ K w (wpTree P ops Q K t) Q) (fun a' w' h' => ⟨fun _ => h'.1, wpAnyR_tree hl hs hQ t _ a' w' (inv.set hj0 hin) hB' h'.2⟩) (fun e a' w' he h' => by cases e <;> first | exact absurd rfl he | exact h') (fun h' => h') h
  | .b i j t u, listed, a, w, inv, hB, h => by
    simp only [treeFrom, Bool.and_eq_true, beq_iff_eq, decide_eq_true_eq] at hB
    obtain ⟨⟨⟨⟨⟨hi, hj⟩, hr⟩, hz⟩, hB1⟩, hB2⟩ := hB
    refine ⟨fun h0 => (by rw [h0] at hr; cases hr), fun k hk => ?_⟩
    have hk0 := hk
    rw [hr] at hk
    rw [wpTree] at h
    obtain ⟨h1, h2⟩ := h
    simp only [List.mem_cons, List.not_mem_nil, or_false] at hk
    rcases hk with rfl | rfl
    · exact wpOp_of_list (Q' := wayQ K w (wpTree P ops Q K t) Q) (fun a' w' h' => ⟨fun _ => h'.1, wpAnyR_tree hl hs hQ t _ a' w' (inv.set hk0 hi) hB1 h'.2⟩) (fun e a' w' he h' => by cases e <;> first | exact absurd rfl he | exact h') (fun h' => h') h1
    · show _
      rw [show t.size = u.size from hz]
      exact wpOp_of_list (Q' := wayQ K w (wpTree P ops Q K u) Q) (fun a' w' h' => ⟨fun _ => h'.1, wpAnyR_tree hl hs hQ u _ a' w' (inv.set hk0 hj) hB2 h'.2⟩) (fun e a' w' he h' => by cases e <;> first | exact absurd rfl he | exact h') (fun h' => h') h2
  | .b3 i j m t u v, listed, a, w, inv, hB, h => by
    simp only [treeFrom, Bool.and_eq_true, beq_iff_eq, decide_eq_true_eq] at hB
    obtain ⟨⟨⟨⟨⟨⟨⟨⟨hi, hj⟩, hm⟩, hr⟩, hz⟩, hz'⟩, hB1⟩, hB2⟩, hB3⟩ := hB
    refine ⟨fun h0 => (by rw [h0] at hr; cases hr), fun k hk => ?_⟩
    have hk0 := hk
    rw [hr] at hk
    rw [wpTree] at h
    obtain ⟨h1, h2, h3⟩ := h
    simp only [List.mem_cons, List.not_mem_nil, or_false] at hk
    rcases hk with rfl | rfl | rfl
    · exact wpOp_of_list (Q' := wayQ K w (wpTree P ops Q K t) Q) (fun a' w' h' => ⟨fun _ => h'.1, wpAnyR_tree hl hs hQ t _ a' w' (inv.set hk0 hi) hB1 h'.2⟩) (fun e a' w' he h' => by cases e <;> first | exact absurd rfl he | exact h') (fun h' => h') h1
    · show _
      rw [show t.size = u.size from hz]
      exact wpOp_of_list (Q' := wayQ K w (wpTree P ops Q K u) Q) (fun a' w' h' => ⟨fun _ => h'.1, wpAnyR_tree hl hs hQ u _ a' w' (inv.set hk0 hj) hB2 h'.2⟩) (fun e a' w' he h' => by cases e <;> first | exact absurd rfl he | exact h') (fun h' => h') h2
    · show _
      rw [show t.size = v.size from hz']
      exact wpOp_of_list (Q' := wayQ K w (wpTree P ops Q K v) Q) (fun a' w' h' => ⟨fun _ => h'.1, wpAnyR_tree hl hs hQ v _ a' w' (inv.set hk0 hm) hB3 h'.2⟩) (fun e a' w' he h' => by cases e <;> first | exact absurd rfl he | exact h') (fun h' => h') h3
  | .z i, listed, a, w, inv, hB, h => by
    simp only [treeFrom, Bool.and_eq_true, beq_iff_eq, List.isEmpty_iff] at hB
    obtain ⟨⟨hin, hr⟩, hlast⟩ := hB
    refine ⟨fun h0 => (by rw [h0] at hr; cases hr), fun j hj => ?_⟩
    rw [hr] at hj
    obtain rfl : j = i := by simpa using hj
    rw [wpTree] at h
    exact wpOp_of_list (fun a' w' h' => ⟨fun h0 => absurd h0 (by omega), hlast, h'⟩) (fun e a' w' he h' => h') (fun h' => h') h
/-- A REGION THAT DRAWS ITS ORDER, BY THE WALK OF A TREE OF ORDERS -/
theorem region_tree {id : Nat} {a : Act} {w : World} {l : List Oper} (K : Nat → Prop) (n : Nat) (t : Tree) (hm : P.follows .mixedOrders = true)
    (hB : treeB .any l.toArray n t = true) (h : ∀ w₁, Keeps (fun _ => True) w w₁ → wpTree P l.toArray (Calm Q) K t a w₁) : (Code.region id l.toArray true).wp P Q a w := by
  refine Code.wp_mono Calm.imp ?_
  simp only [treeB, Bool.and_eq_true, beq_iff_eq] at hB
  obtain ⟨⟨⟨h1, h2⟩, h3⟩, h4⟩ := hB
  refine wp_region_any hm (wpAny_of_R (K := K) (n := n) _ _ _ _ ?_)
  have := wpAnyR_tree (K := K) h3 h1 (fun _ _ _ _ _ h => h) t _ a _ ⟨by simp, fun j oj hj hl => (by rw [getD_replicate_false] at hl; cases hl), fun t _ ht => by simp only [Array.getD, Array.size_replicate]; rw [dif_pos ht]; simp⟩ h4 (h _ (Keeps.drew _ w))
  rw [h2] at this
  exact this
theorem tree_r {i : Nat} {t : Tree} {a : Act} {w : World} {l : List Oper} {o : Oper} (ho : l[i]? = some o) (h : wpQuiet P l.toArray (fun w' => ∃ x : Since K w, w' = x.w) (fun a' => wpTree P l.toArray Q K t a' w) [o] a) : wpTree P l.toArray Q K (.r i t) a w := by
  rw [wpTree, List.getElem?_toArray, ho]; exact h
theorem tree_c {i : Nat} {t : Tree} {a : Act} {w : World} {l : List Oper} {o : Oper} (ho : l[i]? = some o) (h : wpList P l.toArray (wayQ K w (wpTree P l.toArray Q K t) Q) [o] a w) : wpTree P l.toArray Q K (.c i t) a w := by
  rw [wpTree, List.getElem?_toArray, ho]; exact h
theorem tree_b {i j : Nat} {t u : Tree} {a : Act} {w : World} {l : List Oper} {o o' : Oper} (ho : l[i]? = some o) (ho' : l[j]? = some o') (h : wpList P l.toArray (wayQ K w (wpTree P l.toArray Q K t) Q) [o] a w) (h' : wpList P l.toArray (wayQ K w (wpTree P l.toArray Q K u) Q) [o'] a w) : wpTree P l.toArray Q K (.b i j t u) a w := by
  rw [wpTree, List.getElem?_toArray, ho, List.getElem?_toArray, ho']; exact ⟨h, h'⟩
theorem tree_b3 {i j k : Nat} {t u v : Tree} {a : Act} {w : World} {l : List Oper} {o o' o'' : Oper} (ho : l[i]? = some o) (ho' : l[j]? = some o') (ho'' : l[k]? = some o'') (h : wpList P l.toArray (wayQ K w (wpTree P l.toArray Q K t) Q) [o] a w) (h' : wpList P l.toArray (wayQ K w (wpTree P l.toArray Q K u) Q) [o'] a w) (h'' : wpList P l.toArray (wayQ K w (wpTree P l.toArray Q K v) Q) [o''] a w) : wpTree P l.toArray Q K (.b3 i j k t u v) a w := by
  rw [wpTree, List.getElem?_toArray, ho, List.getElem?_toArray, ho', List.getElem?_toArray, ho'']; exact ⟨h, h', h''⟩
theorem tree_z {i : Nat} {a : Act} {w : World} {l : List Oper} {o : Oper} (ho : l[i]? = some o) (h : wpList P l.toArray Q [o] a w) : wpTree P l.toArray Q K (.z i) a w := by
  rw [wpTree, List.getElem?_toArray, ho]; exact h
theorem tree_e {a : Act} {w : World} (h : Q .normal a w) : wpTree P ops (Calm Q) K .e a w := h
end
end Go.Cl
