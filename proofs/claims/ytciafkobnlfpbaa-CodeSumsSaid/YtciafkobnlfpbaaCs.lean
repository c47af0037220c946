/- Four rows of one's own, which share no block. -/
import Derived.Test.YtciafkobnlfpbaaCt
namespace Go.Cl
open Go.RowKit
section
variable {P : Program} {ops : Array Oper} {Q : Exit → Act → World → Prop} {K : Nat → Prop}
/-- a region that draws, by the walk of one order; ahead of it nothing has changed -/
theorem region_way0 {id : Nat} {a : Act} {w : World} {l : List Oper} (K : Nat → Prop) (n : Nat) (π : List (Nat × Step)) (hm : P.follows .mixedOrders = true)
    (hB : wayB .any l.toArray n π = true) (h : ∀ w₁, Keeps (fun _ => True) w w₁ → wpWay P l.toArray (Calm Q) K π a w₁) : (Code.region id l.toArray true).wp P Q a w := by
  refine Code.wp_mono Calm.imp ?_
  simp only [wayB, Bool.and_eq_true, beq_iff_eq] at hB
  obtain ⟨⟨⟨h1, h2⟩, h3⟩, h4⟩ := hB
  refine wp_region_any hm (wpAny_of_R (K := K) (n := n) _ _ _ _ ?_)
  have := wpAnyR_way (K := K) h3 h1 (fun _ _ _ _ _ h => h) π _ a _ ⟨by simp, fun j oj hj hl => (by rw [getD_replicate_false] at hl; cases hl), fun t _ ht => by simp only [Array.getD, Array.size_replicate]; rw [dif_pos ht]; simp⟩ h4 (h _ (Keeps.drew (fun _ => True) w))
  rw [h2] at this
  exact this
theorem Since.cell {w1 : World} (y : Since K w1) {p : Addr} (hp : p.block < w1.heap.size) (hK : K p.block) : y.w.cell? p = w1.cell? p := World.cell?_of_block (y.keeps.block p.block hp hK)
end
end Go.Cl
namespace Go.Proofs.Ytciafkobnlfpbaa
open Go.RowKit Go.Gf

def Ap (v u : Value) : Prop := ∀ k, v.ownBlock = some k → u.ownBlock ≠ some k
theorem Ap.nil (u : Value) : Ap (.slice none 0 0) u := by
  intro k h
  cases h
theorem Ap.symm {v u : Value} (h : Ap v u) : Ap u v := fun k h1 h2 => h k h2 h1
theorem OwnS.blk {w0 w : World} {v : Value} {ys : List Nat} (h : OwnS w0 w v ys) {k : Nat} (hk : v.ownBlock = some k) : k < w.heap.size := by
  obtain ⟨⟨_, h2⟩, _⟩ := h
  rcases h2 with ⟨rfl, _⟩ | ⟨g, cap, cur, rfl, _, hh, _⟩
  · cases hk
  · simp [Value.ownBlock] at hk
    subst hk
    rcases Nat.lt_or_ge g w.heap.size with hlt | hge
    · exact hlt
    · rw [Array.getElem?_eq_none hge] at hh; cases hh
theorem OwnS.apart {w0 w w' : World} {v u : Value} {ys : List Nat} (h : OwnS w0 w u ys) (hg : w.grownBy w' v.ownBlock) (ha : Ap v u) : OwnS w0 w' u ys := by
  refine ⟨h.1.kept hg ?_, h.2⟩
  cases e : u.ownBlock with
  | none => exact Or.inl rfl
  | some k => exact Or.inr fun e2 => ha k e2.symm e
theorem Ap.grown {w0 w : World} {v v' u : Value} {ys : List Nat} (h : OwnS w0 w u ys) (ha : Ap v u) (hn : v'.ownBlock = v.ownBlock ∨ v'.ownBlock = some w.heap.size) : Ap v' u := by
  rcases hn with e | e
  · intro k hk; rw [e] at hk; exact ha k hk
  · intro k hk hu
    rw [e] at hk
    injection hk with hk
    have := h.blk hu
    omega
/-- append onto a row of one's own: what changes is that row's block, or a new one -/
theorem app_law3 {w0 w : World} {ops : Array Oper} {rest : List Oper} {o : Oper} {a : Act} {Q : Exit → Act → World → Prop} (hgd : o.guard = none) (s x : Operand)
    (ho : o.op = .call { callee := .builtin .append, args := #[s, x], argTypes := #[22, 22] }) (v : Value) (ys : List Nat) (hs : a.eval s = v) (hown : OwnS w0 w v ys) (hb : w0.heap.size ≤ w.heap.size)
    (ad : Addr) (c : Nat) (zs : List Nat) (hx : a.eval x = .slice (some ad) zs.length c) (hz : Sl w w.heap.size (some ad) zs) (h63 : ys.length + zs.length ≤ 1000000)
    (h : ∀ v' w', OwnS w0 w' v' (ys ++ zs) → w.grownBy w' v.ownBlock → (v'.ownBlock = v.ownBlock ∨ v'.ownBlock = some w.heap.size) → wpList Try.prog ops Q rest (a.put o.dst v') w') :
    wpList Try.prog ops Q (o :: rest) a w := by
  have hi0 := info22
  obtain ⟨i, hi, hrest⟩ := Option.map_eq_some_iff.1 hi0
  simp only [Prod.mk.injEq] at hrest
  obtain ⟨i1, i2, i3⟩ := hrest
  have hcell : ∀ j (hj : j < zs.length), w.cell? (ad.add j) = some (uv zs[j]) := by
    intro j hj
    rcases hz.2 with e | ⟨ad', e, _, hc⟩
    · rw [e] at hj; exact absurd hj (by simp)
    · injection e with e; subst e; exact hc j hj
  refine wpList_append_own_at w hgd s x 22 ho w0.heap.size 23 i (.int .u16 0) 1 2 Try.underlying22 hi i1 i2 i3 rfl (by decide) v ys.length (ys.map uv) hs hown.1 ad zs.length c (zs.map uv) hx (by simp) (fun j u hu => ?_) (fun u hu => ?_) (by unfold maxLen; omega) (by omega) hb (fun v' w' h1 h2 _ h5 => ?_)
  · rw [List.getElem?_map] at hu
    rcases Nat.lt_or_ge j zs.length with hj | hj
    · rw [List.getElem?_eq_getElem hj] at hu
      injection hu with hu
      rw [← hu]; exact hcell j hj
    · rw [List.getElem?_eq_none hj] at hu; cases hu
  · obtain ⟨y, _, rfl⟩ := List.mem_map.1 hu; rfl
  · refine h v' w' ⟨?_, ?_⟩ h2 h5
    · rw [List.length_append, List.map_append]; exact h1
    · intro y hy
      rcases List.mem_append.1 hy with hy | hy
      · exact hown.2 y hy
      · exact hz.1 y hy
/-- four rows of one's own -/
structure Rows4 (w0 w : World) (v1 v2 v3 v4 : Value) (l1 l2 l3 l4 : List Nat) : Prop where
  o1 : OwnS w0 w v1 l1
  o2 : OwnS w0 w v2 l2
  o3 : OwnS w0 w v3 l3
  o4 : OwnS w0 w v4 l4
  a12 : Ap v1 v2
  a13 : Ap v1 v3
  a14 : Ap v1 v4
  a23 : Ap v2 v3
  a24 : Ap v2 v4
  a34 : Ap v3 v4
  be : Below w0.heap.size w0 w
section
variable {w0 w w' : World} {v1 v2 v3 v4 v : Value} {l1 l2 l3 l4 l : List Nat}
theorem Rows4.start (w : World) : Rows4 w w (.slice none 0 0) (.slice none 0 0) (.slice none 0 0) (.slice none 0 0) [] [] [] [] :=
  ⟨OwnS.nil _ _, OwnS.nil _ _, OwnS.nil _ _, OwnS.nil _ _, Ap.nil _, Ap.nil _, Ap.nil _, Ap.nil _, Ap.nil _, Ap.nil _, Below.refl _ _⟩
theorem Rows4.keep (h : Rows4 w0 w v1 v2 v3 v4 l1 l2 l3 l4) (hb : Below w.heap.size w w') : Rows4 w0 w' v1 v2 v3 v4 l1 l2 l3 l4 :=
  { h with o1 := h.o1.keep hb, o2 := h.o2.keep hb, o3 := h.o3.keep hb, o4 := h.o4.keep hb, be := h.be.trans (hb.mono h.be.size) }
theorem Rows4.s13 (h : Rows4 w0 w v1 v2 v3 v4 l1 l2 l3 l4) : Rows4 w0 w v3 v2 v1 v4 l3 l2 l1 l4 :=
  ⟨h.o3, h.o2, h.o1, h.o4, h.a23.symm, h.a13.symm, h.a34, h.a12.symm, h.a24, h.a14, h.be⟩
theorem Rows4.s12 (h : Rows4 w0 w v1 v2 v3 v4 l1 l2 l3 l4) : Rows4 w0 w v2 v1 v3 v4 l2 l1 l3 l4 :=
  ⟨h.o2, h.o1, h.o3, h.o4, h.a12.symm, h.a23, h.a24, h.a13, h.a14, h.a34, h.be⟩
theorem Rows4.s14 (h : Rows4 w0 w v1 v2 v3 v4 l1 l2 l3 l4) : Rows4 w0 w v4 v2 v3 v1 l4 l2 l3 l1 :=
  ⟨h.o4, h.o2, h.o3, h.o1, h.a24.symm, h.a34.symm, h.a14.symm, h.a23, h.a12.symm, h.a13.symm, h.be⟩
theorem Rows4.step (h : Rows4 w0 w v1 v2 v3 v4 l1 l2 l3 l4) (hv : OwnS w0 w' v l) (hg : w.grownBy w' v1.ownBlock) (hn : v.ownBlock = v1.ownBlock ∨ v.ownBlock = some w.heap.size) : Rows4 w0 w' v v2 v3 v4 l l2 l3 l4 :=
  ⟨hv, h.o2.apart hg h.a12, h.o3.apart hg h.a13, h.o4.apart hg h.a14, Ap.grown h.o2 h.a12 hn, Ap.grown h.o3 h.a13 hn, Ap.grown h.o4 h.a14 hn, h.a23, h.a24, h.a34, h.be.grown hg h.be.size (OwnS.block h.o1)⟩
theorem Rows4.kept (h : Rows4 w0 w v1 v2 v3 v4 l1 l2 l3 l4) (hg : w.grownBy w' v1.ownBlock) : Cl.Keeps (fun b => b < w0.heap.size) w w' :=
  ⟨hg.os, hg.tape, hg.output, hg.size, fun b hb hk => hg.block b hb fun e => by have := OwnS.block h.o1 b e.symm; omega⟩
end
end Go.Proofs.Ytciafkobnlfpbaa
