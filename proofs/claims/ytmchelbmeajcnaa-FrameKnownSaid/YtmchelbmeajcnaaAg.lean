/- append onto a row of one's own: what changes is that row's block alone, or a new one. -/
import Derived.Test.YtmchelbmeajcnaaAp
namespace Go.Proofs.Ytmchelbmeajcnaa
open Go.RowKit Go.Gf

theorem OwnS.inHeap {w0 w : World} {v : Value} {ys : List Nat} (h : OwnS w0 w v ys) {k : Nat} (hk : v.ownBlock = some k) : k < w.heap.size := by
  obtain ⟨⟨_, h2⟩, _⟩ := h
  rcases h2 with ⟨rfl, _⟩ | ⟨g, cap, cur, rfl, _, hh, _⟩
  · cases hk
  · simp [Value.ownBlock] at hk
    subst hk
    rcases Nat.lt_or_ge g w.heap.size with hlt | hge
    · exact hlt
    · rw [Array.getElem?_eq_none hge] at hh; cases hh
/-- another block grows: the row stays -/
theorem OwnS.grown {w0 w w' : World} {v : Value} {ys : List Nat} {r : Option Nat} (h : OwnS w0 w v ys) (hg : w.grownBy w' r) (hne : v.ownBlock = none ∨ v.ownBlock ≠ r) : OwnS w0 w' v ys := ⟨h.1.kept hg hne, h.2⟩
theorem OwnS.alloc {w0 w : World} {v : Value} {ys : List Nat} (h : OwnS w0 w v ys) (o : Obj) : OwnS w0 (w.alloc o) v ys := ⟨h.1.alloc o, h.2⟩
set_option maxRecDepth 20000 in
theorem app_own {w0 w : World} {ops : Array Oper} {rest : List Oper} {o : Oper} {a : Act} {Q : Exit → Act → World → Prop} (hgd : o.guard = none) (s x : Operand)
    (ho : o.op = .call { callee := .builtin .append, args := #[s, x], argTypes := #[35, 35] }) (v : Value) (ys : List Nat) (hs : a.eval s = v) (hown : OwnS w0 w v ys) (hb : w0.heap.size ≤ w.heap.size)
    (ad : Addr) (c : Nat) (zs : List Nat) (hx : a.eval x = .slice (some ad) zs.length c) (hz : Sl w w.heap.size (some ad) zs) (h63 : ys.length + zs.length ≤ 1000000)
    (h : ∀ v' w', OwnS w0 w' v' (ys ++ zs) → w.grownBy w' v.ownBlock → (v'.ownBlock = v.ownBlock ∨ v'.ownBlock = some w.heap.size) → wpList Try.prog ops Q rest (a.put o.dst v') w') :
    wpList Try.prog ops Q (o :: rest) a w := by
  have hi0 := info22
  obtain ⟨i, hi, hrest⟩ := Option.map_eq_some_iff.1 hi0
  simp only [Prod.mk.injEq] at hrest
  obtain ⟨i1, i2, i3⟩ := hrest
  have hcell : ∀ j (hj : j < zs.length), w.cell? (ad.add j) = some (uv zs[j]) := by
    intro j hj
    rcases hz.2 with e | ⟨ad', e, _, hc⟩
    · rw [e] at hj; exact absurd hj (by simp)
    · injection e with e; subst e; exact hc j hj
  refine wpList_append_own_at w hgd s x 35 ho w0.heap.size 29 i (.int .u16 0) 1 2 Try.underlying35 hi i1 i2 i3 rfl (by decide) v ys.length (ys.map uv) hs hown.1 ad zs.length c (zs.map uv) hx (by simp) (fun j u hu => ?_) (fun u hu => ?_) (by unfold maxLen; omega) (by omega) hb (fun v' w' h1 h2 _ h5 => ?_)
  · rw [List.getElem?_map] at hu
    rcases Nat.lt_or_ge j zs.length with hj | hj
    · rw [List.getElem?_eq_getElem hj] at hu
      injection hu with hu
      rw [← hu]; exact hcell j hj
    · rw [List.getElem?_eq_none hj] at hu; cases hu
  · obtain ⟨y, _, rfl⟩ := List.mem_map.1 hu; rfl
  · refine h v' w' ⟨?_, ?_⟩ h2 h5
    · rw [List.length_append, List.map_append]; exact h1
    · intro y hy
      rcases List.mem_append.1 hy with hy | hy
      · exact hown.2 y hy
      · exact hz.1 y hy
/-- make([]uint16, 0, n) -/
theorem make_empty (n : Nat) (hn : n ≤ 1000000) (w : World) : (Instr.makeSlice 35 (.int .i64 0) (.int .i64 (n : Int))).run Try.prog w = .ok (.slice (some ⟨w.heap.size, 0, none⟩) 0 n) (w.alloc (.cells (madeCells #[.int .u16 0] n) 29)) := by
  have hi0 := info22
  obtain ⟨i, hi, hrest⟩ := Option.map_eq_some_iff.1 hi0
  simp only [Prod.mk.injEq] at hrest
  obtain ⟨i1, i2, i3⟩ := hrest
  have := run_make (P := Try.prog) w 35 29 i (.int .u16 0) Try.underlying35 hi i1 .i64 .i64 0 (n : Int) (Int.le_refl _) (by omega) (by rw [i3]; omega) (by omega)
  rw [i2] at this
  rw [show (Value.int IntKind.u16 0).cells = #[Value.int IntKind.u16 0] from rfl] at this
  simpa using this
theorem OwnS.emptyN (n : Nat) (hn : n ≤ 1000000) (w : World) : OwnS w (w.alloc (.cells (madeCells #[.int .u16 0] n) 29)) (.slice (some ⟨w.heap.size, 0, none⟩) 0 n) [] :=
  ⟨World.ownsRow_made w _ n (Nat.le_refl _) (by unfold maxLen; omega) (by rw [size_madeCells, Nat.mul_one]), by simp⟩
end Go.Proofs.Ytmchelbmeajcnaa
