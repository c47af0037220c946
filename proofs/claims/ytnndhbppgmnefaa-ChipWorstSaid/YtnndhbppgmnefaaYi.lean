/- Rows of whole numbers of one's own, and append of one. -/
import Derived.Test.YtnndhbppgmnefaaYb
import Derived.Maps.AppendAt
namespace Go.Proofs.Ytnndhbppgmnefaa
open Go.RowKit Go.Gf Go.Fl
set_option linter.unusedVariables false
set_option linter.unusedSimpArgs false

def iv (n : Nat) : Value := .int .i64 (n : Int)
/-- a row of whole numbers of one's own (or nil), made since w0 -/
def OwnI (w0 w : World) (v : Value) (l : List Nat) : Prop := w.ownsRow w0.heap.size 3 1 v l.length (l.map iv)
section
variable {w0 w w' : World} {v : Value} {l : List Nat}
theorem OwnI.nil (w0 w : World) : OwnI w0 w (.slice none 0 0) [] := ⟨rfl, Or.inl ⟨rfl, rfl⟩⟩
theorem OwnI.blk (h : OwnI w0 w v l) : ∀ k, v.ownBlock = some k → w0.heap.size ≤ k := by
  intro k hk
  obtain ⟨_, h⟩ := h
  rcases h with ⟨rfl, _⟩ | ⟨g, cap, cur, rfl, hg, _⟩
  · cases hk
  · simp [Value.ownBlock] at hk; omega
theorem OwnI.alloc (h : OwnI w0 w v l) (o : Obj) : OwnI w0 (w.alloc o) v l := World.ownsRow.alloc h o
theorem OwnI.below (h : OwnI w0 w v l) (hb : Below w.heap.size w w') : OwnI w0 w' v l := by
  obtain ⟨hl, h⟩ := h
  refine ⟨hl, ?_⟩
  rcases h with h | ⟨g, cap, cur, rfl, hg, hh, hr⟩
  · exact Or.inl h
  · refine Or.inr ⟨g, cap, cur, rfl, hg, ?_, hr⟩
    have hlt : g < w.heap.size := by
      rcases Nat.lt_or_ge g w.heap.size with hlt | hge
      · exact hlt
      · rw [Array.getElem?_eq_none hge] at hh; cases hh
    exact (hb.block g hlt).trans hh
theorem OwnI.ints (h : OwnI w0 w v l) : ∃ A c, v = .slice A l.length c ∧ l.length ≤ c ∧ Ints w w0.heap.size A l := by
  obtain ⟨hl, h2⟩ := h
  rcases h2 with ⟨rfl, h0⟩ | ⟨g, cap, cur, rfl, hg, hh, hn, hcap, hcs, htk⟩
  · obtain rfl : l = [] := List.eq_nil_of_length_eq_zero h0
    exact ⟨none, 0, rfl, Nat.le_refl _, Or.inl rfl⟩
  · have hlt : g < w.heap.size := by
      rcases Nat.lt_or_ge g w.heap.size with hlt | hge
      · exact hlt
      · rw [Array.getElem?_eq_none hge] at hh; cases hh
    refine ⟨_, cap, rfl, hn, Or.inr ⟨_, rfl, hg, hlt, fun j hj => ?_⟩⟩
    have e : (⟨g, 0, none⟩ : Addr).add j = ⟨g, j, none⟩ := by unfold Addr.add; split <;> simp_all
    have e2 : (cur.toList.take (l.length * 1))[j]? = (l.map iv)[j]? := by rw [htk]
    rw [List.getElem?_take, if_pos (by omega), Array.getElem?_toList, List.getElem?_map, List.getElem?_eq_getElem hj] at e2
    rw [e, cell_of_row w g j _ 3 (0, 0) hh, e2, syAt_get hj]
    rfl
end
theorem info3 : (Try.prog.info? 3).map (fun i => (i.zero, i.size, i.bytes)) = some (some (.int .i64 0), 1, 8) := by kernel_rfl
/-- append of one number, which lies in a block of its own -/
theorem app_num {w0 w : World} {ops : Array Oper} {rest : List Oper} {o : Oper} {a : Act} {Q : Exit → Act → World → Prop} (hgd : o.guard = none) (s x : Operand)
    (ho : o.op = .call { callee := .builtin .append, args := #[s, x], argTypes := #[32, 32] }) (v : Value) (l : List Nat) (hs : a.eval s = v) (hown : OwnI w0 w v l) (hb : w0.heap.size ≤ w.heap.size)
    (g : Nat) (hx : a.eval x = .slice (some ⟨g, 0, none⟩) 1 1) (n : Nat) (hy : w.cell? ⟨g, 0, none⟩ = some (.int .i64 (n : Int))) (h63 : l.length ≤ 1000000)
    (h : ∀ v' w', OwnI w0 w' v' (l ++ [n]) → w.grownBy w' v.ownBlock → wpList Try.prog ops Q rest (a.put o.dst v') w') :
    wpList Try.prog ops Q (o :: rest) a w := by
  have hi0 := info3
  obtain ⟨i, hi, hrest⟩ := Option.map_eq_some_iff.1 hi0
  simp only [Prod.mk.injEq] at hrest
  obtain ⟨i1, i2, i3⟩ := hrest
  refine wpList_append_own_at w hgd s x 32 ho w0.heap.size 3 i (.int .i64 0) 1 8 Try.underlying32 hi i1 i2 i3 rfl (by decide) v l.length (l.map iv) hs hown ⟨g, 0, none⟩ 1 1 [iv n] hx rfl (fun j u hu => ?_) (fun u hu => ?_) (by unfold maxLen; omega) (by omega) hb (fun v' w' h1 h2 _ _ => ?_)
  · match j, hu with
    | 0, hu =>
      simp at hu
      rw [← hu, add_zero']
      exact hy
    | j + 1, hu => simp at hu
  · simp at hu
    rw [hu]; rfl
  · refine h v' w' ?_ h2
    unfold OwnI
    rw [List.length_append, List.map_append]
    exact h1
end Go.Proofs.Ytnndhbppgmnefaa
