/- append onto rows of one's own, of bytes and of 16-bit numbers, whatever slice comes behind. -/
import Derived.Test.YtoogdhnkihdkgaaBn
import Derived.Laws.OwnMore
import Derived.Maps.AppendAt
namespace Go.Proofs.Ytoogdhnkihdkgaa
open Go.RowKit Go.Gf

theorem run_append_none {P : Program} {w : World} (base : Nat) (t ty e : TypeId) (i : TypeInfo) (size : Nat) (ht : P.underlying t = some (.slice e)) (hi : P.info? e = some i)
    (v : Value) (n : Nat) (xs : List Value) (hown : w.ownsRow base e size v n xs) (c : Nat) : (Builtin.append_ #[t, t] ty #[v, .slice none 0 c]).run P w = .ok v w := by
  rcases hown.2 with ⟨rfl, rfl⟩ | ⟨g, cap, cur, rfl, _, _, hn, _⟩
  · simp [Builtin.append_, run_underlying ht, sizeOf, typeInfo, hi, Builtin.lenOf, Builtin.firstCells]
  · simp [Builtin.append_, run_underlying ht, sizeOf, typeInfo, hi, Builtin.lenOf, Builtin.firstCells, hn, storeCells]
/-- a slice of bytes of one's own (or nil), made since w0 -/
def OwnZ (w0 w : World) (v : Value) (ys : List Nat) : Prop := w.ownsRow w0.heap.size 5 1 v ys.length (ys.map ub) ∧ ∀ y ∈ ys, y < 256
section
variable {w0 w w' : World} {v : Value} {ys : List Nat}
theorem OwnZ.block (h : OwnZ w0 w v ys) : ∀ k, v.ownBlock = some k → w0.heap.size ≤ k := by
  intro k hk
  obtain ⟨⟨_, h⟩, _⟩ := h
  rcases h with ⟨rfl, _⟩ | ⟨g, cap, cur, rfl, hg, _⟩
  · cases hk
  · simp [Value.ownBlock] at hk; omega
theorem OwnZ.empty (w : World) : OwnZ w (w.alloc (.cells #[] 5)) (.slice (some ⟨w.heap.size, 0, none⟩) 0 0) [] :=
  ⟨⟨rfl, Or.inr ⟨w.heap.size, 0, #[], rfl, Nat.le_refl _, heap_alloc_new w _, Nat.le_refl _, Nat.zero_le _, rfl, rfl⟩⟩, by simp⟩
theorem OwnZ.sb (h : OwnZ w0 w v ys) : ∃ A c, v = .slice A ys.length c ∧ ys.length ≤ c ∧ Sb w w.heap.size A ys := by
  obtain ⟨⟨_, h1⟩, h2⟩ := h
  rcases h1 with ⟨rfl, h0⟩ | ⟨g, cap, cur, rfl, _, hh, hn, _, _, htk⟩
  · have e : ys = [] := List.eq_nil_of_length_eq_zero h0
    subst e
    exact ⟨none, 0, rfl, Nat.le_refl _, Sb.nil _ _ _⟩
  · refine ⟨_, cap, rfl, hn, h2, Or.inr ⟨_, rfl, ?_, fun i hi => ?_⟩⟩
    · show g < w.heap.size
      rcases Nat.lt_or_ge g w.heap.size with hlt | hge
      · exact hlt
      · rw [Array.getElem?_eq_none hge] at hh; cases hh
    · have e : (⟨g, 0, none⟩ : Addr).add i = ⟨g, i, none⟩ := by unfold Addr.add; split <;> simp_all
      rw [e, cell_of_row w g i cur 5 (0, 0) hh]
      have e2 : (cur.toList.take (ys.length * 1))[i]? = (ys.map ub)[i]? := by rw [htk]
      rw [List.getElem?_take, if_pos (by omega), List.getElem?_map, List.getElem?_eq_getElem hi] at e2
      rw [Array.getElem?_toList] at e2
      exact e2
end

theorem app_u {w0 w : World} {ops : Array Oper} {rest : List Oper} {o : Oper} {a : Act} {Q : Exit → Act → World → Prop} (hgd : o.guard = none) (s x : Operand)
    (ho : o.op = .call { callee := .builtin .append, args := #[s, x], argTypes := #[23, 23] }) (v : Value) (ys : List Nat) (hs : a.eval s = v) (hown : OwnS w0 w v ys) (hb : Below w0.heap.size w0 w)
    (A : Option Addr) (c : Nat) (zs : List Nat) (hx : a.eval x = .slice A zs.length c) (hz : Sl w w.heap.size A zs) (h63 : ys.length + zs.length ≤ 1000000)
    (h : ∀ v' w', OwnS w0 w' v' (ys ++ zs) → Below w0.heap.size w0 w' → wpList Try.prog ops Q rest (a.put o.dst v') w') :
    wpList Try.prog ops Q (o :: rest) a w := by
  have hi0 := info22
  obtain ⟨i, hi, hrest⟩ := Option.map_eq_some_iff.1 hi0
  simp only [Prod.mk.injEq] at hrest
  obtain ⟨i1, i2, i3⟩ := hrest
  cases A with
  | none =>
    obtain rfl : zs = [] := by
      rcases hz.2 with e | ⟨a, e, _⟩
      · exact e
      · cases e
    have hr := fun ty => run_append_none (P := Try.prog) (w := w) w0.heap.size 23 ty 34 i 1 Try.underlying23 hi v ys.length (ys.map uv) hown.1 c
    have hk := h v w (by rw [List.append_nil]; exact hown) hb
    refine wpList_plain hgd fun K hK => ?_
    unfold Oper.wp execOp
    simp only [ho, resolve, invoke, builtin, Sem.run_bind, Sem.run_pure, Result.andThen_ok, List.map_toArray, List.map_cons, List.map_nil, hs, hx, List.length_nil, hr]
    exact hK _ _ hk
  | some ad =>
    have hcell : ∀ j (hj : j < zs.length), w.cell? (ad.add j) = some (uv zs[j]) := by
      intro j hj
      rcases hz.2 with e | ⟨ad', e, _, hc⟩
      · rw [e] at hj; exact absurd hj (by simp)
      · injection e with e; subst e; exact hc j hj
    refine wpList_append_own_at w hgd s x 23 ho w0.heap.size 34 i (.int .u16 0) 1 2 Try.underlying23 hi i1 i2 i3 rfl (by decide) v ys.length (ys.map uv) hs hown.1 ad zs.length c (zs.map uv) hx (by simp) (fun j u hu => ?_) (fun u hu => ?_) (by unfold maxLen; omega) (by omega) hb.size (fun v' w' h1 h2 _ _ => ?_)
    · rw [List.getElem?_map] at hu
      rcases Nat.lt_or_ge j zs.length with hj | hj
      · rw [List.getElem?_eq_getElem hj] at hu
        injection hu with hu
        rw [← hu]; exact hcell j hj
      · rw [List.getElem?_eq_none hj] at hu; cases hu
    · obtain ⟨y, _, rfl⟩ := List.mem_map.1 hu; rfl
    · refine h v' w' ⟨?_, ?_⟩ (hb.grown h2 hb.size (OwnS.block hown))
      · rw [List.length_append, List.map_append]; exact h1
      · intro y hy
        rcases List.mem_append.1 hy with hy | hy
        · exact hown.2 y hy
        · exact hz.1 y hy

theorem app_b {w0 w : World} {ops : Array Oper} {rest : List Oper} {o : Oper} {a : Act} {Q : Exit → Act → World → Prop} (hgd : o.guard = none) (s x : Operand)
    (ho : o.op = .call { callee := .builtin .append, args := #[s, x], argTypes := #[22, 22] }) (v : Value) (ys : List Nat) (hs : a.eval s = v) (hown : OwnZ w0 w v ys) (hb : Below w0.heap.size w0 w)
    (A : Option Addr) (c : Nat) (zs : List Nat) (hx : a.eval x = .slice A zs.length c) (hz : Sb w w.heap.size A zs) (h63 : ys.length + zs.length ≤ 1000000)
    (h : ∀ v' w', OwnZ w0 w' v' (ys ++ zs) → Below w0.heap.size w0 w' → wpList Try.prog ops Q rest (a.put o.dst v') w') :
    wpList Try.prog ops Q (o :: rest) a w := by
  have hi0 := info5
  obtain ⟨i, hi, hrest⟩ := Option.map_eq_some_iff.1 hi0
  simp only [Prod.mk.injEq] at hrest
  obtain ⟨i1, i2, i3⟩ := hrest
  cases A with
  | none =>
    obtain rfl : zs = [] := by
      rcases hz.2 with e | ⟨a, e, _⟩
      · exact e
      · cases e
    have hr := fun ty => run_append_none (P := Try.prog) (w := w) w0.heap.size 22 ty 5 i 1 Try.underlying22 hi v ys.length (ys.map ub) hown.1 c
    have hk := h v w (by rw [List.append_nil]; exact hown) hb
    refine wpList_plain hgd fun K hK => ?_
    unfold Oper.wp execOp
    simp only [ho, resolve, invoke, builtin, Sem.run_bind, Sem.run_pure, Result.andThen_ok, List.map_toArray, List.map_cons, List.map_nil, hs, hx, List.length_nil, hr]
    exact hK _ _ hk
  | some ad =>
    have hcell : ∀ j (hj : j < zs.length), w.cell? (ad.add j) = some (ub zs[j]) := by
      intro j hj
      rcases hz.2 with e | ⟨ad', e, _, hc⟩
      · rw [e] at hj; exact absurd hj (by simp)
      · injection e with e; subst e; exact hc j hj
    refine wpList_append_own_at w hgd s x 22 ho w0.heap.size 5 i (.int .u8 0) 1 1 Try.underlying22 hi i1 i2 i3 rfl (by decide) v ys.length (ys.map ub) hs hown.1 ad zs.length c (zs.map ub) hx (by simp) (fun j u hu => ?_) (fun u hu => ?_) (by unfold maxLen; omega) (by omega) hb.size (fun v' w' h1 h2 _ _ => ?_)
    · rw [List.getElem?_map] at hu
      rcases Nat.lt_or_ge j zs.length with hj | hj
      · rw [List.getElem?_eq_getElem hj] at hu
        injection hu with hu
        rw [← hu]; exact hcell j hj
      · rw [List.getElem?_eq_none hj] at hu; cases hu
    · obtain ⟨y, _, rfl⟩ := List.mem_map.1 hu; rfl
    · refine h v' w' ⟨?_, ?_⟩ (hb.grown h2 hb.size (OwnZ.block hown))
      · rw [List.length_append, List.map_append]; exact h1
      · intro y hy
        rcases List.mem_append.1 hy with hy | hy
        · exact hown.2 y hy
        · exact hz.1 y hy
theorem size8b : (Try.prog.info? 5).map (·.size) = some 1 := by kernel_rfl
theorem elem8b : Try.prog.elem 22 = 5 := by kernel_rfl
theorem sizeOf8b (w : World) : (sizeOf 5).run Try.prog w = .ok 1 w := by kernel_rfl
theorem slice_head8 (A : Option Addr) (n c h : Nat) (hc : h ≤ c) (w : World) : (Instr.slice 22 (.slice A n c) none (some (.int .i64 (h : Int))) none).run Try.prog w = .ok (.slice A h c) w := by
  rw [run_slice_h (P := Try.prog) w 22 A n c (by rw [elem8b]; exact Try.underlying22) .i64 (h : Int) (by omega) (by omega), elem8b, sizeOf8b]
  simp only [Result.andThen_ok, sliced, Int.toNat_natCast, Nat.sub_zero, Nat.zero_mul]
  congr 2
  split
  · rfl
  · cases A <;> simp [add_zero']
end Go.Proofs.Ytoogdhnkihdkgaa
