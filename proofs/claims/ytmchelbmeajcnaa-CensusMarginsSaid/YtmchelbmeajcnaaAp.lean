/- append onto slices of 16-bit numbers of one's own. -/
import Derived.Test.YtmchelbmeajcnaaRv
import Derived.Maps.AppendAt
namespace Go.Proofs.Ytmchelbmeajcnaa
open Go.RowKit Go.Gf

/-- a slice of one's own (or nil) that holds ys, made since w0 -/
def OwnS (w0 w : World) (v : Value) (ys : List Nat) : Prop := w.ownsRow w0.heap.size 29 1 v ys.length (ys.map uv) ∧ ∀ y ∈ ys, y < 65536
/-- block g begins with the n numbers that f says, and may be written -/
def Pre (w : World) (g n : Nat) (f : Nat → Nat) : Prop := ∃ cur, w.heap[g]? = some (.cells cur 29 (0, 0)) ∧ ∀ i, i < n → cur[i]? = some (uv (f i))
section
variable {w0 w w' : World} {v : Value} {ys zs : List Nat} {g n : Nat} {f : Nat → Nat}
theorem OwnS.nil (w0 w : World) : OwnS w0 w (.slice none 0 0) [] := ⟨⟨rfl, Or.inl ⟨rfl, rfl⟩⟩, by simp⟩
theorem Pre.lt (h : Pre w g n f) : g < w.heap.size := by
  obtain ⟨cur, h, _⟩ := h
  rcases Nat.lt_or_ge g w.heap.size with hlt | hge
  · exact hlt
  · rw [Array.getElem?_eq_none hge] at h; cases h
theorem Pre.cell (h : Pre w g n f) {i : Nat} (hi : i < n) : w.cell? ⟨g, i, none⟩ = some (.int .u16 ((f i : Nat) : Int)) := by
  obtain ⟨cur, h, hc⟩ := h
  rw [cell_of_row w g i _ 29 (0, 0) h]
  exact hc i hi
theorem Pre.frozen (h : Pre w g n f) (i : Nat) : w.frozen? ⟨g, i, none⟩ = false := by
  obtain ⟨cur, h, hc⟩ := h
  simp [World.frozen?, h]
theorem Pre.set_ (h : Pre w g n f) (i x : Nat) : Pre (w.setCell ⟨g, i, none⟩ (.int .u16 (x : Int))) g n (fun j => if j = i then x else f j) := by
  obtain ⟨cur, h, hc⟩ := h
  refine ⟨cur.setIfInBounds i (.int .u16 (x : Int)), ?_, fun j hj => ?_⟩
  · simp only [World.setCell]
    rw [Array.getElem?_modify, h]
    simp
  · have := hc j hj
    have hlt : j < cur.size := (Array.getElem?_eq_some_iff.1 this).1
    rw [Array.getElem?_setIfInBounds]
    by_cases e : i = j
    · subst e; simp [hlt, uv]
    · rw [if_neg e]
      show _ = some (uv (if j = i then x else f j))
      rw [if_neg (Ne.symm e)]; exact this
theorem Pre.congr (h : Pre w g n f) {f' : Nat → Nat} (e : ∀ j, j < n → f j = f' j) : Pre w g n f' := by
  obtain ⟨cur, h, hc⟩ := h
  exact ⟨cur, h, fun i hi => by rw [← e i hi]; exact hc i hi⟩
theorem Pre.keep (h : Pre w g n f) (hb : w'.heap[g]? = w.heap[g]?) : Pre w' g n f := by
  obtain ⟨cur, h, hc⟩ := h
  exact ⟨cur, hb.trans h, hc⟩
theorem Pre.below {B : Nat} (h : Pre w g n f) (hb : Below B w w') (hg : g < B) : Pre w' g n f := h.keep (hb.block g hg)
theorem Pre.sl (h : Pre w g n f) (hf : ∀ j, j < n → f j < 65536) : Sl w w.heap.size (some ⟨g, 0, none⟩) (rm n f) := by
  refine ⟨rm_mem hf, Or.inr ⟨_, rfl, h.lt, fun i hi => ?_⟩⟩
  have e : (⟨g, 0, none⟩ : Addr).add i = ⟨g, i, none⟩ := by unfold Addr.add; split <;> simp_all
  rw [e, rm_get]
  rw [rm_len] at hi
  exact h.cell hi
theorem OwnS.pre (h : OwnS w0 w v ys) (hne : ys ≠ []) : ∃ g c, v = .slice (some ⟨g, 0, none⟩) ys.length c ∧ ys.length ≤ c ∧ w0.heap.size ≤ g ∧ Pre w g ys.length (at_ ys) := by
  obtain ⟨⟨_, h⟩, _⟩ := h
  rcases h with ⟨_, h0⟩ | ⟨g, cap, cur, rfl, hg, hh, hn, _, hcs, htk⟩
  · exact absurd (List.eq_nil_of_length_eq_zero h0) hne
  · refine ⟨g, cap, rfl, hn, hg, cur, hh, fun i hi => ?_⟩
    have e : (cur.toList.take (ys.length * 1))[i]? = (ys.map uv)[i]? := by rw [htk]
    rw [List.getElem?_take, if_pos (by omega), List.getElem?_map, List.getElem?_eq_getElem hi] at e
    rw [Array.getElem?_toList] at e
    rw [e, at_get hi]; rfl
theorem OwnS.sl (h : OwnS w0 w v ys) : ∃ A c, v = .slice A ys.length c ∧ ys.length ≤ c ∧ Sl w w.heap.size A ys := by
  rcases Classical.em (ys = []) with e | e
  · subst e
    obtain ⟨⟨_, h1⟩, _⟩ := h
    rcases h1 with ⟨rfl, _⟩ | ⟨g, cap, cur, rfl, _⟩
    · exact ⟨none, 0, rfl, Nat.le_refl _, Sl.nil _ _ _⟩
    · exact ⟨some ⟨g, 0, none⟩, cap, rfl, Nat.zero_le _, Sl.nil _ _ _⟩
  · obtain ⟨g, c, h1, h2, h3, h4⟩ := h.pre e
    refine ⟨_, c, h1, h2, ?_⟩
    have := h4.sl (fun j hj => at_lt h.2 (by decide))
    rwa [rm_at] at this
theorem OwnS.keep (h : OwnS w0 w v ys) (hb : Below w.heap.size w w') : OwnS w0 w' v ys := by
  obtain ⟨⟨h1, h2⟩, h3⟩ := h
  refine ⟨⟨h1, ?_⟩, h3⟩
  rcases h2 with h2 | ⟨g, cap, cur, rfl, hg, hh, hr⟩
  · exact Or.inl h2
  · have hlt : g < w.heap.size := by
      rcases Nat.lt_or_ge g w.heap.size with hlt | hge
      · exact hlt
      · rw [Array.getElem?_eq_none hge] at hh; cases hh
    exact Or.inr ⟨g, cap, cur, rfl, hg, (hb.block g hlt).trans hh, hr⟩
theorem OwnS.block (h : OwnS w0 w v ys) : ∀ k, v.ownBlock = some k → w0.heap.size ≤ k := by
  intro k hk
  obtain ⟨⟨_, h⟩, _⟩ := h
  rcases h with ⟨rfl, _⟩ | ⟨g, cap, cur, rfl, hg, _⟩
  · cases hk
  · simp [Value.ownBlock] at hk; omega
end
set_option maxRecDepth 20000 in
theorem app_law {w0 w : World} {ops : Array Oper} {rest : List Oper} {o : Oper} {a : Act} {Q : Exit → Act → World → Prop} (hgd : o.guard = none) (s x : Operand)
    (ho : o.op = .call { callee := .builtin .append, args := #[s, x], argTypes := #[35, 35] }) (v : Value) (ys : List Nat) (hs : a.eval s = v) (hown : OwnS w0 w v ys) (hb : Below w0.heap.size w0 w)
    (A : Option Addr) (c : Nat) (zs : List Nat) (n : Nat) (hn : zs.length = n) (hx : a.eval x = .slice A n c) (hz : Sl w w.heap.size A zs) (hne : zs ≠ []) (h63 : ys.length + zs.length ≤ 1000000)
    (h : ∀ v' w', OwnS w0 w' v' (ys ++ zs) → Below w0.heap.size w0 w' → Below w0.heap.size w w' → (v = .slice none 0 0 → Below w.heap.size w w') → wpList Try.prog ops Q rest (a.put o.dst v') w') :
    wpList Try.prog ops Q (o :: rest) a w := by
  have hi0 := info22
  obtain ⟨i, hi, hrest⟩ := Option.map_eq_some_iff.1 hi0
  simp only [Prod.mk.injEq] at hrest
  obtain ⟨i1, i2, i3⟩ := hrest
  obtain ⟨ad, rfl, _, hcell⟩ := hz.2.resolve_left hne
  refine wpList_append_own_at w hgd s x 35 ho w0.heap.size 29 i (.int .u16 0) 1 2 Try.underlying35 hi i1 i2 i3 rfl (by decide) v ys.length (ys.map uv) hs hown.1 ad n c (zs.map uv) hx (by simp [hn]) (fun j u hu => ?_) (fun u hu => ?_) (by unfold maxLen; omega) (by omega) hb.size (fun v' w' h1 h2 _ _ => ?_)
  · rw [List.getElem?_map] at hu
    rcases Nat.lt_or_ge j zs.length with hj | hj
    · rw [List.getElem?_eq_getElem hj] at hu
      injection hu with hu
      rw [← hu]; exact hcell j hj
    · rw [List.getElem?_eq_none hj] at hu; cases hu
  · obtain ⟨y, _, rfl⟩ := List.mem_map.1 hu; rfl
  · refine h v' w' ⟨?_, ?_⟩ (hb.grown h2 hb.size (OwnS.block hown)) ((Below.refl _ _).grown h2 hb.size (OwnS.block hown)) (fun e => ?_)
    · rw [List.length_append, List.map_append, hn]; exact h1
    · intro y hy
      rcases List.mem_append.1 hy with hy | hy
      · exact hown.2 y hy
      · exact hz.1 y hy
    · subst e
      exact (Below.refl _ _).grown h2 (Nat.le_refl _) (fun k hk => by cases hk)
end Go.Proofs.Ytmchelbmeajcnaa
