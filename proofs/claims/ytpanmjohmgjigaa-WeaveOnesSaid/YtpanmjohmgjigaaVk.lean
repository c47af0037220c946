/- append onto a slice of slices of one's own; words of one symbol. -/
import Derived.Test.YtpanmjohmgjigaaVj
namespace Go.Proofs.Ytpanmjohmgjigaa
open Go.RowKit Go.Gf

/-- a slice of slices of one's own (or nil), made since w0, whose rows lie in other blocks -/
structure OwnX (w0 w : World) (v : Value) (ws : List (List Nat)) (vals : List Value) : Prop where
  own : w.ownsRow w0.heap.size 23 1 v ws.length vals
  rows : ∀ j (h : j < ws.length), ∃ D c, vals[j]? = some (.slice D ws[j].length c) ∧ ws[j].length ≤ c ∧ Sl w w.heap.size D ws[j] ∧ (ws[j] = [] ∨ ∀ d, D = some d → v.ownBlock ≠ some d.block)
section
variable {w0 w w' : World} {v : Value} {ws : List (List Nat)} {vals : List Value}
theorem OwnX.nil (w0 w : World) : OwnX w0 w (.slice none 0 0) [] [] := ⟨⟨rfl, Or.inl ⟨rfl, rfl⟩⟩, fun j h => absurd h (by simp)⟩
theorem OwnX.inHeap (h : OwnX w0 w v ws vals) {k : Nat} (hk : v.ownBlock = some k) : k < w.heap.size := by
  obtain ⟨_, h2⟩ := h.own
  rcases h2 with ⟨rfl, _⟩ | ⟨g, cap, cur, rfl, _, hh, _⟩
  · cases hk
  · simp [Value.ownBlock] at hk
    subst hk
    rcases Nat.lt_or_ge g w.heap.size with hlt | hge
    · exact hlt
    · rw [Array.getElem?_eq_none hge] at hh; cases hh
theorem OwnX.block (h : OwnX w0 w v ws vals) : ∀ k, v.ownBlock = some k → w0.heap.size ≤ k := by
  intro k hk
  obtain ⟨_, h⟩ := h.own
  rcases h with ⟨rfl, _⟩ | ⟨g, cap, cur, rfl, hg, _⟩
  · cases hk
  · simp [Value.ownBlock] at hk; omega
theorem OwnX.alloc (h : OwnX w0 w v ws vals) (o : Obj) : OwnX w0 (w.alloc o) v ws vals :=
  ⟨h.own.alloc o, fun j hj => by
    obtain ⟨D, c, h1, h2, h3, h4⟩ := h.rows j hj
    exact ⟨D, c, h1, h2, h3.far (below_alloc w o), h4⟩⟩
theorem Sl.grown {A : Option Addr} {xs : List Nat} {r : Option Nat} (h : Sl w w.heap.size A xs) (hg : w.grownBy w' r) (hne : xs = [] ∨ ∀ d, A = some d → r ≠ some d.block) : Sl w' w'.heap.size A xs := by
  refine ⟨h.1, ?_⟩
  rcases h.2 with e | ⟨a, e, hb, hc⟩
  · exact Or.inl e
  · refine Or.inr ⟨a, e, Nat.lt_of_lt_of_le hb hg.size, fun i hi => ?_⟩
    have hne := hne.resolve_left (fun e0 => by rw [e0] at hi; exact absurd hi (by simp))
    rw [← hc i hi]
    exact World.cell?_of_block (by rw [add_block]; exact hg.block _ hb (fun e2 => hne a e e2.symm))
theorem OwnX.sw (h : OwnX w0 w v ws vals) : ∃ A c, v = .slice A ws.length c ∧ ws.length ≤ c ∧ Sw w w.heap.size A ws := by
  obtain ⟨hl, h2⟩ := h.own
  rcases h2 with ⟨rfl, h0⟩ | ⟨g, cap, cur, rfl, hg, hh, hn, hcap, hcs, htk⟩
  · obtain rfl : ws = [] := List.eq_nil_of_length_eq_zero h0
    exact ⟨none, 0, rfl, Nat.le_refl _, Sw.nil _ _ _⟩
  · have hlt : g < w.heap.size := by
      rcases Nat.lt_or_ge g w.heap.size with hlt | hge
      · exact hlt
      · rw [Array.getElem?_eq_none hge] at hh; cases hh
    refine ⟨_, cap, rfl, hn, Or.inr ⟨_, rfl, hlt, fun j hj => ?_⟩⟩
    obtain ⟨D, c, h1, h2, h3, _⟩ := h.rows j hj
    refine ⟨D, c, ?_, h2, h3⟩
    have e : (⟨g, 0, none⟩ : Addr).add j = ⟨g, j, none⟩ := by unfold Addr.add; split <;> simp_all
    rw [e, cell_of_row w g j _ 23 (0, 0) hh]
    have e2 : (cur.toList.take (ws.length * 1))[j]? = vals[j]? := by rw [htk]
    rw [List.getElem?_take, if_pos (by omega), Array.getElem?_toList] at e2
    rw [e2]; exact h1
end
/-- append of one row, which lies in a block of its own -/
theorem app_row {w0 w : World} {ops : Array Oper} {rest : List Oper} {o : Oper} {a : Act} {Q : Exit → Act → World → Prop} (hgd : o.guard = none) (s x : Operand)
    (ho : o.op = .call { callee := .builtin .append, args := #[s, x], argTypes := #[22, 22] }) (v : Value) (ws : List (List Nat)) (vals : List Value) (hs : a.eval s = v) (hown : OwnX w0 w v ws vals) (hb : w0.heap.size ≤ w.heap.size)
    (ad : Addr) (hx : a.eval x = .slice (some ad) 1 1) (D : Option Addr) (ys : List Nat) (c : Nat) (hcell : w.cell? ad = some (.slice D ys.length c)) (hc : ys.length ≤ c) (hz : Sl w w.heap.size D ys) (hD : ys = [] ∨ ∀ d, D = some d → v.ownBlock ≠ some d.block) (h63 : ws.length ≤ 1000000)
    (h : ∀ v' w' vals', OwnX w0 w' v' (ws ++ [ys]) vals' → w.grownBy w' v.ownBlock → wpList Try.prog ops Q rest (a.put o.dst v') w') :
    wpList Try.prog ops Q (o :: rest) a w := by
  have hi0 := info23w
  obtain ⟨i, hi, hrest⟩ := Option.map_eq_some_iff.1 hi0
  simp only [Prod.mk.injEq] at hrest
  obtain ⟨i1, i2, i3⟩ := hrest
  refine wpList_append_own_at w hgd s x 22 ho w0.heap.size 23 i (.slice none 0 0) 1 24 Try.underlying22 hi i1 i2 i3 rfl (by decide) v ws.length vals hs hown.own ad 1 1 [.slice D ys.length c] hx rfl (fun j u hu => ?_) (fun u hu => ?_) (by unfold maxLen; omega) (by omega) hb (fun v' w' h1 h2 _ h5 => ?_)
  · match j, hu with
    | 0, hu =>
      simp at hu
      rw [← hu, add_zero']
      exact hcell
    | j + 1, hu => simp at hu
  · simp at hu
    subst hu
    rfl
  · refine h v' w' (vals ++ [.slice D ys.length c]) ⟨by rw [List.length_append]; exact h1, fun j hj => ?_⟩ h2
    have hl : vals.length = ws.length := by have := hown.own.1; omega
    have hne : ∀ E : Option Addr, ∀ zs, Sl w w.heap.size E zs → (zs = [] ∨ ∀ d, E = some d → v.ownBlock ≠ some d.block) → zs = [] ∨ ∀ d, E = some d → v'.ownBlock ≠ some d.block := by
      intro E zs hs2 hE
      rcases Classical.em (zs = []) with h0 | h0
      · exact Or.inl h0
      · refine Or.inr fun d hd => ?_
        rcases h5 with e | e
        · rw [e]; exact hE.resolve_left h0 d hd
        · rw [e]
          rcases hs2.2 with e2 | ⟨a2, e2, hb2, _⟩
          · exact absurd e2 h0
          · rw [hd] at e2
            injection e2 with e2
            subst e2
            intro e3
            injection e3 with e3
            omega
    rw [List.length_append] at hj
    rcases Nat.lt_or_ge j ws.length with hj2 | hj2
    · obtain ⟨E, c', g1, g2, g3, g4⟩ := hown.rows j hj2
      rw [List.getElem_append_left hj2]
      exact ⟨E, c', by rw [List.getElem?_append_left (by omega)]; exact g1, g2, g3.grown h2 g4, hne _ _ g3 g4⟩
    · obtain rfl : j = ws.length := by simp at hj; omega
      rw [List.getElem_append_right (Nat.le_refl _)]
      simp only [Nat.sub_self, List.getElem_cons_zero]
      exact ⟨D, c, by rw [← hl]; simp, hc, hz.grown h2 hD, hne _ _ hz hD⟩
end Go.Proofs.Ytpanmjohmgjigaa
