/- Several rows of one's own, no two of which share memory, and what is to be appended to them. -/
import Derived.Test.YtoldfgnnmfaihaaWrv
import Derived.Maps.AppendAt
namespace Go.Proofs.Ytoldfgnnmfaihaa.We
open Go.RowKit
set_option linter.unusedVariables false
set_option linter.unusedSimpArgs false
/-- a row of one's own: its values' type, the slice, what it holds, and a block with one value that is to be appended -/
structure Chn where
  T : TypeId
  v : Value
  l : List Value
  pd : Option (Nat × Value)
def Chn.fp (c : Chn) (k : Nat) : Prop := c.v.ownBlock = some k ∨ c.pd.map (·.1) = some k
structure Chn.ok (w0 w : World) (c : Chn) : Prop where
  row : w.ownsRow w0.heap.size c.T 1 c.v c.l.length c.l
  cell : ∀ g x, c.pd = some (g, x) → w.cell? ⟨g, 0, none⟩ = some x ∧ g < w.heap.size ∧ w0.heap.size ≤ g ∧ c.v.ownBlock ≠ some g
structure Chs (w0 w : World) (cs : List Chn) : Prop where
  below : Below w0.heap.size w0 w
  ok : ∀ (i : Nat) c, cs[i]? = some c → c.ok w0 w
  apart : ∀ (i j : Nat) c d, i ≠ j → cs[i]? = some c → cs[j]? = some d → ∀ k, c.fp k → ¬ d.fp k
section
variable {w0 w w' : World} {cs : List Chn} {c : Chn}
theorem Chn.ok.lt (h : c.ok w0 w) {k : Nat} (hk : c.fp k) : w0.heap.size ≤ k ∧ k < w.heap.size := by
  rcases hk with hk | hk
  · exact h.row.lt k hk
  · cases hp : c.pd with
    | none => rw [hp] at hk; cases hk
    | some q =>
      obtain ⟨g, x⟩ := q
      rw [hp] at hk
      injection hk with hk
      obtain ⟨_, h2, h3, _⟩ := h.cell g x hp
      dsimp only at hk
      omega
theorem Chn.ok.kept {r : Option Nat} (h : c.ok w0 w) (hg : w.grownBy w' r) (hne : ∀ k, c.fp k → r ≠ some k) : c.ok w0 w' := by
  refine ⟨h.row.kept hg ?_, fun g x hp => ?_⟩
  · cases hv : c.v.ownBlock with
    | none => exact Or.inl rfl
    | some k => exact Or.inr (fun e => hne k (Or.inl hv) e.symm)
  · obtain ⟨h1, h2, h3, h4⟩ := h.cell g x hp
    exact ⟨hg.cell h1 (fun e => hne g (Or.inr (by rw [hp]; rfl)) e.symm), Nat.lt_of_lt_of_le h2 hg.size, h3, h4⟩
theorem Chs.nil (w : World) : Chs w w [] := ⟨Below.refl _ _, fun i c h => by simp at h, fun i j c d _ h => by simp at h⟩
theorem grown_below (h : Below w.heap.size w w') : w.grownBy w' none := ⟨h.os, h.tape, h.output, h.size, fun k hk _ => h.block k hk⟩
theorem Chs.keep (h : Chs w0 w cs) (hb : Below w.heap.size w w') : Chs w0 w' cs :=
  ⟨h.below.trans (hb.mono h.below.size), fun i c hc => (h.ok i c hc).kept (grown_below hb) (fun k _ e => by cases e), h.apart⟩
theorem grown_alloc (w : World) (o : Obj) : w.grownBy (w.alloc o) none := grown_below (below_alloc w o)
theorem get_set {cs : List Chn} {i j : Nat} {x : Chn} {d : Chn} (h : (cs.set i x)[j]? = some d) : (j = i ∧ d = x ∧ i < cs.length) ∨ (j ≠ i ∧ cs[j]? = some d) := by
  rw [List.getElem?_set] at h
  by_cases e : i = j
  · rw [if_pos e] at h
    split at h
    · injection h with h; exact Or.inl ⟨e.symm, h.symm, by omega⟩
    · cases h
  · rw [if_neg e] at h; exact Or.inr ⟨fun h => e h.symm, h⟩
/-- a value is laid into a block of its own, to be appended to row number i -/
theorem Chs.build (h : Chs w0 w cs) (i : Nat) {c : Chn} (hc : cs[i]? = some c) (hn : c.pd = none) (x : Value) (T : TypeId) :
    Chs w0 (w.alloc (.cells #[x] T)) (cs.set i { c with pd := some (w.heap.size, x) }) := by
  have hb := below_alloc w (.cells #[x] T)
  have hold : ∀ (j : Nat) d, cs[j]? = some d → d.ok w0 (w.alloc (.cells #[x] T)) := fun j d hd => (h.keep hb).ok j d hd
  have hnew : ∀ {k : Nat}, ({ c with pd := some (w.heap.size, x) } : Chn).fp k → c.fp k ∨ k = w.heap.size := fun {k} hk => by
    rcases hk with hk | hk
    · exact Or.inl (Or.inl hk)
    · injection hk with hk; exact Or.inr hk.symm
  refine ⟨(h.keep hb).below, fun j d hd => ?_, fun j m d e hjm hd he k hk hk' => ?_⟩
  · rcases get_set hd with ⟨rfl, rfl, _⟩ | ⟨_, hd⟩
    · refine ⟨(hold j c hc).row, fun g y hp => ?_⟩
      injection hp with hp
      injection hp with e1 e2
      subst e1; subst e2
      refine ⟨cell_box w _ _, by rw [World.size_alloc]; exact Nat.lt_succ_self _, h.below.size, fun e => ?_⟩
      have := ((h.ok j c hc).lt (Or.inl e)).2
      omega
    · exact hold j d hd
  · rcases get_set hd with ⟨rfl, rfl, _⟩ | ⟨h1, hd2⟩ <;> rcases get_set he with ⟨h3, rfl, _⟩ | ⟨h2, he2⟩
    · exact hjm h3.symm
    · rcases hnew hk with hk | hk
      · exact h.apart j m _ _ hjm hc he2 k hk hk'
      · have := ((h.ok m e he2).lt hk').2
        omega
    · subst h3
      rcases hnew hk' with hk' | hk'
      · exact h.apart j m _ _ hjm hd2 hc k hk hk'
      · have := ((h.ok j d hd2).lt hk).2
        omega
    · exact h.apart j m _ _ hjm hd2 he2 k hk hk'
/-- row number i grew by what was to be appended -/
theorem Chs.app (h : Chs w0 w cs) (i : Nat) {c : Chn} (hc : cs[i]? = some c) {v' : Value} {l' : List Value} (hr : w'.ownsRow w0.heap.size c.T 1 v' l'.length l') (hg : w.grownBy w' c.v.ownBlock) (hv : v'.ownBlock = c.v.ownBlock ∨ v'.ownBlock = some w.heap.size) :
    Chs w0 w' (cs.set i { c with v := v', l := l', pd := none }) := by
  have hnew : ∀ {k : Nat}, ({ c with v := v', l := l', pd := none } : Chn).fp k → c.fp k ∨ k = w.heap.size := fun {k} hk => by
    rcases hk with hk | hk
    · rcases hv with e | e
      · exact Or.inl (Or.inl (by rw [← e]; exact hk))
      · dsimp only at hk; rw [e] at hk; injection hk with hk; exact Or.inr hk.symm
    · cases hk
  have hB : Below w0.heap.size w0 w' := h.below.grown hg h.below.size (fun k hk => ((h.ok i c hc).lt (Or.inl hk)).1)
  refine ⟨hB, fun j d hd => ?_, fun j m d e hjm hd he k hk hk' => ?_⟩
  · rcases get_set hd with ⟨rfl, rfl, _⟩ | ⟨hne, hd⟩
    · exact ⟨hr, fun g y hp => by cases hp⟩
    · exact (h.ok j d hd).kept hg (fun k hk e => h.apart i j c d (fun e => hne e.symm) hc hd k (Or.inl e) hk)
  · rcases get_set hd with ⟨rfl, rfl, _⟩ | ⟨h1, hd2⟩ <;> rcases get_set he with ⟨h3, rfl, _⟩ | ⟨h2, he2⟩
    · exact hjm h3.symm
    · rcases hnew hk with hk | hk
      · exact h.apart j m _ _ hjm hc he2 k hk hk'
      · have := ((h.ok m e he2).lt hk').2
        omega
    · subst h3
      rcases hnew hk' with hk' | hk'
      · exact h.apart j m _ _ hjm hd2 hc k hk hk'
      · have := ((h.ok j d hd2).lt hk).2
        omega
    · exact h.apart j m _ _ hjm hd2 he2 k hk hk'
/-- one more row, empty so far -/
theorem Chs.more (h : Chs w0 w cs) (T : TypeId) : Chs w0 w ({ T := T, v := .slice none 0 0, l := [], pd := none } :: cs) := by
  refine ⟨h.below, fun i c hc => ?_, fun i j c d hij hc hd k hk hk' => ?_⟩
  · cases i with
    | zero => injection hc with hc; subst hc; exact ⟨⟨rfl, Or.inl ⟨rfl, rfl⟩⟩, fun g x hp => by cases hp⟩
    | succ i => exact h.ok i c hc
  · cases i with
    | zero =>
      injection hc with hc; subst hc
      rcases hk with hk | hk <;> cases hk
    | succ i =>
      cases j with
      | zero =>
        injection hd with hd; subst hd
        rcases hk' with hk' | hk' <;> cases hk'
      | succ j => exact h.apart i j c d (by omega) hc hd k hk hk'
/-- row number i is a slice with those values -/
theorem Chs.sf (h : Chs w0 w cs) (i : Nat) {c : Chn} (hc : cs[i]? = some c) : ∃ A k, c.v = .slice A c.l.length k ∧ SF w w.heap.size A c.l.length (fun j => c.l.getD j undef) := by
  have hr := (h.ok i c hc).row
  rcases hr.2 with ⟨e, h0⟩ | ⟨g, cap, cur, e, hg, hh, hn, hcap, hcs, htk⟩
  · exact ⟨none, 0, by rw [e, h0], Or.inl h0⟩
  · refine ⟨some ⟨g, 0, none⟩, cap, e, Or.inr ⟨_, rfl, (hr.lt g (by rw [e]; rfl)).2, fun j hj => ?_⟩⟩
    rw [hr.cells (by rw [e]; rfl) j (c.l[j]) (List.getElem?_eq_getElem hj)]
    simp [List.getD_eq_getElem?_getD, hj]
/-- .. in a block that may be written -/
theorem Chs.pv (h : Chs w0 w cs) (i : Nat) {c : Chn} (hc : cs[i]? = some c) (hne : c.l ≠ []) : ∃ g k, c.v = .slice (some ⟨g, 0, none⟩) c.l.length k ∧ w0.heap.size ≤ g ∧ c.fp g ∧ PV w c.T g c.l.length (fun j => c.l.getD j undef) := by
  have hr := (h.ok i c hc).row
  rcases hr.2 with ⟨e, h0⟩ | ⟨g, cap, cur, e, hg, hh, hn, hcap, hcs, htk⟩
  · exact absurd (List.eq_nil_of_length_eq_zero h0) hne
  · refine ⟨g, cap, e, hg, Or.inl (by rw [e]; rfl), cur, hh, fun j hj => ?_⟩
    have e2 : (cur.toList.take (c.l.length * 1))[j]? = c.l[j]? := by rw [htk]
    rw [List.getElem?_take, if_pos (by omega), Array.getElem?_toList] at e2
    rw [e2, List.getElem?_eq_getElem hj]
    simp [List.getD_eq_getElem?_getD, hj]
theorem keeps_grown {r : Option Nat} (h : Below w0.heap.size w0 w) (hg : w.grownBy w' r) (hr : ∀ k, r = some k → w0.heap.size ≤ k) : Cl.Keeps (fun b => b < w0.heap.size) w w' :=
  ⟨hg.os, hg.tape, hg.output, hg.size, fun b hb hk => hg.block b hb (fun e => by have := hr b e.symm; omega)⟩
end
theorem infoI2 : (Try.prog.info? 3).map (fun i => (i.zero, i.size, i.bytes)) = some (some (.int .i64 0), 1, 8) := infoI
/-- append of one whole number -/
theorem app_int {w0 w : World} {cs : List Chn} {ops : Array Oper} {rest : List Oper} {o : Oper} {a : Act} {Q : Exit → Act → World → Prop} (hgd : o.guard = none) (s x : Operand)
    (ho : o.op = .call { callee := .builtin .append, args := #[s, x], argTypes := #[22, 22] }) (i : Nat) (v : Value) (l : List Value) (g : Nat) (z : Int) (hc : cs[i]? = some ⟨3, v, l, some (g, .int .i64 z)⟩) (hs : a.eval s = v) (hx : a.eval x = .slice (some ⟨g, 0, none⟩) 1 1) (hch : Chs w0 w cs) (h63 : l.length ≤ 1000000)
    (h : ∀ v' w', Chs w0 w' (cs.set i ⟨3, v', l ++ [.int .i64 z], none⟩) → Cl.Keeps (fun b => b < w0.heap.size) w w' → wpList Try.prog ops Q rest (a.put o.dst v') w') :
    wpList Try.prog ops Q (o :: rest) a w := by
  have hi0 := infoI
  obtain ⟨inf, hi, hrest⟩ := Option.map_eq_some_iff.1 hi0
  simp only [Prod.mk.injEq] at hrest
  obtain ⟨i1, i2, i3⟩ := hrest
  have hk := hch.ok i _ hc
  obtain ⟨c1, c2, c3, c4⟩ := hk.cell g _ rfl
  refine wpList_append_own_at w hgd s x 22 ho w0.heap.size 3 inf (.int .i64 0) 1 8 Try.underlying22 hi i1 i2 i3 rfl (by decide) v l.length l hs hk.row ⟨g, 0, none⟩ 1 1 [.int .i64 z] hx rfl (fun j u hu => ?_) (fun u hu => ?_) (by unfold maxLen; omega) (by omega) hch.below.size (fun v' w' h1 h2 _ h5 => ?_)
  · match j, hu with
    | 0, hu =>
      simp at hu
      rw [← hu, add_zero']
      exact c1
    | j + 1, hu => simp at hu
  · simp at hu
    rw [hu]; rfl
  · exact h v' w' (hch.app i hc (by rw [List.length_append]; exact h1) h2 h5) (keeps_grown hch.below h2 (fun k hk2 => (hk.lt (Or.inl hk2)).1))
/-- append of one bool -/
theorem app_bool {w0 w : World} {cs : List Chn} {ops : Array Oper} {rest : List Oper} {o : Oper} {a : Act} {Q : Exit → Act → World → Prop} (hgd : o.guard = none) (s x : Operand)
    (ho : o.op = .call { callee := .builtin .append, args := #[s, x], argTypes := #[23, 23] }) (i : Nat) (v : Value) (l : List Value) (g : Nat) (z : Bool) (hc : cs[i]? = some ⟨4, v, l, some (g, .bool z)⟩) (hs : a.eval s = v) (hx : a.eval x = .slice (some ⟨g, 0, none⟩) 1 1) (hch : Chs w0 w cs) (h63 : l.length ≤ 1000000)
    (h : ∀ v' w', Chs w0 w' (cs.set i ⟨4, v', l ++ [.bool z], none⟩) → Cl.Keeps (fun b => b < w0.heap.size) w w' → wpList Try.prog ops Q rest (a.put o.dst v') w') :
    wpList Try.prog ops Q (o :: rest) a w := by
  have hi0 := infoB
  obtain ⟨inf, hi, hrest⟩ := Option.map_eq_some_iff.1 hi0
  simp only [Prod.mk.injEq] at hrest
  obtain ⟨i1, i2, i3⟩ := hrest
  have hk := hch.ok i _ hc
  obtain ⟨c1, c2, c3, c4⟩ := hk.cell g _ rfl
  refine wpList_append_own_at w hgd s x 23 ho w0.heap.size 4 inf (.bool false) 1 1 Try.underlying23 hi i1 i2 i3 rfl (by decide) v l.length l hs hk.row ⟨g, 0, none⟩ 1 1 [.bool z] hx rfl (fun j u hu => ?_) (fun u hu => ?_) (by unfold maxLen; omega) (by omega) hch.below.size (fun v' w' h1 h2 _ h5 => ?_)
  · match j, hu with
    | 0, hu =>
      simp at hu
      rw [← hu, add_zero']
      exact c1
    | j + 1, hu => simp at hu
  · simp at hu
    rw [hu]; rfl
  · exact h v' w' (hch.app i hc (by rw [List.length_append]; exact h1) h2 h5) (keeps_grown hch.below h2 (fun k hk2 => (hk.lt (Or.inl hk2)).1))
end Go.Proofs.Ytoldfgnnmfaihaa.We
