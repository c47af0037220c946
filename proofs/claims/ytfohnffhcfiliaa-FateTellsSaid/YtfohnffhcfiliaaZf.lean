/- Slices of triples of one's own, and append of one. -/
import Derived.Test.YtfohnffhcfiliaaZb
import Derived.Maps.AppendAt
import Derived.Laws.AppendOwn
namespace Go.Proofs.Ytfohnffhcfiliaa
open Go.RowKit
set_option linter.unusedVariables false
set_option linter.unusedSimpArgs false

def flat3 : List (Int × Int × Int) → List Value
  | [] => []
  | x :: xs => .int .i64 x.1 :: .int .i64 x.2.1 :: .int .i64 x.2.2 :: flat3 xs
theorem flat3_len (ts : List (Int × Int × Int)) : (flat3 ts).length = ts.length * 3 := by
  induction ts with
  | nil => rfl
  | cons x xs ih => simp [flat3, ih]; omega
theorem flat3_app (a b : List (Int × Int × Int)) : flat3 (a ++ b) = flat3 a ++ flat3 b := by
  induction a with
  | nil => rfl
  | cons x xs ih => simp [flat3, ih]
theorem flat3_at (ts : List (Int × Int × Int)) : ∀ i, i < ts.length → (flat3 ts)[i * 3]? = some (.int .i64 (tAt ts i).1) ∧ (flat3 ts)[i * 3 + 1]? = some (.int .i64 (tAt ts i).2.1) ∧ (flat3 ts)[i * 3 + 2]? = some (.int .i64 (tAt ts i).2.2) := by
  induction ts with
  | nil => intro i h; exact absurd h (by simp)
  | cons x xs ih =>
    intro i hi
    cases i with
    | zero => exact ⟨rfl, rfl, rfl⟩
    | succ i =>
      have := ih i (by simpa using hi)
      have e : tAt (x :: xs) (i + 1) = tAt xs i := by unfold tAt; rfl
      rw [e, show (i + 1) * 3 = i * 3 + 3 by omega]
      exact this
theorem flat3_one (ts : List (Int × Int × Int)) : ∀ u ∈ flat3 ts, u.oneCell' = true := by
  induction ts with
  | nil => intro u h; cases h
  | cons x xs ih =>
    intro u h
    rcases List.mem_cons.1 h with rfl | h
    · rfl
    · rcases List.mem_cons.1 h with rfl | h
      · rfl
      · rcases List.mem_cons.1 h with rfl | h
        · rfl
        · exact ih u h
/-- a slice of triples of one's own (or nil), made since w0 -/
def OwnT (w0 w : World) (v : Value) (ts : List (Int × Int × Int)) : Prop := w.ownsRow w0.heap.size 30 3 v ts.length (flat3 ts)
section
variable {w0 w w' : World} {v : Value} {ts : List (Int × Int × Int)}
theorem OwnT.nil (w0 w : World) : OwnT w0 w (.slice none 0 0) [] := ⟨rfl, Or.inl ⟨rfl, rfl⟩⟩
theorem OwnT.block (h : OwnT w0 w v ts) : ∀ k, v.ownBlock = some k → w0.heap.size ≤ k := by
  intro k hk
  obtain ⟨_, h⟩ := h
  rcases h with ⟨rfl, _⟩ | ⟨g, cap, cur, rfl, hg, _⟩
  · cases hk
  · simp [Value.ownBlock] at hk; omega
theorem OwnT.alloc (h : OwnT w0 w v ts) (o : Obj) : OwnT w0 (w.alloc o) v ts := World.ownsRow.alloc h o
theorem OwnT.below (h : OwnT w0 w v ts) (hb : Below w.heap.size w w') : OwnT w0 w' v ts := by
  obtain ⟨hl, h⟩ := h
  refine ⟨hl, ?_⟩
  rcases h with h | ⟨g, cap, cur, rfl, hg, hh, hr⟩
  · exact Or.inl h
  · refine Or.inr ⟨g, cap, cur, rfl, hg, ?_, hr⟩
    have hlt : g < w.heap.size := by
      rcases Nat.lt_or_ge g w.heap.size with hlt | hge
      · exact hlt
      · rw [Array.getElem?_eq_none hge] at hh; cases hh
    exact (hb.block g hlt).trans hh
theorem OwnT.s3 (h : OwnT w0 w v ts) : ∃ A c, v = .slice A ts.length c ∧ ts.length ≤ c ∧ S3 w w.heap.size A ts := by
  obtain ⟨hl, h2⟩ := h
  rcases h2 with ⟨rfl, h0⟩ | ⟨g, cap, cur, rfl, hg, hh, hn, hcap, hcs, htk⟩
  · obtain rfl : ts = [] := List.eq_nil_of_length_eq_zero h0
    exact ⟨none, 0, rfl, Nat.le_refl _, S3.nil _ _ _⟩
  · have hlt : g < w.heap.size := by
      rcases Nat.lt_or_ge g w.heap.size with hlt | hge
      · exact hlt
      · rw [Array.getElem?_eq_none hge] at hh; cases hh
    refine ⟨_, cap, rfl, hn, Or.inr ⟨_, rfl, hlt, fun j hj => ?_⟩⟩
    have e : ∀ k, (⟨g, 0, none⟩ : Addr).add k = ⟨g, k, none⟩ := fun k => by unfold Addr.add; split <;> simp_all
    have c : ∀ k, k < ts.length * 3 → w.cell? ⟨g, k, none⟩ = (flat3 ts)[k]? := fun k hk => by
      have e2 : (cur.toList.take (ts.length * 3))[k]? = (flat3 ts)[k]? := by rw [htk]
      rw [List.getElem?_take, if_pos hk, Array.getElem?_toList] at e2
      rw [cell_of hh, e2]
    obtain ⟨f0, f1, f2⟩ := flat3_at ts j hj
    rw [e, e, e, c _ (by omega), c _ (by omega), c _ (by omega)]
    exact ⟨f0, f1, f2⟩
end
theorem info30 : (Try.prog.info? 30).map (fun i => (i.zero, i.size, i.bytes)) = some (some (.agg #[.int .i64 0, .int .i64 0, .int .i64 0]), 3, 24) := by kernel_rfl
/-- append of one triple, which lies in a block of its own -/
theorem app_one {w0 w : World} {ops : Array Oper} {rest : List Oper} {o : Oper} {a : Act} {Q : Exit → Act → World → Prop} (hgd : o.guard = none) (s x : Operand)
    (ho : o.op = .call { callee := .builtin .append, args := #[s, x], argTypes := #[22, 22] }) (v : Value) (ts : List (Int × Int × Int)) (hs : a.eval s = v) (hown : OwnT w0 w v ts) (hb : w0.heap.size ≤ w.heap.size)
    (g : Nat) (hx : a.eval x = .slice (some ⟨g, 0, none⟩) 1 1) (y : Int × Int × Int) (hy : ∀ j u, (flat3 [y])[j]? = some u → w.cell? ⟨g, j, none⟩ = some u) (h63 : ts.length ≤ 1000000)
    (h : ∀ v' w', OwnT w0 w' v' (ts ++ [y]) → w.grownBy w' v.ownBlock → wpList Try.prog ops Q rest (a.put o.dst v') w') :
    wpList Try.prog ops Q (o :: rest) a w := by
  have hi0 := info30
  obtain ⟨i, hi, hrest⟩ := Option.map_eq_some_iff.1 hi0
  simp only [Prod.mk.injEq] at hrest
  obtain ⟨i1, i2, i3⟩ := hrest
  refine wpList_append_own_at w hgd s x 22 ho w0.heap.size 30 i (.agg #[.int .i64 0, .int .i64 0, .int .i64 0]) 3 24 Try.underlying22 hi i1 i2 i3 rfl (by decide) v ts.length (flat3 ts) hs hown ⟨g, 0, none⟩ 1 1 (flat3 [y]) hx (by rw [flat3_len]; rfl) (fun j u hu => ?_) (flat3_one [y]) (by unfold maxLen; omega) (by omega) hb (fun v' w' h1 h2 _ _ => ?_)
  · have e : (⟨g, 0, none⟩ : Addr).add j = ⟨g, j, none⟩ := by unfold Addr.add; split <;> simp_all
    rw [e]
    exact hy j u hu
  · refine h v' w' ?_ h2
    unfold OwnT
    rw [List.length_append, flat3_app]
    exact h1
end Go.Proofs.Ytfohnffhcfiliaa
