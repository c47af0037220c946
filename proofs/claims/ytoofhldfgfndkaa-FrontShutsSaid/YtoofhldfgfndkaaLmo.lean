/- Slices of structs of three ints, among the arguments: how they are read as data, and read again behind a call that leaves old memory alone. -/
import Derived.Test.YtoofhldfgfndkaaWro
import Derived.Lib.SmallJoins
namespace Go.Proofs.Ytoofhldfgfndkaa.Lm
open Go.ChangeShapes Go.WideShapes Go.ChangeAt Go.RowKit Go.Deep Go.Joins
set_option linter.unusedVariables false
set_option linter.unusedSimpArgs false
/-- a slice of structs of three ints -/
def DT (w : World) (B : Nat) (A : Option Addr) (n : Nat) (q : Nat → Int × Int × Int) : Prop :=
  (∀ i, (Lit.int .i64 (q i).1).wf = true ∧ (Lit.int .i64 (q i).2.1).wf = true ∧ (Lit.int .i64 (q i).2.2).wf = true) ∧
  (n = 0 ∨ ∃ a, A = some a ∧ a.block < B ∧ ∀ i, i < n → w.cell? (a.add (i * 3)) = some (.int .i64 (q i).1) ∧ w.cell? (a.add (i * 3 + 1)) = some (.int .i64 (q i).2.1) ∧ w.cell? (a.add (i * 3 + 2)) = some (.int .i64 (q i).2.2))
theorem DT.below {w w' : World} {B : Nat} {A : Option Addr} {n : Nat} {q : Nat → Int × Int × Int} (h : DT w B A n q) (hb : Below B w w') : DT w' B A n q := by
  obtain ⟨hw, h⟩ := h
  refine ⟨hw, ?_⟩
  rcases h with e | ⟨a, e, h1, h2⟩
  · exact Or.inl e
  · exact Or.inr ⟨a, e, h1, fun i hi => by
      obtain ⟨g0, g1, g2⟩ := h2 i hi
      rw [hb.cell (by rw [We.add_block]; exact h1), hb.cell (by rw [We.add_block]; exact h1), hb.cell (by rw [We.add_block]; exact h1)]
      exact ⟨g0, g1, g2⟩⟩
theorem add_moreT (a : Addr) (k m : Nat) (h : m ≠ 0) : a.add (k + m) = ⟨(a.add k).block, (a.add k).off + m, none⟩ := by
  rw [← We.add_add, We.add_pos _ _ h]
theorem DT.at_ {w : World} {B : Nat} {A : Option Addr} {n i : Nat} {q : Nat → Int × Int × Int} (h : DT w B A n q) (hi : i < n) : ∃ a, A = some a ∧ a.block < B ∧ w.cell? (a.add (i * 3)) = some (.int .i64 (q i).1) ∧
    w.cell? ⟨(a.add (i * 3)).block, (a.add (i * 3)).off + 1, none⟩ = some (.int .i64 (q i).2.1) ∧ w.cell? ⟨(a.add (i * 3)).block, (a.add (i * 3)).off + 2, none⟩ = some (.int .i64 (q i).2.2) := by
  rcases h.2 with e | ⟨a, e, h1, h2⟩
  · omega
  · obtain ⟨g0, g1, g2⟩ := h2 i hi
    rw [add_moreT a _ 1 (by decide)] at g1
    rw [add_moreT a _ 2 (by decide)] at g2
    exact ⟨a, e, h1, g0, g1, g2⟩
section
variable {H : Type} {enc : TypeId × Value → H} {P : Program} {W : World}
theorem trod_tri {W' : World} {b : Nat} {sp : Nat → Bool} {hd : Bool} {t : TypeId} {f0 f1 f2 : Field} {x0 x1 x2 : Int} (ht : P.underlying t = some (.struct #[f0, f1, f2])) (hone : oneCellFields P #[f0, f1, f2] = true) (hC : P.cellsOf t = 3)
    (e0 : P.underlying f0.type = some (.int .i64)) (e1 : P.underlying f1.type = some (.int .i64)) (e2 : P.underlying f2.type = some (.int .i64))
    (w0 : (Lit.int .i64 x0).wf = true) (w1 : (Lit.int .i64 x1).wf = true) (w2 : (Lit.int .i64 x2).wf = true) :
    DataW.trod enc P W' b sp hd 2 t [.int .i64 x0, .int .i64 x1, .int .i64 x2] = some (.agg [.lit (.int .i64 x0), .lit (.int .i64 x1), .lit (.int .i64 x2)], []) := by
  obtain ⟨o0, k0⟩ := hone_of hone 0 f0 rfl
  obtain ⟨o1, k1⟩ := hone_of hone 1 f1 rfl
  obtain ⟨o2, k2⟩ := hone_of hone 2 f2 rfl
  have := trod_struct3_mk (enc := enc) (w := W') (base := b) (spare := sp) (held := hd) (n := 1) (cs := [.int .i64 x0, .int .i64 x1, .int .i64 x2]) (y0 := (.lit (.int .i64 x0), [])) (y1 := (.lit (.int .i64 x1), [])) (y2 := (.lit (.int .i64 x2), [])) ht (by simp [hC])
    (by simp [o0, k0, DataW.trod, e0, w0]) (by simp [o1, k1, DataW.trod, e1, w1]) (by simp [o2, k2, DataW.trod, e2, w2])
  simpa using this
theorem open_dt {r : Reach} {b0 : Nat} {t e : TypeId} {f0 f1 f2 : Field} {v : Value} {d : DataW H} {p : List MemPlace} (ht : P.underlying t = some (.slice e)) (he : P.underlying e = some (.struct #[f0, f1, f2])) (hone : oneCellFields P #[f0, f1, f2] = true) (hce : P.cellsOf e = 3)
    (e0 : P.underlying f0.type = some (.int .i64)) (e1 : P.underlying f1.type = some (.int .i64)) (e2 : P.underlying f2.type = some (.int .i64))
    (hv : Value.okWide P W r b0 t v) (h : DataW.Trod enc P W 0 (fun _ => true) true t v d p) :
    ∃ (A : Option Addr) (n : Nat) (q : Nat → Int × Int × Int) (c : Nat), v = .slice A n c ∧ n ≤ c ∧ c ≤ maxLen ∧ DT W W.heap.size A n q ∧
      ∀ (W' : World), Below W.heap.size W W' → ∀ sp : Nat → Bool, (∀ q ∈ p, sp q.block = true) → DataW.Trod enc P W' 0 sp true t v d p := by
  obtain ⟨A, len, cap, rfl⟩ := okWide_slice ht hv
  obtain ⟨fuel, hf⟩ := h
  have z0 : (Lit.int .i64 0).wf = true := by decide
  rcases open_slice ht hf with ⟨h1, h2⟩ | ⟨a, len', cap', m, n, D, Pl, h1, hb, hl, hm, hmm, hx, hel⟩
  · simp [Value.cells] at h1
    obtain ⟨rfl, rfl, rfl⟩ := h1
    simp only [Prod.mk.injEq] at h2
    obtain ⟨rfl, rfl⟩ := h2
    exact ⟨none, 0, fun _ => (0, 0, 0), 0, rfl, Nat.le_refl _, Nat.zero_le _, ⟨fun _ => ⟨z0, z0, z0⟩, Or.inl rfl⟩, fun W' _ sp _ => shut_slice_nil ht⟩
  · simp [Value.cells] at h1
    obtain ⟨rfl, rfl, rfl⟩ := h1
    simp only [if_true] at hmm
    subst hmm
    simp only [Prod.mk.injEq] at hx
    obtain ⟨rfl, rfl⟩ := hx
    rw [hce] at hel
    obtain ⟨o0, k0⟩ := hone_of hone 0 f0 rfl
    obtain ⟨o1, k1⟩ := hone_of hone 1 f1 rfl
    obtain ⟨o2, k2⟩ := hone_of hone 2 f2 rfl
    have each : ∀ i, i < m → ∃ q : Int × Int × Int, W.cells? 0 (a.add (i * 3)) 3 = some [.int .i64 q.1, .int .i64 q.2.1, .int .i64 q.2.2] ∧ (Lit.int .i64 q.1).wf = true ∧ (Lit.int .i64 q.2.1).wf = true ∧ (Lit.int .i64 q.2.2).wf = true ∧
        D i = .agg [.lit (.int .i64 q.1), .lit (.int .i64 q.2.1), .lit (.int .i64 q.2.2)] ∧ Pl i = [] := by
      intro i hi
      obtain ⟨cs', g1, g2⟩ := hel i hi
      obtain ⟨_, hlen, _⟩ := World.cells?_some g1
      match cs', hlen with
      | [c0, c1, c2], _ =>
        obtain ⟨y0, y1, y2, mm, hxx, _, hy0, hy1, hy2⟩ := trod_struct3 he g2
        rw [o0, k0] at hy0
        rw [o1, k1] at hy1
        rw [o2, k2] at hy2
        obtain ⟨x0, q0, rfl, w0⟩ := DataW.trod_int e0 hy0
        obtain ⟨x1, q1, rfl, w1⟩ := DataW.trod_int e1 hy1
        obtain ⟨x2, q2, rfl, w2⟩ := DataW.trod_int e2 hy2
        simp at q0 q1 q2
        subst q0 q1 q2
        simp only [Prod.mk.injEq] at hxx
        exact ⟨(x0, x1, x2), g1, w0, w1, w2, hxx.1, by simpa using hxx.2⟩
    obtain ⟨q, hq⟩ := choose_lt each
    have hcell : ∀ i, i < m → W.cell? (a.add (i * 3)) = some (.int .i64 (q i).1) ∧ W.cell? (a.add (i * 3 + 1)) = some (.int .i64 (q i).2.1) ∧ W.cell? (a.add (i * 3 + 2)) = some (.int .i64 (q i).2.2) := fun i hi => by
      obtain ⟨_, _, hc⟩ := World.cells?_some (hq i hi).1
      have e0 := hc 0 (by decide)
      have e1 := hc 1 (by decide)
      have e2 := hc 2 (by decide)
      rw [We.add_add] at e0 e1 e2
      exact ⟨by simpa using e0, by simpa using e1, by simpa using e2⟩
    have hlt : 0 < m → a.block < W.heap.size := fun hp => by
      have := World.block_lt_of_cell? W _ (hcell 0 hp).1
      rwa [We.add_block] at this
    refine ⟨some a, len, fun i => if i < m then q i else (0, 0, 0), m, rfl, hl, hm, ⟨fun i => ?_, ?_⟩, ?_⟩
    · show (Lit.int .i64 (if i < m then q i else (0, 0, 0)).1).wf = true ∧ (Lit.int .i64 (if i < m then q i else (0, 0, 0)).2.1).wf = true ∧ (Lit.int .i64 (if i < m then q i else (0, 0, 0)).2.2).wf = true
      split
      · rename_i hi
        obtain ⟨_, w0, w1, w2, _⟩ := hq i hi
        exact ⟨w0, w1, w2⟩
      · exact ⟨z0, z0, z0⟩
    · by_cases h0 : len = 0
      · exact Or.inl h0
      · exact Or.inr ⟨a, rfl, hlt (by omega), fun i hi => by
          have hi' : i < m := by omega
          simp only [if_pos hi']
          exact hcell i hi'⟩
    · intro W' hB sp hsp
      have hel' : ∀ i, i < m → ∃ cs n, W'.cells? 0 (a.add (i * P.cellsOf e)) (P.cellsOf e) = some cs ∧ DataW.trod enc P W' 0 sp true n e cs = some (D i, Pl i) := fun i hi => by
        obtain ⟨g1, w0, w1, w2, g2, g3⟩ := hq i hi
        have hbk : (a.add (i * 3)).block < W.heap.size := by rw [We.add_block]; exact hlt (by omega)
        refine ⟨[.int .i64 (q i).1, .int .i64 (q i).2.1, .int .i64 (q i).2.2], 2, ?_, ?_⟩
        · rw [hce, We.cells_belowR hB hbk]; exact g1
        · rw [g2, g3]; exact trod_tri he hone hce e0 e1 e2 w0 w1 w2
      by_cases hp : 0 < m
      · have hs : sp a.block = true := hsp (.cell a.block (a.off + 0)) (List.mem_append_left _ (List.mem_map.2 ⟨0, List.mem_range.2 (by rw [hce]; omega), rfl⟩))
        obtain ⟨nn, hn⟩ := shut_slice_whole_cells (enc := enc) (w := W') (base := 0) (spare := sp) (held := true) ht hb hl hm hs D Pl hel'
        exact ⟨nn, hn⟩
      · have hm0 : m = 0 := by omega
        subst hm0
        have hl0 : len = 0 := by omega
        subst hl0
        cases hs : sp a.block
        · obtain ⟨nn, hn⟩ := shut_slice_cells (enc := enc) (w := W') (base := 0) (spare := sp) (held := true) ht hb (Nat.le_refl 0) hm hs D Pl (fun i hi => absurd hi (Nat.not_lt_zero _))
          exact ⟨nn, hn⟩
        · obtain ⟨nn, hn⟩ := shut_slice_whole_cells (enc := enc) (w := W') (base := 0) (spare := sp) (held := true) ht hb (Nat.le_refl 0) hm hs D Pl hel'
          exact ⟨nn, hn⟩
end
end Go.Proofs.Ytoofhldfgfndkaa.Lm
