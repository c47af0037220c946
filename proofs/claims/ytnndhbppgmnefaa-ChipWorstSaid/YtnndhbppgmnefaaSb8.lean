/- A slice of pairs of bytes among the arguments: how they are read as data, and read again behind a call that leaves old memory alone. -/
import Derived.Test.YtnndhbppgmnefaaSq
import Derived.Test.YtnndhbppgmnefaaArr
import Derived.Deep.Slices
namespace Go.Proofs.Ytnndhbppgmnefaa
open Go.ChangeShapes Go.WideShapes Go.ChangeAt Go.RowKit Go.Deep

def vb8 (n : Nat) : Value := .int .u8 (n : Int)
theorem u8_range {a : Int} (h : (Lit.int .u8 a).wf = true) : 0 ≤ a ∧ a < 256 := by
  simp [Lit.wf, IntKind.min, IntKind.max, IntKind.signed, IntKind.bits] at h; omega
/-- a slice of pairs, in blocks below B -/
def Sq8 (w : World) (B : Nat) (A : Option Addr) (ts : List (Nat × Nat)) : Prop :=
  (∀ t ∈ ts, t.1 < 256 ∧ t.2 < 256) ∧ (ts = [] ∨ ∃ a, A = some a ∧ a.block < B ∧ ∀ i (h : i < ts.length), w.cell? (a.add (i * 2)) = some (vb8 ts[i].1) ∧ w.cell? (a.add (i * 2 + 1)) = some (vb8 ts[i].2))
theorem Sq8.nil (w : World) (B : Nat) (A : Option Addr) : Sq8 w B A [] := ⟨by simp, Or.inl rfl⟩
theorem Sq8.far {w w' : World} {A : Option Addr} {ts : List (Nat × Nat)} (h : Sq8 w w.heap.size A ts) (hb : Below w.heap.size w w') : Sq8 w' w'.heap.size A ts := by
  refine ⟨h.1, ?_⟩
  rcases h.2 with e | ⟨a, e, h1, h2⟩
  · exact Or.inl e
  · refine Or.inr ⟨a, e, Nat.lt_of_lt_of_le h1 hb.size, fun i hi => ?_⟩
    rw [hb.cell (by rw [add_block]; exact h1), hb.cell (by rw [add_block]; exact h1)]
    exact h2 i hi
theorem Sq8.keep {w w' : World} {B : Nat} {A : Option Addr} {ts : List (Nat × Nat)} (h : Sq8 w B A ts) (hk : ∀ p : Addr, p.block < B → w'.cell? p = w.cell? p) : Sq8 w' B A ts := by
  refine ⟨h.1, ?_⟩
  rcases h.2 with e | ⟨a, e, h1, h2⟩
  · exact Or.inl e
  · refine Or.inr ⟨a, e, h1, fun i hi => ?_⟩
    rw [hk _ (by rw [add_block]; exact h1), hk _ (by rw [add_block]; exact h1)]
    exact h2 i hi
section
variable {H : Type} {enc : TypeId × Value → H} {P : Program} {W : World}
theorem cells_below8 {W W' : World} {b : Nat} {p : Addr} {n : Nat} (hB : Below W.heap.size W W') (hp : p.block < W.heap.size) : W'.cells? b p n = W.cells? b p n := by
  unfold World.cells?
  congr 1
  refine congrArg (fun f => (List.range n).mapM f) (funext fun i => ?_)
  exact hB.cell (by rw [add_block]; exact hp)
theorem trod_pair8 {W' : World} {b : Nat} {sp : Nat → Bool} {hd : Bool} {t e : TypeId} {x0 x1 : Int} (ht : P.underlying t = some (.array 2 e)) (he : P.underlying e = some (.int .u8)) (hct : P.cellsOf t = 2) (hce : P.cellsOf e = 1)
    (w0 : (Lit.int .u8 x0).wf = true) (w1 : (Lit.int .u8 x1).wf = true) : DataW.trod enc P W' b sp hd 2 t [.int .u8 x0, .int .u8 x1] = some (.agg [.lit (.int .u8 x0), .lit (.int .u8 x1)], []) := by
  have r2 : List.range 2 = [0, 1] := rfl
  simp [DataW.trod, ht, he, hct, hce, w0, w1, r2]
theorem open_slq {r : Reach} {b0 : Nat} {t e k : TypeId} {v : Value} {d : DataW H} {p : List MemPlace} (ht : P.underlying t = some (.slice e)) (he : P.underlying e = some (.array 2 k)) (hk : P.underlying k = some (.int .u8)) (hce : P.cellsOf e = 2) (hck : P.cellsOf k = 1)
    (hv : Value.okWide P W r b0 t v) (h : DataW.Trod enc P W 0 (fun _ => true) true t v d p) :
    ∃ (A : Option Addr) (ts : List (Nat × Nat)) (c : Nat), v = .slice A ts.length c ∧ ts.length ≤ c ∧ c ≤ maxLen ∧ Sq8 W W.heap.size A ts ∧
      ∀ (W' : World), Below W.heap.size W W' → ∀ sp : Nat → Bool, (∀ q ∈ p, sp q.block = true) → DataW.Trod enc P W' 0 sp true t v d p := by
  obtain ⟨A, len, cap, rfl⟩ := okWide_slice ht hv
  obtain ⟨fuel, hf⟩ := h
  rcases open_slice ht hf with ⟨h1, h2⟩ | ⟨a, len', cap', m, n, D, Pl, h1, hb, hl, hm, hmm, hx, hel⟩
  · simp [Value.cells] at h1
    obtain ⟨rfl, rfl, rfl⟩ := h1
    simp only [Prod.mk.injEq] at h2
    obtain ⟨rfl, rfl⟩ := h2
    exact ⟨none, [], 0, rfl, Nat.le_refl _, Nat.zero_le _, Sq8.nil _ _ _, fun W' _ sp _ => shut_slice_nil ht⟩
  · simp [Value.cells] at h1
    obtain ⟨rfl, rfl, rfl⟩ := h1
    simp only [if_true] at hmm
    subst hmm
    simp only [Prod.mk.injEq] at hx
    obtain ⟨rfl, rfl⟩ := hx
    rw [hce] at hel
    have each : ∀ i, i < m → ∃ q : Int × Int, W.cells? 0 (a.add (i * 2)) 2 = some [.int .u8 q.1, .int .u8 q.2] ∧ (Lit.int .u8 q.1).wf = true ∧ (Lit.int .u8 q.2).wf = true ∧
        D i = .agg [.lit (.int .u8 q.1), .lit (.int .u8 q.2)] ∧ Pl i = [] := by
      intro i hi
      obtain ⟨cs', g1, g2⟩ := hel i hi
      obtain ⟨_, hlen, _⟩ := World.cells?_some g1
      match cs', hlen with
      | [c0, c1], _ =>
        obtain ⟨y0, y1, mm, hxx, hy0, hy1⟩ := trod_array2 he hck g2
        obtain ⟨x0, e0, rfl, w0⟩ := DataW.trod_int hk hy0
        obtain ⟨x1, e1, rfl, w1⟩ := DataW.trod_int hk hy1
        simp at e0 e1
        subst e0 e1
        simp only [Prod.mk.injEq] at hxx
        exact ⟨(x0, x1), g1, w0, w1, hxx.1, by simpa using hxx.2⟩
    obtain ⟨q, hq⟩ := choose_lt each
    have hcell : ∀ i, i < m → W.cell? (a.add (i * 2)) = some (.int .u8 (q i).1) ∧ W.cell? (a.add (i * 2 + 1)) = some (.int .u8 (q i).2) := fun i hi => by
      obtain ⟨_, _, hc⟩ := World.cells?_some (hq i hi).1
      have e0 := hc 0 (by decide)
      have e1 := hc 1 (by decide)
      rw [add_add] at e0 e1
      exact ⟨by simpa using e0, by simpa using e1⟩
    have hlt : 0 < m → a.block < W.heap.size := fun hp => by
      have := World.block_lt_of_cell? W _ (hcell 0 hp).1
      rwa [add_block] at this
    have hlen : ((List.range len).map fun i => ((q i).1.toNat, (q i).2.toNat)).length = len := by simp
    refine ⟨some a, (List.range len).map fun i => ((q i).1.toNat, (q i).2.toNat), m, by rw [hlen], by rw [hlen]; exact hl, hm, ⟨?_, ?_⟩, ?_⟩
    · intro x hx
      obtain ⟨i, hi, rfl⟩ := List.mem_map.1 hx
      have hi' := List.mem_range.1 hi
      obtain ⟨_, w0, w1, _⟩ := hq i (by omega)
      have := u8_range w0
      have := u8_range w1
      constructor
      · show (q i).1.toNat < 256
        omega
      · show (q i).2.toNat < 256
        omega
    · by_cases h0 : len = 0
      · left; subst h0; rfl
      · right
        refine ⟨a, rfl, hlt (by omega), fun i hi => ?_⟩
        rw [hlen] at hi
        obtain ⟨g0, g1⟩ := hcell i (by omega)
        obtain ⟨_, w0, w1, _⟩ := hq i (by omega)
        have h0 := u8_range w0
        have h1 := u8_range w1
        rw [g0, g1]
        simp only [vb8, List.getElem_map, List.getElem_range]
        rw [Int.toNat_of_nonneg h0.1, Int.toNat_of_nonneg h1.1]
        exact ⟨rfl, rfl⟩
    · intro W' hB sp hsp
      have hel' : ∀ i, i < m → ∃ cs n, W'.cells? 0 (a.add (i * P.cellsOf e)) (P.cellsOf e) = some cs ∧ DataW.trod enc P W' 0 sp true n e cs = some (D i, Pl i) := fun i hi => by
        obtain ⟨g1, w0, w1, g2, g3⟩ := hq i hi
        have hbk : (a.add (i * 2)).block < W.heap.size := by rw [add_block]; exact hlt (by omega)
        refine ⟨[.int .u8 (q i).1, .int .u8 (q i).2], 2, ?_, ?_⟩
        · rw [hce, cells_below8 hB hbk]; exact g1
        · rw [g2, g3]; exact trod_pair8 he hk hce hck w0 w1
      by_cases hp : 0 < m
      · have hs : sp a.block = true := hsp (.cell a.block (a.off + 0)) (List.mem_append_left _ (List.mem_map.2 ⟨0, List.mem_range.2 (by rw [hce]; omega), rfl⟩))
        obtain ⟨nn, hn⟩ := shut_slice_whole_cells (enc := enc) (w := W') (base := 0) (spare := sp) (held := true) ht hb hl hm hs D Pl hel'
        exact ⟨nn, hn⟩
      · have hm0 : m = 0 := by omega
        subst hm0
        have hl0 : len = 0 := by omega
        subst hl0
        cases hs : sp a.block
        · obtain ⟨nn, hn⟩ := shut_slice_cells (enc := enc) (w := W') (base := 0) (spare := sp) (held := true) ht hb (Nat.le_refl 0) hm hs D Pl (fun i hi => absurd hi (Nat.not_lt_zero _))
          exact ⟨nn, hn⟩
        · obtain ⟨nn, hn⟩ := shut_slice_whole_cells (enc := enc) (w := W') (base := 0) (spare := sp) (held := true) ht hb (Nat.le_refl 0) hm hs D Pl hel'
          exact ⟨nn, hn⟩
theorem list8 {α : Type} (l : List α) (h : (⟨l⟩ : Array α).size = 8) : ∃ c0 c1 c2 c3 c4 c5 c6 c7, l = [c0, c1, c2, c3, c4, c5, c6, c7] := by
  match l, h with
  | [c0, c1, c2, c3, c4, c5, c6, c7], _ => exact ⟨c0, c1, c2, c3, c4, c5, c6, c7, rfl⟩
theorem int1 {r : Nat → Bool} {n : Nat} {e : TypeId} {c : Value} {y : DataW H × List MemPlace} (he : P.underlying e = some (.int .u8)) (h : DataW.trod enc P W 0 r true n e [c] = some y) :
    ∃ b : Nat, b < 256 ∧ c = .int .u8 (b : Int) ∧ (Lit.int .u8 (b : Int)).wf = true ∧ y = (.lit (.int .u8 (b : Int)), []) := by
  obtain ⟨x, e0, rfl, w0⟩ := DataW.trod_int he h
  simp at e0
  subst e0
  have hr := u8_range w0
  obtain ⟨b, rfl⟩ : ∃ b : Nat, x = (b : Int) := ⟨x.toNat, (Int.toNat_of_nonneg hr.1).symm⟩
  exact ⟨b, by omega, rfl, w0, rfl⟩
end
end Go.Proofs.Ytnndhbppgmnefaa
