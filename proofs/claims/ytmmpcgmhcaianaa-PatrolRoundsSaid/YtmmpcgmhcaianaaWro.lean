/- Slices of whole numbers, of bools, of rows of so many whole numbers, among the arguments: how they are read as data, and read again behind a call that leaves old memory alone. -/
import Derived.Test.YtmmpcgmhcaianaaWra
import Derived.ProofKit
import Derived.OpenShut
import Derived.Deep.Slices
namespace Go.Proofs.Ytmmpcgmhcaianaa.We
open Go.ChangeShapes Go.WideShapes Go.ChangeAt Go.RowKit Go.Deep
set_option linter.unusedVariables false
set_option linter.unusedSimpArgs false
theorem add_add (a : Addr) (k m : Nat) : (a.add k).add m = a.add (k + m) := by
  unfold Addr.add; split <;> split <;> split <;> simp_all <;> omega
/-- a slice of rows of K whole numbers of a kind, below block B -/
def RF (w : World) (B : Nat) (A : Option Addr) (K n : Nat) (k : IntKind) (f : Nat → Nat → Int) : Prop :=
  (∀ i j, (Lit.int k (f i j)).wf = true) ∧ (n = 0 ∨ ∃ a, A = some a ∧ a.block < B ∧ ∀ i j, i < n → j < K → w.cell? (a.add (i * K + j)) = some (.int k (f i j)))
theorem RF.below {w w' : World} {B : Nat} {A : Option Addr} {K n : Nat} {k : IntKind} {f : Nat → Nat → Int} (h : RF w B A K n k f) (hb : Below B w w') : RF w' B A K n k f := by
  refine ⟨h.1, ?_⟩
  rcases h.2 with e | ⟨a, e, h1, h2⟩
  · exact Or.inl e
  · exact Or.inr ⟨a, e, h1, fun i j hi hj => (hb.cell (by rw [add_block]; exact h1)).trans (h2 i j hi hj)⟩
theorem RF.far {w w' : World} {A : Option Addr} {K n : Nat} {k : IntKind} {f : Nat → Nat → Int} (h : RF w w.heap.size A K n k f) (hb : Below w.heap.size w w') : RF w' w'.heap.size A K n k f := by
  refine ⟨h.1, ?_⟩
  rcases (h.below hb).2 with e | ⟨a, e, h1, h2⟩
  · exact Or.inl e
  · exact Or.inr ⟨a, e, Nat.lt_of_lt_of_le h1 hb.size, h2⟩
/-- the two first of a row, as a walk asks for them -/
theorem RF.at0 {w : World} {B : Nat} {A : Option Addr} {K n i : Nat} {k : IntKind} {f : Nat → Nat → Int} (h : RF w B A K n k f) (hi : i < n) (hK : 0 < K) : ∃ a, A = some a ∧ a.block < B ∧ w.cell? (a.add (i * K)) = some (.int k (f i 0)) ∧ ∀ j, j + 1 < K → w.cell? ⟨(a.add (i * K)).block, (a.add (i * K)).off + (j + 1), none⟩ = some (.int k (f i (j + 1))) := by
  rcases h.2 with e | ⟨a, e, h1, h2⟩
  · omega
  · refine ⟨a, e, h1, h2 i 0 hi hK, fun j hj => ?_⟩
    have := h2 i (j + 1) hi hj
    rwa [← add_add, add_pos _ _ (by omega)] at this
theorem wf_zero (k : IntKind) : (Lit.int k 0).wf = true := by cases k <;> decide
theorem mapM_some_of {α β : Type} {f : α → Option β} {g : α → β} : ∀ {l : List α}, (∀ a ∈ l, f a = some (g a)) → l.mapM f = some (l.map g)
  | [], _ => rfl
  | a :: l, h => by
    rw [List.mapM_cons, h a (by simp), mapM_some_of (fun b hb => h b (by simp [hb]))]
    rfl
section
variable {H : Type} {enc : TypeId × Value → H} {P : Program} {W : World}
theorem open_fi {r : Reach} {b0 : Nat} {t e : TypeId} {k : IntKind} {v : Value} {d : DataW H} {p : List MemPlace} (ht : P.underlying t = some (.slice e)) (he : P.underlying e = some (.int k)) (hc : P.cellsOf e = 1)
    (hv : Value.okWide P W r b0 t v) (h : DataW.Trod enc P W 0 (fun _ => true) true t v d p) :
    ∃ (A : Option Addr) (n : Nat) (f : Nat → Int) (c : Nat), v = .slice A n c ∧ n ≤ c ∧ c ≤ maxLen ∧ (∀ i, (Lit.int k (f i)).wf = true) ∧ SF W W.heap.size A n (fun i => .int k (f i)) ∧
      ∀ (W' : World), Below W.heap.size W W' → ∀ sp : Nat → Bool, (∀ q ∈ p, sp q.block = true) → DataW.Trod enc P W' 0 sp true t v d p := by
  obtain ⟨A, len, cap, rfl⟩ := okWide_slice ht hv
  obtain ⟨fuel, hf⟩ := h
  rcases open_ints ht he hc hf with ⟨h1, h2⟩ | ⟨a, len', cap', zs, h1, hb, hl, hm, hz, hx, hcell, hw⟩
  · simp [Value.cells] at h1
    obtain ⟨rfl, rfl, rfl⟩ := h1
    simp only [Prod.mk.injEq] at h2
    obtain ⟨rfl, rfl⟩ := h2
    exact ⟨none, 0, fun _ => 0, 0, rfl, Nat.le_refl _, Nat.zero_le _, fun _ => wf_zero k, Or.inl rfl, fun W' _ sp _ => shut_slice_nil ht⟩
  · simp [Value.cells] at h1
    obtain ⟨rfl, rfl, rfl⟩ := h1
    simp only [Prod.mk.injEq] at hx
    obtain ⟨rfl, rfl⟩ := hx
    simp only [if_true] at hz
    have hlt : 0 < zs.length → a.block < W.heap.size := fun hp => by
      have e := hcell 0 hp
      rcases Nat.lt_or_ge a.block W.heap.size with h | h
      · exact h
      · have e2 : (a.add 0).block = a.block := add_block a 0
        unfold World.cell? at e
        rw [Array.getElem?_eq_none (by rw [e2]; exact h)] at e
        cases e
    refine ⟨some a, len, fun i => zs.getD i 0, cap, rfl, hl, hm, fun i => ?_, ?_, ?_⟩
    · show (Lit.int k (zs.getD i 0)).wf = true
      rcases Nat.lt_or_ge i zs.length with h1 | h1
      · rw [List.getD_eq_getElem?_getD, List.getElem?_eq_getElem h1]
        exact hw _ (List.getElem_mem h1)
      · rw [List.getD_eq_getElem?_getD, List.getElem?_eq_none h1]
        exact wf_zero k
    · by_cases h0 : len = 0
      · exact Or.inl h0
      · right
        refine ⟨a, rfl, hlt (by omega), fun i hi => ?_⟩
        have hiz : i < zs.length := by omega
        exact hcell i hiz
    · intro W' hB sp hsp
      refine ⟨0 + 2, ?_⟩
      have hz' : zs.length = (if sp a.block then cap else len) := by
        by_cases hp : 0 < zs.length
        · have : sp a.block = true := hsp (.cell a.block (a.off + 0)) (List.mem_map.2 ⟨0, List.mem_range.2 hp, rfl⟩)
          rw [if_pos this]; exact hz
        · split <;> omega
      exact shut_ints 0 ht he hc hb hl hm hz' (fun i hi => by rw [hB.cell (by rw [add_block]; exact hlt (by omega))]; exact hcell i hi) hw
theorem cells_belowR {W W' : World} {b : Nat} {p : Addr} {n : Nat} (hB : Below W.heap.size W W') (hp : p.block < W.heap.size) : W'.cells? b p n = W.cells? b p n := by
  unfold World.cells?
  congr 1
  refine congrArg (fun f => (List.range n).mapM f) (funext fun i => ?_)
  exact hB.cell (by rw [add_block]; exact hp)
theorem open_fb {r : Reach} {b0 : Nat} {t e : TypeId} {v : Value} {d : DataW H} {p : List MemPlace} (ht : P.underlying t = some (.slice e)) (he : P.underlying e = some .bool) (hc : P.cellsOf e = 1)
    (hv : Value.okWide P W r b0 t v) (h : DataW.Trod enc P W 0 (fun _ => true) true t v d p) :
    ∃ (A : Option Addr) (n : Nat) (f : Nat → Bool) (c : Nat), v = .slice A n c ∧ n ≤ c ∧ c ≤ maxLen ∧ SF W W.heap.size A n (bF f) ∧
      ∀ (W' : World), Below W.heap.size W W' → ∀ sp : Nat → Bool, (∀ q ∈ p, sp q.block = true) → DataW.Trod enc P W' 0 sp true t v d p := by
  obtain ⟨A, len, cap, rfl⟩ := okWide_slice ht hv
  obtain ⟨fuel, hf⟩ := h
  rcases open_slice ht hf with ⟨h1, h2⟩ | ⟨a, len', cap', m, n, D, Pl, h1, hb, hl, hm, hmm, hx, hel⟩
  · simp [Value.cells] at h1
    obtain ⟨rfl, rfl, rfl⟩ := h1
    simp only [Prod.mk.injEq] at h2
    obtain ⟨rfl, rfl⟩ := h2
    exact ⟨none, 0, fun _ => false, 0, rfl, Nat.le_refl _, Nat.zero_le _, Or.inl rfl, fun W' _ sp _ => shut_slice_nil ht⟩
  · simp [Value.cells] at h1
    obtain ⟨rfl, rfl, rfl⟩ := h1
    simp only [if_true] at hmm
    subst hmm
    simp only [Prod.mk.injEq] at hx
    obtain ⟨rfl, rfl⟩ := hx
    rw [hc] at hel
    have each : ∀ i, i < m → ∃ q : Bool, W.cells? 0 (a.add (i * 1)) 1 = some [.bool q] ∧ D i = .lit (.bool q) ∧ Pl i = [] := by
      intro i hi
      obtain ⟨cs', g1, g2⟩ := hel i hi
      obtain ⟨b, e1, e2⟩ := DataW.trod_bool he g2
      simp only [Prod.mk.injEq] at e2
      exact ⟨b, by rw [g1, e1], e2.1, e2.2⟩
    obtain ⟨q, hq⟩ := choose_lt each
    have hcell : ∀ i, i < m → W.cell? (a.add i) = some (.bool (q i)) := fun i hi => by
      obtain ⟨_, _, hc⟩ := World.cells?_some (hq i hi).1
      have e0 := hc 0 (by decide)
      rw [add_add] at e0
      simpa using e0
    have hlt : 0 < m → a.block < W.heap.size := fun hp => by
      have := World.block_lt_of_cell? W _ (hcell 0 hp)
      rwa [add_block] at this
    refine ⟨some a, len, q, m, rfl, hl, hm, ?_, ?_⟩
    · by_cases h0 : len = 0
      · exact Or.inl h0
      · exact Or.inr ⟨a, rfl, hlt (by omega), fun i hi => hcell i (by omega)⟩
    · intro W' hB sp hsp
      have hel' : ∀ i, i < m → ∃ cs n, W'.cells? 0 (a.add (i * P.cellsOf e)) (P.cellsOf e) = some cs ∧ DataW.trod enc P W' 0 sp true n e cs = some (D i, Pl i) := fun i hi => by
        obtain ⟨g1, g2, g3⟩ := hq i hi
        have hbk : (a.add (i * 1)).block < W.heap.size := by rw [add_block]; exact hlt (by omega)
        refine ⟨[.bool (q i)], 1, ?_, ?_⟩
        · rw [hc, cells_belowR hB hbk]; exact g1
        · rw [g2, g3]; simp [DataW.trod, he]
      by_cases hp : 0 < m
      · have hs : sp a.block = true := hsp (.cell a.block (a.off + 0)) (List.mem_append_left _ (List.mem_map.2 ⟨0, List.mem_range.2 (by rw [hc]; omega), rfl⟩))
        obtain ⟨nn, hn⟩ := shut_slice_whole_cells (enc := enc) (w := W') (base := 0) (spare := sp) (held := true) ht hb hl hm hs D Pl hel'
        exact ⟨nn, hn⟩
      · have hm0 : m = 0 := by omega
        subst hm0
        have hl0 : len = 0 := by omega
        subst hl0
        cases hs : sp a.block
        · obtain ⟨nn, hn⟩ := shut_slice_cells (enc := enc) (w := W') (base := 0) (spare := sp) (held := true) ht hb (Nat.le_refl 0) hm hs D Pl (fun i hi => absurd hi (Nat.not_lt_zero _))
          exact ⟨nn, hn⟩
        · obtain ⟨nn, hn⟩ := shut_slice_whole_cells (enc := enc) (w := W') (base := 0) (spare := sp) (held := true) ht hb (Nat.le_refl 0) hm hs D Pl hel'
          exact ⟨nn, hn⟩
/-- a row of K whole numbers read as data -/
theorem at_row {r : Nat → Bool} {n K : Nat} {e k : TypeId} {κ : IntKind} {cs : List Value} {y : DataW H × List MemPlace} (he : P.underlying e = some (.array K k)) (hk : P.underlying k = some (.int κ)) (hck : P.cellsOf k = 1) (hce : P.cellsOf e = K) (h : DataW.trod enc P W 0 r true n e cs = some y) :
    ∃ x : Nat → Int, cs = (List.range K).map (fun j => .int κ (x j)) ∧ (∀ j, (Lit.int κ (x j)).wf = true) ∧ y = (.agg ((List.range K).map fun j => .lit (.int κ (x j))), []) := by
  obtain ⟨xs, m, rfl, hx, hlen, hxl, hel⟩ := DataW.trod_array he h
  rw [hck] at hel
  rw [hce] at hlen
  have each : ∀ j, j < K → ∃ z : Int, cs[j]? = some (.int κ z) ∧ (Lit.int κ z).wf = true ∧ xs[j]? = some (.lit (.int κ z), []) := fun j hj => by
    have h1 := hel j hj
    have hxj : xs[j]? = some (xs[j]'(by omega)) := List.getElem?_eq_getElem _
    rw [hxj] at h1
    obtain ⟨z, e1, e2, w0⟩ := DataW.trod_int hk h1
    refine ⟨z, ?_, w0, by rw [hxj, e2]⟩
    rw [Nat.mul_one] at e1
    have h2 : ((cs.drop j).take 1)[0]? = some (.int κ z) := by rw [e1]; rfl
    rw [List.getElem?_take, if_pos (by omega), List.getElem?_drop] at h2
    simpa using h2
  obtain ⟨q, hq⟩ := choose_lt each
  refine ⟨fun j => if j < K then q j else 0, ?_, fun j => ?_, ?_⟩
  · apply List.ext_getElem?
    intro j
    rw [List.getElem?_map]
    rcases Nat.lt_or_ge j K with hj | hj
    · rw [(hq j hj).1, List.getElem?_range hj]
      simp [hj]
    · rw [List.getElem?_eq_none (by omega), List.getElem?_eq_none (by simp; exact hj)]
      rfl
  · dsimp only
    split
    · rename_i hj; exact (hq j hj).2.1
    · exact wf_zero κ
  · have hxs : xs = (List.range K).map fun j => (DataW.lit (.int κ (if j < K then q j else 0)), []) := by
      apply List.ext_getElem?
      intro j
      rw [List.getElem?_map]
      rcases Nat.lt_or_ge j K with hj | hj
      · rw [(hq j hj).2.2, List.getElem?_range hj]
        simp [hj]
      · rw [List.getElem?_eq_none (by omega), List.getElem?_eq_none (by simp; exact hj)]
        rfl
    rw [hx, hxs]
    simp [List.map_map, Function.comp_def]
theorem trod_row {W' : World} {b : Nat} {sp : Nat → Bool} {hd : Bool} {K : Nat} {e k : TypeId} {κ : IntKind} {x : Nat → Int} (he : P.underlying e = some (.array K k)) (hk : P.underlying k = some (.int κ)) (hce : P.cellsOf e = K) (hck : P.cellsOf k = 1)
    (hw : ∀ j, (Lit.int κ (x j)).wf = true) :
    DataW.trod enc P W' b sp hd 2 e ((List.range K).map fun j => .int κ (x j)) = some (.agg ((List.range K).map fun j => .lit (.int κ (x j))), []) := by
  have hm : ((List.range K).mapM fun i => DataW.trod enc P W' b sp hd 1 k ((((List.range K).map fun j => Value.int κ (x j)).drop (i * 1)).take 1)) = some ((List.range K).map fun i => (DataW.lit (.int κ (x i)), ([] : List MemPlace))) := mapM_some_of fun i hi => by
    have hi := List.mem_range.1 hi
    have e1 : (((List.range K).map fun j => Value.int κ (x j)).drop (i * 1)).take 1 = [.int κ (x i)] := by
      apply List.ext_getElem?
      intro j
      rw [List.getElem?_take, List.getElem?_drop, Nat.mul_one]
      cases j with
      | zero => simp [hi]
      | succ j => simp
    rw [e1]
    simp [DataW.trod, hk, hw]
  unfold DataW.trod
  rw [he]
  simp only [List.length_map, List.length_range, hce, hck, if_true, hm]
  simp [List.map_map, Function.comp_def]
theorem open_rf {r : Reach} {b0 : Nat} {t e k : TypeId} {K : Nat} {κ : IntKind} {v : Value} {d : DataW H} {p : List MemPlace} (ht : P.underlying t = some (.slice e)) (he : P.underlying e = some (.array K k)) (hk : P.underlying k = some (.int κ)) (hce : P.cellsOf e = K) (hck : P.cellsOf k = 1) (hK : 0 < K)
    (hv : Value.okWide P W r b0 t v) (h : DataW.Trod enc P W 0 (fun _ => true) true t v d p) :
    ∃ (A : Option Addr) (n : Nat) (f : Nat → Nat → Int) (c : Nat), v = .slice A n c ∧ n ≤ c ∧ c ≤ maxLen ∧ RF W W.heap.size A K n κ f ∧
      ∀ (W' : World), Below W.heap.size W W' → ∀ sp : Nat → Bool, (∀ q ∈ p, sp q.block = true) → DataW.Trod enc P W' 0 sp true t v d p := by
  obtain ⟨A, len, cap, rfl⟩ := okWide_slice ht hv
  obtain ⟨fuel, hf⟩ := h
  rcases open_slice ht hf with ⟨h1, h2⟩ | ⟨a, len', cap', m, n, D, Pl, h1, hb, hl, hm, hmm, hx, hel⟩
  · simp [Value.cells] at h1
    obtain ⟨rfl, rfl, rfl⟩ := h1
    simp only [Prod.mk.injEq] at h2
    obtain ⟨rfl, rfl⟩ := h2
    exact ⟨none, 0, fun _ _ => 0, 0, rfl, Nat.le_refl _, Nat.zero_le _, ⟨fun _ _ => wf_zero κ, Or.inl rfl⟩, fun W' _ sp _ => shut_slice_nil ht⟩
  · simp [Value.cells] at h1
    obtain ⟨rfl, rfl, rfl⟩ := h1
    simp only [if_true] at hmm
    subst hmm
    simp only [Prod.mk.injEq] at hx
    obtain ⟨rfl, rfl⟩ := hx
    rw [hce] at hel
    have each : ∀ i, i < m → ∃ x : Nat → Int, W.cells? 0 (a.add (i * K)) K = some ((List.range K).map fun j => .int κ (x j)) ∧ (∀ j, (Lit.int κ (x j)).wf = true) ∧ D i = .agg ((List.range K).map fun j => .lit (.int κ (x j))) ∧ Pl i = [] := by
      intro i hi
      obtain ⟨cs', g1, g2⟩ := hel i hi
      obtain ⟨x, rfl, hw, hy⟩ := at_row he hk hck hce g2
      simp only [Prod.mk.injEq] at hy
      exact ⟨x, g1, hw, hy.1, hy.2⟩
    obtain ⟨q, hq⟩ := choose_lt each
    have hcell : ∀ i j, i < m → j < K → W.cell? (a.add (i * K + j)) = some (.int κ (q i j)) := fun i j hi hj => by
      obtain ⟨_, hl2, hc⟩ := World.cells?_some (hq i hi).1
      have e0 := hc j hj
      rw [add_add, List.getElem?_map, List.getElem?_range hj] at e0
      exact e0
    have hlt : 0 < m → a.block < W.heap.size := fun hp => by
      have := World.block_lt_of_cell? W _ (hcell 0 0 hp hK)
      rwa [add_block] at this
    refine ⟨some a, len, fun i j => if i < m then q i j else 0, m, rfl, hl, hm, ⟨fun i j => ?_, ?_⟩, ?_⟩
    · show (Lit.int κ (if i < m then q i j else 0)).wf = true
      split
      · rename_i hi; exact (hq i hi).2.1 j
      · exact wf_zero κ
    · by_cases h0 : len = 0
      · exact Or.inl h0
      · exact Or.inr ⟨a, rfl, hlt (by omega), fun i j hi hj => by
          show _ = some (Value.int κ (if i < m then q i j else 0))
          rw [hcell i j (by omega) hj, if_pos (show i < m by omega)]⟩
    · intro W' hB sp hsp
      have hel' : ∀ i, i < m → ∃ cs n, W'.cells? 0 (a.add (i * P.cellsOf e)) (P.cellsOf e) = some cs ∧ DataW.trod enc P W' 0 sp true n e cs = some (D i, Pl i) := fun i hi => by
        obtain ⟨g1, gw, g2, g3⟩ := hq i hi
        have hbk : (a.add (i * K)).block < W.heap.size := by rw [add_block]; exact hlt (by omega)
        refine ⟨(List.range K).map fun j => .int κ (q i j), 2, ?_, ?_⟩
        · rw [hce, cells_belowR hB hbk]; exact g1
        · rw [g2, g3]; exact trod_row he hk hce hck gw
      by_cases hp : 0 < m
      · have hs : sp a.block = true := hsp (.cell a.block (a.off + 0)) (List.mem_append_left _ (List.mem_map.2 ⟨0, List.mem_range.2 (by rw [hce]; exact Nat.mul_pos hp hK), rfl⟩))
        obtain ⟨nn, hn⟩ := shut_slice_whole_cells (enc := enc) (w := W') (base := 0) (spare := sp) (held := true) ht hb hl hm hs D Pl hel'
        exact ⟨nn, hn⟩
      · have hm0 : m = 0 := by omega
        subst hm0
        have hl0 : len = 0 := by omega
        subst hl0
        cases hs : sp a.block
        · obtain ⟨nn, hn⟩ := shut_slice_cells (enc := enc) (w := W') (base := 0) (spare := sp) (held := true) ht hb (Nat.le_refl 0) hm hs D Pl (fun i hi => absurd hi (Nat.not_lt_zero _))
          exact ⟨nn, hn⟩
        · obtain ⟨nn, hn⟩ := shut_slice_whole_cells (enc := enc) (w := W') (base := 0) (spare := sp) (held := true) ht hb (Nat.le_refl 0) hm hs D Pl hel'
          exact ⟨nn, hn⟩
end
end Go.Proofs.Ytmmpcgmhcaianaa.We
