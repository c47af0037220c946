/- Slices of slices of 16-bit numbers: how they are read as lists of lists, opened among the arguments, and read again behind a call that leaves old memory alone. -/
import Derived.Test.YtpanmjohmgjigaaSi
import Derived.Test.YtpanmjohmgjigaaAg
import Derived.Test.YtpanmjohmgjigaaSq
import Derived.Test.YtpanmjohmgjigaaWy
import Derived.Deep.Slices
namespace Go.Proofs.Ytpanmjohmgjigaa
open Go.ChangeShapes Go.WideShapes Go.ChangeAt Go.RowKit Go.Deep

/-- the slice with address A holds the rows ws, all in blocks below B -/
def Sw (w : World) (B : Nat) (A : Option Addr) (ws : List (List Nat)) : Prop :=
  ws = [] ∨ ∃ a, A = some a ∧ a.block < B ∧ ∀ i (h : i < ws.length), ∃ D c, w.cell? (a.add i) = some (.slice D ws[i].length c) ∧ ws[i].length ≤ c ∧ Sl w B D ws[i]
theorem Sw.nil (w : World) (B : Nat) (A : Option Addr) : Sw w B A [] := Or.inl rfl
theorem Sw.keep {w w' : World} {B : Nat} {A : Option Addr} {ws : List (List Nat)} (h : Sw w B A ws) (hk : ∀ p : Addr, p.block < B → w'.cell? p = w.cell? p) : Sw w' B A ws := by
  rcases h with e | ⟨a, e, h1, h2⟩
  · exact Or.inl e
  · refine Or.inr ⟨a, e, h1, fun i hi => ?_⟩
    obtain ⟨D, c, g1, g2, g3⟩ := h2 i hi
    exact ⟨D, c, (hk _ (by rw [add_block]; exact h1)).trans g1, g2, g3.keep hk⟩
theorem Sw.more {w : World} {B B' : Nat} {A : Option Addr} {ws : List (List Nat)} (h : Sw w B A ws) (hB : B ≤ B') : Sw w B' A ws := by
  rcases h with e | ⟨a, e, h1, h2⟩
  · exact Or.inl e
  · refine Or.inr ⟨a, e, by omega, fun i hi => ?_⟩
    obtain ⟨D, c, g1, g2, g3⟩ := h2 i hi
    exact ⟨D, c, g1, g2, g3.more hB⟩
theorem Sw.below {w w' : World} {B : Nat} {A : Option Addr} {ws : List (List Nat)} (h : Sw w B A ws) (hb : Below B w w') : Sw w' B A ws := h.keep fun _ hp => hb.cell hp
theorem Sw.far {w w' : World} {A : Option Addr} {ws : List (List Nat)} (h : Sw w w.heap.size A ws) (hb : Below w.heap.size w w') : Sw w' w'.heap.size A ws := (h.below hb).more hb.size
theorem Sw.drawn {w wr : World} {B : Nat} {A : Option Addr} {ws : List (List Nat)} (h : Sw w B A ws) (hd : Drawn w wr) : Sw wr B A ws := by
  obtain ⟨n, rfl⟩ := hd; exact h
theorem Sw.at_ {w : World} {B : Nat} {A : Option Addr} {ws : List (List Nat)} {i : Nat} (h : Sw w B A ws) (hi : i < ws.length) :
    ∃ a D c, A = some a ∧ a.block < B ∧ w.cell? (a.add i) = some (.slice D ws[i].length c) ∧ ws[i].length ≤ c ∧ Sl w B D ws[i] := by
  rcases h with e | ⟨a, e, h1, h2⟩
  · rw [e] at hi; exact absurd hi (by simp)
  · obtain ⟨D, c, g⟩ := h2 i hi
    exact ⟨a, D, c, e, h1, g⟩
section
variable {H : Type} {enc : TypeId × Value → H} {P : Program} {W : World}
theorem open_slc {t e : TypeId} {c : Value} {fuel : Nat} {d : DataW H} {p : List MemPlace} (ht : P.underlying t = some (.slice e)) (he : P.underlying e = some (.int .u16)) (hc : P.cellsOf e = 1)
    (hf : DataW.trod enc P W 0 (fun _ => true) true fuel t [c] = some (d, p)) :
    ∃ (A : Option Addr) (xs : List Nat) (n : Nat), c = .slice A xs.length n ∧ xs.length ≤ n ∧ n ≤ maxLen ∧ Sl W W.heap.size A xs ∧
      ∀ (W' : World), Below W.heap.size W W' → ∀ sp : Nat → Bool, (∀ q ∈ p, sp q.block = true) → ∃ m, DataW.trod enc P W' 0 sp true m t [c] = some (d, p) := by
  rcases open_ints ht he hc hf with ⟨h1, h2⟩ | ⟨a, len', cap', zs, h1, hb, hl, hm, hz, hx, hcell, hw⟩
  · simp at h1
    subst h1
    simp only [Prod.mk.injEq] at h2
    obtain ⟨rfl, rfl⟩ := h2
    exact ⟨none, [], 0, rfl, Nat.le_refl _, Nat.zero_le _, Sl.nil _ _ _, fun W' _ sp _ => (shut_slice_nil ht : DataW.Trod enc P W' 0 sp true t (.slice none 0 0) .nil [])⟩
  · simp at h1
    subst h1
    simp only [Prod.mk.injEq] at hx
    obtain ⟨rfl, rfl⟩ := hx
    simp only [if_true] at hz
    have hlen : ((zs.take len').map Int.toNat).length = len' := by simp; omega
    have hrange : ∀ i, i < zs.length → 0 ≤ zs.getD i 0 ∧ zs.getD i 0 < 65536 := fun i hi => by
      have : zs.getD i 0 = zs[i] := by simp [List.getD, hi]
      rw [this]; exact u16_range (hw _ (List.getElem_mem hi))
    have hlt : 0 < zs.length → a.block < W.heap.size := fun hp => by
      have e := hcell 0 hp
      rcases Nat.lt_or_ge a.block W.heap.size with h | h
      · exact h
      · have e2 : (a.add 0).block = a.block := add_block a 0
        unfold World.cell? at e
        rw [Array.getElem?_eq_none (by rw [e2]; exact h)] at e
        cases e
    refine ⟨some a, (zs.take len').map Int.toNat, cap', by rw [hlen], by rw [hlen]; exact hl, hm, ⟨?_, ?_⟩, ?_⟩
    · intro x hx
      obtain ⟨n, hn, rfl⟩ := List.mem_map.1 hx
      have := u16_range (hw n (List.mem_of_mem_take hn))
      omega
    · by_cases h0 : len' = 0
      · left; subst h0; simp
      · right
        refine ⟨a, rfl, hlt (by omega), fun i hi => ?_⟩
        rw [hlen] at hi
        have hiz : i < zs.length := by omega
        rw [hcell i hiz]
        have hr := hrange i hiz
        have e1 : zs.getD i 0 = zs[i] := by simp [List.getD, hiz]
        rw [e1] at hr ⊢
        simp only [uv, List.getElem_map, List.getElem_take]
        rw [Int.toNat_of_nonneg hr.1]
    · intro W' hB sp hsp
      refine ⟨0 + 2, ?_⟩
      have hz' : zs.length = (if sp a.block then cap' else len') := by
        by_cases hp : 0 < zs.length
        · have : sp a.block = true := hsp (.cell a.block (a.off + 0)) (List.mem_map.2 ⟨0, List.mem_range.2 hp, rfl⟩)
          rw [if_pos this]; exact hz
        · split <;> omega
      exact shut_ints 0 ht he hc hb hl hm hz' (fun i hi => by rw [hB.cell (by rw [add_block]; exact hlt (by omega))]; exact hcell i hi) hw
theorem open_slw {r : Reach} {b0 : Nat} {t e k : TypeId} {v : Value} {d : DataW H} {p : List MemPlace} (ht : P.underlying t = some (.slice e)) (he : P.underlying e = some (.slice k)) (hk : P.underlying k = some (.int .u16)) (hce : P.cellsOf e = 1) (hck : P.cellsOf k = 1)
    (hv : Value.okWide P W r b0 t v) (h : DataW.Trod enc P W 0 (fun _ => true) true t v d p) :
    ∃ (A : Option Addr) (ws : List (List Nat)) (c : Nat), v = .slice A ws.length c ∧ ws.length ≤ c ∧ c ≤ maxLen ∧ Sw W W.heap.size A ws ∧ (∀ x ∈ ws, x.length ≤ maxLen) ∧
      ∀ (W' : World), Below W.heap.size W W' → ∀ sp : Nat → Bool, (∀ q ∈ p, sp q.block = true) → DataW.Trod enc P W' 0 sp true t v d p := by
  obtain ⟨A, len, cap, rfl⟩ := okWide_slice ht hv
  obtain ⟨fuel, hf⟩ := h
  rcases open_slice ht hf with ⟨h1, h2⟩ | ⟨a, len', cap', m, n, D, Pl, h1, hb, hl, hm, hmm, hx, hel⟩
  · simp [Value.cells] at h1
    obtain ⟨rfl, rfl, rfl⟩ := h1
    simp only [Prod.mk.injEq] at h2
    obtain ⟨rfl, rfl⟩ := h2
    exact ⟨none, [], 0, rfl, Nat.le_refl _, Nat.zero_le _, Sw.nil _ _ _, by simp, fun W' _ sp _ => shut_slice_nil ht⟩
  · simp [Value.cells] at h1
    obtain ⟨rfl, rfl, rfl⟩ := h1
    simp only [if_true] at hmm
    subst hmm
    simp only [Prod.mk.injEq] at hx
    obtain ⟨rfl, rfl⟩ := hx
    rw [hce] at hel
    have each : ∀ i, i < m → ∃ q : Option Addr × List Nat × Nat, W.cell? (a.add i) = some (.slice q.1 q.2.1.length q.2.2) ∧ q.2.1.length ≤ q.2.2 ∧ q.2.2 ≤ maxLen ∧ Sl W W.heap.size q.1 q.2.1 ∧
        ∀ (W' : World), Below W.heap.size W W' → ∀ sp : Nat → Bool, (∀ z ∈ Pl i, sp z.block = true) → ∃ m, DataW.trod enc P W' 0 sp true m e [.slice q.1 q.2.1.length q.2.2] = some (D i, Pl i) := by
      intro i hi
      obtain ⟨cs', g1, g2⟩ := hel i hi
      rw [Nat.mul_one] at g1
      obtain ⟨_, hlen, _⟩ := World.cells?_some g1
      match cs', hlen with
      | [c0], _ =>
        obtain ⟨A0, xs, n0, rfl, k1, k2, k3, k4⟩ := open_slc he hk hck g2
        exact ⟨(A0, xs, n0), cell_of_cells?_one g1, k1, k2, k3, k4⟩
    obtain ⟨q, hq⟩ := choose_lt each
    have hlt : 0 < m → a.block < W.heap.size := fun hp => by
      have := World.block_lt_of_cell? W _ (hq 0 hp).1
      rwa [add_block] at this
    have hlen : ((List.range len).map fun i => (q i).2.1).length = len := by simp
    refine ⟨some a, (List.range len).map fun i => (q i).2.1, m, by rw [hlen], by rw [hlen]; exact hl, hm, ?_, ?_, ?_⟩
    · by_cases h0 : len = 0
      · left; subst h0; rfl
      · right
        refine ⟨a, rfl, hlt (by omega), fun i hi => ?_⟩
        rw [hlen] at hi
        obtain ⟨g1, g2, g3, g4, _⟩ := hq i (by omega)
        simp only [List.getElem_map, List.getElem_range]
        exact ⟨_, _, g1, g2, g4⟩
    · intro x hx
      obtain ⟨i, hi, rfl⟩ := List.mem_map.1 hx
      have hi' := List.mem_range.1 hi
      obtain ⟨_, g2, g3, _⟩ := hq i (by omega)
      omega
    · intro W' hB sp hsp
      have hel' : ∀ i, i < m → ∃ cs n, W'.cells? 0 (a.add (i * P.cellsOf e)) (P.cellsOf e) = some cs ∧ DataW.trod enc P W' 0 sp true n e cs = some (D i, Pl i) := fun i hi => by
        obtain ⟨g1, _, _, _, g5⟩ := hq i hi
        have hbk : (a.add i).block < W.heap.size := by rw [add_block]; exact hlt (by omega)
        obtain ⟨mm, hmm⟩ := g5 W' hB sp (fun z hz => hsp z (List.mem_append_right _ (List.mem_flatMap.2 ⟨i, List.mem_range.2 hi, hz⟩)))
        refine ⟨_, mm, ?_, hmm⟩
        rw [hce, Nat.mul_one]
        exact cells?_one (Nat.zero_le _) ((hB.cell hbk).trans g1)
      by_cases hp : 0 < m
      · have hs : sp a.block = true := hsp (.cell a.block (a.off + 0)) (List.mem_append_left _ (List.mem_map.2 ⟨0, List.mem_range.2 (by rw [hce]; omega), rfl⟩))
        obtain ⟨nn, hn⟩ := shut_slice_whole_cells (enc := enc) (w := W') (base := 0) (spare := sp) (held := true) ht hb hl hm hs D Pl hel'
        exact ⟨nn, hn⟩
      · have hm0 : m = 0 := by omega
        subst hm0
        have hl0 : len = 0 := by omega
        subst hl0
        cases hs : sp a.block
        · obtain ⟨nn, hn⟩ := shut_slice_cells (enc := enc) (w := W') (base := 0) (spare := sp) (held := true) ht hb (Nat.le_refl 0) hm hs D Pl (fun i hi => absurd hi (Nat.not_lt_zero _))
          exact ⟨nn, hn⟩
        · obtain ⟨nn, hn⟩ := shut_slice_whole_cells (enc := enc) (w := W') (base := 0) (spare := sp) (held := true) ht hb (Nat.le_refl 0) hm hs D Pl hel'
          exact ⟨nn, hn⟩
end
end Go.Proofs.Ytpanmjohmgjigaa
