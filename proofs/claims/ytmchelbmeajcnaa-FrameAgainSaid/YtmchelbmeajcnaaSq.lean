/- A slice of 16-bit numbers among the arguments: how it is read as data, and read again behind a call that leaves old memory alone. -/
import Derived.Test.YtmchelbmeajcnaaSl
import Derived.ProofKit
import Derived.OpenShut
namespace Go.Proofs.Ytmchelbmeajcnaa
open Go.ChangeShapes Go.WideShapes Go.ChangeAt Go.RowKit
theorem u16_range {a : Int} (h : (Lit.int .u16 a).wf = true) : 0 ≤ a ∧ a < 65536 := by
  simp [Lit.wf, IntKind.min, IntKind.max, IntKind.signed, IntKind.bits] at h; omega
section
variable {H : Type} {enc : TypeId × Value → H} {P : Program} {W : World}
theorem open_sl {r : Reach} {b0 : Nat} {t e : TypeId} {v : Value} {d : DataW H} {p : List MemPlace} (ht : P.underlying t = some (.slice e)) (he : P.underlying e = some (.int .u16)) (hc : P.cellsOf e = 1)
    (hv : Value.okWide P W r b0 t v) (h : DataW.Trod enc P W 0 (fun _ => true) true t v d p) :
    ∃ (A : Option Addr) (xs : List Nat) (c : Nat), v = .slice A xs.length c ∧ xs.length ≤ c ∧ c ≤ maxLen ∧ Sl W W.heap.size A xs ∧
      ∀ (W' : World), Below W.heap.size W W' → ∀ sp : Nat → Bool, (∀ q ∈ p, sp q.block = true) → DataW.Trod enc P W' 0 sp true t v d p := by
  obtain ⟨A, len, cap, rfl⟩ := okWide_slice ht hv
  obtain ⟨fuel, hf⟩ := h
  rcases open_ints ht he hc hf with ⟨h1, h2⟩ | ⟨a, len', cap', zs, h1, hb, hl, hm, hz, hx, hcell, hw⟩
  · simp [Value.cells] at h1
    obtain ⟨rfl, rfl, rfl⟩ := h1
    simp only [Prod.mk.injEq] at h2
    obtain ⟨rfl, rfl⟩ := h2
    exact ⟨none, [], 0, rfl, Nat.le_refl _, Nat.zero_le _, Sl.nil _ _ _, fun W' _ sp _ => shut_slice_nil ht⟩
  · simp [Value.cells] at h1
    obtain ⟨rfl, rfl, rfl⟩ := h1
    simp only [Prod.mk.injEq] at hx
    obtain ⟨rfl, rfl⟩ := hx
    simp only [if_true] at hz
    have hlen : ((zs.take len).map Int.toNat).length = len := by simp; omega
    have hrange : ∀ i, i < zs.length → 0 ≤ zs.getD i 0 ∧ zs.getD i 0 < 65536 := fun i hi => by
      have : zs.getD i 0 = zs[i] := by simp [List.getD, hi]
      rw [this]; exact u16_range (hw _ (List.getElem_mem hi))
    have hlt : 0 < zs.length → a.block < W.heap.size := fun hp => by
      have e := hcell 0 hp
      rcases Nat.lt_or_ge a.block W.heap.size with h | h
      · exact h
      · have e2 : (a.add 0).block = a.block := add_block a 0
        unfold World.cell? at e
        rw [Array.getElem?_eq_none (by rw [e2]; exact h)] at e
        cases e
    refine ⟨some a, (zs.take len).map Int.toNat, cap, by rw [hlen], by rw [hlen]; exact hl, hm, ⟨?_, ?_⟩, ?_⟩
    · intro x hx
      obtain ⟨n, hn, rfl⟩ := List.mem_map.1 hx
      have := u16_range (hw n (List.mem_of_mem_take hn))
      omega
    · by_cases h0 : len = 0
      · left; subst h0; simp
      · right
        refine ⟨a, rfl, hlt (by omega), fun i hi => ?_⟩
        rw [hlen] at hi
        have hiz : i < zs.length := by omega
        rw [hcell i hiz]
        have hr := hrange i hiz
        have e1 : zs.getD i 0 = zs[i] := by simp [List.getD, hiz]
        rw [e1] at hr ⊢
        simp only [uv, List.getElem_map, List.getElem_take]
        rw [Int.toNat_of_nonneg hr.1]
    · intro W' hB sp hsp
      refine ⟨0 + 2, ?_⟩
      have hz' : zs.length = (if sp a.block then cap else len) := by
        by_cases hp : 0 < zs.length
        · have : sp a.block = true := hsp (.cell a.block (a.off + 0)) (List.mem_map.2 ⟨0, List.mem_range.2 hp, rfl⟩)
          rw [if_pos this]; exact hz
        · split <;> omega
      exact shut_ints 0 ht he hc hb hl hm hz' (fun i hi => by rw [hB.cell (by rw [add_block]; exact hlt (by omega))]; exact hcell i hi) hw
end
end Go.Proofs.Ytmchelbmeajcnaa
