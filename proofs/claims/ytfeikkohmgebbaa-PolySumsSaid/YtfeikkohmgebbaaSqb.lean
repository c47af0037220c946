/- Two slices of 16-bit numbers in an array among the arguments: how it is read as data, and read again behind a call that leaves old memory alone. -/
import Derived.Test.YtfeikkohmgebbaaSq
import Derived.Test.YtfeikkohmgebbaaArr
import Derived.ProofKit
import Derived.OpenShut
namespace Go.Proofs.Ytfeikkohmgebbaa
open Go.ChangeShapes Go.WideShapes Go.ChangeAt Go.RowKit
section
variable {H : Type} {enc : TypeId × Value → H} {P : Program} {W : World}
theorem open_slf {t e : TypeId} {fuel : Nat} {c0 : Value} {d : DataW H} {p : List MemPlace} (ht : P.underlying t = some (.slice e)) (he : P.underlying e = some (.int .u16)) (hc : P.cellsOf e = 1)
    (hf : DataW.trod enc P W 0 (fun _ => true) true fuel t [c0] = some (d, p)) :
    ∃ (A : Option Addr) (xs : List Nat) (c : Nat), c0 = .slice A xs.length c ∧ xs.length ≤ c ∧ c ≤ maxLen ∧ Sl W W.heap.size A xs ∧
      ∀ (W' : World), Below W.heap.size W W' → ∀ sp : Nat → Bool, (∀ q ∈ p, sp q.block = true) → ∀ m, DataW.trod enc P W' 0 sp true (m + 2) t [c0] = some (d, p) := by
  rcases open_ints ht he hc hf with ⟨h1, h2⟩ | ⟨a, len, cap, zs, h1, hb, hl, hm, hz, hx, hcell, hw⟩
  · simp at h1
    subst h1
    simp only [Prod.mk.injEq] at h2
    obtain ⟨rfl, rfl⟩ := h2
    refine ⟨none, [], 0, rfl, Nat.le_refl _, Nat.zero_le _, Sl.nil _ _ _, fun W' _ sp _ m => ?_⟩
    unfold DataW.trod
    rw [ht]
    rfl
  · simp at h1
    subst h1
    simp only [Prod.mk.injEq] at hx
    obtain ⟨rfl, rfl⟩ := hx
    simp only [if_true] at hz
    have hlen : ((zs.take len).map Int.toNat).length = len := by simp; omega
    have hrange : ∀ i, i < zs.length → 0 ≤ zs.getD i 0 ∧ zs.getD i 0 < 65536 := fun i hi => by
      have : zs.getD i 0 = zs[i] := by simp [List.getD, hi]
      rw [this]; exact u16_range (hw _ (List.getElem_mem hi))
    have hlt : 0 < zs.length → a.block < W.heap.size := fun hp => by
      have e := hcell 0 hp
      rcases Nat.lt_or_ge a.block W.heap.size with h | h
      · exact h
      · have e2 : (a.add 0).block = a.block := add_block a 0
        unfold World.cell? at e
        rw [Array.getElem?_eq_none (by rw [e2]; exact h)] at e
        cases e
    refine ⟨some a, (zs.take len).map Int.toNat, cap, by rw [hlen], by rw [hlen]; exact hl, hm, ⟨?_, ?_⟩, ?_⟩
    · intro x hx
      obtain ⟨n, hn, rfl⟩ := List.mem_map.1 hx
      have := u16_range (hw n (List.mem_of_mem_take hn))
      omega
    · by_cases h0 : len = 0
      · left; subst h0; simp
      · right
        refine ⟨a, rfl, hlt (by omega), fun i hi => ?_⟩
        rw [hlen] at hi
        have hiz : i < zs.length := by omega
        rw [hcell i hiz]
        have hr := hrange i hiz
        have e1 : zs.getD i 0 = zs[i] := by simp [List.getD, hiz]
        rw [e1] at hr ⊢
        simp only [uv, List.getElem_map, List.getElem_take]
        rw [Int.toNat_of_nonneg hr.1]
    · intro W' hB sp hsp m
      have hz' : zs.length = (if sp a.block then cap else len) := by
        by_cases hp : 0 < zs.length
        · have : sp a.block = true := hsp (.cell a.block (a.off + 0)) (List.mem_map.2 ⟨0, List.mem_range.2 hp, rfl⟩)
          rw [if_pos this]; exact hz
        · split <;> omega
      exact shut_ints m ht he hc hb hl hm hz' (fun i hi => by rw [hB.cell (by rw [add_block]; exact hlt (by omega))]; exact hcell i hi) hw
/-- an array of two slices -/
theorem open_sl2 {r : Reach} {b0 : Nat} {t s e : TypeId} {v : Value} {d : DataW H} {p : List MemPlace} (ht : P.underlying t = some (.array 2 s)) (hct : P.cellsOf t = 2) (hcs : P.cellsOf s = 1) (hs : P.underlying s = some (.slice e)) (he : P.underlying e = some (.int .u16)) (hc : P.cellsOf e = 1)
    (hv : Value.okWide P W r b0 t v) (h : DataW.Trod enc P W 0 (fun _ => true) true t v d p) :
    ∃ (A B : Option Addr) (xs ys : List Nat) (c c' : Nat), v = .agg #[.slice A xs.length c, .slice B ys.length c'] ∧ xs.length ≤ c ∧ c ≤ maxLen ∧ ys.length ≤ c' ∧ c' ≤ maxLen ∧ Sl W W.heap.size A xs ∧ Sl W W.heap.size B ys ∧
      ∀ (W' : World), Below W.heap.size W W' → ∀ sp : Nat → Bool, (∀ q ∈ p, sp q.block = true) → DataW.Trod enc P W' 0 sp true t v d p := by
  obtain ⟨cs, rfl, hsz, _⟩ : ∃ cs, v = .agg cs ∧ cs.size = P.cellsOf t ∧ Row.okWide P W r b0 t cs := by
    simpa [Value.okWide, ht] using hv
  rw [hct] at hsz
  obtain ⟨l⟩ := cs
  obtain ⟨c0, c1, rfl⟩ := list2 l hsz
  obtain ⟨fuel, hf⟩ := h
  obtain ⟨⟨d0, p0⟩, ⟨d1, p1⟩, m, hx, hy0, hy1⟩ := trod_array2 ht hcs hf
  obtain ⟨A, xs, c, rfl, h2, h3, h4, h5⟩ := open_slf hs he hc hy0
  obtain ⟨B, ys, c', rfl, k2, k3, k4, k5⟩ := open_slf hs he hc hy1
  simp only [Prod.mk.injEq] at hx
  obtain ⟨rfl, rfl⟩ := hx
  refine ⟨A, B, xs, ys, c, c', rfl, h2, h3, k2, k3, h4, k4, fun W' hB sp hsp => ⟨3, ?_⟩⟩
  have e0 := h5 W' hB sp (fun q hq => hsp q (by simp [hq])) 0
  have e1 := k5 W' hB sp (fun q hq => hsp q (by simp [hq])) 0
  have r2 : List.range 2 = [0, 1] := rfl
  simp only [Value.cells]
  unfold DataW.trod
  rw [ht]
  simp [r2, hcs, hct, e0, e1]
end
end Go.Proofs.Ytfeikkohmgebbaa
