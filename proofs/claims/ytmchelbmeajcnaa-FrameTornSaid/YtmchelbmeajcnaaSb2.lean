/- A slice of bytes among the arguments: how it is read as data, and read again behind a call that leaves old memory alone. · An array of two whole numbers by value: how it is read as data (no program is named here). · A struct of three whole numbers by value among the arguments: how it is read as data. · A struct of four whole numbers by value among the arguments: how it is read as data. · Two slices of bytes in an array, two heads in an array, and slices of rows of three 16-bit whole numbers, among the arguments: how it is read as data, and read again behind a call that leaves old memory alone. · Slices of rows of two small whole numbers among the arguments: how they are read as data, and read again behind a call that leaves old memory alone. -/
import Derived.Test.YtmchelbmeajcnaaBy
import Derived.ProofKit
import Derived.OpenShut
import Derived.Laws.IdiomArrays
import Derived.Lib.SmallJoins
import Derived.Deep.Slices
namespace Go.Proofs.Ytmchelbmeajcnaa
open Go.ChangeShapes Go.WideShapes Go.ChangeAt Go.RowKit
theorem u8_range {a : Int} (h : (Lit.int .u8 a).wf = true) : 0 ≤ a ∧ a < 256 := by
  simp [Lit.wf, IntKind.min, IntKind.max, IntKind.signed, IntKind.bits] at h; omega
section
variable {H : Type} {enc : TypeId × Value → H} {P : Program} {W : World}
theorem open_sb {r : Reach} {b0 : Nat} {t e : TypeId} {v : Value} {d : DataW H} {p : List MemPlace} (ht : P.underlying t = some (.slice e)) (he : P.underlying e = some (.int .u8)) (hc : P.cellsOf e = 1)
    (hv : Value.okWide P W r b0 t v) (h : DataW.Trod enc P W 0 (fun _ => true) true t v d p) :
    ∃ (A : Option Addr) (xs : List Nat) (c : Nat), v = .slice A xs.length c ∧ xs.length ≤ c ∧ c ≤ maxLen ∧ Sb W W.heap.size A xs ∧
      ∀ (W' : World), Below W.heap.size W W' → ∀ sp : Nat → Bool, (∀ q ∈ p, sp q.block = true) → DataW.Trod enc P W' 0 sp true t v d p := by
  obtain ⟨A, len, cap, rfl⟩ := okWide_slice ht hv
  obtain ⟨fuel, hf⟩ := h
  rcases open_ints ht he hc hf with ⟨h1, h2⟩ | ⟨a, len', cap', zs, h1, hb, hl, hm, hz, hx, hcell, hw⟩
  · simp [Value.cells] at h1
    obtain ⟨rfl, rfl, rfl⟩ := h1
    simp only [Prod.mk.injEq] at h2
    obtain ⟨rfl, rfl⟩ := h2
    exact ⟨none, [], 0, rfl, Nat.le_refl _, Nat.zero_le _, Sb.nil _ _ _, fun W' _ sp _ => shut_slice_nil ht⟩
  · simp [Value.cells] at h1
    obtain ⟨rfl, rfl, rfl⟩ := h1
    simp only [Prod.mk.injEq] at hx
    obtain ⟨rfl, rfl⟩ := hx
    simp only [if_true] at hz
    have hlen : ((zs.take len).map Int.toNat).length = len := by simp; omega
    have hrange : ∀ i, i < zs.length → 0 ≤ zs.getD i 0 ∧ zs.getD i 0 < 256 := fun i hi => by
      have : zs.getD i 0 = zs[i] := by simp [List.getD, hi]
      rw [this]; exact u8_range (hw _ (List.getElem_mem hi))
    have hlt : 0 < zs.length → a.block < W.heap.size := fun hp => by
      have e := hcell 0 hp
      rcases Nat.lt_or_ge a.block W.heap.size with h | h
      · exact h
      · have e2 : (a.add 0).block = a.block := add_block a 0
        unfold World.cell? at e
        rw [Array.getElem?_eq_none (by rw [e2]; exact h)] at e
        cases e
    refine ⟨some a, (zs.take len).map Int.toNat, cap, by rw [hlen], by rw [hlen]; exact hl, hm, ⟨?_, ?_⟩, ?_⟩
    · intro x hx
      obtain ⟨n, hn, rfl⟩ := List.mem_map.1 hx
      have := u8_range (hw n (List.mem_of_mem_take hn))
      omega
    · by_cases h0 : len = 0
      · left; subst h0; simp
      · right
        refine ⟨a, rfl, hlt (by omega), fun i hi => ?_⟩
        rw [hlen] at hi
        have hiz : i < zs.length := by omega
        rw [hcell i hiz]
        have hr := hrange i hiz
        have e1 : zs.getD i 0 = zs[i] := by simp [List.getD, hiz]
        rw [e1] at hr ⊢
        simp only [ub, List.getElem_map, List.getElem_take]
        rw [Int.toNat_of_nonneg hr.1]
    · intro W' hB sp hsp
      refine ⟨0 + 2, ?_⟩
      have hz' : zs.length = (if sp a.block then cap else len) := by
        by_cases hp : 0 < zs.length
        · have : sp a.block = true := hsp (.cell a.block (a.off + 0)) (List.mem_map.2 ⟨0, List.mem_range.2 hp, rfl⟩)
          rw [if_pos this]; exact hz
        · split <;> omega
      exact shut_ints 0 ht he hc hb hl hm hz' (fun i hi => by rw [hB.cell (by rw [add_block]; exact hlt (by omega))]; exact hcell i hi) hw
end
end Go.Proofs.Ytmchelbmeajcnaa
namespace Go.ChangeShapes
open Go.WideShapes
variable {H : Type} {enc : TypeId × Value → H} {P : Program} {w : World} {base : Nat} {spare : Nat → Bool} {held : Bool}

theorem trod_array2 {t e : TypeId} {fuel : Nat} {c0 c1 : Value} {x : DataW H × List MemPlace} (ht : P.underlying t = some (.array 2 e)) (hce : P.cellsOf e = 1)
    (h : DataW.trod enc P w base spare held fuel t [c0, c1] = some x) :
    ∃ y0 y1 n, x = (.agg [y0.1, y1.1], y0.2 ++ y1.2) ∧ DataW.trod enc P w base spare held n e [c0] = some y0 ∧ DataW.trod enc P w base spare held n e [c1] = some y1 :=
  match fuel with
  | 0 => by simp [DataW.trod] at h
  | n + 1 => by
    unfold DataW.trod at h
    rw [ht] at h
    have r2 : List.range 2 = [0, 1] := rfl
    simp [r2, hce] at h
    obtain ⟨_, h⟩ := h
    cases h0 : DataW.trod enc P w base spare held n e [c0] with
    | none => simp [h0] at h
    | some y0 =>
      cases h1 : DataW.trod enc P w base spare held n e [c1] with
      | none => simp [h0, h1] at h
      | some y1 =>
        simp [h0, h1] at h
        exact ⟨y0, y1, n, h.symm, h0, h1⟩

theorem list2 {α : Type} (l : List α) (h : (⟨l⟩ : Array α).size = 2) : ∃ a b, l = [a, b] := by
  match l, h with
  | [a, b], _ => exact ⟨a, b, rfl⟩

theorem open_arr2 {r : Reach} {b0 : Nat} {t e : TypeId} {k : IntKind} {v : Value} {d : DataW H} {p : List MemPlace} (ht : P.underlying t = some (.array 2 e)) (he : P.underlying e = some (.int k)) (hct : P.cellsOf t = 2) (hce : P.cellsOf e = 1)
    (hv : Value.okWide P w r b0 t v) (h : DataW.Trod enc P w base spare held t v d p) :
    ∃ a b : Int, v = .agg #[.int k a, .int k b] ∧ d = .agg [.lit (.int k a), .lit (.int k b)] ∧ p = [] ∧ (Lit.int k a).wf = true ∧ (Lit.int k b).wf = true := by
  obtain ⟨cs, rfl, hsz, _⟩ : ∃ cs, v = .agg cs ∧ cs.size = P.cellsOf t ∧ Row.okWide P w r b0 t cs := by
    simpa [Value.okWide, ht] using hv
  rw [hct] at hsz
  obtain ⟨l⟩ := cs
  obtain ⟨c0, c1, rfl⟩ := list2 l hsz
  obtain ⟨fuel, hf⟩ := h
  obtain ⟨y0, y1, m, hx, hy0, hy1⟩ := trod_array2 ht hce hf
  obtain ⟨x0, e0, rfl, w0⟩ := DataW.trod_int he hy0
  obtain ⟨x1, e1, rfl, w1⟩ := DataW.trod_int he hy1
  simp at e0 e1
  subst e0 e1
  simp only [Prod.mk.injEq] at hx
  exact ⟨x0, x1, rfl, hx.1, by simpa using hx.2, w0, w1⟩

theorem shut_arr2 {t e : TypeId} {k : IntKind} {a b : Int} (ht : P.underlying t = some (.array 2 e)) (he : P.underlying e = some (.int k)) (hct : P.cellsOf t = 2) (hce : P.cellsOf e = 1) (wa : (Lit.int k a).wf = true) (wb : (Lit.int k b).wf = true) :
    DataW.Trod enc P w base spare held t (.agg #[.int k a, .int k b]) (.agg [.lit (.int k a), .lit (.int k b)]) [] := ⟨2, by
  have r2 : List.range 2 = [0, 1] := rfl
  simp [DataW.trod, Value.cells, ht, he, hct, hce, wa, wb, r2]⟩
end Go.ChangeShapes
namespace Go.ChangeShapes
open Go.WideShapes Go.Joins Go.Deep
variable {H : Type} {enc : TypeId × Value → H} {P : Program} {w : World} {base : Nat} {spare : Nat → Bool} {held : Bool}

theorem open_three {r : Reach} {b0 : Nat} {t : TypeId} {f0 f1 f2 : Field} {k : IntKind} {v : Value} {d : DataW H} {p : List MemPlace} (ht : P.underlying t = some (.struct #[f0, f1, f2])) (hone : oneCellFields P #[f0, f1, f2] = true) (hC : P.cellsOf t = 3)
    (e0 : P.underlying f0.type = some (.int k)) (e1 : P.underlying f1.type = some (.int k)) (e2 : P.underlying f2.type = some (.int k))
    (hv : Value.okWide P w r b0 t v) (h : DataW.Trod enc P w base spare held t v d p) :
    ∃ a b c : Int, v = .agg #[.int k a, .int k b, .int k c] ∧ d = .agg [.lit (.int k a), .lit (.int k b), .lit (.int k c)] ∧ p = [] ∧ (Lit.int k a).wf = true ∧ (Lit.int k b).wf = true ∧ (Lit.int k c).wf = true := by
  obtain ⟨v0, v1, v2, y0, y1, y2, n, rfl, rfl, rfl, h0, h1, h2⟩ := open_agg3 ht hone hC hv h
  obtain ⟨x0, q0, rfl, w0⟩ := DataW.trod_int e0 h0
  obtain ⟨x1, q1, rfl, w1⟩ := DataW.trod_int e1 h1
  obtain ⟨x2, q2, rfl, w2⟩ := DataW.trod_int e2 h2
  simp at q0 q1 q2
  subst q0 q1 q2
  exact ⟨x0, x1, x2, rfl, rfl, rfl, w0, w1, w2⟩
theorem shut_three {t : TypeId} {f0 f1 f2 : Field} {k : IntKind} {a b c : Int} (ht : P.underlying t = some (.struct #[f0, f1, f2])) (hone : oneCellFields P #[f0, f1, f2] = true) (hC : P.cellsOf t = 3)
    (e0 : P.underlying f0.type = some (.int k)) (e1 : P.underlying f1.type = some (.int k)) (e2 : P.underlying f2.type = some (.int k))
    (wa : (Lit.int k a).wf = true) (wb : (Lit.int k b).wf = true) (wc : (Lit.int k c).wf = true) :
    DataW.Trod enc P w base spare held t (.agg #[.int k a, .int k b, .int k c]) (.agg [.lit (.int k a), .lit (.int k b), .lit (.int k c)]) [] :=
  shut_agg3 (y0 := (.lit (.int k a), [])) (y1 := (.lit (.int k b), [])) (y2 := (.lit (.int k c), [])) ht hone hC
    ⟨1, by simp [DataW.trod, e0, wa]⟩ ⟨1, by simp [DataW.trod, e1, wb]⟩ ⟨1, by simp [DataW.trod, e2, wc]⟩
end Go.ChangeShapes
namespace Go.ChangeShapes
open Go.WideShapes Go.Joins Go.Deep
variable {H : Type} {enc : TypeId × Value → H} {P : Program} {w : World} {base : Nat} {spare : Nat → Bool} {held : Bool}

theorem open_four {r : Reach} {b0 : Nat} {t : TypeId} {f0 f1 f2 f3 : Field} {k : IntKind} {v : Value} {d : DataW H} {p : List MemPlace} (ht : P.underlying t = some (.struct #[f0, f1, f2, f3])) (hone : oneCellFields P #[f0, f1, f2, f3] = true) (hC : P.cellsOf t = 4)
    (e0 : P.underlying f0.type = some (.int k)) (e1 : P.underlying f1.type = some (.int k)) (e2 : P.underlying f2.type = some (.int k)) (e3 : P.underlying f3.type = some (.int k))
    (hv : Value.okWide P w r b0 t v) (h : DataW.Trod enc P w base spare held t v d p) :
    ∃ a b c e : Int, v = .agg #[.int k a, .int k b, .int k c, .int k e] ∧ d = .agg [.lit (.int k a), .lit (.int k b), .lit (.int k c), .lit (.int k e)] ∧ p = [] ∧ (Lit.int k a).wf = true ∧ (Lit.int k b).wf = true ∧ (Lit.int k c).wf = true ∧ (Lit.int k e).wf = true := by
  obtain ⟨v0, v1, v2, v3, y0, y1, y2, y3, n, rfl, rfl, rfl, h0, h1, h2, h3⟩ := open_agg4 ht hone hC hv h
  obtain ⟨x0, q0, rfl, w0⟩ := DataW.trod_int e0 h0
  obtain ⟨x1, q1, rfl, w1⟩ := DataW.trod_int e1 h1
  obtain ⟨x2, q2, rfl, w2⟩ := DataW.trod_int e2 h2
  obtain ⟨x3, q3, rfl, w3⟩ := DataW.trod_int e3 h3
  simp at q0 q1 q2 q3
  subst q0 q1 q2 q3
  exact ⟨x0, x1, x2, x3, rfl, rfl, rfl, w0, w1, w2, w3⟩
theorem shut_four {t : TypeId} {f0 f1 f2 f3 : Field} {k : IntKind} {a b c e : Int} (ht : P.underlying t = some (.struct #[f0, f1, f2, f3])) (hone : oneCellFields P #[f0, f1, f2, f3] = true) (hC : P.cellsOf t = 4)
    (e0 : P.underlying f0.type = some (.int k)) (e1 : P.underlying f1.type = some (.int k)) (e2 : P.underlying f2.type = some (.int k)) (e3 : P.underlying f3.type = some (.int k))
    (wa : (Lit.int k a).wf = true) (wb : (Lit.int k b).wf = true) (wc : (Lit.int k c).wf = true) (we : (Lit.int k e).wf = true) :
    DataW.Trod enc P w base spare held t (.agg #[.int k a, .int k b, .int k c, .int k e]) (.agg [.lit (.int k a), .lit (.int k b), .lit (.int k c), .lit (.int k e)]) [] :=
  shut_agg4 (y0 := (.lit (.int k a), [])) (y1 := (.lit (.int k b), [])) (y2 := (.lit (.int k c), [])) (y3 := (.lit (.int k e), [])) ht hone hC
    ⟨1, by simp [DataW.trod, e0, wa]⟩ ⟨1, by simp [DataW.trod, e1, wb]⟩ ⟨1, by simp [DataW.trod, e2, wc]⟩ ⟨1, by simp [DataW.trod, e3, we]⟩
end Go.ChangeShapes
namespace Go.Proofs.Ytmchelbmeajcnaa
open Go.ChangeShapes Go.WideShapes Go.ChangeAt Go.RowKit Go.Deep Go.Joins
set_option linter.unusedVariables false
set_option linter.unusedSimpArgs false
section
variable {H : Type} {enc : TypeId × Value → H} {P : Program} {W : World}
theorem open_sbf {t e : TypeId} {fuel : Nat} {c0 : Value} {d : DataW H} {p : List MemPlace} (ht : P.underlying t = some (.slice e)) (he : P.underlying e = some (.int .u8)) (hc : P.cellsOf e = 1)
    (hf : DataW.trod enc P W 0 (fun _ => true) true fuel t [c0] = some (d, p)) :
    ∃ (A : Option Addr) (xs : List Nat) (c : Nat), c0 = .slice A xs.length c ∧ xs.length ≤ c ∧ c ≤ maxLen ∧ Sb W W.heap.size A xs ∧
      ∀ (W' : World), Below W.heap.size W W' → ∀ sp : Nat → Bool, (∀ q ∈ p, sp q.block = true) → ∀ m, DataW.trod enc P W' 0 sp true (m + 2) t [c0] = some (d, p) := by
  rcases open_ints ht he hc hf with ⟨h1, h2⟩ | ⟨a, len, cap, zs, h1, hb, hl, hm, hz, hx, hcell, hw⟩
  · simp at h1
    subst h1
    simp only [Prod.mk.injEq] at h2
    obtain ⟨rfl, rfl⟩ := h2
    refine ⟨none, [], 0, rfl, Nat.le_refl _, Nat.zero_le _, Sb.nil _ _ _, fun W' _ sp _ m => ?_⟩
    unfold DataW.trod
    rw [ht]
    rfl
  · simp at h1
    subst h1
    simp only [Prod.mk.injEq] at hx
    obtain ⟨rfl, rfl⟩ := hx
    simp only [if_true] at hz
    have hlen : ((zs.take len).map Int.toNat).length = len := by simp; omega
    have hrange : ∀ i, i < zs.length → 0 ≤ zs.getD i 0 ∧ zs.getD i 0 < 256 := fun i hi => by
      have : zs.getD i 0 = zs[i] := by simp [List.getD, hi]
      rw [this]; exact u8_range (hw _ (List.getElem_mem hi))
    have hlt : 0 < zs.length → a.block < W.heap.size := fun hp => by
      have e := hcell 0 hp
      rcases Nat.lt_or_ge a.block W.heap.size with h | h
      · exact h
      · have e2 : (a.add 0).block = a.block := add_block a 0
        unfold World.cell? at e
        rw [Array.getElem?_eq_none (by rw [e2]; exact h)] at e
        cases e
    refine ⟨some a, (zs.take len).map Int.toNat, cap, by rw [hlen], by rw [hlen]; exact hl, hm, ⟨?_, ?_⟩, ?_⟩
    · intro x hx
      obtain ⟨n, hn, rfl⟩ := List.mem_map.1 hx
      have := u8_range (hw n (List.mem_of_mem_take hn))
      omega
    · by_cases h0 : len = 0
      · left; subst h0; simp
      · right
        refine ⟨a, rfl, hlt (by omega), fun i hi => ?_⟩
        rw [hlen] at hi
        have hiz : i < zs.length := by omega
        rw [hcell i hiz]
        have hr := hrange i hiz
        have e1 : zs.getD i 0 = zs[i] := by simp [List.getD, hiz]
        rw [e1] at hr ⊢
        simp only [ub, List.getElem_map, List.getElem_take]
        rw [Int.toNat_of_nonneg hr.1]
    · intro W' hB sp hsp m
      have hz' : zs.length = (if sp a.block then cap else len) := by
        by_cases hp : 0 < zs.length
        · have : sp a.block = true := hsp (.cell a.block (a.off + 0)) (List.mem_map.2 ⟨0, List.mem_range.2 hp, rfl⟩)
          rw [if_pos this]; exact hz
        · split <;> omega
      exact shut_ints m ht he hc hb hl hm hz' (fun i hi => by rw [hB.cell (by rw [add_block]; exact hlt (by omega))]; exact hcell i hi) hw
/-- an array of two slices -/
theorem open_sb2 {r : Reach} {b0 : Nat} {t s e : TypeId} {v : Value} {d : DataW H} {p : List MemPlace} (ht : P.underlying t = some (.array 2 s)) (hct : P.cellsOf t = 2) (hcs : P.cellsOf s = 1) (hs : P.underlying s = some (.slice e)) (he : P.underlying e = some (.int .u8)) (hc : P.cellsOf e = 1)
    (hv : Value.okWide P W r b0 t v) (h : DataW.Trod enc P W 0 (fun _ => true) true t v d p) :
    ∃ (A B : Option Addr) (xs ys : List Nat) (c c' : Nat), v = .agg #[.slice A xs.length c, .slice B ys.length c'] ∧ xs.length ≤ c ∧ c ≤ maxLen ∧ ys.length ≤ c' ∧ c' ≤ maxLen ∧ Sb W W.heap.size A xs ∧ Sb W W.heap.size B ys ∧
      ∀ (W' : World), Below W.heap.size W W' → ∀ sp : Nat → Bool, (∀ q ∈ p, sp q.block = true) → DataW.Trod enc P W' 0 sp true t v d p := by
  obtain ⟨cs, rfl, hsz, _⟩ : ∃ cs, v = .agg cs ∧ cs.size = P.cellsOf t ∧ Row.okWide P W r b0 t cs := by
    simpa [Value.okWide, ht] using hv
  rw [hct] at hsz
  obtain ⟨l⟩ := cs
  obtain ⟨c0, c1, rfl⟩ := list2 l hsz
  obtain ⟨fuel, hf⟩ := h
  obtain ⟨⟨d0, p0⟩, ⟨d1, p1⟩, m, hx, hy0, hy1⟩ := trod_array2 ht hcs hf
  obtain ⟨A, xs, c, rfl, h2, h3, h4, h5⟩ := open_sbf hs he hc hy0
  obtain ⟨B, ys, c', rfl, k2, k3, k4, k5⟩ := open_sbf hs he hc hy1
  simp only [Prod.mk.injEq] at hx
  obtain ⟨rfl, rfl⟩ := hx
  refine ⟨A, B, xs, ys, c, c', rfl, h2, h3, k2, k3, h4, k4, fun W' hB sp hsp => ⟨3, ?_⟩⟩
  have e0 := h5 W' hB sp (fun q hq => hsp q (by simp [hq])) 0
  have e1 := k5 W' hB sp (fun q hq => hsp q (by simp [hq])) 0
  have r2 : List.range 2 = [0, 1] := rfl
  simp only [Value.cells]
  unfold DataW.trod
  rw [ht]
  simp [r2, hcs, hct, e0, e1]
theorem trod_three {W' : World} {b : Nat} {sp : Nat → Bool} {hd : Bool} {t : TypeId} {f0 f1 f2 : Field} {x0 x1 x2 : Int} (ht : P.underlying t = some (.struct #[f0, f1, f2])) (hone : oneCellFields P #[f0, f1, f2] = true) (hC : P.cellsOf t = 3)
    (e0 : P.underlying f0.type = some (.int .i64)) (e1 : P.underlying f1.type = some (.int .i64)) (e2 : P.underlying f2.type = some (.int .i64))
    (w0 : (Lit.int .i64 x0).wf = true) (w1 : (Lit.int .i64 x1).wf = true) (w2 : (Lit.int .i64 x2).wf = true) :
    DataW.trod enc P W' b sp hd 2 t [.int .i64 x0, .int .i64 x1, .int .i64 x2] = some (.agg [.lit (.int .i64 x0), .lit (.int .i64 x1), .lit (.int .i64 x2)], []) := by
  obtain ⟨o0, k0⟩ := hone_of hone 0 f0 rfl
  obtain ⟨o1, k1⟩ := hone_of hone 1 f1 rfl
  obtain ⟨o2, k2⟩ := hone_of hone 2 f2 rfl
  have := trod_struct3_mk (enc := enc) (w := W') (base := b) (spare := sp) (held := hd) (n := 1) (cs := [.int .i64 x0, .int .i64 x1, .int .i64 x2]) (y0 := (.lit (.int .i64 x0), [])) (y1 := (.lit (.int .i64 x1), [])) (y2 := (.lit (.int .i64 x2), [])) ht (by simp [hC])
    (by simp [o0, k0, DataW.trod, e0, w0]) (by simp [o1, k1, DataW.trod, e1, w1]) (by simp [o2, k2, DataW.trod, e2, w2])
  simpa using this
theorem at_three {r : Nat → Bool} {n : Nat} {e : TypeId} {f0 f1 f2 : Field} {c0 c1 c2 : Value} {y : DataW H × List MemPlace} (he : P.underlying e = some (.struct #[f0, f1, f2])) (hone : oneCellFields P #[f0, f1, f2] = true)
    (e0 : P.underlying f0.type = some (.int .i64)) (e1 : P.underlying f1.type = some (.int .i64)) (e2 : P.underlying f2.type = some (.int .i64)) (h : DataW.trod enc P W 0 r true n e [c0, c1, c2] = some y) :
    ∃ x0 x1 x2 : Int, c0 = .int .i64 x0 ∧ c1 = .int .i64 x1 ∧ c2 = .int .i64 x2 ∧ (Lit.int .i64 x0).wf = true ∧ (Lit.int .i64 x1).wf = true ∧ (Lit.int .i64 x2).wf = true ∧ y = (.agg [.lit (.int .i64 x0), .lit (.int .i64 x1), .lit (.int .i64 x2)], []) := by
  obtain ⟨o0, k0⟩ := hone_of hone 0 f0 rfl
  obtain ⟨o1, k1⟩ := hone_of hone 1 f1 rfl
  obtain ⟨o2, k2⟩ := hone_of hone 2 f2 rfl
  obtain ⟨y0, y1, y2, mm, hxx, _, hy0, hy1, hy2⟩ := trod_struct3 he h
  rw [o0, k0] at hy0
  rw [o1, k1] at hy1
  rw [o2, k2] at hy2
  obtain ⟨x0, q0, rfl, w0⟩ := DataW.trod_int e0 hy0
  obtain ⟨x1, q1, rfl, w1⟩ := DataW.trod_int e1 hy1
  obtain ⟨x2, q2, rfl, w2⟩ := DataW.trod_int e2 hy2
  simp at q0 q1 q2
  subst q0 q1 q2
  exact ⟨x0, x1, x2, rfl, rfl, rfl, w0, w1, w2, by simpa using hxx⟩
theorem list6 {α : Type} (l : List α) (h : (⟨l⟩ : Array α).size = 6) : ∃ c0 c1 c2 c3 c4 c5, l = [c0, c1, c2, c3, c4, c5] := by
  match l, h with
  | [c0, c1, c2, c3, c4, c5], _ => exact ⟨c0, c1, c2, c3, c4, c5, rfl⟩
/-- an array of two structs of three whole numbers -/
theorem open_m2 {r : Reach} {b0 : Nat} {t e : TypeId} {f0 f1 f2 : Field} {v : Value} {d : DataW H} {p : List MemPlace} (ht : P.underlying t = some (.array 2 e)) (he : P.underlying e = some (.struct #[f0, f1, f2])) (hone : oneCellFields P #[f0, f1, f2] = true) (hct : P.cellsOf t = 6) (hce : P.cellsOf e = 3)
    (e0 : P.underlying f0.type = some (.int .i64)) (e1 : P.underlying f1.type = some (.int .i64)) (e2 : P.underlying f2.type = some (.int .i64))
    (hv : Value.okWide P W r b0 t v) (h : DataW.Trod enc P W 0 (fun _ => true) true t v d p) :
    ∃ x0 x1 x2 y0 y1 y2 : Int, v = .agg #[.int .i64 x0, .int .i64 x1, .int .i64 x2, .int .i64 y0, .int .i64 y1, .int .i64 y2] ∧ (Lit.int .i64 x0).wf = true ∧ (Lit.int .i64 x1).wf = true ∧ (Lit.int .i64 x2).wf = true ∧ (Lit.int .i64 y0).wf = true ∧ (Lit.int .i64 y1).wf = true ∧ (Lit.int .i64 y2).wf = true ∧
      ∀ (W' : World) (sp : Nat → Bool), DataW.Trod enc P W' 0 sp true t v d p := by
  obtain ⟨cs, rfl, hsz, _⟩ : ∃ cs, v = .agg cs ∧ cs.size = P.cellsOf t ∧ Row.okWide P W r b0 t cs := by
    simpa [Value.okWide, ht] using hv
  rw [hct] at hsz
  obtain ⟨l⟩ := cs
  obtain ⟨c0, c1, c2, c3, c4, c5, rfl⟩ := list6 l hsz
  obtain ⟨fuel, hf⟩ := h
  obtain ⟨xs, m, rfl, hx, hlen, hxl, hel⟩ := DataW.trod_array ht hf
  rw [hce] at hel
  match xs, hxl with
  | [ya, yb], _ =>
    obtain ⟨x0, x1, x2, rfl, rfl, rfl, w0, w1, w2, rfl⟩ := at_three (c0 := c0) (c1 := c1) (c2 := c2) (y := ya) he hone e0 e1 e2 (by simpa [Value.cells] using hel 0 (by decide))
    obtain ⟨z0, z1, z2, rfl, rfl, rfl, u0, u1, u2, rfl⟩ := at_three (c0 := c3) (c1 := c4) (c2 := c5) (y := yb) he hone e0 e1 e2 (by simpa [Value.cells] using hel 1 (by decide))
    simp only [Prod.mk.injEq] at hx
    obtain ⟨rfl, rfl⟩ := hx
    refine ⟨x0, x1, x2, z0, z1, z2, rfl, w0, w1, w2, u0, u1, u2, fun W' sp => ⟨3, ?_⟩⟩
    have g0 := trod_three (enc := enc) (W' := W') (b := 0) (sp := sp) (hd := true) he hone hce e0 e1 e2 w0 w1 w2
    have g1 := trod_three (enc := enc) (W' := W') (b := 0) (sp := sp) (hd := true) he hone hce e0 e1 e2 u0 u1 u2
    have r2 : List.range 2 = [0, 1] := rfl
    simp only [Value.cells]
    unfold DataW.trod
    rw [ht]
    simp [r2, hct, hce, g0, g1]
/-- a slice of rows of three, in blocks below B -/
def S6 (w : World) (B : Nat) (A : Option Addr) (ts : List (Int × Int × Int)) : Prop :=
  (∀ t ∈ ts, (-32768 ≤ t.1 ∧ t.1 < 32768) ∧ (-32768 ≤ t.2.1 ∧ t.2.1 < 32768) ∧ (-32768 ≤ t.2.2 ∧ t.2.2 < 32768)) ∧
  (ts = [] ∨ ∃ a, A = some a ∧ a.block < B ∧ ∀ i (h : i < ts.length), w.cell? (a.add (i * 3)) = some (.int .i16 ts[i].1) ∧ w.cell? (a.add (i * 3 + 1)) = some (.int .i16 ts[i].2.1) ∧ w.cell? (a.add (i * 3 + 2)) = some (.int .i16 ts[i].2.2))
theorem S6.far {w w' : World} {A : Option Addr} {ts : List (Int × Int × Int)} (h : S6 w w.heap.size A ts) (hb : Below w.heap.size w w') : S6 w' w'.heap.size A ts := by
  refine ⟨h.1, ?_⟩
  rcases h.2 with e | ⟨a, e, h1, h2⟩
  · exact Or.inl e
  · refine Or.inr ⟨a, e, Nat.lt_of_lt_of_le h1 hb.size, fun i hi => ?_⟩
    rw [hb.cell (by rw [add_block]; exact h1), hb.cell (by rw [add_block]; exact h1), hb.cell (by rw [add_block]; exact h1)]
    exact h2 i hi
theorem i16_range {a : Int} (h : (Lit.int .i16 a).wf = true) : -32768 ≤ a ∧ a < 32768 := by
  simp [Lit.wf, IntKind.min, IntKind.max, IntKind.signed, IntKind.bits] at h; omega
theorem cells_belowT {W W' : World} {b : Nat} {p : Addr} {n : Nat} (hB : Below W.heap.size W W') (hp : p.block < W.heap.size) : W'.cells? b p n = W.cells? b p n := by
  unfold World.cells?
  congr 1
  refine congrArg (fun f => (List.range n).mapM f) (funext fun i => ?_)
  exact hB.cell (by rw [add_block]; exact hp)
theorem at_row3 {r : Nat → Bool} {n : Nat} {e k : TypeId} {c0 c1 c2 : Value} {y : DataW H × List MemPlace} (he : P.underlying e = some (.array 3 k)) (hk : P.underlying k = some (.int .i16)) (hck : P.cellsOf k = 1) (h : DataW.trod enc P W 0 r true n e [c0, c1, c2] = some y) :
    ∃ x0 x1 x2 : Int, c0 = .int .i16 x0 ∧ c1 = .int .i16 x1 ∧ c2 = .int .i16 x2 ∧ (Lit.int .i16 x0).wf = true ∧ (Lit.int .i16 x1).wf = true ∧ (Lit.int .i16 x2).wf = true ∧ y = (.agg [.lit (.int .i16 x0), .lit (.int .i16 x1), .lit (.int .i16 x2)], []) := by
  obtain ⟨xs, m, rfl, hx, hlen, hxl, hel⟩ := DataW.trod_array he h
  rw [hck] at hel
  match xs, hxl with
  | [y0, y1, y2], _ =>
    have h0 : DataW.trod enc P W 0 r true m k [c0] = some y0 := by simpa using hel 0 (by decide)
    have h1 : DataW.trod enc P W 0 r true m k [c1] = some y1 := by simpa using hel 1 (by decide)
    have h2 : DataW.trod enc P W 0 r true m k [c2] = some y2 := by simpa using hel 2 (by decide)
    obtain ⟨x0, q0, rfl, w0⟩ := DataW.trod_int hk h0
    obtain ⟨x1, q1, rfl, w1⟩ := DataW.trod_int hk h1
    obtain ⟨x2, q2, rfl, w2⟩ := DataW.trod_int hk h2
    simp at q0 q1 q2
    subst q0 q1 q2
    exact ⟨x0, x1, x2, rfl, rfl, rfl, w0, w1, w2, by simpa using hx⟩
theorem trod_row3 {W' : World} {b : Nat} {sp : Nat → Bool} {hd : Bool} {e k : TypeId} {x0 x1 x2 : Int} (he : P.underlying e = some (.array 3 k)) (hk : P.underlying k = some (.int .i16)) (hce : P.cellsOf e = 3) (hck : P.cellsOf k = 1)
    (w0 : (Lit.int .i16 x0).wf = true) (w1 : (Lit.int .i16 x1).wf = true) (w2 : (Lit.int .i16 x2).wf = true) :
    DataW.trod enc P W' b sp hd 2 e [.int .i16 x0, .int .i16 x1, .int .i16 x2] = some (.agg [.lit (.int .i16 x0), .lit (.int .i16 x1), .lit (.int .i16 x2)], []) := by
  have r3 : List.range 3 = [0, 1, 2] := rfl
  simp [DataW.trod, he, hk, hce, hck, w0, w1, w2, r3]
theorem open_s6 {r : Reach} {b0 : Nat} {t e k : TypeId} {v : Value} {d : DataW H} {p : List MemPlace} (ht : P.underlying t = some (.slice e)) (he : P.underlying e = some (.array 3 k)) (hk : P.underlying k = some (.int .i16)) (hce : P.cellsOf e = 3) (hck : P.cellsOf k = 1)
    (hv : Value.okWide P W r b0 t v) (h : DataW.Trod enc P W 0 (fun _ => true) true t v d p) :
    ∃ (A : Option Addr) (ts : List (Int × Int × Int)) (c : Nat), v = .slice A ts.length c ∧ ts.length ≤ c ∧ c ≤ maxLen ∧ S6 W W.heap.size A ts ∧
      ∀ (W' : World), Below W.heap.size W W' → ∀ sp : Nat → Bool, (∀ q ∈ p, sp q.block = true) → DataW.Trod enc P W' 0 sp true t v d p := by
  obtain ⟨A, len, cap, rfl⟩ := okWide_slice ht hv
  obtain ⟨fuel, hf⟩ := h
  rcases open_slice ht hf with ⟨h1, h2⟩ | ⟨a, len', cap', m, n, D, Pl, h1, hb, hl, hm, hmm, hx, hel⟩
  · simp [Value.cells] at h1
    obtain ⟨rfl, rfl, rfl⟩ := h1
    simp only [Prod.mk.injEq] at h2
    obtain ⟨rfl, rfl⟩ := h2
    exact ⟨none, [], 0, rfl, Nat.le_refl _, Nat.zero_le _, ⟨by simp, Or.inl rfl⟩, fun W' _ sp _ => shut_slice_nil ht⟩
  · simp [Value.cells] at h1
    obtain ⟨rfl, rfl, rfl⟩ := h1
    simp only [if_true] at hmm
    subst hmm
    simp only [Prod.mk.injEq] at hx
    obtain ⟨rfl, rfl⟩ := hx
    rw [hce] at hel
    have each : ∀ i, i < m → ∃ q : Int × Int × Int, W.cells? 0 (a.add (i * 3)) 3 = some [.int .i16 q.1, .int .i16 q.2.1, .int .i16 q.2.2] ∧ (Lit.int .i16 q.1).wf = true ∧ (Lit.int .i16 q.2.1).wf = true ∧ (Lit.int .i16 q.2.2).wf = true ∧
        D i = .agg [.lit (.int .i16 q.1), .lit (.int .i16 q.2.1), .lit (.int .i16 q.2.2)] ∧ Pl i = [] := by
      intro i hi
      obtain ⟨cs', g1, g2⟩ := hel i hi
      obtain ⟨_, hlen, _⟩ := World.cells?_some g1
      match cs', hlen with
      | [c0, c1, c2], _ =>
        obtain ⟨x0, x1, x2, rfl, rfl, rfl, w0, w1, w2, hxx⟩ := at_row3 he hk hck g2
        simp only [Prod.mk.injEq] at hxx
        exact ⟨(x0, x1, x2), g1, w0, w1, w2, hxx.1, hxx.2⟩
    obtain ⟨q, hq⟩ := choose_lt each
    have hcell : ∀ i, i < m → W.cell? (a.add (i * 3)) = some (.int .i16 (q i).1) ∧ W.cell? (a.add (i * 3 + 1)) = some (.int .i16 (q i).2.1) ∧ W.cell? (a.add (i * 3 + 2)) = some (.int .i16 (q i).2.2) := fun i hi => by
      obtain ⟨_, _, hc⟩ := World.cells?_some (hq i hi).1
      have e0 := hc 0 (by decide)
      have e1 := hc 1 (by decide)
      have e2 := hc 2 (by decide)
      rw [add_add] at e0 e1 e2
      exact ⟨by simpa using e0, by simpa using e1, by simpa using e2⟩
    have hlt : 0 < m → a.block < W.heap.size := fun hp => by
      have := World.block_lt_of_cell? W _ (hcell 0 hp).1
      rwa [add_block] at this
    have hlen : ((List.range len).map q).length = len := by simp
    refine ⟨some a, (List.range len).map q, m, by rw [hlen], by rw [hlen]; exact hl, hm, ⟨?_, ?_⟩, ?_⟩
    · intro x hx
      obtain ⟨i, hi, rfl⟩ := List.mem_map.1 hx
      have hi' := List.mem_range.1 hi
      obtain ⟨_, w0, w1, w2, _⟩ := hq i (by omega)
      exact ⟨i16_range w0, i16_range w1, i16_range w2⟩
    · by_cases h0 : len = 0
      · left; subst h0; rfl
      · right
        refine ⟨a, rfl, hlt (by omega), fun i hi => ?_⟩
        have hi' : i < len := by rwa [hlen] at hi
        simp only [List.getElem_map, List.getElem_range]
        exact hcell i (by omega)
    · intro W' hB sp hsp
      have hel' : ∀ i, i < m → ∃ cs n, W'.cells? 0 (a.add (i * P.cellsOf e)) (P.cellsOf e) = some cs ∧ DataW.trod enc P W' 0 sp true n e cs = some (D i, Pl i) := fun i hi => by
        obtain ⟨g1, w0, w1, w2, g2, g3⟩ := hq i hi
        have hbk : (a.add (i * 3)).block < W.heap.size := by rw [add_block]; exact hlt (by omega)
        refine ⟨[.int .i16 (q i).1, .int .i16 (q i).2.1, .int .i16 (q i).2.2], 2, ?_, ?_⟩
        · rw [hce, cells_belowT hB hbk]; exact g1
        · rw [g2, g3]; exact trod_row3 he hk hce hck w0 w1 w2
      by_cases hp : 0 < m
      · have hs : sp a.block = true := hsp (.cell a.block (a.off + 0)) (List.mem_append_left _ (List.mem_map.2 ⟨0, List.mem_range.2 (by rw [hce]; omega), rfl⟩))
        obtain ⟨nn, hn⟩ := shut_slice_whole_cells (enc := enc) (w := W') (base := 0) (spare := sp) (held := true) ht hb hl hm hs D Pl hel'
        exact ⟨nn, hn⟩
      · have hm0 : m = 0 := by omega
        subst hm0
        have hl0 : len = 0 := by omega
        subst hl0
        cases hs : sp a.block
        · obtain ⟨nn, hn⟩ := shut_slice_cells (enc := enc) (w := W') (base := 0) (spare := sp) (held := true) ht hb (Nat.le_refl 0) hm hs D Pl (fun i hi => absurd hi (Nat.not_lt_zero _))
          exact ⟨nn, hn⟩
        · obtain ⟨nn, hn⟩ := shut_slice_whole_cells (enc := enc) (w := W') (base := 0) (spare := sp) (held := true) ht hb (Nat.le_refl 0) hm hs D Pl hel'
          exact ⟨nn, hn⟩
end
end Go.Proofs.Ytmchelbmeajcnaa
namespace Go.Proofs.Ytmchelbmeajcnaa
open Go.ChangeShapes Go.WideShapes Go.ChangeAt Go.RowKit Go.Deep Go.Joins
set_option linter.unusedVariables false
set_option linter.unusedSimpArgs false
section
variable {H : Type} {enc : TypeId × Value → H} {P : Program} {W : World}
/-- a slice of rows of two, in blocks below B -/
def S2i (w : World) (B : Nat) (A : Option Addr) (ts : List (Int × Int)) : Prop :=
  (∀ t ∈ ts, (-128 ≤ t.1 ∧ t.1 < 128) ∧ (-128 ≤ t.2 ∧ t.2 < 128)) ∧
  (ts = [] ∨ ∃ a, A = some a ∧ a.block < B ∧ ∀ i (h : i < ts.length), w.cell? (a.add (i * 2)) = some (.int .i8 ts[i].1) ∧ w.cell? (a.add (i * 2 + 1)) = some (.int .i8 ts[i].2))
theorem S2i.far {w w' : World} {A : Option Addr} {ts : List (Int × Int)} (h : S2i w w.heap.size A ts) (hb : Below w.heap.size w w') : S2i w' w'.heap.size A ts := by
  refine ⟨h.1, ?_⟩
  rcases h.2 with e | ⟨a, e, h1, h2⟩
  · exact Or.inl e
  · refine Or.inr ⟨a, e, Nat.lt_of_lt_of_le h1 hb.size, fun i hi => ?_⟩
    rw [hb.cell (by rw [add_block]; exact h1), hb.cell (by rw [add_block]; exact h1)]
    exact h2 i hi
theorem i8_range {a : Int} (h : (Lit.int .i8 a).wf = true) : -128 ≤ a ∧ a < 128 := by
  simp [Lit.wf, IntKind.min, IntKind.max, IntKind.signed, IntKind.bits] at h; omega
theorem cells_belowU {W W' : World} {b : Nat} {p : Addr} {n : Nat} (hB : Below W.heap.size W W') (hp : p.block < W.heap.size) : W'.cells? b p n = W.cells? b p n := by
  unfold World.cells?
  congr 1
  refine congrArg (fun f => (List.range n).mapM f) (funext fun i => ?_)
  exact hB.cell (by rw [add_block]; exact hp)
theorem at_row2i {r : Nat → Bool} {n : Nat} {e k : TypeId} {c0 c1 : Value} {y : DataW H × List MemPlace} (he : P.underlying e = some (.array 2 k)) (hk : P.underlying k = some (.int .i8)) (hck : P.cellsOf k = 1) (h : DataW.trod enc P W 0 r true n e [c0, c1] = some y) :
    ∃ x0 x1 : Int, c0 = .int .i8 x0 ∧ c1 = .int .i8 x1 ∧ (Lit.int .i8 x0).wf = true ∧ (Lit.int .i8 x1).wf = true ∧ y = (.agg [.lit (.int .i8 x0), .lit (.int .i8 x1)], []) := by
  obtain ⟨xs, m, rfl, hx, hlen, hxl, hel⟩ := DataW.trod_array he h
  rw [hck] at hel
  match xs, hxl with
  | [y0, y1], _ =>
    have h0 : DataW.trod enc P W 0 r true m k [c0] = some y0 := by simpa using hel 0 (by decide)
    have h1 : DataW.trod enc P W 0 r true m k [c1] = some y1 := by simpa using hel 1 (by decide)
    obtain ⟨x0, q0, rfl, w0⟩ := DataW.trod_int hk h0
    obtain ⟨x1, q1, rfl, w1⟩ := DataW.trod_int hk h1
    simp at q0 q1
    subst q0 q1
    exact ⟨x0, x1, rfl, rfl, w0, w1, by simpa using hx⟩
theorem trod_row2i {W' : World} {b : Nat} {sp : Nat → Bool} {hd : Bool} {e k : TypeId} {x0 x1 : Int} (he : P.underlying e = some (.array 2 k)) (hk : P.underlying k = some (.int .i8)) (hce : P.cellsOf e = 2) (hck : P.cellsOf k = 1)
    (w0 : (Lit.int .i8 x0).wf = true) (w1 : (Lit.int .i8 x1).wf = true) :
    DataW.trod enc P W' b sp hd 2 e [.int .i8 x0, .int .i8 x1] = some (.agg [.lit (.int .i8 x0), .lit (.int .i8 x1)], []) := by
  have r3 : List.range 2 = [0, 1] := rfl
  simp [DataW.trod, he, hk, hce, hck, w0, w1, r3]
theorem open_s2i {r : Reach} {b0 : Nat} {t e k : TypeId} {v : Value} {d : DataW H} {p : List MemPlace} (ht : P.underlying t = some (.slice e)) (he : P.underlying e = some (.array 2 k)) (hk : P.underlying k = some (.int .i8)) (hce : P.cellsOf e = 2) (hck : P.cellsOf k = 1)
    (hv : Value.okWide P W r b0 t v) (h : DataW.Trod enc P W 0 (fun _ => true) true t v d p) :
    ∃ (A : Option Addr) (ts : List (Int × Int)) (c : Nat), v = .slice A ts.length c ∧ ts.length ≤ c ∧ c ≤ maxLen ∧ S2i W W.heap.size A ts ∧
      ∀ (W' : World), Below W.heap.size W W' → ∀ sp : Nat → Bool, (∀ q ∈ p, sp q.block = true) → DataW.Trod enc P W' 0 sp true t v d p := by
  obtain ⟨A, len, cap, rfl⟩ := okWide_slice ht hv
  obtain ⟨fuel, hf⟩ := h
  rcases open_slice ht hf with ⟨h1, h2⟩ | ⟨a, len', cap', m, n, D, Pl, h1, hb, hl, hm, hmm, hx, hel⟩
  · simp [Value.cells] at h1
    obtain ⟨rfl, rfl, rfl⟩ := h1
    simp only [Prod.mk.injEq] at h2
    obtain ⟨rfl, rfl⟩ := h2
    exact ⟨none, [], 0, rfl, Nat.le_refl _, Nat.zero_le _, ⟨by simp, Or.inl rfl⟩, fun W' _ sp _ => shut_slice_nil ht⟩
  · simp [Value.cells] at h1
    obtain ⟨rfl, rfl, rfl⟩ := h1
    simp only [if_true] at hmm
    subst hmm
    simp only [Prod.mk.injEq] at hx
    obtain ⟨rfl, rfl⟩ := hx
    rw [hce] at hel
    have each : ∀ i, i < m → ∃ q : Int × Int, W.cells? 0 (a.add (i * 2)) 2 = some [.int .i8 q.1, .int .i8 q.2] ∧ (Lit.int .i8 q.1).wf = true ∧ (Lit.int .i8 q.2).wf = true ∧
        D i = .agg [.lit (.int .i8 q.1), .lit (.int .i8 q.2)] ∧ Pl i = [] := by
      intro i hi
      obtain ⟨cs', g1, g2⟩ := hel i hi
      obtain ⟨_, hlen, _⟩ := World.cells?_some g1
      match cs', hlen with
      | [c0, c1], _ =>
        obtain ⟨x0, x1, rfl, rfl, w0, w1, hxx⟩ := at_row2i he hk hck g2
        simp only [Prod.mk.injEq] at hxx
        exact ⟨(x0, x1), g1, w0, w1, hxx.1, hxx.2⟩
    obtain ⟨q, hq⟩ := choose_lt each
    have hcell : ∀ i, i < m → W.cell? (a.add (i * 2)) = some (.int .i8 (q i).1) ∧ W.cell? (a.add (i * 2 + 1)) = some (.int .i8 (q i).2) := fun i hi => by
      obtain ⟨_, _, hc⟩ := World.cells?_some (hq i hi).1
      have e0 := hc 0 (by decide)
      have e1 := hc 1 (by decide)
      rw [add_add] at e0 e1
      exact ⟨by simpa using e0, by simpa using e1⟩
    have hlt : 0 < m → a.block < W.heap.size := fun hp => by
      have := World.block_lt_of_cell? W _ (hcell 0 hp).1
      rwa [add_block] at this
    have hlen : ((List.range len).map q).length = len := by simp
    refine ⟨some a, (List.range len).map q, m, by rw [hlen], by rw [hlen]; exact hl, hm, ⟨?_, ?_⟩, ?_⟩
    · intro x hx
      obtain ⟨i, hi, rfl⟩ := List.mem_map.1 hx
      have hi' := List.mem_range.1 hi
      obtain ⟨_, w0, w1, _⟩ := hq i (by omega)
      exact ⟨i8_range w0, i8_range w1⟩
    · by_cases h0 : len = 0
      · left; subst h0; rfl
      · right
        refine ⟨a, rfl, hlt (by omega), fun i hi => ?_⟩
        have hi' : i < len := by rwa [hlen] at hi
        simp only [List.getElem_map, List.getElem_range]
        exact hcell i (by omega)
    · intro W' hB sp hsp
      have hel' : ∀ i, i < m → ∃ cs n, W'.cells? 0 (a.add (i * P.cellsOf e)) (P.cellsOf e) = some cs ∧ DataW.trod enc P W' 0 sp true n e cs = some (D i, Pl i) := fun i hi => by
        obtain ⟨g1, w0, w1, g2, g3⟩ := hq i hi
        have hbk : (a.add (i * 2)).block < W.heap.size := by rw [add_block]; exact hlt (by omega)
        refine ⟨[.int .i8 (q i).1, .int .i8 (q i).2], 2, ?_, ?_⟩
        · rw [hce, cells_belowU hB hbk]; exact g1
        · rw [g2, g3]; exact trod_row2i he hk hce hck w0 w1
      by_cases hp : 0 < m
      · have hs : sp a.block = true := hsp (.cell a.block (a.off + 0)) (List.mem_append_left _ (List.mem_map.2 ⟨0, List.mem_range.2 (by rw [hce]; omega), rfl⟩))
        obtain ⟨nn, hn⟩ := shut_slice_whole_cells (enc := enc) (w := W') (base := 0) (spare := sp) (held := true) ht hb hl hm hs D Pl hel'
        exact ⟨nn, hn⟩
      · have hm0 : m = 0 := by omega
        subst hm0
        have hl0 : len = 0 := by omega
        subst hl0
        cases hs : sp a.block
        · obtain ⟨nn, hn⟩ := shut_slice_cells (enc := enc) (w := W') (base := 0) (spare := sp) (held := true) ht hb (Nat.le_refl 0) hm hs D Pl (fun i hi => absurd hi (Nat.not_lt_zero _))
          exact ⟨nn, hn⟩
        · obtain ⟨nn, hn⟩ := shut_slice_whole_cells (enc := enc) (w := W') (base := 0) (spare := sp) (held := true) ht hb (Nat.le_refl 0) hm hs D Pl hel'
          exact ⟨nn, hn⟩
end
end Go.Proofs.Ytmchelbmeajcnaa
