/- Erase takes all charge away. -/
import Derived.Test.YtnndhbppgmnefaaYr
import Derived.Lib.SliceRun
namespace Go.Proofs.Ytnndhbppgmnefaa
open Go.RowKit Go.Gf Go.Fl
set_option linter.unusedVariables false
set_option linter.unusedSimpArgs false
theorem RowC.cells {k n : Nat} : ∀ (vs : List Value) (o : Nat) (w : World), RowC w k n → RowC (w.setCells k o vs) k n
  | [], _, _, h => h
  | v :: r, o, w, h => RowC.cells r (o + 1) _ (h.set_ o v)
theorem keeps_cells {F : Nat → Prop} {k : Nat} {w0 : World} (hF : ¬ F k) : ∀ (vs : List Value) (o : Nat) (w : World), Cl.Keeps F w0 w → Cl.Keeps F w0 (w.setCells k o vs)
  | [], _, _, h => h
  | v :: r, o, w, h => keeps_cells hF r (o + 1) _ (keeps_put h hF)
theorem heap_cells {k b : Nat} (hb : b ≠ k) : ∀ (vs : List Value) (o : Nat) (w : World), (w.setCells k o vs).heap[b]? = w.heap[b]?
  | [], _, _ => rfl
  | v :: r, o, w => (heap_cells hb r (o + 1) _).trans (Below.heap_setCell _ _ _ _ hb)
theorem zC_list (n : Nat) : (Builtin.zeroCells #[.complex .f64 0 0, .int .u16 0] n).toList = (zC n).toList := rfl
theorem zC_len (n : Nat) : (zC n).toList.length = n * 2 := by rw [Array.length_toList, zC_size]
theorem zC_one (n : Nat) : ∀ v ∈ (zC n).toList, v.oneCell' = true := by
  intro v hv
  obtain ⟨j, hj, rfl⟩ := List.getElem_of_mem hv
  rw [zC_len] at hj
  have : (zC n).toList[j]? = (zC n)[j]? := Array.getElem?_toList
  rcases Nat.mod_two_eq_zero_or_one j with e | e
  · have h0 := zC_0 (n := n) (i := j / 2) (by omega)
    rw [show j / 2 * 2 = j by omega, ← this, List.getElem?_eq_getElem (by rw [zC_len]; exact hj)] at h0
    injection h0 with h0
    rw [h0]; rfl
  · have h0 := zC_1 (n := n) (i := j / 2) (by omega)
    rw [show j / 2 * 2 + 1 = j by omega, ← this, List.getElem?_eq_getElem (by rw [zC_len]; exact hj)] at h0
    injection h0 with h0
    rw [h0]; rfl
theorem run_clear44 (w : World) (ty : TypeId) (k n d : Nat) (hn : 0 < n) (hr : RowC w k n) :
    (Builtin.clear_ #[99] ty #[.slice (some ⟨k, 0, none⟩) n d]).run Try.prog w = .ok (.tuple #[]) (w.setCells k 0 (zC n).toList) := by
  have hi0 := info50
  obtain ⟨i, hi, hrest⟩ := Option.map_eq_some_iff.1 hi0
  simp only [Prod.mk.injEq] at hrest
  obtain ⟨i1, i2, i3⟩ := hrest
  have hv : ∀ w, (zeroValue 103).run Try.prog w = .ok (.agg #[.complex .f64 0 0, .int .u16 0]) w := fun w => by
    simp [zeroValue, typeInfo, hi, i1]
  have hst := run_storeCells_cells (P := Try.prog) k 0 (zC n).toList 0 w (fun j hj => by
    obtain ⟨cs, h1, h2⟩ := hr
    rw [zC_len] at hj
    rw [cell_of h1, Array.getElem?_eq_getElem (by omega)]; rfl) (fun j hj => hr.frozen _) (zC_one n)
  simp only [Nat.add_zero] at hst
  obtain ⟨m, rfl⟩ : ∃ m, n = m + 1 := ⟨n - 1, by omega⟩
  simp [Builtin.clear_, run_underlying Try.underlying99, hv, zC_list, hst, Value.cells]
theorem run_clear44_0 (w : World) (ty : TypeId) (k d : Nat) : (Builtin.clear_ #[99] ty #[.slice (some ⟨k, 0, none⟩) 0 d]).run Try.prog w = .ok (.tuple #[]) w := by
  simp [Builtin.clear_, run_underlying Try.underlying99]
/-- n cells without charge -/
theorem cleared (w : World) {k n : Nat} (hr : RowC w k n) {i : Nat} (hi : i < n) (st : Int) (hst : st = 0) (x : Nat) : CellC (w.setCells k 0 (zC n).toList) k i (0, 0) st x := by
  have key : ∀ j, j < n * 2 → (w.setCells k 0 (zC n).toList).cell? ⟨k, j, none⟩ = (zC n)[j]? := fun j hj => by
    have h := World.cell?_setCells_in k (zC n).toList 0 w (fun j hj => by
      obtain ⟨cs, h1, h2⟩ := hr
      rw [zC_len] at hj
      rw [Nat.zero_add, cell_of h1, Array.getElem?_eq_getElem (by omega)]; rfl) j (by rw [zC_len]; exact hj)
    rw [Nat.zero_add] at h
    rw [h, ← Array.getElem?_toList, List.getElem?_eq_getElem (by rw [zC_len]; exact hj)]
  exact ⟨⟨0, 0, (key _ (by omega)).trans (zC_0 hi), is_zero', is_zero'⟩, 0, (key _ (by omega)).trans (zC_1 hi), fun e => by rw [hst] at e; cases e⟩
set_option maxHeartbeats 1000000 in
theorem p_erase {w : World} {F : Nat → Prop} {p : Addr} {ps : List (Int × Int)} {ss : List Nat} {st : Int} (h : Page w F p ps ss st) (hF : ∀ b, w.heap.size ≤ b → F b) :
    Calls Try.prog 98 #[.pointer (some p)] w fun e w' => e = .returned (.tuple #[]) ∧ Cl.Keeps (fun b => ¬ F b) w w' ∧ ∃ ss', Page w' F p (List.replicate ps.length (0, 0)) ss' 0 := by
  obtain ⟨⟨g, k, d, rfl, hg, hgl, hk', hkl, hgk, hfr, c0, c1, hr, hc⟩, hbd, hsm⟩ := h
  clear hc hbd hF
  generalize ps.length = n at *
  obtain ⟨w1, hcl, hr1, hK1, hg1, hc1⟩ : ∃ w1, (∀ ty, (Builtin.clear_ #[99] ty #[.slice (some ⟨k, 0, none⟩) n d]).run Try.prog w = .ok (.tuple #[]) w1) ∧ RowC w1 k n ∧ Cl.Keeps (fun b => ¬ F b) w w1 ∧ w1.heap[g]? = w.heap[g]? ∧ ∀ i, i < n → CellC w1 k i (0, 0) 0 (syAt ss i) := by
    by_cases hz : n = 0
    · subst hz
      exact ⟨w, fun ty => run_clear44_0 w ty k d, hr, Cl.Keeps.refl _ _, rfl, fun i hi => absurd hi (by omega)⟩
    · exact ⟨_, fun ty => run_clear44 w ty k n d (by omega) hr, hr.cells _ _ _, keeps_cells (fun h => h hk') _ _ _ (Cl.Keeps.refl _ _), heap_cells hgk _ _ _, fun i hi => cleared w hr hi 0 rfl _⟩
  have d0 := (World.cell?_of_block (a := ⟨g, 0, none⟩) hg1).trans c0
  have d1 := (World.cell?_of_block (a := ⟨g, 1, none⟩) hg1).trans c1
  have f1 := (frozen_block hg1 1).trans (hfr 1)
  replace hr1 := Lib.hid hr1
  replace hK1 := Lib.hid hK1
  replace hg1 := Lib.hid hg1
  replace hc1 := Lib.hid hc1
  clear hr
  go_enter Try.func98, Try.ntmps98
  go_wp2_with fail
  go_end0
  have hK2 : Cl.Keeps (fun b => ¬ F b) w (w1.setCell ⟨g, 1, none⟩ (.int .i64 0)) := keeps_put hK1.out (fun h => h hg)
  have hkr : (w1.setCell ⟨g, 1, none⟩ (.int .i64 0)).heap[k]? = w1.heap[k]? := Below.heap_setCell _ _ _ _ (by show k ≠ g; omega)
  have hsz := hK2.size
  refine ⟨rfl, hK2, ss, ⟨⟨g, k, d, rfl, hg, by omega, hk', by omega, hgk, fun j => ?_, ?_, ?_, ?_, fun j hj => ?_⟩, fun j => ?_, ?_⟩⟩
  · rw [World.frozen?_setCell]
    exact (frozen_block hg1.out j).trans (hfr j)
  · rw [List.length_replicate, World.cell?_setCell_other _ _ _ _ (by intro e; injection e; omega)]
    exact d0
  · exact World.cell?_setCell_same _ _ _ d1
  · rw [List.length_replicate]
    exact hr1.out.block hkr
  · rw [List.length_replicate] at hj
    rw [zero_at]
    exact (hc1.out j hj).block hkr
  · rw [zero_at]; decide
  · rw [List.length_replicate]; exact hsm
end Go.Proofs.Ytnndhbppgmnefaa
