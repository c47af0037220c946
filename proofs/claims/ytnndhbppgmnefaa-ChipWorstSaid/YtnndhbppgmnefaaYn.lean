/- New, State, and what Program refuses at once. -/
import Derived.Test.YtnndhbppgmnefaaYb
import Derived.KernelRfl
namespace Go.Proofs.Ytnndhbppgmnefaa
open Go.RowKit Go.Gf Go.Fl
set_option linter.unusedVariables false
set_option linter.unusedSimpArgs false
theorem info50 : (Try.prog.info? 103).map (fun i => (i.zero, i.size, i.bytes)) = some (some (.agg #[.complex .f64 0 0, .int .u16 0]), 2, 24) := by kernel_rfl
/-- n cells without charge -/
def zC (n : Nat) : Array Value := madeCells #[.complex .f64 0 0, .int .u16 0] (n * 2)
theorem zC_size (n : Nat) : (zC n).size = n * 2 := size_madeCells _ _
theorem zC_0 {n i : Nat} (h : i < n) : (zC n)[i * 2]? = some (.complex .f64 0 0) := by
  unfold zC madeCells
  simp [show i * 2 < n * 2 by omega]
theorem zC_1 {n i : Nat} (h : i < n) : (zC n)[i * 2 + 1]? = some (.int .u16 0) := by
  unfold zC madeCells
  have e : (i * 2 + 1) % 2 = 1 := by omega
  simp [show i * 2 + 1 < n * 2 by omega, e]
theorem run_make44 (w : World) (n : Nat) (hn : n ≤ 65536) : (Instr.makeSlice 99 (.int .i64 (n : Int)) (.int .i64 (n : Int))).run Try.prog w = .ok (.slice (some ⟨w.heap.size, 0, none⟩) n n) (w.alloc (.cells (zC n) 103)) := by
  have hi0 := info50
  obtain ⟨i, hi, hrest⟩ := Option.map_eq_some_iff.1 hi0
  simp only [Prod.mk.injEq] at hrest
  obtain ⟨i1, i2, i3⟩ := hrest
  have h := run_make (P := Try.prog) w 99 103 i _ Try.underlying99 hi i1 .i64 .i64 (n : Int) (n : Int) (by omega) (Int.le_refl _) (by rw [i3]; omega) (by omega)
  rw [i2, Int.toNat_natCast] at h
  exact h
/-- n cells without charge, in new memory -/
theorem zC_new (w : World) (n : Nat) (st : Int) (hst : st = 0) (i : Nat) (hi : i < n) (x : Nat) : CellC (w.alloc (.cells (zC n) 103)) w.heap.size i (0, 0) st x :=
  ⟨⟨0, 0, (cell_new w _ _ _).trans (zC_0 hi), is_zero', is_zero'⟩, 0, (cell_new w _ _ _).trans (zC_1 hi), fun e => by rw [hst] at e; cases e⟩
section
variable {w w' : World} {F F' : Nat → Prop} {p : Addr} {ps : List (Int × Int)} {ss : List Nat} {st : Int}
theorem p_state (h : Page w F p ps ss st) : Calls Try.prog 94 #[.pointer (some p)] w (Ans w (.int .i64 st)) := by
  obtain ⟨⟨g, k, c, rfl, hg, hgl, hk, hkl, hgk, hfr, c0, c1, hr, hc⟩, hbd, hsm⟩ := h
  clear hr hc
  go_enter Try.func94, Try.ntmps94
  go_wp2_with fail
  go_ret
  exact ⟨rfl, Below.refl _ _⟩
theorem p_order (h : Page w F p ps ss st) (hst : st ≠ 0) {A : Option Addr} {n c : Nat} {keep : Int} : Calls Try.prog 82 #[.pointer (some p), .slice A n c, .int .i64 keep] w (Ans w (.int .i64 5)) := by
  obtain ⟨⟨g, k, c, rfl, hg, hgl, hk, hkl, hgk, hfr, c0, c1, hr, hc⟩, hbd, hsm⟩ := h
  have e1 : (st != 0) = true := by simpa using hst
  clear hr hc
  go_enter Try.func82, Try.ntmps82
  go_wp2_with fail
  go_ret
  exact ⟨rfl, Below.refl _ _⟩
theorem p_size (h : Page w F p ps ss 0) {A : Option Addr} {n c : Nat} {keep : Int} (hn : n ≠ ps.length) : Calls Try.prog 82 #[.pointer (some p), .slice A n c, .int .i64 keep] w (Ans w (.int .i64 3)) := by
  obtain ⟨⟨g, k, c, rfl, hg, hgl, hk, hkl, hgk, hfr, c0, c1, hr, hc⟩, hbd, hsm⟩ := h
  clear hr hc
  obtain ⟨m, hm⟩ : ∃ m, ps.length = m := ⟨_, rfl⟩
  rw [hm] at c0 hn
  have e1 : ((n : Int) != (m : Int)) = true := by simp; omega
  have e2 : (n != m) = true := by simpa using hn
  clear hm
  go_enter Try.func82, Try.ntmps82
  go_wp2_with fail
  go_ret
  exact ⟨rfl, Below.refl _ _⟩
theorem frozen_new {w : World} {g : Nat} {cs : Array Value} {t : TypeId} (h : w.heap[g]? = some (.cells cs t)) (i : Nat) : w.frozen? ⟨g, i, none⟩ = false := by simp [World.frozen?, h]
theorem page_fresh (w : World) (n : Nat) (hn : n ≤ 65536) (F : Nat → Prop) (hF : ∀ b, w.heap.size ≤ b → F b) :
    Page ((w.alloc (.cells (zC n) 103)).alloc (.cells #[.slice (some ⟨w.heap.size, 0, none⟩) n n, .int .i64 0] 101)) F ⟨w.heap.size + 1, 0, none⟩ (List.replicate n (0, 0)) [] 0 := by
  have hs := World.size_alloc w (.cells (zC n) 103)
  obtain ⟨w1, hw1⟩ : ∃ w1, w.alloc (.cells (zC n) 103) = w1 := ⟨_, rfl⟩
  have hcc := fun i hi x => zC_new w n 0 rfl i hi x
  have hrow := heap_alloc_new w (.cells (zC n) 103)
  rw [hw1] at hs hcc hrow ⊢
  have hb := below_alloc' w1 (.cells #[.slice (some ⟨w.heap.size, 0, none⟩) n n, .int .i64 0] 101)
  have hg := heap_alloc_new w1 (.cells #[.slice (some ⟨w.heap.size, 0, none⟩) n n, .int .i64 0] 101)
  have hs2 := World.size_alloc w1 (.cells #[.slice (some ⟨w.heap.size, 0, none⟩) n n, .int .i64 0] 101)
  rw [hs] at hg
  generalize w1.alloc (.cells #[.slice (some ⟨w.heap.size, 0, none⟩) n n, .int .i64 0] 101) = w2 at *
  have hk := hb.block w.heap.size (by omega)
  refine ⟨⟨w.heap.size + 1, w.heap.size, n, rfl, hF _ (by omega), by omega, hF _ (by omega), by omega, by omega, frozen_new hg, ?_, ?_, ⟨zC n, hk.trans hrow, ?_⟩, fun i hi => ?_⟩, fun i => ?_, ?_⟩
  · rw [cell_of hg, List.length_replicate]; rfl
  · rw [cell_of hg]; rfl
  · rw [zC_size, List.length_replicate]; exact Nat.le_refl _
  · rw [List.length_replicate] at hi
    rw [zero_at]
    exact (hcc i hi _).block hk
  · rw [zero_at]; decide
  · rw [List.length_replicate]; exact hn
theorem p_new (n : Nat) (N : Int) (hN : N = (n : Int)) (hn : n ≤ 65536) (F : Nat → Prop) (hF : ∀ b, w.heap.size ≤ b → F b) :
    Calls Try.prog 36 #[.int .i64 N] w fun e w' => ∃ p, e = .returned (.pointer (some p)) ∧ Below w.heap.size w w' ∧ Page w' F p (List.replicate n (0, 0)) [] 0 := by
  have e1 : (if (0 : Int) < N then N else 0) = (n : Int) := by split <;> omega
  have e2 : (if (65536 : Int) < N then 65536 else N) = (n : Int) := by split <;> omega
  subst hN
  have hm := run_make44 w n hn
  have hA := below_alloc' w (.cells (zC n) 103)
  have hpg := Lib.hid (page_fresh w n hn F hF)
  have hA2 := Lib.hid (hA.trans ((below_alloc' (w.alloc (.cells (zC n) 103)) (.cells #[.slice (some ⟨w.heap.size, 0, none⟩) n n, .int .i64 0] 101)).mono hA.size))
  clear hF hA
  go_enter Try.func36, Try.ntmps36
  go_wp2_with fail
  go_ret
  exact ⟨_, rfl, hA2.out, hpg.out⟩
theorem p_new_neg (N : Int) (hN : N < 0) (F : Nat → Prop) (hF : ∀ b, w.heap.size ≤ b → F b) :
    Calls Try.prog 36 #[.int .i64 N] w fun e w' => ∃ p, e = .returned (.pointer (some p)) ∧ Below w.heap.size w w' ∧ Page w' F p [] [] 0 := by
  have e1 : ¬ 0 ≤ N := by omega
  have hm : (Instr.makeSlice 99 (.int .i64 0) (.int .i64 0)).run Try.prog w = .ok (.slice (some ⟨w.heap.size, 0, none⟩) 0 0) (w.alloc (.cells (zC 0) 103)) := run_make44 w 0 (by decide)
  have hA := below_alloc' w (.cells (zC 0) 103)
  have hpg := Lib.hid (page_fresh w 0 (by decide) F hF)
  have hA2 := Lib.hid (hA.trans ((below_alloc' (w.alloc (.cells (zC 0) 103)) (.cells #[.slice (some ⟨w.heap.size, 0, none⟩) 0 0, .int .i64 0] 101)).mono hA.size))
  clear hF hA hN
  go_enter Try.func36, Try.ntmps36
  go_wp2_with fail
  go_ret
  exact ⟨_, rfl, hA2.out, hpg.out⟩
end
end Go.Proofs.Ytnndhbppgmnefaa
