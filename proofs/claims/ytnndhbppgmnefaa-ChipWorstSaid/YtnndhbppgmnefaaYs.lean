/- Sense tells all points, in a row of its own. -/
import Derived.Test.YtnndhbppgmnefaaYg
namespace Go.Proofs.Ytnndhbppgmnefaa
open Go.RowKit Go.Gf Go.Fl
set_option linter.unusedVariables false
set_option linter.unusedSimpArgs false
theorem info31 : (Try.prog.info? 41).map (fun i => (i.zero, i.size, i.bytes)) = some (some (.complex .f64 0 0), 1, 16) := by kernel_rfl
/-- n points at nought -/
def zX (n : Nat) : Array Value := madeCells #[.complex .f64 0 0] n
theorem zX_size (n : Nat) : (zX n).size = n := size_madeCells _ _
theorem run_make32 (w : World) (n : Nat) (hn : n ≤ 65536) : (Instr.makeSlice 38 (.int .i64 (n : Int)) (.int .i64 (n : Int))).run Try.prog w = .ok (.slice (some ⟨w.heap.size, 0, none⟩) n n) (w.alloc (.cells (zX n) 41)) := by
  have hi0 := info31
  obtain ⟨i, hi, hrest⟩ := Option.map_eq_some_iff.1 hi0
  simp only [Prod.mk.injEq] at hrest
  obtain ⟨i1, i2, i3⟩ := hrest
  have h := run_make (P := Try.prog) w 38 41 i _ Try.underlying38 hi i1 .i64 .i64 (n : Int) (n : Int) (by omega) (Int.le_refl _) (by rw [i3]; omega) (by omega)
  rw [i2, Int.toNat_natCast, Nat.mul_one] at h
  exact h
/-- the first i points lie in block m -/
def Told (w0 wr : World) (m n : Nat) (ps : List (Int × Int)) (i : Nat) : Prop := Below w0.heap.size w0 wr ∧ w0.heap.size ≤ m ∧ RowX wr m n ∧ ∀ j, j < i → IsP wr ⟨m, j, none⟩ (ptAt ps j)
theorem Told.step {w0 wr : World} {m n i : Nat} {ps : List (Int × Int)} (h : Told w0 wr m n ps i) (hi : i < n) {x y s : Nat} (hx : Is x ((ptAt ps i).1 : Rat)) (hy : Is y ((ptAt ps i).2 : Rat)) :
    ∃ u, (wr.alloc (.cells #[.complex .f64 x y, .int .u16 (s : Int)] 103)).cell? ⟨m, i, none⟩ = some u ∧ (wr.alloc (.cells #[.complex .f64 x y, .int .u16 (s : Int)] 103)).frozen? ⟨m, i, none⟩ = false ∧
      Hid (Told w0 ((wr.alloc (.cells #[.complex .f64 x y, .int .u16 (s : Int)] 103)).setCell ⟨m, i, none⟩ (.complex .f64 x y)) m n ps (i + 1)) := by
  obtain ⟨h1, h2, h3, h4⟩ := h
  have hb := below_alloc' wr (.cells #[.complex .f64 x y, .int .u16 (s : Int)] 103)
  generalize wr.alloc (.cells #[.complex .f64 x y, .int .u16 (s : Int)] 103) = w2 at *
  have hm := h3.lt
  have e := hb.block m hm
  have r2 := h3.keep e
  obtain ⟨u, hu⟩ := r2.cell hi
  refine ⟨u, hu, r2.frozen i, (h1.trans (hb.mono h1.size)).setCell (p := ⟨m, i, none⟩) h2 _, h2, r2.set_ _ _, fun j hj => ?_⟩
  by_cases ej : j = i
  · subst ej
    exact ⟨x, y, World.cell?_setCell_same _ _ _ hu, hx, hy⟩
  · obtain ⟨x1, y1, q1, q2, q3⟩ := (h4 j (by omega)).block (w' := w2) e
    exact ⟨x1, y1, (World.cell?_setCell_other _ _ _ _ (by intro e; injection e; omega)).trans q1, q2, q3⟩
attribute [local go_sem] run_store_cx
set_option maxHeartbeats 2000000 in
theorem p_sense {w : World} {F : Nat → Prop} {p : Addr} {ps : List (Int × Int)} {ss : List Nat} {st : Int} (h : Page w F p ps ss st) {n : Nat} (hn : ps.length = n) :
    Calls Try.prog 30 #[.pointer (some p)] w fun e w' => ∃ A c, e = .returned (.slice A n c) ∧ n ≤ c ∧ Below w.heap.size w w' ∧ Pts w' w.heap.size A ps := by
  obtain ⟨⟨g, k, d, rfl, hg, hgl, hk', hkl, hgk, hfr, c0, c1, hr, hc⟩, hbd, hsm⟩ := h
  rw [hn] at c0 hr hc hsm
  have hm := run_make32 w n hsm
  have hA := below_alloc' w (.cells (zX n) 41)
  have hsz := World.size_alloc w (.cells (zX n) 41)
  have hrow : RowX (w.alloc (.cells (zX n) 41)) w.heap.size n := ⟨zX n, heap_alloc_new w _, by rw [zX_size]; exact Nat.le_refl _⟩
  have hT0 : Hid (Told w (w.alloc (.cells (zX n) 41)) w.heap.size n ps 0) := ⟨hA, Nat.le_refl _, hrow, fun j hj => absurd hj (by omega)⟩
  have c0' : (w.alloc (.cells (zX n) 41)).cell? ⟨g, 0, none⟩ = some (.slice (some ⟨k, 0, none⟩) n d) := (hA.cell (p := ⟨g, 0, none⟩) hgl).trans c0
  replace hc := Lib.hid hc
  replace hn := Lib.hid hn
  clear hbd hrow hr hA hsz
  generalize hw1 : w.alloc (.cells (zX n) 41) = w1 at *
  generalize hmm : w.heap.size = m at *
  clear hw1
  replace hmm := Lib.hid hmm
  go_enter Try.func30, Try.ntmps30
  go_wp2_with fail
  go_loopw [19] (fun q wr => ∃ i : Nat, i ≤ n ∧ q = .int .i64 i ∧ Told w wr m n ps i) (fun q _ => n - (intOf q).toNat)
  case atStart => exact ⟨0, Nat.zero_le _, rfl, hT0.out⟩
  case round =>
    obtain ⟨i, hi, rfl, hT⟩ := hrel
    by_cases hin : i < n
    · have hiI : (i : Int) < (n : Int) := by omega
      have hdi : decide (i < n) = true := decide_eq_true hin
      obtain ⟨⟨x, y, hxy, hx, hy⟩, s, hs, _⟩ := hc.out i hin
      have hxr : wr.cell? ⟨k, i * 2, none⟩ = some (.complex .f64 x y) := (hT.1.cell (p := ⟨k, i * 2, none⟩) (by rw [hmm.out]; exact hkl)).trans hxy
      have hsr : wr.cell? ⟨k, i * 2 + 1, none⟩ = some (.int .u16 (s : Int)) := (hT.1.cell (p := ⟨k, i * 2 + 1, none⟩) (by rw [hmm.out]; exact hkl)).trans hs
      have h6 : i < 65536 := by omega
      replace hT := Lib.hid hT
      clear hxy hs
      obtain ⟨u, hu, hf, hT1⟩ := hT.out.step hin (s := s) hx hy
      clear hx hy
      go_wp2_with fail
      go_roundw
      case rel => exact ⟨i + 1, by omega, by go_num, hT1.out⟩
      case measure => simp [intOf]; omega
    · obtain rfl : i = n := by omega
      have hdi : decide (i < i) = false := decide_eq_false (Nat.lt_irrefl _)
      obtain ⟨t1, t2, t3, t4⟩ := hT
      replace t1 := Lib.hid t1
      replace t2 := Lib.hid t2
      replace t3 := Lib.hid t3
      replace t4 := Lib.hid t4
      go_wp2_with fail
      go_ret
      refine ⟨some ⟨m, 0, none⟩, i, rfl, Nat.le_refl _, by rw [← hmm.out]; exact t1.out, Or.inr ⟨m, rfl, Nat.le_refl _, by rw [hn.out]; exact t3.out, fun j hj => t4.out j (by rw [← hn.out]; exact hj)⟩⟩
end Go.Proofs.Ytnndhbppgmnefaa
