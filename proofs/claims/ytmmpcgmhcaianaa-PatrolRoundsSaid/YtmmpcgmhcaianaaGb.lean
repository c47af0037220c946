/- Geometries: how great one is: Cells, Size, Count, Lpns, of the program and of the reference. -/
import Derived.Test.YtmmpcgmhcaianaaGa
namespace Go.Proofs.Ytmmpcgmhcaianaa.Ge
open Go.RowKit

theorem may_of {B P W K : Int} (h : mayG B P W K = true) : 4 ≤ B ∧ B ≤ 64 ∧ 2 ≤ P ∧ P ≤ 32 ∧ 1 ≤ W ∧ W ≤ 4 ∧ 1 ≤ K ∧ K ≤ 64 ∧ 8 < W * K := by
  unfold mayG at h
  exact of_decide_eq_true h
def celG (B P W K : Int) : Int := if mayG B P W K = true then W * (K + 16) else 0
def sizG (B P W K : Int) : Int := if mayG B P W K = true then bytG (W * K - 8) else 0
def cntG (B P W K : Int) : Int := if mayG B P W K = true then B * P else 0
def lpnG (B P W K s : Int) : Int := if mayG B P W K = true ∧ 0 ≤ s ∧ s ≤ B - 4 then (B - s - 3) * P / 2 else 0
theorem wk16 {W K : Int} (h1 : 1 ≤ W) (h2 : W ≤ 4) (h3 : 1 ≤ K) (h4 : K ≤ 64) : wrap64 (W * (K + 16)) = W * (K + 16) := by
  refine IntWalk.wrap64_in _ ?_
  have : W = 1 ∨ W = 2 ∨ W = 3 ∨ W = 4 := by omega
  rcases this with rfl | rfl | rfl | rfl <;> omega
theorem wk_in {W K : Int} (h1 : 1 ≤ W) (h2 : W ≤ 4) (h3 : 1 ≤ K) (h4 : K ≤ 64) : wrap64 (W * K) = W * K := by
  have := prod_le h1 h2 h3 h4
  exact IntWalk.wrap64_in _ (by omega)
theorem bp_le {x P : Int} (h1 : 0 ≤ x) (h2 : x ≤ 64) (h3 : 0 ≤ P) (h4 : P ≤ 32) : 0 ≤ x * P ∧ x * P ≤ 2048 := by
  refine ⟨Int.mul_nonneg h1 h3, ?_⟩
  have h5 : x * P ≤ x * 32 := Int.mul_le_mul_of_nonneg_left h4 h1
  omega
theorem bp_in {x P : Int} (h1 : 0 ≤ x) (h2 : x ≤ 64) (h3 : 0 ≤ P) (h4 : P ≤ 32) : wrap64 (x * P) = x * P := by
  have := bp_le h1 h2 h3 h4
  exact IntWalk.wrap64_in _ (by omega)
theorem half_none : wrap64 ((wrap64 0).tdiv 2) = 0 := by decide +kernel
theorem half_zero {x P : Int} (h : x = 0) : wrap64 ((wrap64 (x * P)).tdiv 2) = 0 := by
  rw [h, Int.zero_mul]; exact half_none
/-- block g holds that geometry -/
structure Box (w : World) (g : Nat) (B P W K : Int) : Prop where
  lt : g < w.heap.size
  c0 : w.cell? ⟨g, 0, none⟩ = some (.int .i64 B)
  c1 : w.cell? ⟨g, 1, none⟩ = some (.int .i64 P)
  c2 : w.cell? ⟨g, 2, none⟩ = some (.int .i64 W)
  c3 : w.cell? ⟨g, 3, none⟩ = some (.int .i64 K)
theorem Box.keep {w w' : World} {g : Nat} {B P W K : Int} (h : Box w g B P W K) (hb : Below w.heap.size w w') : Box w' g B P W K :=
  ⟨Nat.lt_of_lt_of_le h.lt hb.size, (hb.cell h.lt).trans h.c0, (hb.cell h.lt).trans h.c1, (hb.cell h.lt).trans h.c2, (hb.cell h.lt).trans h.c3⟩
theorem cell_of {w : World} {g : Nat} {cs : Array Value} {t : TypeId} (h : w.heap[g]? = some (.cells cs t)) (i : Nat) : w.cell? ⟨g, i, none⟩ = cs[i]? := by simp [World.cell?, h]
theorem Box.new (w : World) (B P W K : Int) : Box (w.alloc (.cells #[.int .i64 B, .int .i64 P, .int .i64 W, .int .i64 K] 23)) w.heap.size B P W K := by
  have h : (w.alloc (.cells #[.int .i64 B, .int .i64 P, .int .i64 W, .int .i64 K] 23)).heap[w.heap.size]? = some (.cells #[.int .i64 B, .int .i64 P, .int .i64 W, .int .i64 K] 23) := by
    show (w.heap.push _)[w.heap.size]? = _
    rw [Array.getElem?_push, if_pos rfl]
  exact ⟨by rw [World.size_alloc]; omega, cell_of h 0, cell_of h 1, cell_of h 2, cell_of h 3⟩


set_option maxHeartbeats 1000000 in
theorem count_any (B P W K : Int) (w : World) : Calls Try.prog 14 #[.agg #[.int .i64 B, .int .i64 P, .int .i64 W, .int .i64 K]] w (Ans w (.int .i64 (cntG B P W K))) := by
  have hb := below_alloc w (.cells #[.int .i64 B, .int .i64 P, .int .i64 W, .int .i64 K] 23)
  have hx := Lib.hid (Box.new w B P W K)
  have hc := Lib.hid (may_any B P W K (w.alloc (.cells #[.int .i64 B, .int .i64 P, .int .i64 W, .int .i64 K] 23)))
  replace hb := Lib.hid hb
  cases hM : mayG B P W K
  · have hr : cntG B P W K = 0 := by unfold cntG; rw [hM]; rfl
    rw [hM] at hc
    rw [hr]
    go_enter Try.func14, Try.ntmps14
    go_wp2_with (go_at_call 16; (with_reducible refine hc.out.mono ?_); rintro e w1 ⟨rfl, hb1⟩; have hb2 := Lib.hid (hb.out.trans (hb1.mono hb.out.size)); clear hb1)
    go_ret
    exact ⟨rfl, hb2.out⟩
  · obtain ⟨h1, h2, h3, h4, h5, h6, h7, h8, h9⟩ := may_of hM
    rw [hM] at hc
    have hr : cntG B P W K = B * P := by unfold cntG; rw [hM]; rfl
    have hw := bp_in (by omega : 0 ≤ B) h2 (by omega : 0 ≤ P) h4
    rw [hr]
    clear hr h9 h5 h6 h7 h8
    go_enter Try.func14, Try.ntmps14
    go_wp2_with (first
      | (go_at_call 16; (with_reducible refine hc.out.mono ?_); rintro e w1 ⟨rfl, hb1⟩; have hb2 := Lib.hid (hb.out.trans (hb1.mono hb.out.size)); obtain ⟨hlt, c0, c1, c2, c3⟩ := hx.out.keep hb1; clear hb1))
    go_ret
    exact ⟨congrArg (fun z => Ending.returned (.int .i64 z)) (hw), hb2.out⟩


end Go.Proofs.Ytmmpcgmhcaianaa.Ge
