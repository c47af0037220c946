/- Geometries: how great one is: Cells, Size, Count, Lpns, of the program and of the reference. -/
import Derived.Test.YtadfamjacncmfaaGa
namespace Go.Proofs.Ytadfamjacncmfaa
open Go.RowKit

theorem may_of {B P W K : Int} (h : mayG B P W K = true) : 4 ≤ B ∧ B ≤ 64 ∧ 2 ≤ P ∧ P ≤ 32 ∧ 1 ≤ W ∧ W ≤ 4 ∧ 1 ≤ K ∧ K ≤ 64 ∧ 8 < W * K := by
  unfold mayG at h
  exact of_decide_eq_true h
def celG (B P W K : Int) : Int := if mayG B P W K = true then W * (K + 16) else 0
def sizG (B P W K : Int) : Int := if mayG B P W K = true then bytG (W * K - 8) else 0
def cntG (B P W K : Int) : Int := if mayG B P W K = true then B * P else 0
def lpnG (B P W K s : Int) : Int := if mayG B P W K = true ∧ 0 ≤ s ∧ s ≤ B - 4 then (B - s - 3) * P / 2 else 0
theorem wk16 {W K : Int} (h1 : 1 ≤ W) (h2 : W ≤ 4) (h3 : 1 ≤ K) (h4 : K ≤ 64) : wrap64 (W * (K + 16)) = W * (K + 16) := by
  refine IntWalk.wrap64_in _ ?_
  have : W = 1 ∨ W = 2 ∨ W = 3 ∨ W = 4 := by omega
  rcases this with rfl | rfl | rfl | rfl <;> omega
theorem wk_in {W K : Int} (h1 : 1 ≤ W) (h2 : W ≤ 4) (h3 : 1 ≤ K) (h4 : K ≤ 64) : wrap64 (W * K) = W * K := by
  have := prod_le h1 h2 h3 h4
  exact IntWalk.wrap64_in _ (by omega)
theorem bp_le {x P : Int} (h1 : 0 ≤ x) (h2 : x ≤ 64) (h3 : 0 ≤ P) (h4 : P ≤ 32) : 0 ≤ x * P ∧ x * P ≤ 2048 := by
  refine ⟨Int.mul_nonneg h1 h3, ?_⟩
  have h5 : x * P ≤ x * 32 := Int.mul_le_mul_of_nonneg_left h4 h1
  omega
theorem bp_in {x P : Int} (h1 : 0 ≤ x) (h2 : x ≤ 64) (h3 : 0 ≤ P) (h4 : P ≤ 32) : wrap64 (x * P) = x * P := by
  have := bp_le h1 h2 h3 h4
  exact IntWalk.wrap64_in _ (by omega)
theorem half_none : wrap64 ((wrap64 0).tdiv 2) = 0 := by decide +kernel
theorem half_zero {x P : Int} (h : x = 0) : wrap64 ((wrap64 (x * P)).tdiv 2) = 0 := by
  rw [h, Int.zero_mul]; exact half_none
/-- block g holds that geometry -/
structure Box (w : World) (g : Nat) (B P W K : Int) : Prop where
  lt : g < w.heap.size
  c0 : w.cell? ⟨g, 0, none⟩ = some (.int .i64 B)
  c1 : w.cell? ⟨g, 1, none⟩ = some (.int .i64 P)
  c2 : w.cell? ⟨g, 2, none⟩ = some (.int .i64 W)
  c3 : w.cell? ⟨g, 3, none⟩ = some (.int .i64 K)
theorem Box.keep {w w' : World} {g : Nat} {B P W K : Int} (h : Box w g B P W K) (hb : Below w.heap.size w w') : Box w' g B P W K :=
  ⟨Nat.lt_of_lt_of_le h.lt hb.size, (hb.cell h.lt).trans h.c0, (hb.cell h.lt).trans h.c1, (hb.cell h.lt).trans h.c2, (hb.cell h.lt).trans h.c3⟩
theorem cell_of {w : World} {g : Nat} {cs : Array Value} {t : TypeId} (h : w.heap[g]? = some (.cells cs t)) (i : Nat) : w.cell? ⟨g, i, none⟩ = cs[i]? := by simp [World.cell?, h]
theorem Box.new (w : World) (B P W K : Int) : Box (w.alloc (.cells #[.int .i64 B, .int .i64 P, .int .i64 W, .int .i64 K] 23)) w.heap.size B P W K := by
  have h : (w.alloc (.cells #[.int .i64 B, .int .i64 P, .int .i64 W, .int .i64 K] 23)).heap[w.heap.size]? = some (.cells #[.int .i64 B, .int .i64 P, .int .i64 W, .int .i64 K] 23) := by
    show (w.heap.push _)[w.heap.size]? = _
    rw [Array.getElem?_push, if_pos rfl]
  exact ⟨by rw [World.size_alloc]; omega, cell_of h 0, cell_of h 1, cell_of h 2, cell_of h 3⟩
set_option maxHeartbeats 1000000 in
theorem cells_any (B P W K : Int) (w : World) : Calls Try.prog 13 #[.agg #[.int .i64 B, .int .i64 P, .int .i64 W, .int .i64 K]] w (Ans w (.int .i64 (celG B P W K))) := by
  have hb := below_alloc w (.cells #[.int .i64 B, .int .i64 P, .int .i64 W, .int .i64 K] 23)
  have hx := Lib.hid (Box.new w B P W K)
  have hc := Lib.hid (may_any B P W K (w.alloc (.cells #[.int .i64 B, .int .i64 P, .int .i64 W, .int .i64 K] 23)))
  replace hb := Lib.hid hb
  cases hM : mayG B P W K
  · have hr : celG B P W K = 0 := by unfold celG; rw [hM]; rfl
    rw [hM] at hc
    rw [hr]
    go_enter Try.func13, Try.ntmps13
    go_wp2_with (go_at_call 12; (with_reducible refine hc.out.mono ?_); rintro e w1 ⟨rfl, hb1⟩; have hb2 := Lib.hid (hb.out.trans (hb1.mono hb.out.size)); clear hb1)
    go_ret
    exact ⟨rfl, hb2.out⟩
  · obtain ⟨h1, h2, h3, h4, h5, h6, h7, h8, h9⟩ := may_of hM
    rw [hM] at hc
    have hr : celG B P W K = W * (K + 16) := by unfold celG; rw [hM]; rfl
    have hw := wk16 h5 h6 h7 h8
    rw [hr]
    clear hr h9 h1 h2 h3 h4
    go_enter Try.func13, Try.ntmps13
    go_wp2_with (first
      | (go_at_call 12; (with_reducible refine hc.out.mono ?_); rintro e w1 ⟨rfl, hb1⟩; have hb2 := Lib.hid (hb.out.trans (hb1.mono hb.out.size)); obtain ⟨hlt, c0, c1, c2, c3⟩ := hx.out.keep hb1; clear hb1))
    go_ret
    exact ⟨congrArg (fun z => Ending.returned (.int .i64 z)) (hw), hb2.out⟩
set_option maxHeartbeats 1000000 in
theorem refcells_any (B P W K : Int) (w : World) : Calls Try.prog 14 #[.agg #[.int .i64 B, .int .i64 P, .int .i64 W, .int .i64 K]] w (Ans w (.int .i64 (celG B P W K))) := by
  have hb := below_alloc w (.cells #[.int .i64 B, .int .i64 P, .int .i64 W, .int .i64 K] 23)
  have hx := Lib.hid (Box.new w B P W K)
  have hc := Lib.hid (refmay_any B P W K (w.alloc (.cells #[.int .i64 B, .int .i64 P, .int .i64 W, .int .i64 K] 23)))
  replace hb := Lib.hid hb
  cases hM : mayG B P W K
  · have hr : celG B P W K = 0 := by unfold celG; rw [hM]; rfl
    rw [hM] at hc
    rw [hr]
    go_enter Try.func14, Try.ntmps14
    go_wp2_with (go_at_call 9; (with_reducible refine hc.out.mono ?_); rintro e w1 ⟨rfl, hb1⟩; have hb2 := Lib.hid (hb.out.trans (hb1.mono hb.out.size)); clear hb1)
    go_ret
    exact ⟨rfl, hb2.out⟩
  · obtain ⟨h1, h2, h3, h4, h5, h6, h7, h8, h9⟩ := may_of hM
    rw [hM] at hc
    have hr : celG B P W K = W * (K + 16) := by unfold celG; rw [hM]; rfl
    have hw := wk16 h5 h6 h7 h8
    rw [hr]
    clear hr h9 h1 h2 h3 h4
    go_enter Try.func14, Try.ntmps14
    go_wp2_with (first
      | (go_at_call 9; (with_reducible refine hc.out.mono ?_); rintro e w1 ⟨rfl, hb1⟩; have hb2 := Lib.hid (hb.out.trans (hb1.mono hb.out.size)); obtain ⟨hlt, c0, c1, c2, c3⟩ := hx.out.keep hb1; clear hb1))
    go_ret
    exact ⟨congrArg (fun z => Ending.returned (.int .i64 z)) (hw), hb2.out⟩
set_option maxHeartbeats 1000000 in
theorem size_any (B P W K : Int) (w : World) : Calls Try.prog 15 #[.agg #[.int .i64 B, .int .i64 P, .int .i64 W, .int .i64 K]] w (Ans w (.int .i64 (sizG B P W K))) := by
  have hb := below_alloc w (.cells #[.int .i64 B, .int .i64 P, .int .i64 W, .int .i64 K] 23)
  have hx := Lib.hid (Box.new w B P W K)
  have hc := Lib.hid (may_any B P W K (w.alloc (.cells #[.int .i64 B, .int .i64 P, .int .i64 W, .int .i64 K] 23)))
  replace hb := Lib.hid hb
  cases hM : mayG B P W K
  · have hr : sizG B P W K = 0 := by unfold sizG; rw [hM]; rfl
    rw [hM] at hc
    rw [hr]
    go_enter Try.func15, Try.ntmps15
    go_wp2_with (go_at_call 12; (with_reducible refine hc.out.mono ?_); rintro e w1 ⟨rfl, hb1⟩; have hb2 := Lib.hid (hb.out.trans (hb1.mono hb.out.size)); clear hb1)
    go_ret
    exact ⟨rfl, hb2.out⟩
  · obtain ⟨h1, h2, h3, h4, h5, h6, h7, h8, h9⟩ := may_of hM
    rw [hM] at hc
    have hr : sizG B P W K = bytG (W * K - 8) := by unfold sizG; rw [hM]; rfl
    have hw := wk_in h5 h6 h7 h8
    have hp := prod_le h5 h6 h7 h8
    obtain ⟨n, hn⟩ : ∃ n, W * K = n := ⟨_, rfl⟩
    rw [hr, hn]
    rw [hn] at hw hp h9
    have hcb := Lib.hid (bytes_any (n - 8))
    clear hr h1 h2 h3 h4
    go_enter Try.func15, Try.ntmps15
    go_wp2_with (first
      | (go_at_call 12; (with_reducible refine hc.out.mono ?_); rintro e w1 ⟨rfl, hb1⟩; have hb2 := Lib.hid (hb.out.trans (hb1.mono hb.out.size)); obtain ⟨hlt, c0, c1, c2, c3⟩ := hx.out.keep hb1; clear hb1)
      | (go_at_call 21; (with_reducible refine (hcb.out _).mono ?_); rintro e w2 ⟨rfl, rfl⟩))
    go_ret
    exact ⟨rfl, hb2.out⟩
set_option maxHeartbeats 1000000 in
theorem refsize_any (B P W K : Int) (w : World) : Calls Try.prog 16 #[.agg #[.int .i64 B, .int .i64 P, .int .i64 W, .int .i64 K]] w (Ans w (.int .i64 (sizG B P W K))) := by
  have hb := below_alloc w (.cells #[.int .i64 B, .int .i64 P, .int .i64 W, .int .i64 K] 23)
  have hx := Lib.hid (Box.new w B P W K)
  have hc := Lib.hid (refmay_any B P W K (w.alloc (.cells #[.int .i64 B, .int .i64 P, .int .i64 W, .int .i64 K] 23)))
  replace hb := Lib.hid hb
  cases hM : mayG B P W K
  · have hr : sizG B P W K = 0 := by unfold sizG; rw [hM]; rfl
    rw [hM] at hc
    rw [hr]
    go_enter Try.func16, Try.ntmps16
    go_wp2_with (go_at_call 9; (with_reducible refine hc.out.mono ?_); rintro e w1 ⟨rfl, hb1⟩; have hb2 := Lib.hid (hb.out.trans (hb1.mono hb.out.size)); clear hb1)
    go_ret
    exact ⟨rfl, hb2.out⟩
  · obtain ⟨h1, h2, h3, h4, h5, h6, h7, h8, h9⟩ := may_of hM
    rw [hM] at hc
    have hr : sizG B P W K = bytG (W * K - 8) := by unfold sizG; rw [hM]; rfl
    have hw := wk_in h5 h6 h7 h8
    have hp := prod_le h5 h6 h7 h8
    obtain ⟨n, hn⟩ : ∃ n, W * K = n := ⟨_, rfl⟩
    rw [hr, hn]
    rw [hn] at hw hp h9
    have hcb := Lib.hid (refbytes_any (n - 8))
    clear hr h1 h2 h3 h4
    go_enter Try.func16, Try.ntmps16
    go_wp2_with (first
      | (go_at_call 9; (with_reducible refine hc.out.mono ?_); rintro e w1 ⟨rfl, hb1⟩; have hb2 := Lib.hid (hb.out.trans (hb1.mono hb.out.size)); obtain ⟨hlt, c0, c1, c2, c3⟩ := hx.out.keep hb1; clear hb1)
      | (go_at_call 22; (with_reducible refine (hcb.out _).mono ?_); rintro e w2 ⟨rfl, rfl⟩))
    go_ret
    exact ⟨rfl, hb2.out⟩
set_option maxHeartbeats 1000000 in
theorem count_any (B P W K : Int) (w : World) : Calls Try.prog 17 #[.agg #[.int .i64 B, .int .i64 P, .int .i64 W, .int .i64 K]] w (Ans w (.int .i64 (cntG B P W K))) := by
  have hb := below_alloc w (.cells #[.int .i64 B, .int .i64 P, .int .i64 W, .int .i64 K] 23)
  have hx := Lib.hid (Box.new w B P W K)
  have hc := Lib.hid (may_any B P W K (w.alloc (.cells #[.int .i64 B, .int .i64 P, .int .i64 W, .int .i64 K] 23)))
  replace hb := Lib.hid hb
  cases hM : mayG B P W K
  · have hr : cntG B P W K = 0 := by unfold cntG; rw [hM]; rfl
    rw [hM] at hc
    rw [hr]
    go_enter Try.func17, Try.ntmps17
    go_wp2_with (go_at_call 12; (with_reducible refine hc.out.mono ?_); rintro e w1 ⟨rfl, hb1⟩; have hb2 := Lib.hid (hb.out.trans (hb1.mono hb.out.size)); clear hb1)
    go_ret
    exact ⟨rfl, hb2.out⟩
  · obtain ⟨h1, h2, h3, h4, h5, h6, h7, h8, h9⟩ := may_of hM
    rw [hM] at hc
    have hr : cntG B P W K = B * P := by unfold cntG; rw [hM]; rfl
    have hw := bp_in (by omega : 0 ≤ B) h2 (by omega : 0 ≤ P) h4
    rw [hr]
    clear hr h9 h5 h6 h7 h8
    go_enter Try.func17, Try.ntmps17
    go_wp2_with (first
      | (go_at_call 12; (with_reducible refine hc.out.mono ?_); rintro e w1 ⟨rfl, hb1⟩; have hb2 := Lib.hid (hb.out.trans (hb1.mono hb.out.size)); obtain ⟨hlt, c0, c1, c2, c3⟩ := hx.out.keep hb1; clear hb1))
    go_ret
    exact ⟨congrArg (fun z => Ending.returned (.int .i64 z)) (hw), hb2.out⟩
set_option maxHeartbeats 2000000 in
theorem lpns_any (B P W K s : Int) (w : World) (hs : -9223372036854775808 ≤ s ∧ s ≤ 9223372036854775807) : Calls Try.prog 18 #[.agg #[.int .i64 B, .int .i64 P, .int .i64 W, .int .i64 K], .int .i64 s] w (Ans w (.int .i64 (lpnG B P W K s))) := by
  have hb := below_alloc w (.cells #[.int .i64 B, .int .i64 P, .int .i64 W, .int .i64 K] 23)
  have hx := Lib.hid (Box.new w B P W K)
  have hc := Lib.hid (may_any B P W K (w.alloc (.cells #[.int .i64 B, .int .i64 P, .int .i64 W, .int .i64 K] 23)))
  replace hb := Lib.hid hb
  cases hM : mayG B P W K
  · have hr : lpnG B P W K s = 0 := by unfold lpnG; rw [hM, if_neg (by simp)]
    rw [hM] at hc
    rw [hr]
    go_enter Try.func18, Try.ntmps18
    go_wp2_with (go_at_call 12; (with_reducible refine hc.out.mono ?_); rintro e w1 ⟨rfl, hb1⟩; have hb2 := Lib.hid (hb.out.trans (hb1.mono hb.out.size)); clear hb1)
    go_ret
    exact ⟨rfl, hb2.out⟩
  · obtain ⟨h1, h2, h3, h4, h5, h6, h7, h8, h9⟩ := may_of hM
    rw [hM] at hc
    clear h5 h6 h7 h8 h9
    by_cases h0 : 0 ≤ s
    · by_cases h5 : s ≤ B - 4
      · have hr : lpnG B P W K s = (B - s - 3) * P / 2 := by unfold lpnG; rw [hM, if_pos ⟨rfl, h0, h5⟩]
        have hp := bp_le (by omega : 0 ≤ B - s - 3) (by omega) (by omega : 0 ≤ P) h4
        have hw := bp_in (by omega : 0 ≤ B - s - 3) (by omega) (by omega : 0 ≤ P) h4
        obtain ⟨q, hq⟩ : ∃ q : Nat, (B - s - 3) * P = (q : Int) := ⟨((B - s - 3) * P).toNat, by omega⟩
        rw [hr, hq]
        rw [hq] at hw
        have hw1 : wrap64 ((B - s - 3) * P) = (q : Int) := by rw [hq]; exact hw
        have hw2 : wrap64 ((B - 3 - s) * P) = (q : Int) := by rw [show B - 3 - s = B - s - 3 by omega, hq]; exact hw
        have hw3 : wrap64 ((q : Int) / 2) = (q : Int) / 2 := IntWalk.wrap64_in _ (by omega)
        clear hr hp hq
        go_enter Try.func18, Try.ntmps18
        go_wp2_with (go_at_call 12; (with_reducible refine hc.out.mono ?_); rintro e w1 ⟨rfl, hb1⟩; have hb2 := Lib.hid (hb.out.trans (hb1.mono hb.out.size)); obtain ⟨hlt, c0, c1, c2, c3⟩ := hx.out.keep hb1; clear hb1)
        go_ret
        exact ⟨congrArg (fun z => Ending.returned (.int .i64 z)) hw3, hb2.out⟩
      · have hr : lpnG B P W K s = 0 := by unfold lpnG; rw [hM, if_neg (fun h => h5 h.2.2)]
        rw [hr]
        go_enter Try.func18, Try.ntmps18
        go_wp2_with (go_at_call 12; (with_reducible refine hc.out.mono ?_); rintro e w1 ⟨rfl, hb1⟩; have hb2 := Lib.hid (hb.out.trans (hb1.mono hb.out.size)); obtain ⟨hlt, c0, c1, c2, c3⟩ := hx.out.keep hb1; clear hb1)
        all_goals (go_ret; first | exact ⟨rfl, hb2.out⟩ | exact ⟨congrArg (fun z => Ending.returned (.int .i64 z)) half_none, hb2.out⟩ | exact ⟨congrArg (fun z => Ending.returned (.int .i64 z)) (half_zero (by omega)), hb2.out⟩)
    · have hr : lpnG B P W K s = 0 := by unfold lpnG; rw [hM, if_neg (fun h => h0 h.2.1)]
      rw [hr]
      go_enter Try.func18, Try.ntmps18
      go_wp2_with (go_at_call 12; (with_reducible refine hc.out.mono ?_); rintro e w1 ⟨rfl, hb1⟩; have hb2 := Lib.hid (hb.out.trans (hb1.mono hb.out.size)); clear hb1)
      go_ret
      exact ⟨rfl, hb2.out⟩
set_option maxHeartbeats 2000000 in
theorem reflpns_any (B P W K s : Int) (w : World) (hs : -9223372036854775808 ≤ s ∧ s ≤ 9223372036854775807) : Calls Try.prog 19 #[.agg #[.int .i64 B, .int .i64 P, .int .i64 W, .int .i64 K], .int .i64 s] w (Ans w (.int .i64 (lpnG B P W K s))) := by
  have hb := below_alloc w (.cells #[.int .i64 B, .int .i64 P, .int .i64 W, .int .i64 K] 23)
  have hx := Lib.hid (Box.new w B P W K)
  have hc := Lib.hid (refmay_any B P W K (w.alloc (.cells #[.int .i64 B, .int .i64 P, .int .i64 W, .int .i64 K] 23)))
  replace hb := Lib.hid hb
  cases hM : mayG B P W K
  · have hr : lpnG B P W K s = 0 := by unfold lpnG; rw [hM, if_neg (by simp)]
    rw [hM] at hc
    rw [hr]
    go_enter Try.func19, Try.ntmps19
    go_wp2_with (go_at_call 9; (with_reducible refine hc.out.mono ?_); rintro e w1 ⟨rfl, hb1⟩; have hb2 := Lib.hid (hb.out.trans (hb1.mono hb.out.size)); clear hb1)
    go_ret
    exact ⟨rfl, hb2.out⟩
  · obtain ⟨h1, h2, h3, h4, h5, h6, h7, h8, h9⟩ := may_of hM
    rw [hM] at hc
    clear h5 h6 h7 h8 h9
    by_cases h0 : 0 ≤ s
    · by_cases h5 : s ≤ B - 4
      · have hr : lpnG B P W K s = (B - s - 3) * P / 2 := by unfold lpnG; rw [hM, if_pos ⟨rfl, h0, h5⟩]
        have hp := bp_le (by omega : 0 ≤ B - s - 3) (by omega) (by omega : 0 ≤ P) h4
        have hw := bp_in (by omega : 0 ≤ B - s - 3) (by omega) (by omega : 0 ≤ P) h4
        obtain ⟨q, hq⟩ : ∃ q : Nat, (B - s - 3) * P = (q : Int) := ⟨((B - s - 3) * P).toNat, by omega⟩
        rw [hr, hq]
        rw [hq] at hw
        have hw1 : wrap64 ((B - s - 3) * P) = (q : Int) := by rw [hq]; exact hw
        have hw2 : wrap64 ((B - 3 - s) * P) = (q : Int) := by rw [show B - 3 - s = B - s - 3 by omega, hq]; exact hw
        have hw3 : wrap64 ((q : Int) / 2) = (q : Int) / 2 := IntWalk.wrap64_in _ (by omega)
        clear hr hp hq
        go_enter Try.func19, Try.ntmps19
        go_wp2_with (go_at_call 9; (with_reducible refine hc.out.mono ?_); rintro e w1 ⟨rfl, hb1⟩; have hb2 := Lib.hid (hb.out.trans (hb1.mono hb.out.size)); obtain ⟨hlt, c0, c1, c2, c3⟩ := hx.out.keep hb1; clear hb1)
        go_ret
        exact ⟨congrArg (fun z => Ending.returned (.int .i64 z)) hw3, hb2.out⟩
      · have hr : lpnG B P W K s = 0 := by unfold lpnG; rw [hM, if_neg (fun h => h5 h.2.2)]
        rw [hr]
        go_enter Try.func19, Try.ntmps19
        go_wp2_with (go_at_call 9; (with_reducible refine hc.out.mono ?_); rintro e w1 ⟨rfl, hb1⟩; have hb2 := Lib.hid (hb.out.trans (hb1.mono hb.out.size)); obtain ⟨hlt, c0, c1, c2, c3⟩ := hx.out.keep hb1; clear hb1)
        all_goals (go_ret; first | exact ⟨rfl, hb2.out⟩ | exact ⟨congrArg (fun z => Ending.returned (.int .i64 z)) half_none, hb2.out⟩ | exact ⟨congrArg (fun z => Ending.returned (.int .i64 z)) (half_zero (by omega)), hb2.out⟩)
    · have hr : lpnG B P W K s = 0 := by unfold lpnG; rw [hM, if_neg (fun h => h0 h.2.1)]
      rw [hr]
      go_enter Try.func19, Try.ntmps19
      go_wp2_with (go_at_call 9; (with_reducible refine hc.out.mono ?_); rintro e w1 ⟨rfl, hb1⟩; have hb2 := Lib.hid (hb.out.trans (hb1.mono hb.out.size)); clear hb1)
      go_ret
      exact ⟨rfl, hb2.out⟩
end Go.Proofs.Ytadfamjacncmfaa
