/- Geometries: what the program and the reference answer whether one may be; how many bytes go into so many symbols. · Geometries: how great one is: Cells, Size, Count, Lpns, of the program and of the reference. · Geometries: where a page stands, and its number. · Geometries: contracts at numbers that are known; regions that draw their order. -/
import Derived.Test.YtmchelbmeajcnaaProg
import Derived.Test.YtmchelbmeajcnaaWy
import Derived.Below
import Derived.WalkKit
import Derived.WalkSpells
import Derived.WalkLawsBesides
import Derived.Lib.Hide
import Derived.IntWalk
import Derived.Deep.Draws
namespace Go.Proofs.Ytmchelbmeajcnaa.Ge
open Go.RowKit

/-- an answer; old memory is as it was -/
def Ans (w : World) (v : Value) (e : Ending) (w' : World) : Prop := e = .returned v ∧ Below w.heap.size w w'
theorem below_drewN (w : World) (n : Nat) : Below w.heap.size w (w.drewN n) := ⟨rfl, rfl, rfl, Nat.le_refl _, fun _ _ => rfl⟩
theorem Ans.trans {w w1 w2 : World} (h : Below w.heap.size w w1) (k : Below w1.heap.size w1 w2) : Below w.heap.size w w2 := h.trans (k.mono h.size)
theorem below_alloc (w : World) (o : Obj) : Below w.heap.size w (w.alloc o) := (Below.refl _ _).alloc (Nat.le_refl _) _
/-- is n from l to m? -/
theorem in_any (n l m : Int) (w : World) : Calls Try.prog 54 #[.int .i64 n, .int .i64 l, .int .i64 m] w fun e w' => e = .returned (.bool (decide (l ≤ n) && decide (n ≤ m))) ∧ w = w' := by
  obtain ⟨b1, h1⟩ : ∃ b, decide (l ≤ n) = b := ⟨_, rfl⟩
  obtain ⟨b2, h2⟩ : ∃ b, decide (n ≤ m) = b := ⟨_, rfl⟩
  rw [h1, h2]
  cases b1
  · go_enter Try.func54, Try.ntmps54
    go_wp2_with fail
    go_ret
    exact ⟨rfl, rfl⟩
  · go_enter Try.func54, Try.ntmps54
    go_wp2_with fail
    go_ret
    exact ⟨rfl, rfl⟩
/-- a geometry that may be -/
def mayG (B P W K : Int) : Bool := decide (4 ≤ B ∧ B ≤ 64 ∧ 2 ≤ P ∧ P ≤ 32 ∧ 1 ≤ W ∧ W ≤ 4 ∧ 1 ≤ K ∧ K ≤ 64 ∧ 8 < W * K)
theorem prod_le {W K : Int} (h1 : 1 ≤ W) (h2 : W ≤ 4) (h3 : 1 ≤ K) (h4 : K ≤ 64) : 0 ≤ W * K ∧ W * K ≤ 256 := by
  have : W = 1 ∨ W = 2 ∨ W = 3 ∨ W = 4 := by omega
  rcases this with rfl | rfl | rfl | rfl <;> omega
/-- .. as both reckon it, test by test -/
theorem mayG_eq (B P W K : Int) : mayG B P W K = (decide (4 ≤ B) && decide (B ≤ 64) && (decide (2 ≤ P) && decide (P ≤ 32)) && (decide (1 ≤ W) && decide (W ≤ 4)) && (decide (1 ≤ K) && decide (K ≤ 64)) && decide (8 < wrap64 (W * K))) := by
  unfold mayG
  rw [Bool.eq_iff_iff]
  simp only [Bool.and_eq_true, decide_eq_true_eq]
  refine ⟨fun ⟨h1, h2, h3, h4, h5, h6, h7, h8, h9⟩ => ?_, fun ⟨⟨⟨⟨⟨h1, h2⟩, h3, h4⟩, h5, h6⟩, h7, h8⟩, h9⟩ => ?_⟩
  · have := prod_le h5 h6 h7 h8
    rw [IntWalk.wrap64_in _ (by omega)]
    exact ⟨⟨⟨⟨⟨h1, h2⟩, h3, h4⟩, h5, h6⟩, h7, h8⟩, h9⟩
  · have := prod_le h5 h6 h7 h8
    rw [IntWalk.wrap64_in _ (by omega)] at h9
    exact ⟨h1, h2, h3, h4, h5, h6, h7, h8, h9⟩
set_option maxHeartbeats 2000000 in
theorem may_any (B P W K : Int) (w : World) : Calls Try.prog 30 #[.agg #[.int .i64 B, .int .i64 P, .int .i64 W, .int .i64 K]] w (Ans w (.bool (mayG B P W K))) := by
  have hB : ∀ w, Calls Try.prog 54 #[.int .i64 B, .int .i64 4, .int .i64 64] w fun e w' => e = .returned (.bool (decide (4 ≤ B) && decide (B ≤ 64))) ∧ w = w' := in_any B 4 64
  have hP : ∀ w, Calls Try.prog 54 #[.int .i64 P, .int .i64 2, .int .i64 32] w fun e w' => e = .returned (.bool (decide (2 ≤ P) && decide (P ≤ 32))) ∧ w = w' := in_any P 2 32
  have hW : ∀ w, Calls Try.prog 54 #[.int .i64 W, .int .i64 1, .int .i64 4] w fun e w' => e = .returned (.bool (decide (1 ≤ W) && decide (W ≤ 4))) ∧ w = w' := in_any W 1 4
  have hK : ∀ w, Calls Try.prog 54 #[.int .i64 K, .int .i64 1, .int .i64 64] w fun e w' => e = .returned (.bool (decide (1 ≤ K) && decide (K ≤ 64))) ∧ w = w' := in_any K 1 64
  have hm := mayG_eq B P W K
  have hb := Lib.hid (below_alloc w (.cells #[.int .i64 B, .int .i64 P, .int .i64 W, .int .i64 K] 23))
  obtain ⟨b1, h1⟩ : ∃ b, (decide (4 ≤ B) && decide (B ≤ 64)) = b := ⟨_, rfl⟩
  obtain ⟨b2, h2⟩ : ∃ b, (decide (2 ≤ P) && decide (P ≤ 32)) = b := ⟨_, rfl⟩
  obtain ⟨b3, h3⟩ : ∃ b, (decide (1 ≤ W) && decide (W ≤ 4)) = b := ⟨_, rfl⟩
  obtain ⟨b4, h4⟩ : ∃ b, (decide (1 ≤ K) && decide (K ≤ 64)) = b := ⟨_, rfl⟩
  obtain ⟨b5, h5⟩ : ∃ b, decide (8 < wrap64 (W * K)) = b := ⟨_, rfl⟩
  rw [h1] at hB; rw [h2] at hP; rw [h3] at hW; rw [h4] at hK
  rw [h1, h2, h3, h4, h5] at hm
  rw [hm]
  clear hm h1 h2 h3 h4
  replace hB := Lib.hid hB
  replace hP := Lib.hid hP
  replace hW := Lib.hid hW
  replace hK := Lib.hid hK
  cases b1
  rotate_left
  cases b2
  rotate_left
  cases b3
  rotate_left
  cases b4
  rotate_left
  all_goals
    go_enter Try.func30, Try.ntmps30
    go_wp2_with (go_at_call 54; first
      | (with_reducible refine (hB.out _).mono ?_; rintro e w1 ⟨rfl, rfl⟩)
      | (with_reducible refine (hP.out _).mono ?_; rintro e w1 ⟨rfl, rfl⟩)
      | (with_reducible refine (hW.out _).mono ?_; rintro e w1 ⟨rfl, rfl⟩)
      | (with_reducible refine (hK.out _).mono ?_; rintro e w1 ⟨rfl, rfl⟩))
    go_ret
    exact ⟨rfl, hb.out⟩
set_option maxHeartbeats 4000000 in
theorem refmay_any (B P W K : Int) (w : World) : Calls Try.prog 21 #[.agg #[.int .i64 B, .int .i64 P, .int .i64 W, .int .i64 K]] w (Ans w (.bool (mayG B P W K))) := by
  have hm := mayG_eq B P W K
  have hb := Lib.hid (below_alloc w (.cells #[.int .i64 B, .int .i64 P, .int .i64 W, .int .i64 K] 23))
  obtain ⟨b1, h1⟩ : ∃ b, decide (4 ≤ B) = b := ⟨_, rfl⟩
  obtain ⟨b2, h2⟩ : ∃ b, decide (B ≤ 64) = b := ⟨_, rfl⟩
  obtain ⟨b3, h3⟩ : ∃ b, decide (2 ≤ P) = b := ⟨_, rfl⟩
  obtain ⟨b4, h4⟩ : ∃ b, decide (P ≤ 32) = b := ⟨_, rfl⟩
  obtain ⟨b5, h5⟩ : ∃ b, decide (1 ≤ W) = b := ⟨_, rfl⟩
  obtain ⟨b6, h6⟩ : ∃ b, decide (W ≤ 4) = b := ⟨_, rfl⟩
  obtain ⟨b7, h7⟩ : ∃ b, decide (1 ≤ K) = b := ⟨_, rfl⟩
  obtain ⟨b8, h8⟩ : ∃ b, decide (K ≤ 64) = b := ⟨_, rfl⟩
  obtain ⟨b9, h9⟩ : ∃ b, decide (8 < wrap64 (W * K)) = b := ⟨_, rfl⟩
  rw [h1, h2, h3, h4, h5, h6, h7, h8, h9] at hm
  rw [hm]
  clear hm
  cases b1
  rotate_left
  cases b2
  rotate_left
  cases b3
  rotate_left
  cases b4
  rotate_left
  cases b5
  rotate_left
  cases b6
  rotate_left
  cases b7
  rotate_left
  cases b8
  rotate_left
  all_goals
    go_enter Try.func21, Try.ntmps21
    go_wp2_with fail
    go_ret
    exact ⟨rfl, hb.out⟩
/-- how many bytes go into so many symbols: both the same -/
def bytG (n : Int) : Int := 10 * min (max n 0) 1099511627776 / 8
theorem clamp_any (n : Int) (w : World) : Calls Try.prog 77 #[.int .i64 n] w fun e w' => e = .returned (.int .i64 (min (max n 0) 1099511627776)) ∧ w = w' := by
  go_enter Try.func77, Try.ntmps77
  go_wp2_with fail
  all_goals (go_ret; refine ⟨congrArg (fun z => Ending.returned (.int .i64 z)) ?_, rfl⟩; split at * <;> omega)
set_option maxHeartbeats 1000000 in
theorem bytes_any (n : Int) (w : World) : Calls Try.prog 56 #[.int .i64 n] w fun e w' => e = .returned (.int .i64 (bytG n)) ∧ w = w' := by
  have hc := Lib.hid (clamp_any n w)
  obtain ⟨m, hm, hm1⟩ : ∃ m : Nat, min (max n 0) 1099511627776 = (m : Int) ∧ m ≤ 1099511627776 := ⟨(min (max n 0) 1099511627776).toNat, by omega, by omega⟩
  unfold bytG
  rw [hm] at hc ⊢
  clear hm
  go_enter Try.func56, Try.ntmps56
  go_wp2_with (go_at_call 77; (with_reducible refine hc.out.mono ?_); rintro e w1 ⟨rfl, rfl⟩)
  go_ret
  exact ⟨rfl, rfl⟩
theorem refbytes_any (n : Int) (w : World) : Calls Try.prog 46 #[.int .i64 n] w fun e w' => e = .returned (.int .i64 (bytG n)) ∧ w = w' := by
  rcases Int.lt_or_le n 0 with h0 | h0
  · have hn : bytG n = 0 := by unfold bytG; omega
    rw [hn]
    go_enter Try.func46, Try.ntmps46
    go_wp2_with fail
    go_ret
    exact ⟨rfl, rfl⟩
  · rcases Int.lt_or_le 1099511627776 n with h1 | h1
    · have hn : bytG n = 1374389534720 := by unfold bytG; omega
      rw [hn]
      go_enter Try.func46, Try.ntmps46
      go_wp2_with fail
      go_ret
      exact ⟨rfl, rfl⟩
    · obtain ⟨m, rfl⟩ : ∃ m : Nat, n = (m : Int) := ⟨n.toNat, by omega⟩
      have hs : bytG (m : Int) = 10 * (m : Int) / 8 := by unfold bytG; omega
      rw [hs]
      go_enter Try.func46, Try.ntmps46
      go_wp2_with fail
      go_ret
      exact ⟨rfl, rfl⟩
end Go.Proofs.Ytmchelbmeajcnaa.Ge
namespace Go.Proofs.Ytmchelbmeajcnaa.Ge
open Go.RowKit

theorem may_of {B P W K : Int} (h : mayG B P W K = true) : 4 ≤ B ∧ B ≤ 64 ∧ 2 ≤ P ∧ P ≤ 32 ∧ 1 ≤ W ∧ W ≤ 4 ∧ 1 ≤ K ∧ K ≤ 64 ∧ 8 < W * K := by
  unfold mayG at h
  exact of_decide_eq_true h
def celG (B P W K : Int) : Int := if mayG B P W K = true then W * (K + 16) else 0
def sizG (B P W K : Int) : Int := if mayG B P W K = true then bytG (W * K - 8) else 0
def cntG (B P W K : Int) : Int := if mayG B P W K = true then B * P else 0
def lpnG (B P W K s : Int) : Int := if mayG B P W K = true ∧ 0 ≤ s ∧ s ≤ B - 4 then (B - s - 3) * P / 2 else 0
theorem wk16 {W K : Int} (h1 : 1 ≤ W) (h2 : W ≤ 4) (h3 : 1 ≤ K) (h4 : K ≤ 64) : wrap64 (W * (K + 16)) = W * (K + 16) := by
  refine IntWalk.wrap64_in _ ?_
  have : W = 1 ∨ W = 2 ∨ W = 3 ∨ W = 4 := by omega
  rcases this with rfl | rfl | rfl | rfl <;> omega
theorem wk_in {W K : Int} (h1 : 1 ≤ W) (h2 : W ≤ 4) (h3 : 1 ≤ K) (h4 : K ≤ 64) : wrap64 (W * K) = W * K := by
  have := prod_le h1 h2 h3 h4
  exact IntWalk.wrap64_in _ (by omega)
theorem bp_le {x P : Int} (h1 : 0 ≤ x) (h2 : x ≤ 64) (h3 : 0 ≤ P) (h4 : P ≤ 32) : 0 ≤ x * P ∧ x * P ≤ 2048 := by
  refine ⟨Int.mul_nonneg h1 h3, ?_⟩
  have h5 : x * P ≤ x * 32 := Int.mul_le_mul_of_nonneg_left h4 h1
  omega
theorem bp_in {x P : Int} (h1 : 0 ≤ x) (h2 : x ≤ 64) (h3 : 0 ≤ P) (h4 : P ≤ 32) : wrap64 (x * P) = x * P := by
  have := bp_le h1 h2 h3 h4
  exact IntWalk.wrap64_in _ (by omega)
theorem half_none : wrap64 ((wrap64 0).tdiv 2) = 0 := by decide +kernel
theorem half_zero {x P : Int} (h : x = 0) : wrap64 ((wrap64 (x * P)).tdiv 2) = 0 := by
  rw [h, Int.zero_mul]; exact half_none
/-- block g holds that geometry -/
structure Box (w : World) (g : Nat) (B P W K : Int) : Prop where
  lt : g < w.heap.size
  c0 : w.cell? ⟨g, 0, none⟩ = some (.int .i64 B)
  c1 : w.cell? ⟨g, 1, none⟩ = some (.int .i64 P)
  c2 : w.cell? ⟨g, 2, none⟩ = some (.int .i64 W)
  c3 : w.cell? ⟨g, 3, none⟩ = some (.int .i64 K)
theorem Box.keep {w w' : World} {g : Nat} {B P W K : Int} (h : Box w g B P W K) (hb : Below w.heap.size w w') : Box w' g B P W K :=
  ⟨Nat.lt_of_lt_of_le h.lt hb.size, (hb.cell h.lt).trans h.c0, (hb.cell h.lt).trans h.c1, (hb.cell h.lt).trans h.c2, (hb.cell h.lt).trans h.c3⟩
theorem cell_of {w : World} {g : Nat} {cs : Array Value} {t : TypeId} (h : w.heap[g]? = some (.cells cs t)) (i : Nat) : w.cell? ⟨g, i, none⟩ = cs[i]? := by simp [World.cell?, h]
theorem Box.new (w : World) (B P W K : Int) : Box (w.alloc (.cells #[.int .i64 B, .int .i64 P, .int .i64 W, .int .i64 K] 23)) w.heap.size B P W K := by
  have h : (w.alloc (.cells #[.int .i64 B, .int .i64 P, .int .i64 W, .int .i64 K] 23)).heap[w.heap.size]? = some (.cells #[.int .i64 B, .int .i64 P, .int .i64 W, .int .i64 K] 23) := by
    show (w.heap.push _)[w.heap.size]? = _
    rw [Array.getElem?_push, if_pos rfl]
  exact ⟨by rw [World.size_alloc]; omega, cell_of h 0, cell_of h 1, cell_of h 2, cell_of h 3⟩
set_option maxHeartbeats 1000000 in
theorem cells_any (B P W K : Int) (w : World) : Calls Try.prog 65 #[.agg #[.int .i64 B, .int .i64 P, .int .i64 W, .int .i64 K]] w (Ans w (.int .i64 (celG B P W K))) := by
  have hb := below_alloc w (.cells #[.int .i64 B, .int .i64 P, .int .i64 W, .int .i64 K] 23)
  have hx := Lib.hid (Box.new w B P W K)
  have hc := Lib.hid (may_any B P W K (w.alloc (.cells #[.int .i64 B, .int .i64 P, .int .i64 W, .int .i64 K] 23)))
  replace hb := Lib.hid hb
  cases hM : mayG B P W K
  · have hr : celG B P W K = 0 := by unfold celG; rw [hM]; rfl
    rw [hM] at hc
    rw [hr]
    go_enter Try.func65, Try.ntmps65
    go_wp2_with (go_at_call 30; (with_reducible refine hc.out.mono ?_); rintro e w1 ⟨rfl, hb1⟩; have hb2 := Lib.hid (hb.out.trans (hb1.mono hb.out.size)); clear hb1)
    go_ret
    exact ⟨rfl, hb2.out⟩
  · obtain ⟨h1, h2, h3, h4, h5, h6, h7, h8, h9⟩ := may_of hM
    rw [hM] at hc
    have hr : celG B P W K = W * (K + 16) := by unfold celG; rw [hM]; rfl
    have hw := wk16 h5 h6 h7 h8
    rw [hr]
    clear hr h9 h1 h2 h3 h4
    go_enter Try.func65, Try.ntmps65
    go_wp2_with (first
      | (go_at_call 30; (with_reducible refine hc.out.mono ?_); rintro e w1 ⟨rfl, hb1⟩; have hb2 := Lib.hid (hb.out.trans (hb1.mono hb.out.size)); obtain ⟨hlt, c0, c1, c2, c3⟩ := hx.out.keep hb1; clear hb1))
    go_ret
    exact ⟨congrArg (fun z => Ending.returned (.int .i64 z)) (hw), hb2.out⟩
set_option maxHeartbeats 1000000 in
theorem refcells_any (B P W K : Int) (w : World) : Calls Try.prog 24 #[.agg #[.int .i64 B, .int .i64 P, .int .i64 W, .int .i64 K]] w (Ans w (.int .i64 (celG B P W K))) := by
  have hb := below_alloc w (.cells #[.int .i64 B, .int .i64 P, .int .i64 W, .int .i64 K] 23)
  have hx := Lib.hid (Box.new w B P W K)
  have hc := Lib.hid (refmay_any B P W K (w.alloc (.cells #[.int .i64 B, .int .i64 P, .int .i64 W, .int .i64 K] 23)))
  replace hb := Lib.hid hb
  cases hM : mayG B P W K
  · have hr : celG B P W K = 0 := by unfold celG; rw [hM]; rfl
    rw [hM] at hc
    rw [hr]
    go_enter Try.func24, Try.ntmps24
    go_wp2_with (go_at_call 21; (with_reducible refine hc.out.mono ?_); rintro e w1 ⟨rfl, hb1⟩; have hb2 := Lib.hid (hb.out.trans (hb1.mono hb.out.size)); clear hb1)
    go_ret
    exact ⟨rfl, hb2.out⟩
  · obtain ⟨h1, h2, h3, h4, h5, h6, h7, h8, h9⟩ := may_of hM
    rw [hM] at hc
    have hr : celG B P W K = W * (K + 16) := by unfold celG; rw [hM]; rfl
    have hw := wk16 h5 h6 h7 h8
    rw [hr]
    clear hr h9 h1 h2 h3 h4
    go_enter Try.func24, Try.ntmps24
    go_wp2_with (first
      | (go_at_call 21; (with_reducible refine hc.out.mono ?_); rintro e w1 ⟨rfl, hb1⟩; have hb2 := Lib.hid (hb.out.trans (hb1.mono hb.out.size)); obtain ⟨hlt, c0, c1, c2, c3⟩ := hx.out.keep hb1; clear hb1))
    go_ret
    exact ⟨congrArg (fun z => Ending.returned (.int .i64 z)) (hw), hb2.out⟩
set_option maxHeartbeats 1000000 in
theorem size_any (B P W K : Int) (w : World) : Calls Try.prog 32 #[.agg #[.int .i64 B, .int .i64 P, .int .i64 W, .int .i64 K]] w (Ans w (.int .i64 (sizG B P W K))) := by
  have hb := below_alloc w (.cells #[.int .i64 B, .int .i64 P, .int .i64 W, .int .i64 K] 23)
  have hx := Lib.hid (Box.new w B P W K)
  have hc := Lib.hid (may_any B P W K (w.alloc (.cells #[.int .i64 B, .int .i64 P, .int .i64 W, .int .i64 K] 23)))
  replace hb := Lib.hid hb
  cases hM : mayG B P W K
  · have hr : sizG B P W K = 0 := by unfold sizG; rw [hM]; rfl
    rw [hM] at hc
    rw [hr]
    go_enter Try.func32, Try.ntmps32
    go_wp2_with (go_at_call 30; (with_reducible refine hc.out.mono ?_); rintro e w1 ⟨rfl, hb1⟩; have hb2 := Lib.hid (hb.out.trans (hb1.mono hb.out.size)); clear hb1)
    go_ret
    exact ⟨rfl, hb2.out⟩
  · obtain ⟨h1, h2, h3, h4, h5, h6, h7, h8, h9⟩ := may_of hM
    rw [hM] at hc
    have hr : sizG B P W K = bytG (W * K - 8) := by unfold sizG; rw [hM]; rfl
    have hw := wk_in h5 h6 h7 h8
    have hp := prod_le h5 h6 h7 h8
    obtain ⟨n, hn⟩ : ∃ n, W * K = n := ⟨_, rfl⟩
    rw [hr, hn]
    rw [hn] at hw hp h9
    have hcb := Lib.hid (bytes_any (n - 8))
    clear hr h1 h2 h3 h4
    go_enter Try.func32, Try.ntmps32
    go_wp2_with (first
      | (go_at_call 30; (with_reducible refine hc.out.mono ?_); rintro e w1 ⟨rfl, hb1⟩; have hb2 := Lib.hid (hb.out.trans (hb1.mono hb.out.size)); obtain ⟨hlt, c0, c1, c2, c3⟩ := hx.out.keep hb1; clear hb1)
      | (go_at_call 56; (with_reducible refine (hcb.out _).mono ?_); rintro e w2 ⟨rfl, rfl⟩))
    go_ret
    exact ⟨rfl, hb2.out⟩
set_option maxHeartbeats 1000000 in
theorem refsize_any (B P W K : Int) (w : World) : Calls Try.prog 22 #[.agg #[.int .i64 B, .int .i64 P, .int .i64 W, .int .i64 K]] w (Ans w (.int .i64 (sizG B P W K))) := by
  have hb := below_alloc w (.cells #[.int .i64 B, .int .i64 P, .int .i64 W, .int .i64 K] 23)
  have hx := Lib.hid (Box.new w B P W K)
  have hc := Lib.hid (refmay_any B P W K (w.alloc (.cells #[.int .i64 B, .int .i64 P, .int .i64 W, .int .i64 K] 23)))
  replace hb := Lib.hid hb
  cases hM : mayG B P W K
  · have hr : sizG B P W K = 0 := by unfold sizG; rw [hM]; rfl
    rw [hM] at hc
    rw [hr]
    go_enter Try.func22, Try.ntmps22
    go_wp2_with (go_at_call 21; (with_reducible refine hc.out.mono ?_); rintro e w1 ⟨rfl, hb1⟩; have hb2 := Lib.hid (hb.out.trans (hb1.mono hb.out.size)); clear hb1)
    go_ret
    exact ⟨rfl, hb2.out⟩
  · obtain ⟨h1, h2, h3, h4, h5, h6, h7, h8, h9⟩ := may_of hM
    rw [hM] at hc
    have hr : sizG B P W K = bytG (W * K - 8) := by unfold sizG; rw [hM]; rfl
    have hw := wk_in h5 h6 h7 h8
    have hp := prod_le h5 h6 h7 h8
    obtain ⟨n, hn⟩ : ∃ n, W * K = n := ⟨_, rfl⟩
    rw [hr, hn]
    rw [hn] at hw hp h9
    have hcb := Lib.hid (refbytes_any (n - 8))
    clear hr h1 h2 h3 h4
    go_enter Try.func22, Try.ntmps22
    go_wp2_with (first
      | (go_at_call 21; (with_reducible refine hc.out.mono ?_); rintro e w1 ⟨rfl, hb1⟩; have hb2 := Lib.hid (hb.out.trans (hb1.mono hb.out.size)); obtain ⟨hlt, c0, c1, c2, c3⟩ := hx.out.keep hb1; clear hb1)
      | (go_at_call 46; (with_reducible refine (hcb.out _).mono ?_); rintro e w2 ⟨rfl, rfl⟩))
    go_ret
    exact ⟨rfl, hb2.out⟩
end Go.Proofs.Ytmchelbmeajcnaa.Ge
namespace Go.Proofs.Ytmchelbmeajcnaa.Ge
open Go.RowKit

theorem res3 {fn : Func} {t u v : Tmp} (h : fn.results = #[.tmp t, .tmp u, .tmp v]) (tmps : Array Value) (P : Program) (w : World) :
    (results fn tmps).run P w = .ok (.tuple #[tmps.getD t undef, tmps.getD u undef, tmps.getD v undef]) w := by
  simp [results, h]
/-- is that a page's number? -/
def isP (B P W K n : Int) : Bool := decide (0 ≤ n) && decide (n < cntG B P W K)
theorem cnt_may {B P W K : Int} {n : Nat} (h : (n : Int) < cntG B P W K) : mayG B P W K = true := by
  cases hM : mayG B P W K
  · unfold cntG at h
    rw [hM, if_neg (by simp)] at h
    omega
  · rfl
/-- is there that page of that block? -/
def isN (B P W K b p : Int) : Bool := mayG B P W K && (decide (0 ≤ b) && decide (b ≤ B - 1)) && (decide (0 ≤ p) && decide (p ≤ P - 1))
def numG (B P W K b p : Int) : Int := if isN B P W K b p = true then b * P + p else 0
end Go.Proofs.Ytmchelbmeajcnaa.Ge
namespace Go.Proofs.Ytmchelbmeajcnaa.Ge
open Go.RowKit

theorem ans_of {f : FuncId} {args : Array Value} {B : Nat} {w₀ : World} {x : Cl.After B w₀} {v : Value} (hB : B ≤ w₀.heap.size) (h : Calls Try.prog f args x.w (Ans x.w v)) :
    Calls Try.prog f args x.w fun e w'' => e = .returned v ∧ ∃ y : Cl.After B w₀, w'' = y.w := Cl.after_of hB h
/-- a geometry's block, in each of the worlds behind one -/
theorem Box.aft {w : World} {g : Nat} {B P W K : Int} (h : Box w g B P W K) (x : Cl.After w.heap.size w) : Box x.w g B P W K := h.keep x.below
theorem may_lit {B P W K : Int} {b : Bool} (h : mayG B P W K = b) (w : World) : Calls Try.prog 30 #[.agg #[.int .i64 B, .int .i64 P, .int .i64 W, .int .i64 K]] w (Ans w (.bool b)) := by subst h; exact may_any B P W K w
theorem refmay_lit {B P W K : Int} {b : Bool} (h : mayG B P W K = b) (w : World) : Calls Try.prog 21 #[.agg #[.int .i64 B, .int .i64 P, .int .i64 W, .int .i64 K]] w (Ans w (.bool b)) := by subst h; exact refmay_any B P W K w
theorem cells_lit {B P W K n : Int} (h : celG B P W K = n) (w : World) : Calls Try.prog 65 #[.agg #[.int .i64 B, .int .i64 P, .int .i64 W, .int .i64 K]] w (Ans w (.int .i64 n)) := by subst h; exact cells_any B P W K w
theorem refcells_lit {B P W K n : Int} (h : celG B P W K = n) (w : World) : Calls Try.prog 24 #[.agg #[.int .i64 B, .int .i64 P, .int .i64 W, .int .i64 K]] w (Ans w (.int .i64 n)) := by subst h; exact refcells_any B P W K w
theorem size_lit {B P W K n : Int} (h : sizG B P W K = n) (w : World) : Calls Try.prog 32 #[.agg #[.int .i64 B, .int .i64 P, .int .i64 W, .int .i64 K]] w (Ans w (.int .i64 n)) := by subst h; exact size_any B P W K w
theorem refsize_lit {B P W K n : Int} (h : sizG B P W K = n) (w : World) : Calls Try.prog 22 #[.agg #[.int .i64 B, .int .i64 P, .int .i64 W, .int .i64 K]] w (Ans w (.int .i64 n)) := by subst h; exact refsize_any B P W K w
end Go.Proofs.Ytmchelbmeajcnaa.Ge
