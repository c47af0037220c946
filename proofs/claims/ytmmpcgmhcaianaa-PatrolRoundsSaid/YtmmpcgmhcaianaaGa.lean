/- Geometries: what the program and the reference answer whether one may be; how many bytes go into so many symbols. -/
import Derived.Test.YtmmpcgmhcaianaaProg
import Derived.Test.YtmmpcgmhcaianaaWb
import Derived.Below
import Derived.WalkKit
import Derived.WalkSpells
import Derived.WalkLawsBesides
import Derived.Lib.Hide
import Derived.IntWalk
import Derived.Deep.Draws
namespace Go.Proofs.Ytmmpcgmhcaianaa.Ge
open Go.RowKit

/-- an answer; old memory is as it was -/
def Ans (w : World) (v : Value) (e : Ending) (w' : World) : Prop := e = .returned v ∧ Below w.heap.size w w'
theorem below_drewN (w : World) (n : Nat) : Below w.heap.size w (w.drewN n) := ⟨rfl, rfl, rfl, Nat.le_refl _, fun _ _ => rfl⟩
theorem Ans.trans {w w1 w2 : World} (h : Below w.heap.size w w1) (k : Below w1.heap.size w1 w2) : Below w.heap.size w w2 := h.trans (k.mono h.size)
theorem below_alloc (w : World) (o : Obj) : Below w.heap.size w (w.alloc o) := (Below.refl _ _).alloc (Nat.le_refl _) _
/-- is n from l to m? -/
theorem in_any (n l m : Int) (w : World) : Calls Try.prog 17 #[.int .i64 n, .int .i64 l, .int .i64 m] w fun e w' => e = .returned (.bool (decide (l ≤ n) && decide (n ≤ m))) ∧ w = w' := by
  obtain ⟨b1, h1⟩ : ∃ b, decide (l ≤ n) = b := ⟨_, rfl⟩
  obtain ⟨b2, h2⟩ : ∃ b, decide (n ≤ m) = b := ⟨_, rfl⟩
  rw [h1, h2]
  cases b1
  · go_enter Try.func17, Try.ntmps17
    go_wp2_with fail
    go_ret
    exact ⟨rfl, rfl⟩
  · go_enter Try.func17, Try.ntmps17
    go_wp2_with fail
    go_ret
    exact ⟨rfl, rfl⟩
/-- a geometry that may be -/
def mayG (B P W K : Int) : Bool := decide (4 ≤ B ∧ B ≤ 64 ∧ 2 ≤ P ∧ P ≤ 32 ∧ 1 ≤ W ∧ W ≤ 4 ∧ 1 ≤ K ∧ K ≤ 64 ∧ 8 < W * K)
theorem prod_le {W K : Int} (h1 : 1 ≤ W) (h2 : W ≤ 4) (h3 : 1 ≤ K) (h4 : K ≤ 64) : 0 ≤ W * K ∧ W * K ≤ 256 := by
  have : W = 1 ∨ W = 2 ∨ W = 3 ∨ W = 4 := by omega
  rcases this with rfl | rfl | rfl | rfl <;> omega
/-- .. as both reckon it, test by test -/
theorem mayG_eq (B P W K : Int) : mayG B P W K = (decide (4 ≤ B) && decide (B ≤ 64) && (decide (2 ≤ P) && decide (P ≤ 32)) && (decide (1 ≤ W) && decide (W ≤ 4)) && (decide (1 ≤ K) && decide (K ≤ 64)) && decide (8 < wrap64 (W * K))) := by
  unfold mayG
  rw [Bool.eq_iff_iff]
  simp only [Bool.and_eq_true, decide_eq_true_eq]
  refine ⟨fun ⟨h1, h2, h3, h4, h5, h6, h7, h8, h9⟩ => ?_, fun ⟨⟨⟨⟨⟨h1, h2⟩, h3, h4⟩, h5, h6⟩, h7, h8⟩, h9⟩ => ?_⟩
  · have := prod_le h5 h6 h7 h8
    rw [IntWalk.wrap64_in _ (by omega)]
    exact ⟨⟨⟨⟨⟨h1, h2⟩, h3, h4⟩, h5, h6⟩, h7, h8⟩, h9⟩
  · have := prod_le h5 h6 h7 h8
    rw [IntWalk.wrap64_in _ (by omega)] at h9
    exact ⟨h1, h2, h3, h4, h5, h6, h7, h8, h9⟩
set_option maxHeartbeats 2000000 in
theorem may_any (B P W K : Int) (w : World) : Calls Try.prog 16 #[.agg #[.int .i64 B, .int .i64 P, .int .i64 W, .int .i64 K]] w (Ans w (.bool (mayG B P W K))) := by
  have hB : ∀ w, Calls Try.prog 17 #[.int .i64 B, .int .i64 4, .int .i64 64] w fun e w' => e = .returned (.bool (decide (4 ≤ B) && decide (B ≤ 64))) ∧ w = w' := in_any B 4 64
  have hP : ∀ w, Calls Try.prog 17 #[.int .i64 P, .int .i64 2, .int .i64 32] w fun e w' => e = .returned (.bool (decide (2 ≤ P) && decide (P ≤ 32))) ∧ w = w' := in_any P 2 32
  have hW : ∀ w, Calls Try.prog 17 #[.int .i64 W, .int .i64 1, .int .i64 4] w fun e w' => e = .returned (.bool (decide (1 ≤ W) && decide (W ≤ 4))) ∧ w = w' := in_any W 1 4
  have hK : ∀ w, Calls Try.prog 17 #[.int .i64 K, .int .i64 1, .int .i64 64] w fun e w' => e = .returned (.bool (decide (1 ≤ K) && decide (K ≤ 64))) ∧ w = w' := in_any K 1 64
  have hm := mayG_eq B P W K
  have hb := Lib.hid (below_alloc w (.cells #[.int .i64 B, .int .i64 P, .int .i64 W, .int .i64 K] 23))
  obtain ⟨b1, h1⟩ : ∃ b, (decide (4 ≤ B) && decide (B ≤ 64)) = b := ⟨_, rfl⟩
  obtain ⟨b2, h2⟩ : ∃ b, (decide (2 ≤ P) && decide (P ≤ 32)) = b := ⟨_, rfl⟩
  obtain ⟨b3, h3⟩ : ∃ b, (decide (1 ≤ W) && decide (W ≤ 4)) = b := ⟨_, rfl⟩
  obtain ⟨b4, h4⟩ : ∃ b, (decide (1 ≤ K) && decide (K ≤ 64)) = b := ⟨_, rfl⟩
  obtain ⟨b5, h5⟩ : ∃ b, decide (8 < wrap64 (W * K)) = b := ⟨_, rfl⟩
  rw [h1] at hB; rw [h2] at hP; rw [h3] at hW; rw [h4] at hK
  rw [h1, h2, h3, h4, h5] at hm
  rw [hm]
  clear hm h1 h2 h3 h4
  replace hB := Lib.hid hB
  replace hP := Lib.hid hP
  replace hW := Lib.hid hW
  replace hK := Lib.hid hK
  cases b1
  rotate_left
  cases b2
  rotate_left
  cases b3
  rotate_left
  cases b4
  rotate_left
  all_goals
    go_enter Try.func16, Try.ntmps16
    go_wp2_with (go_at_call 17; first
      | (with_reducible refine (hB.out _).mono ?_; rintro e w1 ⟨rfl, rfl⟩)
      | (with_reducible refine (hP.out _).mono ?_; rintro e w1 ⟨rfl, rfl⟩)
      | (with_reducible refine (hW.out _).mono ?_; rintro e w1 ⟨rfl, rfl⟩)
      | (with_reducible refine (hK.out _).mono ?_; rintro e w1 ⟨rfl, rfl⟩))
    go_ret
    exact ⟨rfl, hb.out⟩
set_option maxHeartbeats 4000000 in
theorem refmay_any (B P W K : Int) (w : World) : Calls Try.prog 9 #[.agg #[.int .i64 B, .int .i64 P, .int .i64 W, .int .i64 K]] w (Ans w (.bool (mayG B P W K))) := by
  have hm := mayG_eq B P W K
  have hb := Lib.hid (below_alloc w (.cells #[.int .i64 B, .int .i64 P, .int .i64 W, .int .i64 K] 23))
  obtain ⟨b1, h1⟩ : ∃ b, decide (4 ≤ B) = b := ⟨_, rfl⟩
  obtain ⟨b2, h2⟩ : ∃ b, decide (B ≤ 64) = b := ⟨_, rfl⟩
  obtain ⟨b3, h3⟩ : ∃ b, decide (2 ≤ P) = b := ⟨_, rfl⟩
  obtain ⟨b4, h4⟩ : ∃ b, decide (P ≤ 32) = b := ⟨_, rfl⟩
  obtain ⟨b5, h5⟩ : ∃ b, decide (1 ≤ W) = b := ⟨_, rfl⟩
  obtain ⟨b6, h6⟩ : ∃ b, decide (W ≤ 4) = b := ⟨_, rfl⟩
  obtain ⟨b7, h7⟩ : ∃ b, decide (1 ≤ K) = b := ⟨_, rfl⟩
  obtain ⟨b8, h8⟩ : ∃ b, decide (K ≤ 64) = b := ⟨_, rfl⟩
  obtain ⟨b9, h9⟩ : ∃ b, decide (8 < wrap64 (W * K)) = b := ⟨_, rfl⟩
  rw [h1, h2, h3, h4, h5, h6, h7, h8, h9] at hm
  rw [hm]
  clear hm
  cases b1
  rotate_left
  cases b2
  rotate_left
  cases b3
  rotate_left
  cases b4
  rotate_left
  cases b5
  rotate_left
  cases b6
  rotate_left
  cases b7
  rotate_left
  cases b8
  rotate_left
  all_goals
    go_enter Try.func9, Try.ntmps9
    go_wp2_with fail
    go_ret
    exact ⟨rfl, hb.out⟩
/-- how many bytes go into so many symbols: both the same -/
def bytG (n : Int) : Int := 10 * min (max n 0) 1099511627776 / 8



end Go.Proofs.Ytmmpcgmhcaianaa.Ge
