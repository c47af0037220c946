/- WearKnown walked. -/
import Derived.Test.YtoldfgnnmfaihaaWre
namespace Go.Proofs.Ytoldfgnnmfaihaa.We
open Go.RowKit
set_option linter.unusedVariables false
set_option linter.unusedSimpArgs false
set_option maxHeartbeats 8000000 in
theorem known_law (w : World) : Calls Try.prog 4 #[] w (Ans w (.bool true)) := by
  have ca := Lib.hid awake_any
  have h0 : Hid (∀ w1 : World, Calls Try.prog 9 #[.slice none 0 0, .slice none 0 0] w1 (Ans w1 (.tuple #[.int .i64 0, .bool false]))) := Lib.hid (fun w1 => pick_any none 0 0 (fun _ => 0) none 0 0 (fun _ => false) w1 (Or.inl rfl) (Or.inl rfl) (by omega))
  have h1 : Hid (∀ w1 : World, Calls Try.prog 9 #[.slice (some ⟨w1.heap.size, 0, none⟩) 3 3, .slice (some ⟨w1.heap.size + 1, 0, none⟩) 2 2] ((w1.alloc (.cells #[.int .i64 5, .int .i64 1, .int .i64 0] 3)).alloc (.cells #[.bool true, .bool true] 4)) (Ans w1 (.tuple #[.int .i64 1, .bool true]))) := Lib.hid (fun w1 => pick_made w1 [5, 1, 0] [true, true] _ _ 3 2 rfl rfl (some 1) (by decide +kernel) (by omega))
  have h2 : Hid (∀ w1 : World, Calls Try.prog 11 #[.slice (some ⟨w1.heap.size, 0, none⟩) 3 3, .slice (some ⟨w1.heap.size + 1, 0, none⟩) 3 3, .slice (some ⟨w1.heap.size + 2, 0, none⟩) 3 3] (((w1.alloc (.cells #[.int .i64 3, .int .i64 2, .int .i64 2] 3)).alloc (.cells #[.int .i64 0, .int .i64 9, .int .i64 4] 3)).alloc (.cells #[.bool true, .bool true, .bool true] 4)) (Ans w1 (.tuple #[.int .i64 2, .bool true]))) := Lib.hid (fun w1 => victim_made w1 [3, 2, 2] [0, 9, 4] [true, true, true] _ _ _ 3 3 3 rfl rfl rfl (some 2) (by decide +kernel) (by omega))
  have h3 : Hid (∀ w1 : World, Calls Try.prog 11 #[.slice (some ⟨w1.heap.size, 0, none⟩) 1 1, .slice (some ⟨w1.heap.size + 1, 0, none⟩) 2 2, .slice (some ⟨w1.heap.size + 2, 0, none⟩) 2 2] (((w1.alloc (.cells #[.int .i64 3] 3)).alloc (.cells #[.int .i64 0, .int .i64 9] 3)).alloc (.cells #[.bool false, .bool true] 4)) (Ans w1 (.tuple #[.int .i64 0, .bool false]))) := Lib.hid (fun w1 => victim_made w1 [3] [0, 9] [false, true] _ _ _ 1 2 2 rfl rfl rfl none (by decide +kernel) (by omega))
  have h4 : Hid (∀ w1 : World, Calls Try.prog 13 #[.slice (some ⟨w1.heap.size, 0, none⟩) 3 3, .slice (some ⟨w1.heap.size + 1, 0, none⟩) 3 3] ((w1.alloc (.cells #[.int .i64 9, .int .i64 1, .int .i64 5] 3)).alloc (.cells #[.bool true, .bool false, .bool true] 4)) (Ans w1 (.int .i64 4))) := Lib.hid (fun w1 => gap_made w1 [9, 1, 5] [true, false, true] _ _ 3 3 rfl rfl 4 (by decide +kernel) (by omega))
  have h5 : Hid (∀ w1 : World, Calls Try.prog 13 #[.slice none 0 0, .slice (some ⟨w1.heap.size, 0, none⟩) 1 1] (w1.alloc (.cells #[.bool true] 4)) (Ans w1 (.int .i64 0))) := Lib.hid (fun w1 =>
    (gap_any none 0 0 (fun _ => 0) (some ⟨w1.heap.size, 0, none⟩) 1 1 (bools [true]) _ (Or.inl rfl) (SF.bools w1 [true] 4 1 rfl) (by omega)).mono fun e w2 ⟨h1, h2⟩ => ⟨h1.trans (congrArg (fun z => Ending.returned (Value.int .i64 z)) (show wrap64 (gapF (fun _ => 0) (bools [true]) (mn 0 1)) = 0 by decide +kernel)), below_trans (below_alloc w1 _) h2⟩)
  go_enter Try.func4, Try.ntmps4
  go_wp2_with (first
    | (go_at_call 8; (with_reducible refine (ca.out _).mono ?_); rintro e w1 ⟨rfl, hb1⟩; have hb := Lib.hid hb1; clear hb1)
    | (go_at_call 9; (with_reducible refine (h0.out _).mono ?_); rintro e w1 ⟨rfl, hb1⟩; have hb := Lib.hid (below_trans hb.out hb1); clear hb1; try dsimp only)
    | (go_at_call 9; (with_reducible refine (h1.out _).mono ?_); rintro e w1 ⟨rfl, hb1⟩; have hb := Lib.hid (below_trans hb.out hb1); clear hb1; try dsimp only)
    | (go_at_call 11; (with_reducible refine (h2.out _).mono ?_); rintro e w1 ⟨rfl, hb1⟩; have hb := Lib.hid (below_trans hb.out hb1); clear hb1; try dsimp only)
    | (go_at_call 11; (with_reducible refine (h3.out _).mono ?_); rintro e w1 ⟨rfl, hb1⟩; have hb := Lib.hid (below_trans hb.out hb1); clear hb1; try dsimp only)
    | (go_at_call 13; (with_reducible refine (h4.out _).mono ?_); rintro e w1 ⟨rfl, hb1⟩; have hb := Lib.hid (below_trans hb.out hb1); clear hb1; try dsimp only)
    | (go_at_call 13; (with_reducible refine (h5.out _).mono ?_); rintro e w1 ⟨rfl, hb1⟩; have hb := Lib.hid (below_trans hb.out hb1); clear hb1; try dsimp only))
  go_ret
  exact ⟨rfl, hb.out⟩
end Go.Proofs.Ytoldfgnnmfaihaa.We
