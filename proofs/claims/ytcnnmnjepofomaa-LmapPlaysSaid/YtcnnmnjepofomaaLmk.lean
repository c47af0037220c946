/- The program's map: New walked. -/
import Derived.Test.YtcnnmnjepofomaaLmj
namespace Go.Proofs.Ytcnnmnjepofomaa.Lm
open Go.RowKit Go.Bw Go.Proofs.Ytcnnmnjepofomaa.Vl
set_option linter.unusedVariables false
set_option linter.unusedSimpArgs false
theorem may_any (w : World) (n : Int) : Calls Try.prog 20 #[.int .i64 n] w (Same w (.bool (decide (0 ≤ n) && decide (n ≤ 1048576)))) := by
  cases h0 : decide (0 ≤ n)
  · go_enter Try.func20, Try.ntmps20
    go_wp2_with fail
    go_ret
    exact ⟨rfl, rfl⟩
  · go_enter Try.func20, Try.ntmps20
    go_wp2_with fail
    go_ret
    exact ⟨rfl, rfl⟩
/-- may there be such a map? -/
def mayN (a b : Int) : Bool := (decide (0 ≤ a) && decide (a ≤ 1048576)) && (decide (0 ≤ b) && decide (b ≤ 1048576))
set_option maxHeartbeats 1000000 in
theorem new_no (w : World) (a b : Int) (h : mayN a b = false) :
    Calls Try.prog 9 #[.int .i64 a, .int .i64 b] w (Same w (.tuple #[.pointer none, .int .i64 1])) := by
  have h1 := Lib.hid (may_any w a)
  have h2 := Lib.hid (may_any w b)
  unfold mayN at h
  generalize (decide (0 ≤ a) && decide (a ≤ 1048576)) = x at *
  generalize (decide (0 ≤ b) && decide (b ≤ 1048576)) = y at *
  cases x
  · go_enter Try.func9, Try.ntmps9
    go_wp2_with (go_at_call 20; (with_reducible refine h1.out.mono ?_); rintro e w2 ⟨rfl, rfl⟩)
    go_ret2
    exact ⟨rfl, rfl⟩
  · cases y
    · go_enter Try.func9, Try.ntmps9
      go_wp2_with (first
        | (go_at_call 20; (with_reducible refine h1.out.mono ?_); rintro e w2 ⟨rfl, rfl⟩)
        | (go_at_call 20; (with_reducible refine h2.out.mono ?_); rintro e w2 ⟨rfl, rfl⟩))
      go_ret2
      exact ⟨rfl, rfl⟩
    · exact absurd h (by decide)
theorem ow_nobody (lp : Nat) (p : Int) : ow (fun _ => -1) lp p = none := nx_none.2 fun j hj => by
  by_cases h : (-1 : Int) = p
  · subst h; simp
  · simp [h]
set_option maxHeartbeats 1000000 in
theorem new_any (lp pg : Nat) (hl : lp ≤ 1048576) (hp : pg ≤ 1048576) (w : World) :
    Calls Try.prog 9 #[.int .i64 (lp : Int), .int .i64 (pg : Int)] w fun e w' => ∃ K : Blk, e = .returned (.tuple #[.pointer (some ⟨K.G, 0, none⟩), .int .i64 0]) ∧ Below w.heap.size w w' ∧ PM w' w.heap.size w'.heap.size K lp pg (fun _ => -1) := by
  have h1 := Lib.hid (may_any w (lp : Int))
  have h2 := Lib.hid (may_any w (pg : Int))
  rw [show (decide (0 ≤ (lp : Int)) && decide ((lp : Int) ≤ 1048576)) = true by simp; omega] at h1
  rw [show (decide (0 ≤ (pg : Int)) && decide ((pg : Int) ≤ 1048576)) = true by simp; omega] at h2
  have h3 := Lib.hid (from_any lp hl w)
  have h4 := Lib.hid (fun w => from_any pg hp w)
  have hl2 := Lib.hid hl
  have hp2 := Lib.hid hp
  clear hl hp
  go_enter Try.func9, Try.ntmps9
  go_wp2_with (first
    | (go_at_call 20; (with_reducible refine h1.out.mono ?_); rintro e w2 ⟨rfl, rfl⟩)
    | (go_at_call 20; (with_reducible refine h2.out.mono ?_); rintro e w2 ⟨rfl, rfl⟩)
    | (go_at_call 21; (with_reducible refine h3.out.mono ?_); rintro e w2 ⟨g1, t1, r1, rfl, B2, W2⟩; (unfold wayV); have s2 := Lib.hid B2.size; replace B2 := Lib.hid B2; replace W2 := Lib.hid W2; clear h1 h2)
    | (go_at_call 21; (with_reducible refine (h4.out _).mono ?_); rintro e w3 ⟨g2, t2, r2, rfl, B3, W3⟩; (unfold wayV); have s3 := Lib.hid B3.size; replace B3 := Lib.hid B3; replace W3 := Lib.hid W3))
  go_ret2
  have s4 : (w3.alloc (.cells #[.pointer (some ⟨g1, 0, none⟩), .slice (some ⟨r1, 0, none⟩) lp lp, .pointer (some ⟨g2, 0, none⟩), .slice (some ⟨r2, 0, none⟩) pg pg] 55)).heap.size = w3.heap.size + 1 := World.size_alloc _ _
  have B4 := We.below_alloc w3 (.cells #[.pointer (some ⟨g1, 0, none⟩), .slice (some ⟨r1, 0, none⟩) lp lp, .pointer (some ⟨g2, 0, none⟩), .slice (some ⟨r2, 0, none⟩) pg pg] 55)
  have e1 : ∀ j, (fun _ => false) j = lieB (fun _ => -1) lp j := fun j => by unfold lieB; simp
  have e2 : ∀ j, (fun _ => false) j = ownB (fun _ => -1) lp j := fun j => by unfold ownB; rw [ow_nobody]; rfl
  have V2 := (W2.out.below B3.out).below B4
  have V3 := W3.out.below B4
  refine ⟨⟨w3.heap.size, w2.heap.size, g1, t1, r1, g2, t2, r2⟩, rfl, (B2.out.trans (B3.out.mono s2.out)).trans (B4.mono (Nat.le_trans s2.out s3.out)), ?_, ⟨fun _ => 0, fun _ => 0, ⟨V2.bt.congr e1, V2.row, V2.nr, V2.rng⟩, fun i hi h0 => absurd h0 (by decide), ⟨V3.bt.congr e2, V3.row, V3.nr, V3.rng⟩, fun p o h => by rw [ow_nobody] at h; cases h⟩, fun i j hi hj h0 e => absurd h0 (by decide), fun i hi => ⟨by decide, by omega⟩, ⟨s2.out, s3.out, by rw [s4]; exact Nat.lt_succ_self _⟩, ⟨hl2.out, hp2.out⟩⟩
  exact PV.new w3 55 _ 4 _ fun i hi => by
    match i, hi with
    | 0, _ => rfl
    | 1, _ => rfl
    | 2, _ => rfl
    | 3, _ => rfl
end Go.Proofs.Ytcnnmnjepofomaa.Lm
