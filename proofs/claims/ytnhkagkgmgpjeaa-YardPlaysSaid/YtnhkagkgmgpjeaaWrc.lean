/- Pick, Victim, Gap walked. -/
import Derived.Test.YtnhkagkgmgpjeaaWrb
namespace Go.Proofs.Ytnhkagkgmgpjeaa.We
open Go.RowKit
set_option linter.unusedVariables false
set_option linter.unusedSimpArgs false

/-- the lesser of two lengths -/
def mn (n m : Nat) : Nat := if m < n then m else n
theorem mn_le (n m : Nat) : mn n m ≤ n ∧ mn n m ≤ m := by unfold mn; split <;> omega
theorem SF.boxed {w : World} {A : Option Addr} {n : Nat} {f : Nat → Value} (h : SF w w.heap.size A n f) (o : Obj) : SF (w.alloc o) (w.alloc o).heap.size A n f := h.far (below_alloc w o)
set_option maxHeartbeats 2000000 in
theorem pick_any (A : Option Addr) (n c : Nat) (e : Nat → Int) (B : Option Addr) (m d : Nat) (μ : Nat → Bool) (w : World) (hs : SF w w.heap.size A n (iF e)) (hm : SF w w.heap.size B m (bF μ)) (h62 : n ≤ 4611686018427387904) :
    Calls Try.prog 21 #[.slice A n c, .slice B m d] w (Ans w (.tuple #[.int .i64 (((fst μ (lo e) (mn n m)).getD 0 : Nat) : Int), .bool (fst μ (lo e) (mn n m)).isSome])) := by
  have hk : AheadIs 24 #[.pointer (some ⟨w.heap.size, 0, none⟩)] (mn n m) (lo e) (w.alloc (.cells #[.slice A n c] 26)) := fun w2 hb a b ha hb2 =>
    pick1_any w.heap.size A n c e w2 ((hb.cell (by rw [World.size_alloc]; exact Nat.lt_succ_self _)).trans (cell_box w _ _)) ((hs.boxed _).far hb) a b (Nat.lt_of_lt_of_le ha (mn_le n m).1) (Nat.lt_of_lt_of_le hb2 (mn_le n m).1)
  have hc := Lib.hid (first_pick _ (mn n m) (lo e) n B m d μ (w.alloc (.cells #[.slice A n c] 26)) (hm.boxed _) rfl (Nat.le_trans (mn_le n m).1 h62) hk)
  have hA := Lib.hid (below_alloc w (.cells #[.slice A n c] 26))
  clear hk hs hm
  go_enter Try.func21, Try.ntmps21
  go_wp2_with (go_at_call 23; (with_reducible refine hc.out.mono ?_); rintro e w1 ⟨rfl, hb1⟩; have hb1 := Lib.hid (below_trans hA.out hb1))
  go_ret2
  exact ⟨rfl, hb1.out⟩
end Go.Proofs.Ytnhkagkgmgpjeaa.We
