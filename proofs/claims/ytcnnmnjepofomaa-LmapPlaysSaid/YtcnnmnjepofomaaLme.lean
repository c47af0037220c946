/- The program's ways: made, asked, led. -/
import Derived.Test.YtcnnmnjepofomaaLmb
import Derived.Test.YtcnnmnjepofomaaTr
namespace Go.Proofs.Ytcnnmnjepofomaa.Lm
open Go.RowKit Go.Bw Go.Proofs.Ytcnnmnjepofomaa.Vl
set_option linter.unusedVariables false
set_option linter.unusedSimpArgs false
attribute [local go_sem ↓] Cl.quiet_since
/-- 32-bit numbers -/
def nwF (φ : Nat → Int) (i : Nat) : Value := .int .i32 (φ i)
/-- a way's value: its bits' box in g, its row of n in r -/
def wayV (g r n : Nat) : Value := .agg #[.pointer (some ⟨g, 0, none⟩), .slice (some ⟨r, 0, none⟩) n n]
/-- A WAY from n numbers: β tells which lead, φ where to; its blocks lie from lo on below hi -/
structure Way (w : World) (lo hi g h r n : Nat) (β : Nat → Bool) (φ : Nat → Int) : Prop where
  bt : Bt w g h n β
  row : PV w 21 r n (nwF φ)
  nr : r ≠ g ∧ r ≠ h
  rng : lo ≤ g ∧ g < hi ∧ lo ≤ h ∧ h < hi ∧ lo ≤ r ∧ r < hi
section
variable {w w' : World} {lo hi g h r n : Nat} {β : Nat → Bool} {φ : Nat → Int}
theorem Way.below (W : Way w lo hi g h r n β φ) (hb : Below w.heap.size w w') : Way w' lo hi g h r n β φ := ⟨W.bt.below hb, W.row.below hb, W.nr, W.rng⟩
theorem Way.keep (W : Way w lo hi g h r n β φ) (k : ∀ b, lo ≤ b → b < hi → b < w.heap.size → w'.heap[b]? = w.heap[b]?) : Way w' lo hi g h r n β φ := by
  obtain ⟨r1, r2, r3, r4, r5, r6⟩ := W.rng
  exact ⟨W.bt.keep (k g r1 r2 W.bt.box.lt) (k h r3 r4 W.bt.row.lt), W.row.keep (k r r5 r6 W.row.lt), W.nr, W.rng⟩
theorem Way.more (W : Way w lo hi g h r n β φ) {lo' hi' : Nat} (h1 : lo' ≤ lo) (h2 : hi ≤ hi') : Way w lo' hi' g h r n β φ := by
  obtain ⟨r1, r2, r3, r4, r5, r6⟩ := W.rng
  exact ⟨W.bt, W.row, W.nr, by omega, by omega, by omega, by omega, by omega, by omega⟩
end
theorem infoW : (Try.prog.info? 21).map (fun i => (i.zero, i.size, i.bytes)) = some (some (.int .i32 0), 1, 4) := by kernel_rfl
/-- n noughts of 32 bits -/
def zW (n : Nat) : Array Value := madeCells #[.int .i32 0] n
theorem zW_at {n i : Nat} (h : i < n) : (zW n)[i]? = some (.int .i32 0) := by
  unfold zW madeCells
  simp [h, Nat.mod_one]
theorem run_makeW (w : World) (n : Nat) (hn : n ≤ 1048576) : (Instr.makeSlice 50 (.int .i64 (n : Int)) (.int .i64 (n : Int))).run Try.prog w = .ok (.slice (some ⟨w.heap.size, 0, none⟩) n n) (w.alloc (.cells (zW n) 21)) := by
  have hi0 := infoW
  obtain ⟨i, hi, hrest⟩ := Option.map_eq_some_iff.1 hi0
  simp only [Prod.mk.injEq] at hrest
  obtain ⟨i1, i2, i3⟩ := hrest
  have h := run_make (P := Try.prog) w 50 21 i _ Try.underlying50 hi i1 .i64 .i64 (n : Int) (n : Int) (by omega) (Int.le_refl _) (by rw [i3]; omega) (by omega)
  rw [i2, Int.toNat_natCast, Nat.mul_one] at h
  exact h
set_option maxHeartbeats 1000000 in
theorem knows_any {g r n : Nat} (w : World) (i : Int) :
    Calls Try.prog 22 #[wayV g r n, .int .i64 i] w (We.Ans w (.bool (inB n i))) := by
  unfold wayV
  have hB1 : Below w.heap.size w (w.alloc (.cells #[.pointer (some ⟨g, 0, none⟩), .slice (some ⟨r, 0, none⟩) n n] 52)) := We.below_alloc _ _
  replace hB1 := Lib.hid hB1
  rcases tests (n := n) (a := i) with ⟨t1, t2⟩ | ⟨t1, t2, t3⟩ | ⟨p, rfl, hp, t1, t2, t3⟩
  · rw [t2]
    have d0 : decide (0 ≤ i) = false := by have := of_decide_eq_true t1; exact decide_eq_false (by omega)
    replace t1 := Lib.hid t1
    replace t2 := Lib.hid t2
    go_enter Try.func22, Try.ntmps22
    go_wp2_with fail
    go_ret
    exact ⟨rfl, hB1.out⟩
  · rw [t3]
    have d0 : decide (0 ≤ i) = true := by have := of_decide_eq_false t1; exact decide_eq_true (by omega)
    have d1 : decide (i < (n : Int)) = false := by have := of_decide_eq_true t2; exact decide_eq_false (by omega)
    replace t1 := Lib.hid t1
    replace t2 := Lib.hid t2
    replace t3 := Lib.hid t3
    go_enter Try.func22, Try.ntmps22
    go_wp2_with fail
    go_ret
    exact ⟨rfl, hB1.out⟩
  · rw [t3]
    have d0 : decide (0 ≤ (p : Int)) = true := decide_eq_true (by omega)
    have d1 : decide ((p : Int) < (n : Int)) = true := decide_eq_true (by omega)
    replace t1 := Lib.hid t1
    replace t2 := Lib.hid t2
    replace t3 := Lib.hid t3
    go_enter Try.func22, Try.ntmps22
    go_wp2_with fail
    go_ret
    exact ⟨rfl, hB1.out⟩
end Go.Proofs.Ytcnnmnjepofomaa.Lm
