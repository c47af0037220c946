/- The reference's Pick and Victim walked. -/
import Derived.Test.YtmmpcgmhcaianaaWrc
import Derived.Laws.MakeOwn
namespace Go.Proofs.Ytmmpcgmhcaianaa.We
open Go.RowKit
set_option linter.unusedVariables false
set_option linter.unusedSimpArgs false
attribute [local go_sem ↓] Cl.quiet_after
/-- the best so far as the reference has it -/
def bst : Option Nat → Int
  | none => -1
  | some b => (b : Int)

theorem infoI : (Try.prog.info? 3).map (fun i => (i.zero, i.size, i.bytes)) = some (some (.int .i64 0), 1, 8) := by kernel_rfl
/-- n noughts -/
def zI (n : Nat) : Array Value := madeCells #[.int .i64 0] n
theorem zI_size (n : Nat) : (zI n).size = n := size_madeCells _ _
theorem zI_at {n i : Nat} (h : i < n) : (zI n)[i]? = some (.int .i64 0) := by
  unfold zI madeCells
  simp [h, Nat.mod_one]
theorem run_makeI (w : World) (n : Nat) (hn : n ≤ 65536) : (Instr.makeSlice 44 (.int .i64 (n : Int)) (.int .i64 (n : Int))).run Try.prog w = .ok (.slice (some ⟨w.heap.size, 0, none⟩) n n) (w.alloc (.cells (zI n) 3)) := by
  have hi0 := infoI
  obtain ⟨i, hi, hrest⟩ := Option.map_eq_some_iff.1 hi0
  simp only [Prod.mk.injEq] at hrest
  obtain ⟨i1, i2, i3⟩ := hrest
  have h := run_make (P := Try.prog) w 44 3 i _ Try.underlying44 hi i1 .i64 .i64 (n : Int) (n : Int) (by omega) (Int.le_refl _) (by rw [i3]; omega) (by omega)
  rw [i2, Int.toNat_natCast, Nat.mul_one] at h
  exact h
theorem SF.zeros (w : World) (n : Nat) (T : TypeId) : SF (w.alloc (.cells (zI n) T)) (w.alloc (.cells (zI n) T)).heap.size (some ⟨w.heap.size, 0, none⟩) n (iF fun _ => 0) := by
  refine Or.inr ⟨_, rfl, by rw [World.size_alloc]; exact Nat.lt_succ_self _, fun i hi => ?_⟩
  have e : (⟨w.heap.size, 0, none⟩ : Addr).add i = ⟨w.heap.size, i, none⟩ := by unfold Addr.add; split <;> simp_all
  rw [e, cell_new, zI_at hi]
  rfl
theorem mn_self (n m : Nat) : mn (mn n n) m = mn n m := by
  have : mn n n = n := by unfold mn; split <;> rfl
  rw [this]
theorem lx_none (e : Nat → Int) : lx (fun _ => 0) e = lo e := by
  funext a b
  simp [lx, lo]
end Go.Proofs.Ytmmpcgmhcaianaa.We
