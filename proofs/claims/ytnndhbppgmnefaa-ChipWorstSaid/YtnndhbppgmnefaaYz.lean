/- Small laws on worlds and points. -/
import Derived.Test.YtnndhbppgmnefaaYp
namespace Go.Proofs.Ytnndhbppgmnefaa
open Go.RowKit Go.Gf Go.Fl
set_option linter.unusedVariables false
set_option linter.unusedSimpArgs false

theorem is_m29 : Is 13852228028861513728 (((-29 : Int) : Int) : Rat) := ⟨true, 8162774324609024, -48, by decide +kernel, by decide +kernel⟩
theorem is_m31 : Is 13852790978814935040 (((-31 : Int) : Int) : Rat) := ⟨true, 8725724278030336, -48, by decide +kernel, by decide +kernel⟩
theorem is_two' : Is 4611686018427387904 (((2 : Int) : Int) : Rat) := is_two
theorem is_zero' : Is 0 (((0 : Int) : Int) : Rat) := is_zero
theorem cell_of {w : World} {g : Nat} {cs : Array Value} {t : TypeId} (h : w.heap[g]? = some (.cells cs t)) (i : Nat) : w.cell? ⟨g, i, none⟩ = cs[i]? := by simp [World.cell?, h]
theorem cell_new (w : World) (cs : Array Value) (t : TypeId) (i : Nat) : (w.alloc (.cells cs t)).cell? ⟨w.heap.size, i, none⟩ = cs[i]? := cell_of (heap_alloc_new w (.cells cs t)) i
theorem add_zero' (a : Addr) : a.add 0 = a := by unfold Addr.add; rw [if_pos rfl]
theorem below_alloc' (w : World) (o : Obj) : Below w.heap.size w (w.alloc o) := (Below.refl _ _).alloc (Nat.le_refl _) _
theorem Cl.Keeps.low {F : Nat → Prop} {w0 w w' : World} (hb : Below w0.heap.size w0 w) (hF : ∀ b, F b → w0.heap.size ≤ b) (hk : Cl.Keeps (fun b => ¬ F b) w w') : Below w0.heap.size w0 w' :=
  ⟨hk.os.trans hb.os, hk.tape.trans hb.tape, hk.output.trans hb.output, Nat.le_trans hb.size hk.size, fun b hlt => (hk.block b (Nat.lt_of_lt_of_le hlt hb.size) (fun e => absurd (hF b e) (by omega))).trans (hb.block b hlt)⟩
theorem ord_eq_i {x y : Nat} {a b : Int} (hx : Is x (a : Rat)) (hy : Is y (b : Rat)) : (FloatKind.f64.format.order x y == some .eq) = decide (a = b) := by
  rw [ord_eq_b hx hy, decide_eq_decide]
  exact Rat.intCast_inj
end Go.Proofs.Ytnndhbppgmnefaa
