/- What the tied cards share: the listed table as the walks want it; the door's own heap meets the condition. -/
import Derived.Test.YtommmppcncgnfaaDoorVlf
import Derived.Test.YtommmppcncgnfaaDoorRows
import Derived.ProofKit
import Derived.LaidMore
import Derived.OpenShut
import Derived.Stop.Joined
import Derived.Lib.LaidTab
namespace Go.Proofs.YtommmppcncgnfaaDoor.Vl
open Go.RowKit Go.Bw
set_option linter.unusedVariables false
set_option linter.unusedSimpArgs false
/-- the table's numbers, place by place -/
def tabZ : List Int := (List.range 64).map fun i => (((List.range 64).find? fun t => br t == i).getD 0 : Nat)
theorem tabZ_at : ∀ t, t < 64 → tabZ[br t]? = some (t : Int) := by decide +kernel
/-- what the rows list -/
def laid1 : List (String × DataW Unit) := [("math/bits.deBruijn64tab", Rows.laid_math_bits_deBruijn64tab)]
theorem laid_tab : (Rows.laid_math_bits_deBruijn64tab : DataW Unit) = Lib.tabData .u8 tabZ := by kernel_rfl
theorem gTab : Tryd.prog.globalNamed "math/bits.deBruijn64tab" = some 0 := by kernel_rfl
theorem tTab : (Tryd.prog.globals[0]?).map (·.type) = some 47 := by kernel_rfl
theorem tb_of_laid {W : World} (h : laidMetH Tryd.prog laid1 W) : Tb W := by
  rw [MakeChecks.laidMetH_plain _ _ _ (by kernel_rfl)] at h
  unfold laid1 at h
  rw [laid_tab] at h
  have ht := Lib.tabIs_of_head gTab tTab Tryd.underlying47 Tryd.underlying5 (by kernel_rfl) (by kernel_rfl) h
  intro t hlt
  have := World.var?_cell gTab ht (br t)
  rw [this]
  simp [tabZ_at t hlt]
theorem door_met (os : Os) (args : Array Value) : laidMetH Tryd.prog laid1 ((World.doorLaid Tryd.prog 400 os).forCall (fun _ _ => 0) ⟨#[], args, []⟩).memory :=
  laidMetH_of_parts3 (fuel := 8) (laidMet_of_run' 8 (by kernel_rfl) (by kernel_rfl)) (by kernel_rfl) (by kernel_rfl)
end Go.Proofs.YtommmppcncgnfaaDoor.Vl
