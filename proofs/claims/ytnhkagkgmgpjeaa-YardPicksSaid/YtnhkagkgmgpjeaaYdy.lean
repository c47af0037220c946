/- The program's yard has a yard's contracts. -/
import Derived.Test.YtnhkagkgmgpjeaaYdo
import Derived.Test.YtnhkagkgmgpjeaaYdi
import Derived.Test.YtnhkagkgmgpjeaaYdg
import Derived.Test.YtnhkagkgmgpjeaaYdf
import Derived.Test.YtnhkagkgmgpjeaaYde
import Derived.Test.YtnhkagkgmgpjeaaYdj
namespace Go.Proofs.Ytnhkagkgmgpjeaa.Yd
open Go.RowKit
set_option linter.unusedVariables false
set_option linter.unusedSimpArgs false
theorem same_ans {w w' : World} {e : Ending} {v : Value} (h : e = .returned v ∧ w = w') : We.Ans w v e w' := by
  obtain ⟨h1, rfl⟩ := h
  exact ⟨h1, Below.refl _ _⟩
theorem the_yard : YC YP where
  keep := fun ⟨g1, g2, m⟩ h => ⟨g1, g2, m.keep h⟩
  le := fun ⟨g1, g2, m⟩ => m.le
  new := new_any
  state := fun ⟨g1, g2, m⟩ b => (state_any m b).mono fun _ _ h => same_ans h
  turn := fun ⟨g1, g2, m⟩ b s => (turn_any m b s).mono fun _ _ ⟨h1, h2, h3⟩ => ⟨h1, h2, g1, g2, h3⟩
  count := fun ⟨g1, g2, m⟩ s => count_any m s
  erased := fun ⟨g1, g2, m⟩ he b => (erased_any m he b).mono fun _ _ ⟨h1, h2, h3⟩ => ⟨h1, h2, g1, g2, h3⟩
  erases := fun ⟨g1, g2, m⟩ b => (erases_any m b).mono fun _ _ h => same_ans h
  pick := fun ⟨g1, g2, m⟩ => pick_yd m
  list := fun ⟨g1, g2, m⟩ s => list_any m s
end Go.Proofs.Ytnhkagkgmgpjeaa.Yd
