/- Two pages that say something else are unlike in more than sixteen symbols of a codeword: plain. -/
import Derived.Test.YtmchelbmeajcnaaMp
namespace Go.Proofs.Ytmchelbmeajcnaa
open Go.RowKit Go.Gf Go.Fl
set_option linter.unusedVariables false
set_option linter.unusedSimpArgs false
/-- in how many of the first n symbols of codeword j two pages of W are unlike -/
def parN (s u : List Nat) (W j : Nat) : Nat → Nat := bc (fun t => decide (at_ s (t * W + j) ≠ at_ u (t * W + j)))
section
variable {W K : Nat} {S S' : List Nat}
theorem par_dl (hl : S.length = W * K) (hl' : S'.length = W * K) {j : Nat} (hj : j < W) :
    parN (pageL W S) (pageL W S') W j (K + 16) = dl ((rowsL W S).getD j []) ((rowsL W S').getD j []) := by
  have h0 : 0 < W := by omega
  have e1 := rowsL_all hl h0 _ (getD_mem (ws := rowsL W S) (j := j) (by rw [rowsL_len]; exact hj))
  have e2 := rowsL_all hl' h0 _ (getD_mem (ws := rowsL W S') (j := j) (by rw [rowsL_len]; exact hj))
  rw [dl_bc (by rw [e1, e2]), e1]
  unfold parN
  refine bc_congr fun t ht => ?_
  rw [row_at hl rfl hj ht, row_at hl' rfl hj ht]
theorem par_two (hl : S.length = W * K) (hl' : S'.length = W * K) (hS : ∀ y ∈ S, y < 1024) (hS' : ∀ y ∈ S', y < 1024) (hK : K ≤ 64) {j : Nat} (hj : j < W) :
    parN (pageL W S) (pageL W S') W j (K + 16) = 0 ∧ (rowsL W S).getD j [] = (rowsL W S').getD j [] ∨ 16 < parN (pageL W S) (pageL W S') W j (K + 16) := by
  have h0 : 0 < W := by omega
  have m1 := getD_mem (ws := rowsL W S) (j := j) (by rw [rowsL_len]; exact hj)
  have m2 := getD_mem (ws := rowsL W S') (j := j) (by rw [rowsL_len]; exact hj)
  have e1 := rowsL_all hl h0 _ m1
  have e2 := rowsL_all hl' h0 _ m2
  rw [par_dl hl hl' hj]
  rcases Nat.lt_or_ge 16 (dl ((rowsL W S).getD j []) ((rowsL W S').getD j [])) with h | h
  · exact Or.inr h
  · have e := cw_dist (by rw [e1, e2]) (by rw [e1]; omega) (rowsL_bd hS _ m1) (rowsL_bd hS' _ m2) (rowsL_cw hS _ m1) (rowsL_cw hS' _ m2) h
    exact Or.inl ⟨(dl_zero (by rw [e1, e2])).2 e, e⟩
theorem par_most (hl : S.length = W * K) (hl' : S'.length = W * K) (hS : ∀ y ∈ S, y < 1024) (hS' : ∀ y ∈ S', y < 1024) (hK : K ≤ 64) (h0 : 0 < W) (hne : S ≠ S') :
    16 < mxF (fun j => parN (pageL W S) (pageL W S') W j (K + 16)) W := by
  rcases Nat.lt_or_ge 16 (mxF (fun j => parN (pageL W S) (pageL W S') W j (K + 16)) W) with h | h
  · exact h
  · refine absurd ?_ hne
    have h1 := mxF_le.1 h
    have e : ∀ j, j < W → (rowsL W S).getD j [] = (rowsL W S').getD j [] := fun j hj => by
      rcases par_two hl hl' hS hS' hK hj with ⟨_, h2⟩ | h2
      · exact h2
      · exact absurd (h1 j hj) (by omega)
    rw [← sayW_rows h0 hl, ← sayW_rows h0 hl', sayW_congr e]
end
end Go.Proofs.Ytmchelbmeajcnaa
