/- Whether two rows are the same, as the reference says it. -/
import Derived.Test.YtedpbidijgjkeaaRa
namespace Go.Proofs.Ytedpbidijgjkeaa
open Go.RowKit Go.Gf

theorem dl_zero {a b : List Nat} (h : a.length = b.length) : dl a b = 0 ↔ a = b := by
  unfold dl
  rw [h, Nat.max_self, Nat.min_self, Nat.sub_self, Nat.zero_add]
  induction a generalizing b with
  | nil => cases b with
    | nil => simp
    | cons y b => simp at h
  | cons x a ih => cases b with
    | nil => simp at h
    | cons y b =>
      have := ih (b := b) (by simpa using h)
      simp only [List.zip_cons_cons, List.countP_cons, List.cons.injEq]
      by_cases hxy : x = y
      · simpa [hxy] using this
      · simp [hxy]

end Go.Proofs.Ytedpbidijgjkeaa
