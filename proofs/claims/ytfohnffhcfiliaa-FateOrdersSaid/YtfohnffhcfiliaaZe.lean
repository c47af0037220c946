/- Fates in another order, plain. -/
import Derived.Test.YtfohnffhcfiliaaZd
namespace Go.Proofs.Ytfohnffhcfiliaa
open Go.RowKit
set_option linter.unusedVariables false
set_option linter.unusedSimpArgs false

theorem tAt_get {ts : List (Int × Int × Int)} {i : Nat} (h : i < ts.length) : tAt ts i = ts[i] := by
  unfold tAt
  rw [List.getD_eq_getElem?_getD, List.getElem?_eq_getElem h]; rfl
theorem mayF_le {ts : List (Int × Int × Int)} (h : mayF ts = true) : ts.length ≤ 256 := by
  unfold mayF at h
  rw [Bool.and_eq_true, decide_eq_true_eq] at h
  exact h.1
theorem mayF_at {ts : List (Int × Int × Int)} (h : mayF ts = true) {i : Nat} (hi : i < ts.length) : okT (tAt ts i) = true ∧ ∀ k, k < i → (tAt ts k).1 ≠ (tAt ts i).1 := by
  unfold mayF at h
  rw [Bool.and_eq_true] at h
  have := (List.all_eq_true.1 h.2) i (List.mem_range.2 hi)
  unfold newT at this
  rw [Bool.and_eq_true] at this
  exact ⟨this.1, fun k hk => of_decide_eq_true ((List.all_eq_true.1 this.2) k (List.mem_range.2 hk))⟩
theorem mayF_ne {ts : List (Int × Int × Int)} (h : mayF ts = true) {i k : Nat} (hi : i < ts.length) (hk : k < ts.length) (hne : i ≠ k) : (tAt ts i).1 ≠ (tAt ts k).1 := by
  rcases Nat.lt_or_ge i k with hlt | hge
  · exact (mayF_at h hk).2 i hlt
  · exact fun e => (mayF_at h hi).2 k (by omega) e.symm
theorem rev_at {ts : List (Int × Int × Int)} {i : Nat} (h : i < ts.length) : tAt ts.reverse i = tAt ts (ts.length - 1 - i) := by
  rw [tAt_get (by simpa using h), List.getElem_reverse, tAt_get (by omega)]
theorem mayF_rev {ts : List (Int × Int × Int)} (h : mayF ts = true) : mayF ts.reverse = true := by
  refine mayF_yes (by rw [List.length_reverse]; exact mayF_le h) fun i hi => ?_
  rw [List.length_reverse] at hi
  refine newT_ok ?_ fun k hk => ?_
  · rw [rev_at hi]; exact (mayF_at h (by omega)).1
  · rw [rev_at hi, rev_at (by omega)]
    exact mayF_ne h (by omega) (by omega) (by omega)
/-- what befalls n, by any place where it stands -/
theorem atF_of {ts : List (Int × Int × Int)} (h : mayF ts = true) {i : Nat} (hi : i < ts.length) : ∀ m, i < m → m ≤ ts.length → atF ts (tAt ts i).1 m = tAt ts i ∧ isF ts (tAt ts i).1 m = true := by
  intro m
  induction m with
  | zero => intro h; omega
  | succ m ih =>
    intro h1 h2
    unfold atF isF
    by_cases e : m = i
    · subst e
      rw [if_pos rfl, if_pos rfl]
      exact ⟨rfl, rfl⟩
    · have hne := mayF_ne h (show m < ts.length by omega) hi e
      rw [if_neg hne, if_neg hne]
      exact ih (by omega) (by omega)
theorem atF_none {ts : List (Int × Int × Int)} {n : Int} : ∀ m, (∀ i, i < m → (tAt ts i).1 ≠ n) → atF ts n m = (0, 0, 0) ∧ isF ts n m = false := by
  intro m
  induction m with
  | zero => intro _; exact ⟨rfl, rfl⟩
  | succ m ih =>
    intro h
    unfold atF isF
    rw [if_neg (h m (Nat.lt_succ_self m)), if_neg (h m (Nat.lt_succ_self m))]
    exact ih fun i hi => h i (by omega)
theorem atF_rev {ts : List (Int × Int × Int)} (h : mayF ts = true) (n : Int) : atF ts.reverse n ts.reverse.length = atF ts n ts.length ∧ isF ts.reverse n ts.reverse.length = isF ts n ts.length := by
  by_cases hex : ∃ i, i < ts.length ∧ (tAt ts i).1 = n
  · obtain ⟨i, hi, rfl⟩ := hex
    have h1 := atF_of h hi ts.length hi (Nat.le_refl _)
    have hj : ts.length - 1 - i < ts.reverse.length := by rw [List.length_reverse]; omega
    have h2 := atF_of (mayF_rev h) hj ts.reverse.length hj (Nat.le_refl _)
    rw [rev_at (by omega), show ts.length - 1 - (ts.length - 1 - i) = i by omega] at h2
    rw [h1.1, h1.2, h2.1, h2.2]
    exact ⟨rfl, rfl⟩
  · have hno : ∀ i, i < ts.length → (tAt ts i).1 ≠ n := fun i hi e => hex ⟨i, hi, e⟩
    have h1 := atF_none ts.length hno
    have h2 := atF_none (ts := ts.reverse) (n := n) ts.reverse.length fun i hi => by
      rw [List.length_reverse] at hi
      rw [rev_at hi]
      exact hno _ (by omega)
    rw [h1.1, h1.2, h2.1, h2.2]
    exact ⟨rfl, rfl⟩
theorem leftF_count (ts : List (Int × Int × Int)) (n : Int) : ∀ m, m ≤ ts.length → leftF ts n m = (ts.take m).countP fun x => decide (n ≤ x.1) := by
  intro m
  induction m with
  | zero => intro _; rfl
  | succ m ih =>
    intro hm
    unfold leftF
    rw [ih (by omega), List.take_add_one, List.getElem?_eq_getElem (by omega : m < ts.length), List.countP_append, tAt_get (by omega)]
    by_cases h : n ≤ (ts[m]'(by omega)).1
    · rw [if_pos h]; simp [h]
    · rw [if_neg h]; simp [h]
theorem leftF_rev (ts : List (Int × Int × Int)) (n : Int) : leftF ts.reverse n ts.reverse.length = leftF ts n ts.length := by
  rw [leftF_count _ _ _ (Nat.le_refl _), leftF_count _ _ _ (Nat.le_refl _), List.take_length, List.take_length]
  exact List.countP_reverse
end Go.Proofs.Ytfohnffhcfiliaa
