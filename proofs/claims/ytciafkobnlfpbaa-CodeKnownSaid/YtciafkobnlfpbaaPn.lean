/- Polynomials over the field of 1024 numbers: slopes of products, quotients and rests, degrees (plain mathematics). -/
import Derived.Test.YtciafkobnlfpbaaPm
namespace Go.Proofs.Ytciafkobnlfpbaa
open Go.Gf

/-! slopes -/
def dF (f : Nat → Nat) (i : Nat) : Nat := if i % 2 = 0 then f (i + 1) else 0
theorem cv_slope {f g : Nat → Nat} (j : Nat) : cv (dF f) g j ^^^ cv f (dF g) j = if j % 2 = 0 then cv f g (j + 1) else 0 := by
  have h1 : cv (dF f) g j = X (j + 2) fun i => if i % 2 = 1 then gm (f i) (g (j + 1 - i)) else 0 := by
    rw [X_shift, if_neg (by decide), Nat.zero_xor]
    refine X_congr fun i hi => ?_
    unfold dF
    by_cases h : i % 2 = 0
    · rw [if_pos h, if_pos (by omega), show j + 1 - (i + 1) = j - i by omega]
    · rw [if_neg h, if_neg (by omega), gm_zero_left]
  have h2 : cv f (dF g) j = X (j + 2) fun i => if (j + 1 - i) % 2 = 1 then gm (f i) (g (j + 1 - i)) else 0 := by
    rw [X_succ, if_neg (by omega), Nat.xor_zero]
    refine X_congr fun i hi => ?_
    unfold dF
    by_cases h : (j - i) % 2 = 0
    · rw [if_pos h, if_pos (by omega), show j - i + 1 = j + 1 - i by omega]
    · rw [if_neg h, if_neg (by omega), gm_zero_right]
  rw [h1, h2, ← X_xor]
  by_cases hj : j % 2 = 0
  · rw [if_pos hj]
    refine X_congr fun i hi => ?_
    by_cases h : i % 2 = 1
    · rw [if_pos h, if_neg (by omega), Nat.xor_zero]
    · rw [if_neg h, if_pos (by omega), Nat.zero_xor]
  · rw [if_neg hj]
    refine X_zero fun i hi => ?_
    by_cases h : i % 2 = 1
    · rw [if_pos h, if_pos (by omega), Nat.xor_self]
    · rw [if_neg h, if_neg (by omega), Nat.xor_self]
theorem at_slope' (xs : List Nat) (j : Nat) : at_ (slope xs) j = dF (at_ (tr xs)) j := by
  rw [at_slope]; unfold dF; rw [at_tr]
theorem slope_len (xs : List Nat) : (tr (slope xs)).length ≤ (tr xs).length := by
  rw [tr_slope]
  by_cases h0 : slope xs = []
  · rw [h0]; exact Nat.zero_le _
  · have h1 := tr_last xs
    have h2 : at_ (slope xs) ((slope xs).length - 1) ≠ 0 := by
      have := tr_last (slope xs) (by rw [tr_slope]; exact h0)
      rw [tr_slope] at this; exact this
    rw [at_slope'] at h2
    unfold dF at h2
    rcases Nat.lt_or_ge (tr xs).length ((slope xs).length) with h3 | h3
    · exfalso
      apply h2
      rw [at_far (by omega), ite_self]
    · exact h3
/-- THE SLOPE OF A PRODUCT -/
theorem slope_pmul {p q : List Nat} (h : (tr p).length + (tr q).length - 1 ≤ 4096) : slope (pmul p q) = padd (pmul (slope p) q) (pmul p (slope q)) := by
  have l1 := slope_len p
  have l2 := slope_len q
  refine row_ext (tr_slope _) (tr_padd _ _) fun j => ?_
  rw [at_slope', tr_pmul, at_padd, at_pmul (by omega), at_pmul (by omega)]
  have hp := at_lt' (tr_bd p)
  have hq := at_lt' (tr_bd q)
  have e1 : cv (at_ (tr (slope p))) (at_ (tr q)) j = cv (dF (at_ (tr p))) (at_ (tr q)) j := cv_congr (fun i => by rw [tr_slope, at_slope']) (fun _ => rfl) j
  have e2 : cv (at_ (tr p)) (at_ (tr (slope q))) j = cv (at_ (tr p)) (dF (at_ (tr q))) j := cv_congr (fun _ => rfl) (fun i => by rw [tr_slope, at_slope']) j
  have b1 : cv (dF (at_ (tr p))) (at_ (tr q)) j < 1024 := cv_lt _ (fun i => by unfold dF; split; exact hp _; decide) j
  have b2 : cv (at_ (tr p)) (dF (at_ (tr q))) j < 1024 := cv_lt _ hp j
  rw [e1, e2, Nat.mod_eq_of_lt b1, Nat.mod_eq_of_lt b2, cv_slope]
  unfold dF
  rw [at_pmul h]
theorem slope_padd (p q : List Nat) : slope (padd p q) = padd (slope p) (slope q) := by
  refine row_ext (tr_slope _) (tr_padd _ _) fun j => ?_
  rw [at_slope, at_padd, at_padd, at_slope, at_slope]
  have h1 : at_ p (j + 1) % 1024 < 1024 := Nat.mod_lt _ (by decide)
  have h2 : at_ q (j + 1) % 1024 < 1024 := Nat.mod_lt _ (by decide)
  by_cases h : j % 2 = 0
  · rw [if_pos h, if_pos h, if_pos h, Nat.mod_eq_of_lt (xor_lt h1 h2), Nat.mod_eq_of_lt h1, Nat.mod_eq_of_lt h2]
  · rw [if_neg h, if_neg h, if_neg h]; rfl

/-! sums and products: order, dealing out -/
theorem pmul_comm {p q : List Nat} (h : (tr p).length + (tr q).length - 1 ≤ 4096) : pmul p q = pmul q p := by
  refine row_ext (tr_pmul _ _) (tr_pmul _ _) fun j => ?_
  rw [at_pmul h, at_pmul (by omega)]
  exact cv_comm (at_lt' (tr_bd p)) (at_lt' (tr_bd q)) j
theorem padd_len (p q : List Nat) : (tr (padd p q)).length ≤ max (tr p).length (tr q).length := by
  rw [tr_padd]
  by_cases h0 : padd p q = []
  · rw [h0]; exact Nat.zero_le _
  · have h1 := tr_last (padd p q) (by rw [tr_padd]; exact h0)
    rw [tr_padd, at_padd, ← at_tr, ← at_tr] at h1
    rcases Nat.lt_or_ge (max (tr p).length (tr q).length) ((padd p q).length) with h2 | h2
    · exfalso
      apply h1
      rw [at_far (xs := tr p) (by omega), at_far (xs := tr q) (by omega)]; rfl
    · exact h2
theorem pmul_padd {p q r : List Nat} (h1 : (tr p).length + (tr r).length - 1 ≤ 4096) (h2 : (tr q).length + (tr r).length - 1 ≤ 4096) : pmul (padd p q) r = padd (pmul p r) (pmul q r) := by
  have hl := padd_len p q
  refine row_ext (tr_pmul _ _) (tr_padd _ _) fun j => ?_
  have hp := at_lt' (tr_bd p)
  have hq := at_lt' (tr_bd q)
  rw [at_pmul (by omega), at_padd, at_pmul h1, at_pmul h2, Nat.mod_eq_of_lt (cv_lt _ hp j), Nat.mod_eq_of_lt (cv_lt _ hq j), ← cv_xor_left hp hq]
  exact cv_congr (fun i => by rw [tr_padd, at_padd, at_tr, at_tr]) (fun _ => rfl) j
theorem padd_self (p : List Nat) : padd p p = [] := by
  refine row_ext (tr_padd _ _) rfl fun j => ?_
  rw [at_padd, Nat.xor_self]; rfl

/-! degrees -/
theorem len_of {xs : List Nat} (hx : tr xs = xs) {n : Nat} (h1 : at_ xs n ≠ 0) (h2 : ∀ j, n < j → at_ xs j = 0) : xs.length = n + 1 := by
  have a1 : n < xs.length := by
    rcases Nat.lt_or_ge n xs.length with h | h
    · exact h
    · exact absurd (at_far h) h1
  have hne : xs ≠ [] := by rintro rfl; simp at a1
  have a2 := tr_last xs (by rw [hx]; exact hne)
  rw [hx] at a2
  rcases Nat.lt_or_ge n (xs.length - 1) with h | h
  · exact absurd (h2 _ h) a2
  · omega
theorem X_one {n k : Nat} {f : Nat → Nat} (hk : k < n) (h : ∀ i, i < n → i ≠ k → f i = 0) : X n f = f k := by
  induction n with
  | zero => omega
  | succ n ih =>
    rw [X_succ]
    by_cases e : k = n
    · subst e
      rw [X_zero fun i hi => h i (by omega) (by omega), Nat.zero_xor]
    · rw [h n (by omega) (by omega), Nat.xor_zero]
      exact ih (by omega) fun i hi => h i (by omega)
theorem pmul_len {p q : List Nat} (h : (tr p).length + (tr q).length - 1 ≤ 4096) (hp : tr p ≠ []) (hq : tr q ≠ []) : (pmul p q).length = (tr p).length + (tr q).length - 1 := by
  have lp := List.length_pos_iff.2 hp
  have lq := List.length_pos_iff.2 hq
  have := len_of (tr_pmul p q) (n := (tr p).length + (tr q).length - 2) ?_ ?_
  · omega
  · rw [at_pmul h]
    unfold cv
    rw [X_one (k := (tr p).length - 1) (by omega) (fun i hi hne => ?_)]
    · rw [show (tr p).length + (tr q).length - 2 - ((tr p).length - 1) = (tr q).length - 1 by omega]
      intro hz
      rcases (gm_eq_zero (at_lt' (tr_bd p) _) (at_lt' (tr_bd q) _)).1 hz with h1 | h1
      · exact tr_last p hp h1
      · exact tr_last q hq h1
    · rcases Nat.lt_or_ge i (tr p).length with h1 | h1
      · rw [at_far (xs := tr q) (by omega), gm_zero_right]
      · rw [at_far (xs := tr p) h1, gm_zero_left]
  · intro j hj
    rw [at_pmul h, cv_far (by omega)]
theorem pmul_nil_left {p q : List Nat} (h : tr p = []) : pmul p q = [] := by
  unfold pmul; rw [h]; simp
theorem pmul_nil_right {p q : List Nat} (h : tr q = []) : pmul p q = [] := by
  unfold pmul; rw [h]; simp
theorem padd_len_ne {p q : List Nat} (h : (tr p).length ≠ (tr q).length) : (padd p q).length = max (tr p).length (tr q).length := by
  have key : ∀ {p q : List Nat}, (tr p).length < (tr q).length → (padd p q).length = (tr q).length := by
    intro p q hl
    have hq : tr q ≠ [] := by intro e; rw [e] at hl; simp at hl
    have := len_of (tr_padd p q) (n := (tr q).length - 1) ?_ ?_
    · omega
    · rw [at_padd, ← at_tr, ← at_tr, at_far (xs := tr p) (by omega), Nat.zero_xor]; exact tr_last q hq
    · intro j hj
      rw [at_padd, ← at_tr, ← at_tr, at_far (xs := tr p) (by omega), at_far (xs := tr q) (by omega)]; rfl
  rcases Nat.lt_or_ge (tr p).length (tr q).length with hl | hl
  · rw [key hl]; omega
  · have hl' : (tr q).length < (tr p).length := by omega
    have e : padd p q = padd q p := row_ext (tr_padd _ _) (tr_padd _ _) fun j => by rw [at_padd, at_padd, Nat.xor_comm]
    rw [e, key hl']; omega
end Go.Proofs.Ytciafkobnlfpbaa
