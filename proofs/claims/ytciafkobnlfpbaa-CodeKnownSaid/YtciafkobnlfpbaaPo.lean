/- Polynomials over the field of 1024 numbers: quotient times divisor and the rest are what was divided; there is just one such pair (plain mathematics). -/
import Derived.Test.YtciafkobnlfpbaaPn
namespace Go.Proofs.Ytciafkobnlfpbaa
open Go.Gf

section
variable {b : List Nat} {iv n la : Nat} {f : Nat → Nat}
/-- the quotient has nothing yet below the place that is next -/
theorem dv2_low {t j : Nat} (ht : t ≤ n) (h : j < n - t) : dv2 b iv n f t j = 0 := by
  induction t with
  | zero => rfl
  | succ t ih => unfold dv2; rw [if_neg (by omega)]; exact ih (by omega) (by omega)
theorem dv2_far {t j : Nat} (h : n ≤ j) (hn : t ≤ n) : dv2 b iv n f t j = 0 := by
  induction t with
  | zero => rfl
  | succ t ih => unfold dv2; rw [if_neg (by omega)]; exact ih (by omega)
theorem cv_delta (m x : Nat) (g : Nat → Nat) (j : Nat) : cv (fun i => if i = m then x else 0) g j = if m ≤ j then gm x (g (j - m)) else 0 := by
  unfold cv
  have e : (X (j + 1) fun i => gm (if i = m then x else 0) (g (j - i))) = if m ≤ j then gm x (g (j - m)) else 0 := by
    by_cases h : m ≤ j
    · rw [if_pos h, X_one (f := fun i => gm (if i = m then x else 0) (g (j - i))) (k := m) (by omega) (fun i _ hne => by show gm (if i = m then x else 0) (g (j - i)) = 0; rw [if_neg hne, gm_zero_left])]
      show gm (if m = m then x else 0) (g (j - m)) = _
      rw [if_pos rfl]
    · rw [if_neg h]
      exact X_zero fun i hi => by rw [if_neg (by omega), gm_zero_left]
  exact e
/-- WHAT IS LEFT, AND THE QUOTIENT TIMES THE DIVISOR, ARE WHAT WAS DIVIDED -/
theorem dv_inv (hf : ∀ j, f j < 1024) {t : Nat} (ht : t ≤ n) (j : Nat) : f j = dv1 b iv n f t j ^^^ cv (dv2 b iv n f t) (at_ b) j := by
  induction t with
  | zero =>
    have : cv (dv2 b iv n f 0) (at_ b) j = 0 := X_zero fun i _ => gm_zero_left _
    rw [this, Nat.xor_zero]; rfl
  | succ t ih =>
    have ih := ih (by omega)
    have e1 : dv1 b iv n f (t + 1) j = dv1 b iv n f t j ^^^ (if n - 1 - t ≤ j then gm (gm (dv1 b iv n f t (n - 1 - t + b.length - 1)) iv) (at_ b (j - (n - 1 - t))) else 0) := mrow_full j
    have e2 : cv (dv2 b iv n f (t + 1)) (at_ b) j = cv (dv2 b iv n f t) (at_ b) j ^^^ (if n - 1 - t ≤ j then gm (gm (dv1 b iv n f t (n - 1 - t + b.length - 1)) iv) (at_ b (j - (n - 1 - t))) else 0) := by
      rw [← cv_delta, ← cv_xor_left (fun i => dv2_lt hf t i) (fun i => by
        show (if i = n - 1 - t then _ else 0) < 1024
        split
        · exact gm_lt _ (dv1_lt hf _ _)
        · decide)]
      refine cv_congr (fun i => ?_) (fun _ => rfl) j
      show dv2 b iv n f (t + 1) i = dv2 b iv n f t i ^^^ (if i = n - 1 - t then _ else 0)
      conv => lhs; unfold dv2
      by_cases h : i = n - 1 - t
      · rw [if_pos h, if_pos h, dv2_low (by omega) (by omega), Nat.zero_xor]
      · rw [if_neg h, if_neg h, Nat.xor_zero]
    rw [e1, e2, xor4, Nat.xor_self, Nat.xor_zero]
    exact ih
/-- place by place the greatest factor goes -/
theorem dv1_gone (hf : ∀ j, f j < 1024) (hfar : ∀ j, la ≤ j → f j = 0) (hb : ∀ x ∈ b, x < 1024) (bp : 0 < b.length) (hn : n + b.length = la + 1) (hiv : gm iv (at_ b (b.length - 1)) = 1) (hivl : iv < 1024) {t : Nat} (ht : t ≤ n) (j : Nat) (hj : la - t ≤ j) : dv1 b iv n f t j = 0 := by
  induction t generalizing j with
  | zero => exact hfar j (by omega)
  | succ t ih =>
    have ih := fun j hj => ih (by omega) j hj
    have e1 : dv1 b iv n f (t + 1) j = dv1 b iv n f t j ^^^ (if n - 1 - t ≤ j then gm (gm (dv1 b iv n f t (n - 1 - t + b.length - 1)) iv) (at_ b (j - (n - 1 - t))) else 0) := mrow_full j
    rw [e1]
    rcases Nat.lt_or_ge j (la - t) with h | h
    · have hjj : n - 1 - t + b.length - 1 = j := by omega
      rw [hjj, if_pos (by omega), show j - (n - 1 - t) = b.length - 1 by omega, gm_assoc (dv1_lt hf t j) hivl (at_lt' hb _), hiv, gm_one_right, Nat.xor_self]
    · rw [ih j h, Nat.zero_xor]
      split
      · rw [at_far (by omega), gm_zero_right]
      · rfl
end

section
variable {xs ys : List Nat}
theorem divI_one (h : tr ys ≠ []) : gm (divI ys) (at_ (tr ys) ((tr ys).length - 1)) = 1 := by
  have h1 := tr_last ys h
  have h2 := at_lt' (tr_bd ys) ((tr ys).length - 1)
  unfold divI
  rw [gm_comm (ginv_lt _) h2]
  exact gm_ginv h2 h1
theorem at_pquo (_h : tr ys ≠ []) (j : Nat) : at_ (pquo xs ys) j = dv2 (tr ys) (divI ys) (divN xs ys) (at_ (tr xs)) (divN xs ys) j := by
  unfold pquo
  rw [at_tr, at_rm]
  by_cases hj : j < divN xs ys
  · rw [if_pos hj, Nat.mod_eq_of_lt (dv2_lt (at_lt' (tr_bd xs)) _ _)]
  · rw [if_neg hj, dv2_far (by omega) (Nat.le_refl _)]
theorem at_prem (h : tr ys ≠ []) (j : Nat) : at_ (prem xs ys) j = dv1 (tr ys) (divI ys) (divN xs ys) (at_ (tr xs)) (divN xs ys) j := by
  unfold prem
  rw [at_tr, at_rm]
  by_cases hj : j < (tr xs).length
  · rw [if_pos hj, Nat.mod_eq_of_lt (dv1_lt (at_lt' (tr_bd xs)) _ _)]
  · rw [if_neg hj]
    have lp := List.length_pos_iff.2 h
    rcases Nat.lt_or_ge (tr xs).length (tr ys).length with hl | hl
    · have e : divN xs ys = 0 := by unfold divN; omega
      rw [e]
      show 0 = at_ (tr xs) j
      rw [at_far (by omega)]
    · have hn : divN xs ys + (tr ys).length = (tr xs).length + 1 := by unfold divN; omega
      exact (dv1_gone (at_lt' (tr_bd xs)) (fun j => at_far) (tr_bd ys) lp hn (divI_one h) (ginv_lt _) (Nat.le_refl _) j (by omega)).symm
theorem tr_pquo : tr (pquo xs ys) = pquo xs ys := tr_tr _
theorem tr_prem : tr (prem xs ys) = prem xs ys := tr_tr _
theorem pquo_len_le : (pquo xs ys).length ≤ divN xs ys := by
  refine Nat.le_trans (tr_len _) ?_
  rw [rm_len]; exact Nat.le_refl _
/-- THE REST IS SHORTER THAN THE DIVISOR -/
theorem prem_len (h : tr ys ≠ []) : (prem xs ys).length < (tr ys).length := by
  have lp := List.length_pos_iff.2 h
  by_cases h0 : prem xs ys = []
  · rw [h0]; exact lp
  · have h1 := tr_last (prem xs ys) (by rw [tr_prem]; exact h0)
    rw [tr_prem, at_prem h] at h1
    rcases Nat.lt_or_ge ((prem xs ys).length) (tr ys).length with h2 | h2
    · exact h2
    · exfalso
      apply h1
      rcases Nat.lt_or_ge (tr xs).length (tr ys).length with hl | hl
      · have e : divN xs ys = 0 := by unfold divN; omega
        rw [e]
        exact at_far (xs := tr xs) (by omega)
      · have hn : divN xs ys + (tr ys).length = (tr xs).length + 1 := by unfold divN; omega
        exact dv1_gone (at_lt' (tr_bd xs)) (fun j => at_far) (tr_bd ys) lp hn (divI_one h) (ginv_lt _) (Nat.le_refl _) _ (by omega)
/-- QUOTIENT TIMES DIVISOR AND THE REST ARE WHAT WAS DIVIDED -/
theorem quo_rem (h : tr ys ≠ []) (hl : (tr xs).length + (tr ys).length ≤ 2000) : padd (pmul (pquo xs ys) ys) (prem xs ys) = tr xs := by
  have ql : (tr (pquo xs ys)).length ≤ divN xs ys := by rw [tr_pquo]; exact pquo_len_le
  have hq : divN xs ys ≤ (tr xs).length + 1 := by unfold divN; omega
  refine row_ext (tr_padd _ _) (tr_tr _) fun j => ?_
  have hx := at_lt' (tr_bd xs)
  have hdiv := dv_inv (b := tr ys) (iv := divI ys) (n := divN xs ys) hx (Nat.le_refl _) j
  rw [at_padd, at_pmul (by omega), at_prem h]
  have e : cv (at_ (tr (pquo xs ys))) (at_ (tr ys)) j = cv (dv2 (tr ys) (divI ys) (divN xs ys) (at_ (tr xs)) (divN xs ys)) (at_ (tr ys)) j := cv_congr (fun i => by rw [tr_pquo, at_pquo h]) (fun _ => rfl) j
  rw [e, Nat.mod_eq_of_lt (cv_lt _ (fun i => dv2_lt hx _ i) j), Nat.mod_eq_of_lt (dv1_lt hx _ _), Nat.xor_comm]
  exact hdiv.symm
/-- the quotient's length -/
theorem pquo_len (h : tr ys ≠ []) : (pquo xs ys).length = divN xs ys := by
  have lp := List.length_pos_iff.2 h
  rcases Nat.eq_zero_or_pos (divN xs ys) with h0 | h0
  · have := pquo_len_le (xs := xs) (ys := ys); omega
  · have hx := at_lt' (tr_bd xs)
    have hge : (tr ys).length ≤ (tr xs).length := by unfold divN at h0; omega
    have hxn : tr xs ≠ [] := by intro e; rw [e] at hge; exact absurd (Nat.lt_of_lt_of_le lp hge) (by decide)
    have key : ∀ t, 0 < t → t ≤ divN xs ys → dv2 (tr ys) (divI ys) (divN xs ys) (at_ (tr xs)) t (divN xs ys - 1) ≠ 0 := by
      intro t ht htn
      induction t with
      | zero => omega
      | succ t ih =>
        unfold dv2
        rcases Nat.eq_zero_or_pos t with h1 | h1
        · subst h1
          rw [if_pos (by omega)]
          have : divN xs ys - 1 - 0 + (tr ys).length - 1 = (tr xs).length - 1 := by
            have hd : divN xs ys = (tr xs).length + 1 - (tr ys).length := rfl
            omega
          rw [this]
          show gm (at_ (tr xs) ((tr xs).length - 1)) (divI ys) ≠ 0
          intro hz
          rcases (gm_eq_zero (hx _) (ginv_lt _)).1 hz with h2 | h2
          · exact tr_last xs hxn h2
          · have h3 := divI_one h
            have h4 : gm (divI ys) (at_ (tr ys) ((tr ys).length - 1)) = 0 := by
              have : divI ys = 0 := h2
              rw [this, gm_zero_left]
            rw [h4] at h3; cases h3
        · rw [if_neg (by omega)]; exact ih h1 (by omega)
    have := len_of (xs := pquo xs ys) tr_pquo (n := divN xs ys - 1) (by rw [at_pquo h]; exact key _ h0 (Nat.le_refl _)) (fun j hj => by rw [at_pquo h]; exact dv2_far (by omega) (Nat.le_refl _))
    omega
end
end Go.Proofs.Ytciafkobnlfpbaa
