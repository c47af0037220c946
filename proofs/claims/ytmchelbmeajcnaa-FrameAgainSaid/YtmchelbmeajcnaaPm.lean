/- Polynomials over the field of 1024 numbers, by their factors: sums, products, values, slopes (plain mathematics). · Polynomials over the field of 1024 numbers: slopes of products, quotients and rests, degrees (plain mathematics). · Polynomials over the field of 1024 numbers: quotient times divisor and the rest are what was divided; there is just one such pair (plain mathematics). · Division by steps from the highest place down, skipping what is nought there (plain mathematics). -/
import Derived.Test.YtmchelbmeajcnaaRv
namespace Go.Proofs.Ytmchelbmeajcnaa
open Go.Gf

/-- the sum of n numbers of the field -/
def X (n : Nat) (f : Nat → Nat) : Nat :=
  match n with
  | 0 => 0
  | n + 1 => X n f ^^^ f n
theorem X_succ (n : Nat) (f : Nat → Nat) : X (n + 1) f = X n f ^^^ f n := rfl
theorem X_congr {n : Nat} {f g : Nat → Nat} (h : ∀ i, i < n → f i = g i) : X n f = X n g := by
  induction n with
  | zero => rfl
  | succ n ih => rw [X_succ, X_succ, ih (fun i hi => h i (by omega)), h n (by omega)]
theorem X_lt {n : Nat} {f : Nat → Nat} (h : ∀ i, i < n → f i < 1024) : X n f < 1024 := by
  induction n with
  | zero => show 0 < 1024; decide
  | succ n ih => exact xor_lt (ih fun i hi => h i (by omega)) (h n (by omega))
theorem X_zero {n : Nat} {f : Nat → Nat} (h : ∀ i, i < n → f i = 0) : X n f = 0 := by
  induction n with
  | zero => rfl
  | succ n ih => rw [X_succ, ih (fun i hi => h i (by omega)), h n (by omega)]; rfl
theorem X_xor (n : Nat) (f g : Nat → Nat) : X n (fun i => f i ^^^ g i) = X n f ^^^ X n g := by
  induction n with
  | zero => simp [X]
  | succ n ih => rw [X_succ, X_succ, X_succ, ih, xor4]
theorem X_mul_left {n : Nat} {f : Nat → Nat} (c : Nat) : gm c (X n f) = X n fun i => gm c (f i) := by
  induction n with
  | zero => exact gm_zero_right c
  | succ n ih => rw [X_succ, X_succ, gm_xor_right, ih]
theorem X_mul_right {n : Nat} {f : Nat → Nat} (c : Nat) (h : ∀ i, i < n → f i < 1024) : gm (X n f) c = X n fun i => gm (f i) c := by
  induction n with
  | zero => exact gm_zero_left c
  | succ n ih => rw [X_succ, X_succ, gm_xor_left c (X_lt fun i hi => h i (by omega)) (h n (by omega)), ih fun i hi => h i (by omega)]
theorem X_swap (m n : Nat) (f : Nat → Nat → Nat) : X m (fun i => X n (f i)) = X n fun j => X m fun i => f i j := by
  induction m with
  | zero => exact (X_zero fun _ _ => rfl).symm
  | succ m ih => rw [X_succ, ih, ← X_xor]; rfl
theorem X_more {n m : Nat} {f : Nat → Nat} (h : n ≤ m) (hf : ∀ i, n ≤ i → i < m → f i = 0) : X m f = X n f := by
  induction m with
  | zero => have : n = 0 := by omega
            subst this; rfl
  | succ m ih =>
    rcases Nat.lt_or_ge n (m + 1) with hl | hl
    · rw [X_succ, hf m (by omega) (by omega), Nat.xor_zero]; exact ih (by omega) fun i h1 h2 => hf i h1 (by omega)
    · have : n = m + 1 := by omega
      subst this; rfl
theorem X_shift (n : Nat) (f : Nat → Nat) : X (n + 1) f = f 0 ^^^ X n fun i => f (i + 1) := by
  induction n with
  | zero => simp [X]
  | succ n ih => rw [X_succ, ih, X_succ, Nat.xor_assoc]
theorem X_rev (n : Nat) (f : Nat → Nat) : X (n + 1) f = X (n + 1) fun i => f (n - i) := by
  induction n generalizing f with
  | zero => rfl
  | succ n ih =>
    rw [X_succ, ih, X_shift (n + 1) (fun i => f (n + 1 - i)), Nat.xor_comm]
    congr 1
    exact X_congr fun i hi => by congr 1; omega

/-- the j-th factor of a product -/
def cv (f g : Nat → Nat) (j : Nat) : Nat := X (j + 1) fun i => gm (f i) (g (j - i))
theorem cv_comm {f g : Nat → Nat} (hf : ∀ i, f i < 1024) (hg : ∀ i, g i < 1024) (j : Nat) : cv f g j = cv g f j := by
  unfold cv
  rw [X_rev]
  exact X_congr fun i hi => by rw [gm_comm (hf _) (hg _)]; congr 2; omega
theorem cv_lt {f : Nat → Nat} (g : Nat → Nat) (hf : ∀ i, f i < 1024) (j : Nat) : cv f g j < 1024 := X_lt fun i _ => gm_lt _ (hf i)
theorem cv_xor_left {f g h : Nat → Nat} (hf : ∀ i, f i < 1024) (hg : ∀ i, g i < 1024) (j : Nat) : cv (fun i => f i ^^^ g i) h j = cv f h j ^^^ cv g h j := by
  unfold cv
  rw [← X_xor]
  exact X_congr fun i _ => gm_xor_left _ (hf i) (hg i)
theorem cv_xor_right (f g h : Nat → Nat) (j : Nat) : cv f (fun i => g i ^^^ h i) j = cv f g j ^^^ cv f h j := by
  unfold cv
  rw [← X_xor]
  exact X_congr fun i _ => gm_xor_right _ _ _
theorem cv_congr {f g f' g' : Nat → Nat} (hf : ∀ i, f i = f' i) (hg : ∀ i, g i = g' i) (j : Nat) : cv f g j = cv f' g' j := by
  have e1 : f = f' := funext hf
  have e2 : g = g' := funext hg
  rw [e1, e2]

/-! factors of what the rows say -/
theorem at_rm {n : Nat} {f : Nat → Nat} (j : Nat) : at_ (rm n f) j = if j < n then f j else 0 := by
  by_cases h : j < n
  · rw [if_pos h, at_get (by rw [rm_len]; exact h), rm_get]
  · rw [if_neg h, at_far (by rw [rm_len]; omega)]
theorem rm_succ (n : Nat) (f : Nat → Nat) : rm (n + 1) f = rm n f ++ [f n] := by
  unfold rm
  rw [List.range_succ, List.map_append]; rfl
/-- without its noughts at the end a row has the same factors -/
theorem at_tr (xs : List Nat) (j : Nat) : at_ (tr xs) j = at_ xs j % 1024 := by
  have e : xs = rm xs.length (at_ xs) := (rm_at xs).symm
  have hz : xs.length ≤ j → at_ xs j = 0 := at_far
  rw [e] at hz ⊢
  rw [rm_len] at hz
  generalize xs.length = n at hz ⊢
  generalize at_ xs = f at hz ⊢
  have key : ∀ n, at_ (tr (rm n f)) j = if j < n then f j % 1024 else 0 := by
    intro n
    induction n with
    | zero => simp [rm, tr, at_]
    | succ n ih =>
      rw [rm_succ, tr_snoc]
      by_cases h : f n % 1024 = 0
      · rw [if_pos h, ih]
        by_cases h1 : j < n
        · rw [if_pos h1, if_pos (by omega)]
        · rw [if_neg h1]
          by_cases h2 : j = n
          · subst h2; rw [if_pos (by omega), h]
          · rw [if_neg (by omega)]
      · rw [if_neg h, ← rm_succ]
        have : (rm (n + 1) f).map (· % 1024) = rm (n + 1) fun j => f j % 1024 := by simp [rm]
        rw [this, at_rm]
  rw [key, at_rm]
  by_cases h : j < n
  · rw [if_pos h, if_pos h]
  · rw [if_neg h, if_neg h]
/-- a row without noughts at its end has a last factor that is none -/
theorem tr_last (xs : List Nat) (h : tr xs ≠ []) : at_ (tr xs) ((tr xs).length - 1) ≠ 0 := by
  have e : xs = rm xs.length (at_ xs) := (rm_at xs).symm
  generalize xs.length = n at e
  generalize at_ xs = f at e
  subst e
  induction n with
  | zero => exact absurd rfl h
  | succ n ih =>
    rw [rm_succ, tr_snoc] at h ⊢
    by_cases h0 : f n % 1024 = 0
    · rw [if_pos h0] at h ⊢; exact ih h
    · rw [if_neg h0] at h ⊢
      rw [at_get (by simp)]
      simp
      exact h0
/-- rows without noughts at their ends are the same if their factors are -/
theorem tr_ext {xs ys : List Nat} (h : ∀ j, at_ xs j % 1024 = at_ ys j % 1024) : tr xs = tr ys := by
  have hl : ∀ {xs ys : List Nat}, (∀ j, at_ xs j % 1024 = at_ ys j % 1024) → (tr xs).length ≤ (tr ys).length := by
    intro xs ys h
    by_cases h0 : tr xs = []
    · rw [h0]; exact Nat.zero_le _
    · have h1 := tr_last xs h0
      rw [at_tr, h, ← at_tr] at h1
      rcases Nat.lt_or_ge ((tr xs).length - 1) (tr ys).length with h2 | h2
      · have := List.length_pos_iff.2 h0; omega
      · exact absurd (at_far h2) h1
  have e := Nat.le_antisymm (hl h) (hl fun j => (h j).symm)
  apply List.ext_getElem e
  intro i h1 h2
  rw [← at_get h1, ← at_get h2, at_tr, at_tr, h]
theorem tr_tr (xs : List Nat) : tr (tr xs) = tr xs := tr_ext fun j => by rw [at_tr]; omega
theorem tr_of {xs : List Nat} (h : ∀ x ∈ xs, x < 1024) (hl : xs ≠ [] → at_ xs (xs.length - 1) ≠ 0) : tr xs = xs := by
  by_cases h0 : xs = []
  · subst h0; rfl
  · obtain ⟨l, x, rfl⟩ : ∃ l x, xs = l ++ [x] := ⟨xs.dropLast, xs.getLast h0, (List.dropLast_concat_getLast h0).symm⟩
    have h2 := hl h0
    rw [at_get (by simp)] at h2
    simp at h2
    have hx := h x (by simp)
    rw [tr_snoc, if_neg (by omega)]
    have : ∀ y ∈ l ++ [x], y % 1024 = y := fun y hy => Nat.mod_eq_of_lt (h y hy)
    exact (List.map_congr_left this).trans (List.map_id _)

/-! sums and slopes -/
theorem xor_mod (a b : Nat) : (a ^^^ b) % 1024 = (a % 1024) ^^^ (b % 1024) := Nat.xor_mod_two_pow (n := 10)
theorem at_padd (xs ys : List Nat) (j : Nat) : at_ (padd xs ys) j = (at_ xs j % 1024) ^^^ (at_ ys j % 1024) := by
  unfold padd
  rw [at_tr, at_rm]
  by_cases h : j < max xs.length ys.length
  · rw [if_pos h, xor_mod]
  · rw [if_neg h, at_far (xs := xs) (by omega), at_far (xs := ys) (by omega)]; rfl
theorem at_slope (xs : List Nat) (j : Nat) : at_ (slope xs) j = if j % 2 = 0 then at_ xs (j + 1) % 1024 else 0 := by
  unfold slope
  rw [at_tr, at_rm]
  by_cases h : j < xs.length
  · rw [if_pos h]; split <;> rfl
  · rw [if_neg h]
    split
    · rw [at_far (xs := xs) (by omega)]
    · rfl
/-! products -/
theorem mrow_at {f : Nat → Nat} {x : Nat} {ys : List Nat} {i : Nat} (k j : Nat) : mrow f x ys i k j = f j ^^^ (if i ≤ j ∧ j < i + k then gm x (at_ ys (j - i)) else 0) := by
  induction k with
  | zero => rw [if_neg (by omega), Nat.xor_zero]; rfl
  | succ k ih =>
    unfold mrow
    by_cases h : j = i + k
    · subst h
      rw [if_pos rfl, ih, if_neg (by omega), Nat.xor_zero, if_pos (by omega), show i + k - i = k by omega]
    · rw [if_neg h, ih]
      by_cases h2 : i ≤ j ∧ j < i + k
      · rw [if_pos h2, if_pos (by omega)]
      · rw [if_neg h2, if_neg (by omega)]
/-- a whole row of the product: noughts behind the second polynomial change nothing -/
theorem mrow_full {f : Nat → Nat} {x : Nat} {ys : List Nat} {i : Nat} (j : Nat) : mrow f x ys i ys.length j = f j ^^^ (if i ≤ j then gm x (at_ ys (j - i)) else 0) := by
  rw [mrow_at]
  congr 1
  by_cases h : i ≤ j
  · by_cases h2 : j < i + ys.length
    · rw [if_pos ⟨h, h2⟩, if_pos h]
    · rw [if_neg (by omega), if_pos h, at_far (by omega), gm_zero_right]
  · rw [if_neg (by omega), if_neg h]
theorem mall_at (xs ys : List Nat) (i j : Nat) : mall xs ys i j = X i fun k => if k ≤ j then gm (at_ xs k) (at_ ys (j - k)) else 0 := by
  induction i with
  | zero => rfl
  | succ i ih =>
    rw [X_succ, ← ih]
    exact mrow_full j
/-- all rows: the factors of the product -/
theorem mall_full (xs ys : List Nat) (j : Nat) : mall xs ys xs.length j = cv (at_ xs) (at_ ys) j := by
  rw [mall_at]
  unfold cv
  rcases Nat.lt_or_ge xs.length (j + 1) with h | h
  · rw [X_more (n := xs.length) (m := j + 1) (by omega) (fun i h1 _ => by rw [at_far h1, gm_zero_left])]
    exact X_congr fun i hi => by rw [if_pos (by omega)]
  · rw [X_more (n := j + 1) (m := xs.length) (by omega) (fun i h1 _ => by rw [if_neg (by omega)])]
    exact X_congr fun i hi => by rw [if_pos (by omega)]
theorem at_lt' {xs : List Nat} (h : ∀ x ∈ xs, x < 1024) (j : Nat) : at_ xs j < 1024 := at_lt h (by decide)
/-- beyond its degree a product has noughts -/
theorem cv_far {xs ys : List Nat} {j : Nat} (h : xs.length + ys.length ≤ j + 1) : cv (at_ xs) (at_ ys) j = 0 := by
  refine X_zero fun i hi => ?_
  rcases Nat.lt_or_ge i xs.length with h1 | h1
  · rw [at_far (xs := ys) (by omega), gm_zero_right]
  · rw [at_far (xs := xs) h1, gm_zero_left]
theorem pmul_eq {xs ys : List Nat} (h : (tr xs).length + (tr ys).length - 1 ≤ 4096) : pmul xs ys = tr (rm ((tr xs).length + (tr ys).length) (cv (at_ (tr xs)) (at_ (tr ys)))) := by
  unfold pmul
  by_cases hc : (tr xs).length = 0 ∨ (tr ys).length = 0
  · rw [if_pos (by omega)]
    have z : ∀ j, cv (at_ (tr xs)) (at_ (tr ys)) j = 0 := by
      intro j
      refine X_zero fun i _ => ?_
      rcases hc with hc | hc
      · rw [at_far (xs := tr xs) (by omega), gm_zero_left]
      · rw [at_far (xs := tr ys) (by omega), gm_zero_right]
    have : tr [] = tr (rm ((tr xs).length + (tr ys).length) (cv (at_ (tr xs)) (at_ (tr ys)))) := tr_ext fun j => by
      rw [at_rm, z, ite_self]; rfl
    rw [← this]; rfl
  · rw [if_neg (by omega)]
    refine tr_ext fun j => ?_
    rw [at_rm, at_rm]
    by_cases h1 : j < (tr xs).length + (tr ys).length - 1
    · rw [if_pos h1, if_pos (by omega), mall_full]
    · rw [if_neg h1]
      split
      · rw [cv_far (by omega)]
      · rfl
theorem at_pmul {xs ys : List Nat} (h : (tr xs).length + (tr ys).length - 1 ≤ 4096) (j : Nat) : at_ (pmul xs ys) j = cv (at_ (tr xs)) (at_ (tr ys)) j := by
  rw [pmul_eq h, at_tr, at_rm]
  split
  · exact Nat.mod_eq_of_lt (cv_lt _ (at_lt' (tr_bd xs)) j)
  · rw [cv_far (by omega)]
theorem tr_pmul (xs ys : List Nat) : tr (pmul xs ys) = pmul xs ys := by
  unfold pmul; split
  · rfl
  · exact tr_tr _
theorem tr_padd (xs ys : List Nat) : tr (padd xs ys) = padd xs ys := tr_tr _
theorem tr_slope (xs : List Nat) : tr (slope xs) = slope xs := tr_tr _
/-- two rows of factors, each without noughts at its end -/
theorem row_ext {xs ys : List Nat} (hx : tr xs = xs) (hy : tr ys = ys) (h : ∀ j, at_ xs j = at_ ys j) : xs = ys := by
  rw [← hx, ← hy]; exact tr_ext fun j => by rw [h]

/-! values -/
theorem ev_X (x : Nat) (hx : x < 1024) (p : List Nat) : ev x p = X p.length fun i => gm (at_ p i % 1024) (gpow x i) := by
  induction p with
  | nil => rfl
  | cons c p ih =>
    show gm (ev x p) x ^^^ (c % 1024) = _
    rw [List.length_cons, X_shift, ih, X_mul_right _ (fun i _ => gm_lt _ (Nat.mod_lt _ (by decide))), Nat.xor_comm]
    have e0 : gm (at_ (c :: p) 0 % 1024) (gpow x 0) = c % 1024 := gm_one_right (c % 1024)
    have e1 : (X p.length fun i => gm (gm (at_ p i % 1024) (gpow x i)) x) = X p.length fun i => gm (at_ (c :: p) (i + 1) % 1024) (gpow x (i + 1)) := X_congr fun i _ => gm_assoc (Nat.mod_lt _ (by decide)) (gpow_lt i) hx
    rw [e0, e1]
theorem ev_more (x : Nat) (hx : x < 1024) (p : List Nat) {n : Nat} (h : p.length ≤ n) : ev x p = X n fun i => gm (at_ p i % 1024) (gpow x i) := by
  rw [ev_X x hx]
  exact (X_more h fun i h1 _ => by rw [at_far h1]; exact gm_zero_left _).symm
theorem ev_ext (x : Nat) (hx : x < 1024) {p q : List Nat} (h : ∀ j, at_ p j % 1024 = at_ q j % 1024) : ev x p = ev x q := by
  rw [ev_more x hx p (Nat.le_max_left p.length q.length), ev_more x hx q (Nat.le_max_right p.length q.length)]
  exact X_congr fun i _ => by rw [h]
theorem ev_tr (x : Nat) (hx : x < 1024) (p : List Nat) : ev x (tr p) = ev x p := ev_ext x hx fun j => by rw [at_tr]; omega
theorem ev_padd (x : Nat) (hx : x < 1024) (p q : List Nat) : ev x (padd p q) = ev x p ^^^ ev x q := by
  have hl : (padd p q).length ≤ max p.length q.length := by
    refine Nat.le_trans (tr_len _) ?_
    rw [rm_len]; exact Nat.le_refl _
  rw [ev_more x hx _ hl, ev_more x hx p (Nat.le_max_left p.length q.length), ev_more x hx q (Nat.le_max_right p.length q.length), ← X_xor]
  refine X_congr fun i _ => ?_
  have h1 : at_ p i % 1024 < 1024 := Nat.mod_lt _ (by decide)
  have h2 : at_ q i % 1024 < 1024 := Nat.mod_lt _ (by decide)
  rw [at_padd, Nat.mod_eq_of_lt (xor_lt h1 h2), gm_xor_left _ h1 h2]
theorem gpow_add (x m n : Nat) (hx : x < 1024) : gm (gpow x m) (gpow x n) = gpow x (m + n) := by
  rcases cases_E hx with rfl | ⟨i, _, rfl⟩
  · rcases Nat.eq_zero_or_pos m with rfl | hm
    · rw [show gpow 0 0 = 1 from rfl, gm_one_left (gpow_lt n), Nat.zero_add]
    · rw [gpow_zero (by omega), gm_zero_left, gpow_zero (by omega)]
  · rw [gpow_E, gpow_E, gpow_E, gm_E, Nat.mul_add]
/-- the value of the factors of a product is the product of the values -/
theorem cv_ev {f g : Nat → Nat} (x m n : Nat) (hx : x < 1024) (hf : ∀ i, f i < 1024) (hg : ∀ i, g i < 1024) (fz : ∀ i, m ≤ i → f i = 0) (gz : ∀ i, n ≤ i → g i = 0) :
    (X (m + n) fun j => gm (cv f g j) (gpow x j)) = gm (X m fun i => gm (f i) (gpow x i)) (X n fun i => gm (g i) (gpow x i)) := by
  have hR : gm (X m fun i => gm (f i) (gpow x i)) (X n fun i => gm (g i) (gpow x i)) = X m fun i => X n fun k => gm (gm (f i) (g k)) (gpow x (i + k)) := by
    rw [X_mul_right _ (fun i _ => gm_lt _ (hf i))]
    refine X_congr fun i _ => ?_
    rw [X_mul_left]
    refine X_congr fun k _ => ?_
    rw [← gpow_add x i k hx, gm_assoc (hf i) (gpow_lt i) (gm_lt _ (hg k)), gm_assoc (hf i) (hg k) (gm_lt _ (gpow_lt i))]
    refine congrArg (gm (f i)) ?_
    rw [← gm_assoc (gpow_lt i) (hg k) (gpow_lt k), gm_comm (gpow_lt i) (hg k), gm_assoc (hg k) (gpow_lt i) (gpow_lt k)]
  rw [hR]
  -- each factor, over all places
  have hL : (X (m + n) fun j => gm (cv f g j) (gpow x j)) = X (m + n) fun j => X m fun i => if i ≤ j then gm (gm (f i) (g (j - i))) (gpow x j) else 0 := by
    refine X_congr fun j _ => ?_
    unfold cv
    rw [X_mul_right _ (fun i _ => gm_lt _ (hf i))]
    rcases Nat.lt_or_ge m (j + 1) with h | h
    · rw [X_more (n := m) (m := j + 1) (by omega) (fun i h1 _ => by rw [fz i h1, gm_zero_left, gm_zero_left])]
      exact X_congr fun i hi => by rw [if_pos (by omega)]
    · rw [X_more (n := j + 1) (m := m) (by omega) (fun i h1 _ => by rw [if_neg (by omega)])]
      exact X_congr fun i hi => by rw [if_pos (by omega)]
  rw [hL, X_swap]
  refine X_congr fun i hi => ?_
  -- shift by i
  have sh : ∀ k, (X (i + k) fun j => if i ≤ j then gm (gm (f i) (g (j - i))) (gpow x j) else 0) = X k fun k => gm (gm (f i) (g k)) (gpow x (i + k)) := by
    intro k
    induction k with
    | zero => exact X_zero fun j hj => by rw [if_neg (by omega)]
    | succ k ih =>
      rw [← Nat.add_assoc, X_succ, ih, X_succ, if_pos (by omega), show i + k - i = k by omega]
  have : m + n = i + (m + n - i) := by omega
  rw [this, sh]
  exact X_more (by omega) fun k h1 _ => by rw [gz k h1, gm_zero_right, gm_zero_left]
theorem ev_pmul (x : Nat) (hx : x < 1024) {p q : List Nat} (h : (tr p).length + (tr q).length - 1 ≤ 4096) : ev x (pmul p q) = gm (ev x p) (ev x q) := by
  have hl : (pmul p q).length ≤ (tr p).length + (tr q).length := by
    rw [pmul_eq h]
    refine Nat.le_trans (tr_len _) ?_
    rw [rm_len]; exact Nat.le_refl _
  have hp := at_lt' (tr_bd p)
  have hq := at_lt' (tr_bd q)
  rw [ev_more x hx _ hl, ← ev_tr x hx p, ← ev_tr x hx q, ev_X x hx (tr p), ev_X x hx (tr q)]
  have e1 : (X (tr p).length fun i => gm (at_ (tr p) i % 1024) (gpow x i)) = X (tr p).length fun i => gm (at_ (tr p) i) (gpow x i) := X_congr fun i _ => by rw [Nat.mod_eq_of_lt (hp i)]
  have e2 : (X (tr q).length fun i => gm (at_ (tr q) i % 1024) (gpow x i)) = X (tr q).length fun i => gm (at_ (tr q) i) (gpow x i) := X_congr fun i _ => by rw [Nat.mod_eq_of_lt (hq i)]
  rw [e1, e2, ← cv_ev x _ _ hx hp hq (fun i h => at_far h) (fun i h => at_far h)]
  exact X_congr fun j _ => by rw [at_pmul h, Nat.mod_eq_of_lt (cv_lt _ hp j)]
end Go.Proofs.Ytmchelbmeajcnaa
namespace Go.Proofs.Ytmchelbmeajcnaa
open Go.Gf

/-! slopes -/
def dF (f : Nat → Nat) (i : Nat) : Nat := if i % 2 = 0 then f (i + 1) else 0
theorem cv_slope {f g : Nat → Nat} (j : Nat) : cv (dF f) g j ^^^ cv f (dF g) j = if j % 2 = 0 then cv f g (j + 1) else 0 := by
  have h1 : cv (dF f) g j = X (j + 2) fun i => if i % 2 = 1 then gm (f i) (g (j + 1 - i)) else 0 := by
    rw [X_shift, if_neg (by decide), Nat.zero_xor]
    refine X_congr fun i hi => ?_
    unfold dF
    by_cases h : i % 2 = 0
    · rw [if_pos h, if_pos (by omega), show j + 1 - (i + 1) = j - i by omega]
    · rw [if_neg h, if_neg (by omega), gm_zero_left]
  have h2 : cv f (dF g) j = X (j + 2) fun i => if (j + 1 - i) % 2 = 1 then gm (f i) (g (j + 1 - i)) else 0 := by
    rw [X_succ, if_neg (by omega), Nat.xor_zero]
    refine X_congr fun i hi => ?_
    unfold dF
    by_cases h : (j - i) % 2 = 0
    · rw [if_pos h, if_pos (by omega), show j - i + 1 = j + 1 - i by omega]
    · rw [if_neg h, if_neg (by omega), gm_zero_right]
  rw [h1, h2, ← X_xor]
  by_cases hj : j % 2 = 0
  · rw [if_pos hj]
    refine X_congr fun i hi => ?_
    by_cases h : i % 2 = 1
    · rw [if_pos h, if_neg (by omega), Nat.xor_zero]
    · rw [if_neg h, if_pos (by omega), Nat.zero_xor]
  · rw [if_neg hj]
    refine X_zero fun i hi => ?_
    by_cases h : i % 2 = 1
    · rw [if_pos h, if_pos (by omega), Nat.xor_self]
    · rw [if_neg h, if_neg (by omega), Nat.xor_self]
theorem at_slope' (xs : List Nat) (j : Nat) : at_ (slope xs) j = dF (at_ (tr xs)) j := by
  rw [at_slope]; unfold dF; rw [at_tr]
theorem slope_len (xs : List Nat) : (tr (slope xs)).length ≤ (tr xs).length := by
  rw [tr_slope]
  by_cases h0 : slope xs = []
  · rw [h0]; exact Nat.zero_le _
  · have h1 := tr_last xs
    have h2 : at_ (slope xs) ((slope xs).length - 1) ≠ 0 := by
      have := tr_last (slope xs) (by rw [tr_slope]; exact h0)
      rw [tr_slope] at this; exact this
    rw [at_slope'] at h2
    unfold dF at h2
    rcases Nat.lt_or_ge (tr xs).length ((slope xs).length) with h3 | h3
    · exfalso
      apply h2
      rw [at_far (by omega), ite_self]
    · exact h3
/-- THE SLOPE OF A PRODUCT -/
theorem slope_pmul {p q : List Nat} (h : (tr p).length + (tr q).length - 1 ≤ 4096) : slope (pmul p q) = padd (pmul (slope p) q) (pmul p (slope q)) := by
  have l1 := slope_len p
  have l2 := slope_len q
  refine row_ext (tr_slope _) (tr_padd _ _) fun j => ?_
  rw [at_slope', tr_pmul, at_padd, at_pmul (by omega), at_pmul (by omega)]
  have hp := at_lt' (tr_bd p)
  have hq := at_lt' (tr_bd q)
  have e1 : cv (at_ (tr (slope p))) (at_ (tr q)) j = cv (dF (at_ (tr p))) (at_ (tr q)) j := cv_congr (fun i => by rw [tr_slope, at_slope']) (fun _ => rfl) j
  have e2 : cv (at_ (tr p)) (at_ (tr (slope q))) j = cv (at_ (tr p)) (dF (at_ (tr q))) j := cv_congr (fun _ => rfl) (fun i => by rw [tr_slope, at_slope']) j
  have b1 : cv (dF (at_ (tr p))) (at_ (tr q)) j < 1024 := cv_lt _ (fun i => by unfold dF; split; exact hp _; decide) j
  have b2 : cv (at_ (tr p)) (dF (at_ (tr q))) j < 1024 := cv_lt _ hp j
  rw [e1, e2, Nat.mod_eq_of_lt b1, Nat.mod_eq_of_lt b2, cv_slope]
  unfold dF
  rw [at_pmul h]
theorem slope_padd (p q : List Nat) : slope (padd p q) = padd (slope p) (slope q) := by
  refine row_ext (tr_slope _) (tr_padd _ _) fun j => ?_
  rw [at_slope, at_padd, at_padd, at_slope, at_slope]
  have h1 : at_ p (j + 1) % 1024 < 1024 := Nat.mod_lt _ (by decide)
  have h2 : at_ q (j + 1) % 1024 < 1024 := Nat.mod_lt _ (by decide)
  by_cases h : j % 2 = 0
  · rw [if_pos h, if_pos h, if_pos h, Nat.mod_eq_of_lt (xor_lt h1 h2), Nat.mod_eq_of_lt h1, Nat.mod_eq_of_lt h2]
  · rw [if_neg h, if_neg h, if_neg h]; rfl

/-! sums and products: order, dealing out -/
theorem pmul_comm {p q : List Nat} (h : (tr p).length + (tr q).length - 1 ≤ 4096) : pmul p q = pmul q p := by
  refine row_ext (tr_pmul _ _) (tr_pmul _ _) fun j => ?_
  rw [at_pmul h, at_pmul (by omega)]
  exact cv_comm (at_lt' (tr_bd p)) (at_lt' (tr_bd q)) j
theorem padd_len (p q : List Nat) : (tr (padd p q)).length ≤ max (tr p).length (tr q).length := by
  rw [tr_padd]
  by_cases h0 : padd p q = []
  · rw [h0]; exact Nat.zero_le _
  · have h1 := tr_last (padd p q) (by rw [tr_padd]; exact h0)
    rw [tr_padd, at_padd, ← at_tr, ← at_tr] at h1
    rcases Nat.lt_or_ge (max (tr p).length (tr q).length) ((padd p q).length) with h2 | h2
    · exfalso
      apply h1
      rw [at_far (xs := tr p) (by omega), at_far (xs := tr q) (by omega)]; rfl
    · exact h2
theorem pmul_padd {p q r : List Nat} (h1 : (tr p).length + (tr r).length - 1 ≤ 4096) (h2 : (tr q).length + (tr r).length - 1 ≤ 4096) : pmul (padd p q) r = padd (pmul p r) (pmul q r) := by
  have hl := padd_len p q
  refine row_ext (tr_pmul _ _) (tr_padd _ _) fun j => ?_
  have hp := at_lt' (tr_bd p)
  have hq := at_lt' (tr_bd q)
  rw [at_pmul (by omega), at_padd, at_pmul h1, at_pmul h2, Nat.mod_eq_of_lt (cv_lt _ hp j), Nat.mod_eq_of_lt (cv_lt _ hq j), ← cv_xor_left hp hq]
  exact cv_congr (fun i => by rw [tr_padd, at_padd, at_tr, at_tr]) (fun _ => rfl) j
theorem padd_self (p : List Nat) : padd p p = [] := by
  refine row_ext (tr_padd _ _) rfl fun j => ?_
  rw [at_padd, Nat.xor_self]; rfl

/-! degrees -/
theorem len_of {xs : List Nat} (hx : tr xs = xs) {n : Nat} (h1 : at_ xs n ≠ 0) (h2 : ∀ j, n < j → at_ xs j = 0) : xs.length = n + 1 := by
  have a1 : n < xs.length := by
    rcases Nat.lt_or_ge n xs.length with h | h
    · exact h
    · exact absurd (at_far h) h1
  have hne : xs ≠ [] := by rintro rfl; simp at a1
  have a2 := tr_last xs (by rw [hx]; exact hne)
  rw [hx] at a2
  rcases Nat.lt_or_ge n (xs.length - 1) with h | h
  · exact absurd (h2 _ h) a2
  · omega
theorem X_one {n k : Nat} {f : Nat → Nat} (hk : k < n) (h : ∀ i, i < n → i ≠ k → f i = 0) : X n f = f k := by
  induction n with
  | zero => omega
  | succ n ih =>
    rw [X_succ]
    by_cases e : k = n
    · subst e
      rw [X_zero fun i hi => h i (by omega) (by omega), Nat.zero_xor]
    · rw [h n (by omega) (by omega), Nat.xor_zero]
      exact ih (by omega) fun i hi => h i (by omega)
theorem pmul_len {p q : List Nat} (h : (tr p).length + (tr q).length - 1 ≤ 4096) (hp : tr p ≠ []) (hq : tr q ≠ []) : (pmul p q).length = (tr p).length + (tr q).length - 1 := by
  have lp := List.length_pos_iff.2 hp
  have lq := List.length_pos_iff.2 hq
  have := len_of (tr_pmul p q) (n := (tr p).length + (tr q).length - 2) ?_ ?_
  · omega
  · rw [at_pmul h]
    unfold cv
    rw [X_one (k := (tr p).length - 1) (by omega) (fun i hi hne => ?_)]
    · rw [show (tr p).length + (tr q).length - 2 - ((tr p).length - 1) = (tr q).length - 1 by omega]
      intro hz
      rcases (gm_eq_zero (at_lt' (tr_bd p) _) (at_lt' (tr_bd q) _)).1 hz with h1 | h1
      · exact tr_last p hp h1
      · exact tr_last q hq h1
    · rcases Nat.lt_or_ge i (tr p).length with h1 | h1
      · rw [at_far (xs := tr q) (by omega), gm_zero_right]
      · rw [at_far (xs := tr p) h1, gm_zero_left]
  · intro j hj
    rw [at_pmul h, cv_far (by omega)]
theorem pmul_nil_left {p q : List Nat} (h : tr p = []) : pmul p q = [] := by
  unfold pmul; rw [h]; simp
theorem pmul_nil_right {p q : List Nat} (h : tr q = []) : pmul p q = [] := by
  unfold pmul; rw [h]; simp
theorem padd_len_ne {p q : List Nat} (h : (tr p).length ≠ (tr q).length) : (padd p q).length = max (tr p).length (tr q).length := by
  have key : ∀ {p q : List Nat}, (tr p).length < (tr q).length → (padd p q).length = (tr q).length := by
    intro p q hl
    have hq : tr q ≠ [] := by intro e; rw [e] at hl; simp at hl
    have := len_of (tr_padd p q) (n := (tr q).length - 1) ?_ ?_
    · omega
    · rw [at_padd, ← at_tr, ← at_tr, at_far (xs := tr p) (by omega), Nat.zero_xor]; exact tr_last q hq
    · intro j hj
      rw [at_padd, ← at_tr, ← at_tr, at_far (xs := tr p) (by omega), at_far (xs := tr q) (by omega)]; rfl
  rcases Nat.lt_or_ge (tr p).length (tr q).length with hl | hl
  · rw [key hl]; omega
  · have hl' : (tr q).length < (tr p).length := by omega
    have e : padd p q = padd q p := row_ext (tr_padd _ _) (tr_padd _ _) fun j => by rw [at_padd, at_padd, Nat.xor_comm]
    rw [e, key hl']; omega
end Go.Proofs.Ytmchelbmeajcnaa
namespace Go.Proofs.Ytmchelbmeajcnaa
open Go.Gf

section
variable {b : List Nat} {iv n la : Nat} {f : Nat → Nat}
/-- the quotient has nothing yet below the place that is next -/
theorem dv2_low {t j : Nat} (ht : t ≤ n) (h : j < n - t) : dv2 b iv n f t j = 0 := by
  induction t with
  | zero => rfl
  | succ t ih => unfold dv2; rw [if_neg (by omega)]; exact ih (by omega) (by omega)
theorem dv2_far {t j : Nat} (h : n ≤ j) (hn : t ≤ n) : dv2 b iv n f t j = 0 := by
  induction t with
  | zero => rfl
  | succ t ih => unfold dv2; rw [if_neg (by omega)]; exact ih (by omega)
theorem cv_delta (m x : Nat) (g : Nat → Nat) (j : Nat) : cv (fun i => if i = m then x else 0) g j = if m ≤ j then gm x (g (j - m)) else 0 := by
  unfold cv
  have e : (X (j + 1) fun i => gm (if i = m then x else 0) (g (j - i))) = if m ≤ j then gm x (g (j - m)) else 0 := by
    by_cases h : m ≤ j
    · rw [if_pos h, X_one (f := fun i => gm (if i = m then x else 0) (g (j - i))) (k := m) (by omega) (fun i _ hne => by show gm (if i = m then x else 0) (g (j - i)) = 0; rw [if_neg hne, gm_zero_left])]
      show gm (if m = m then x else 0) (g (j - m)) = _
      rw [if_pos rfl]
    · rw [if_neg h]
      exact X_zero fun i hi => by rw [if_neg (by omega), gm_zero_left]
  exact e
/-- WHAT IS LEFT, AND THE QUOTIENT TIMES THE DIVISOR, ARE WHAT WAS DIVIDED -/
theorem dv_inv (hf : ∀ j, f j < 1024) {t : Nat} (ht : t ≤ n) (j : Nat) : f j = dv1 b iv n f t j ^^^ cv (dv2 b iv n f t) (at_ b) j := by
  induction t with
  | zero =>
    have : cv (dv2 b iv n f 0) (at_ b) j = 0 := X_zero fun i _ => gm_zero_left _
    rw [this, Nat.xor_zero]; rfl
  | succ t ih =>
    have ih := ih (by omega)
    have e1 : dv1 b iv n f (t + 1) j = dv1 b iv n f t j ^^^ (if n - 1 - t ≤ j then gm (gm (dv1 b iv n f t (n - 1 - t + b.length - 1)) iv) (at_ b (j - (n - 1 - t))) else 0) := mrow_full j
    have e2 : cv (dv2 b iv n f (t + 1)) (at_ b) j = cv (dv2 b iv n f t) (at_ b) j ^^^ (if n - 1 - t ≤ j then gm (gm (dv1 b iv n f t (n - 1 - t + b.length - 1)) iv) (at_ b (j - (n - 1 - t))) else 0) := by
      rw [← cv_delta, ← cv_xor_left (fun i => dv2_lt hf t i) (fun i => by
        show (if i = n - 1 - t then _ else 0) < 1024
        split
        · exact gm_lt _ (dv1_lt hf _ _)
        · decide)]
      refine cv_congr (fun i => ?_) (fun _ => rfl) j
      show dv2 b iv n f (t + 1) i = dv2 b iv n f t i ^^^ (if i = n - 1 - t then _ else 0)
      conv => lhs; unfold dv2
      by_cases h : i = n - 1 - t
      · rw [if_pos h, if_pos h, dv2_low (by omega) (by omega), Nat.zero_xor]
      · rw [if_neg h, if_neg h, Nat.xor_zero]
    rw [e1, e2, xor4, Nat.xor_self, Nat.xor_zero]
    exact ih
/-- place by place the greatest factor goes -/
theorem dv1_gone (hf : ∀ j, f j < 1024) (hfar : ∀ j, la ≤ j → f j = 0) (hb : ∀ x ∈ b, x < 1024) (bp : 0 < b.length) (hn : n + b.length = la + 1) (hiv : gm iv (at_ b (b.length - 1)) = 1) (hivl : iv < 1024) {t : Nat} (ht : t ≤ n) (j : Nat) (hj : la - t ≤ j) : dv1 b iv n f t j = 0 := by
  induction t generalizing j with
  | zero => exact hfar j (by omega)
  | succ t ih =>
    have ih := fun j hj => ih (by omega) j hj
    have e1 : dv1 b iv n f (t + 1) j = dv1 b iv n f t j ^^^ (if n - 1 - t ≤ j then gm (gm (dv1 b iv n f t (n - 1 - t + b.length - 1)) iv) (at_ b (j - (n - 1 - t))) else 0) := mrow_full j
    rw [e1]
    rcases Nat.lt_or_ge j (la - t) with h | h
    · have hjj : n - 1 - t + b.length - 1 = j := by omega
      rw [hjj, if_pos (by omega), show j - (n - 1 - t) = b.length - 1 by omega, gm_assoc (dv1_lt hf t j) hivl (at_lt' hb _), hiv, gm_one_right, Nat.xor_self]
    · rw [ih j h, Nat.zero_xor]
      split
      · rw [at_far (by omega), gm_zero_right]
      · rfl
end

section
variable {xs ys : List Nat}
theorem divI_one (h : tr ys ≠ []) : gm (divI ys) (at_ (tr ys) ((tr ys).length - 1)) = 1 := by
  have h1 := tr_last ys h
  have h2 := at_lt' (tr_bd ys) ((tr ys).length - 1)
  unfold divI
  rw [gm_comm (ginv_lt _) h2]
  exact gm_ginv h2 h1
theorem at_pquo (_h : tr ys ≠ []) (j : Nat) : at_ (pquo xs ys) j = dv2 (tr ys) (divI ys) (divN xs ys) (at_ (tr xs)) (divN xs ys) j := by
  unfold pquo
  rw [at_tr, at_rm]
  by_cases hj : j < divN xs ys
  · rw [if_pos hj, Nat.mod_eq_of_lt (dv2_lt (at_lt' (tr_bd xs)) _ _)]
  · rw [if_neg hj, dv2_far (by omega) (Nat.le_refl _)]
theorem at_prem (h : tr ys ≠ []) (j : Nat) : at_ (prem xs ys) j = dv1 (tr ys) (divI ys) (divN xs ys) (at_ (tr xs)) (divN xs ys) j := by
  unfold prem
  rw [at_tr, at_rm]
  by_cases hj : j < (tr xs).length
  · rw [if_pos hj, Nat.mod_eq_of_lt (dv1_lt (at_lt' (tr_bd xs)) _ _)]
  · rw [if_neg hj]
    have lp := List.length_pos_iff.2 h
    rcases Nat.lt_or_ge (tr xs).length (tr ys).length with hl | hl
    · have e : divN xs ys = 0 := by unfold divN; omega
      rw [e]
      show 0 = at_ (tr xs) j
      rw [at_far (by omega)]
    · have hn : divN xs ys + (tr ys).length = (tr xs).length + 1 := by unfold divN; omega
      exact (dv1_gone (at_lt' (tr_bd xs)) (fun j => at_far) (tr_bd ys) lp hn (divI_one h) (ginv_lt _) (Nat.le_refl _) j (by omega)).symm
theorem tr_pquo : tr (pquo xs ys) = pquo xs ys := tr_tr _
theorem tr_prem : tr (prem xs ys) = prem xs ys := tr_tr _
theorem pquo_len_le : (pquo xs ys).length ≤ divN xs ys := by
  refine Nat.le_trans (tr_len _) ?_
  rw [rm_len]; exact Nat.le_refl _
/-- THE REST IS SHORTER THAN THE DIVISOR -/
theorem prem_len (h : tr ys ≠ []) : (prem xs ys).length < (tr ys).length := by
  have lp := List.length_pos_iff.2 h
  by_cases h0 : prem xs ys = []
  · rw [h0]; exact lp
  · have h1 := tr_last (prem xs ys) (by rw [tr_prem]; exact h0)
    rw [tr_prem, at_prem h] at h1
    rcases Nat.lt_or_ge ((prem xs ys).length) (tr ys).length with h2 | h2
    · exact h2
    · exfalso
      apply h1
      rcases Nat.lt_or_ge (tr xs).length (tr ys).length with hl | hl
      · have e : divN xs ys = 0 := by unfold divN; omega
        rw [e]
        exact at_far (xs := tr xs) (by omega)
      · have hn : divN xs ys + (tr ys).length = (tr xs).length + 1 := by unfold divN; omega
        exact dv1_gone (at_lt' (tr_bd xs)) (fun j => at_far) (tr_bd ys) lp hn (divI_one h) (ginv_lt _) (Nat.le_refl _) _ (by omega)
/-- QUOTIENT TIMES DIVISOR AND THE REST ARE WHAT WAS DIVIDED -/
theorem quo_rem (h : tr ys ≠ []) (hl : (tr xs).length + (tr ys).length ≤ 2000) : padd (pmul (pquo xs ys) ys) (prem xs ys) = tr xs := by
  have ql : (tr (pquo xs ys)).length ≤ divN xs ys := by rw [tr_pquo]; exact pquo_len_le
  have hq : divN xs ys ≤ (tr xs).length + 1 := by unfold divN; omega
  refine row_ext (tr_padd _ _) (tr_tr _) fun j => ?_
  have hx := at_lt' (tr_bd xs)
  have hdiv := dv_inv (b := tr ys) (iv := divI ys) (n := divN xs ys) hx (Nat.le_refl _) j
  rw [at_padd, at_pmul (by omega), at_prem h]
  have e : cv (at_ (tr (pquo xs ys))) (at_ (tr ys)) j = cv (dv2 (tr ys) (divI ys) (divN xs ys) (at_ (tr xs)) (divN xs ys)) (at_ (tr ys)) j := cv_congr (fun i => by rw [tr_pquo, at_pquo h]) (fun _ => rfl) j
  rw [e, Nat.mod_eq_of_lt (cv_lt _ (fun i => dv2_lt hx _ i) j), Nat.mod_eq_of_lt (dv1_lt hx _ _), Nat.xor_comm]
  exact hdiv.symm
/-- the quotient's length -/
theorem pquo_len (h : tr ys ≠ []) : (pquo xs ys).length = divN xs ys := by
  have lp := List.length_pos_iff.2 h
  rcases Nat.eq_zero_or_pos (divN xs ys) with h0 | h0
  · have := pquo_len_le (xs := xs) (ys := ys); omega
  · have hx := at_lt' (tr_bd xs)
    have hge : (tr ys).length ≤ (tr xs).length := by unfold divN at h0; omega
    have hxn : tr xs ≠ [] := by intro e; rw [e] at hge; exact absurd (Nat.lt_of_lt_of_le lp hge) (by decide)
    have key : ∀ t, 0 < t → t ≤ divN xs ys → dv2 (tr ys) (divI ys) (divN xs ys) (at_ (tr xs)) t (divN xs ys - 1) ≠ 0 := by
      intro t ht htn
      induction t with
      | zero => omega
      | succ t ih =>
        unfold dv2
        rcases Nat.eq_zero_or_pos t with h1 | h1
        · subst h1
          rw [if_pos (by omega)]
          have : divN xs ys - 1 - 0 + (tr ys).length - 1 = (tr xs).length - 1 := by
            have hd : divN xs ys = (tr xs).length + 1 - (tr ys).length := rfl
            omega
          rw [this]
          show gm (at_ (tr xs) ((tr xs).length - 1)) (divI ys) ≠ 0
          intro hz
          rcases (gm_eq_zero (hx _) (ginv_lt _)).1 hz with h2 | h2
          · exact tr_last xs hxn h2
          · have h3 := divI_one h
            have h4 : gm (divI ys) (at_ (tr ys) ((tr ys).length - 1)) = 0 := by
              have : divI ys = 0 := h2
              rw [this, gm_zero_left]
            rw [h4] at h3; cases h3
        · rw [if_neg (by omega)]; exact ih h1 (by omega)
    have := len_of (xs := pquo xs ys) tr_pquo (n := divN xs ys - 1) (by rw [at_pquo h]; exact key _ h0 (Nat.le_refl _)) (fun j hj => by rw [at_pquo h]; exact dv2_far (by omega) (Nat.le_refl _))
    omega
end
end Go.Proofs.Ytmchelbmeajcnaa
namespace Go.Proofs.Ytmchelbmeajcnaa
open Go.RowKit Go.Gf

theorem tr_take_self (xs : List Nat) : ∀ k, k ≤ xs.length → tr (xs.take k) = (xs.take (tr (xs.take k)).length).map (· % 1024) ∧ (tr (xs.take k)).length ≤ k := by
  intro k
  induction k with
  | zero => intro _; exact ⟨rfl, Nat.le_refl _⟩
  | succ k ih =>
    intro hk
    have hlt : k < xs.length := by omega
    obtain ⟨h1, h2⟩ := ih (by omega)
    rw [tr_take hlt]
    by_cases h0 : xs[k] % 1024 = 0
    · rw [if_pos h0]; exact ⟨h1, by omega⟩
    · rw [if_neg h0]
      have e : ((xs.take (k + 1)).map (· % 1024)).length = k + 1 := by simp; omega
      rw [e]; exact ⟨rfl, Nat.le_refl _⟩
theorem tr_self (xs : List Nat) : (xs.take (tr xs).length).map (· % 1024) = tr xs ∧ (tr xs).length ≤ xs.length := by
  have := tr_take_self xs xs.length (Nat.le_refl _)
  rw [List.take_length] at this
  exact ⟨this.1.symm, this.2⟩

theorem xor_cancel {a b c : Nat} (h : a ^^^ b = c) : a = b ^^^ c := by
  rw [← h, Nat.xor_comm a b, ← Nat.xor_assoc, Nat.xor_self, Nat.zero_xor]
theorem xor_zero_eq {a b : Nat} (h : a ^^^ b = 0) : a = b := by
  have := xor_cancel h; rw [this, Nat.xor_zero]
/-- quotient and rest are just one -/
theorem div_uniq {b : List Nat} (hb : ∀ x ∈ b, x < 1024) (bp : 0 < b.length) (hl : at_ b (b.length - 1) ≠ 0) {q q' r r' : Nat → Nat} (hq1 : ∀ j, q j < 1024) (hq1' : ∀ j, q' j < 1024)
    {n : Nat} (hq : ∀ j, n ≤ j → q j = 0) (hq' : ∀ j, n ≤ j → q' j = 0) (hr : ∀ j, b.length ≤ j + 1 → r j = 0) (hr' : ∀ j, b.length ≤ j + 1 → r' j = 0)
    (h : ∀ j, r j ^^^ cv q (at_ b) j = r' j ^^^ cv q' (at_ b) j) : (∀ j, q j = q' j) ∧ ∀ j, r j = r' j := by
  have hbl := at_lt' hb
  have key : ∀ d k, n - k = d → k < n → (∀ j, k < j → q j = q' j) → q k = q' k := by
    intro d k _ hk hj
    have hs : cv (fun i => q i ^^^ q' i) (at_ b) (k + b.length - 1) = 0 := by
      rw [cv_xor_left hq1 hq1']
      have e := h (k + b.length - 1)
      rw [hr _ (by omega), hr' _ (by omega), Nat.zero_xor, Nat.zero_xor] at e
      rw [e, Nat.xor_self]
    unfold cv at hs
    rw [X_one (k := k) (by omega) (fun i hi hne => by
      rcases Nat.lt_or_gt_of_ne hne with h1 | h1
      · rw [at_far (xs := b) (by omega), gm_zero_right]
      · have e : gm (q i ^^^ q' i) (at_ b (k + b.length - 1 - i)) = 0 := by rw [hj i h1, Nat.xor_self, gm_zero_left]
        exact e)] at hs
    replace hs : gm (q k ^^^ q' k) (at_ b (k + b.length - 1 - k)) = 0 := hs
    rw [show k + b.length - 1 - k = b.length - 1 by omega] at hs
    rcases (gm_eq_zero (xor_lt (hq1 k) (hq1' k)) (hbl _)).1 hs with h1 | h1
    · exact xor_zero_eq h1
    · exact absurd h1 hl
  have all : ∀ d k, n - k = d → q k = q' k := by
    intro d
    induction d using Nat.strongRecOn with
    | _ d ih =>
      intro k hd
      rcases Nat.lt_or_ge k n with hk | hk
      · exact key d k hd hk fun j hj => by
          rcases Nat.lt_or_ge j n with h1 | h1
          · exact ih (n - j) (by omega) j rfl
          · rw [hq j h1, hq' j h1]
      · rw [hq k hk, hq' k hk]
  have hqq : ∀ j, q j = q' j := fun j => all _ j rfl
  refine ⟨hqq, fun j => ?_⟩
  have e := h j
  rw [cv_congr hqq (fun _ => rfl)] at e
  have := xor_cancel e
  rw [this, Nat.xor_comm (r' j), ← Nat.xor_assoc, Nat.xor_self, Nat.zero_xor]

/-- so far: a is fr and fq times b; fr is nought from M on; fq's places are laid from the top -/
structure DivI (a b : List Nat) (nq L M : Nat) (fr fq : Nat → Nat) : Prop where
  ml : M ≤ L
  la : L ≤ a.length
  rl : ∀ j, fr j < 1024
  ql : ∀ j, fq j < 1024
  eq : ∀ j, at_ a j = fr j ^^^ cv fq (at_ b) j
  rz : ∀ j, M ≤ j → fr j = 0
  qz : ∀ j, j + b.length ≤ M → fq j = 0
  qn : ∀ j, nq ≤ j → fq j = 0
theorem divI_start {a b : List Nat} (ha : ∀ x ∈ a, x < 1024) (nq : Nat) : DivI a b nq a.length a.length (at_ a) (fun _ => 0) :=
  ⟨Nat.le_refl _, Nat.le_refl _, at_lt' ha, fun _ => by decide, fun j => by
    have : cv (fun _ => 0) (at_ b) j = 0 := X_zero fun i _ => gm_zero_left _
    rw [this, Nat.xor_zero], fun j hj => at_far hj, fun _ _ => rfl, fun _ _ => rfl⟩
section
variable {a b : List Nat} {nq L M T : Nat} {fr fq : Nat → Nat}
/-- what the trimmed length says of the row -/
theorem DivI.trimmed (h : DivI a b nq L M fr fq) (hT : (tr (rm L fr)).length = T) : T ≤ M ∧ (∀ j, T ≤ j → fr j = 0) ∧ (0 < T → fr (T - 1) ≠ 0) := by
  have hat : ∀ j, at_ (tr (rm L fr)) j = if j < L then fr j else 0 := fun j => by
    rw [at_tr, at_rm]
    split
    · exact Nat.mod_eq_of_lt (h.rl j)
    · rfl
  have h2 : ∀ j, T ≤ j → fr j = 0 := by
    intro j hj
    have e := hat j
    rw [at_far (by omega)] at e
    rcases Nat.lt_or_ge j L with h1 | h1
    · rw [if_pos h1] at e; exact e.symm
    · exact h.rz j (Nat.le_trans h.ml h1)
  have h3 : 0 < T → fr (T - 1) ≠ 0 := by
    intro hp
    have e := tr_last (rm L fr) (by intro e; rw [e] at hT; simp at hT; omega)
    rw [hT, hat] at e
    split at e
    · exact e
    · exact absurd rfl e
  refine ⟨?_, h2, h3⟩
  rcases Nat.lt_or_ge M T with h1 | h1
  · exact absurd (h.rz (T - 1) (by omega)) (h3 (by omega))
  · exact h1
theorem DivI.step (h : DivI a b nq L M fr fq) (hT : (tr (rm L fr)).length = T) (hb : ∀ x ∈ b, x < 1024) (bp : 0 < b.length) {iv f : Nat} (hivl : iv < 1024) (hiv : gm iv (at_ b (b.length - 1)) = 1)
    (hle : b.length ≤ T) (hf : f = gm (fr (T - 1)) iv) (hnq : nq = a.length + 1 - b.length) :
    DivI a b nq T (T - 1) (mrow fr f b (T - b.length) b.length) (fun j => if j = T - b.length then f else fq j) := by
  obtain ⟨h1, h2, h3⟩ := h.trimmed hT
  have fl : f < 1024 := by rw [hf]; exact gm_lt _ (h.rl _)
  have hz0 : fq (T - b.length) = 0 := h.qz _ (by omega)
  have hml := h.ml
  have hla := h.la
  have hbl := at_lt' hb
  refine ⟨by omega, by omega, fun j => mrow_lt h.rl fl _ _, fun j => by (try dsimp only); split; exact fl; exact h.ql j, fun j => ?_, fun j hj => ?_, fun j hj => ?_, fun j hj => ?_⟩
  · have hsum : ∀ i, (if i = T - b.length then f else fq i) = fq i ^^^ (if i = T - b.length then f else 0) := fun i => by
      by_cases e : i = T - b.length
      · rw [if_pos e, if_pos e, e, hz0, Nat.zero_xor]
      · rw [if_neg e, if_neg e, Nat.xor_zero]
    rw [cv_congr hsum (fun _ => rfl), cv_xor_left h.ql (fun i => by split; exact fl; decide), cv_delta, mrow_full, h.eq j]
    rw [xor4, Nat.xor_comm (fr j ^^^ cv fq (at_ b) j), Nat.xor_self, Nat.zero_xor]
  · rw [mrow_full]
    rcases Nat.lt_or_ge j T with h4 | h4
    · obtain rfl : j = T - 1 := by omega
      rw [if_pos (by omega), show T - 1 - (T - b.length) = b.length - 1 by omega, hf, gm_assoc (h.rl _) hivl (hbl _), hiv, gm_one_right, Nat.xor_self]
    · rw [h2 j h4, at_far (xs := b) (by omega), gm_zero_right, ite_self, Nat.xor_zero]
  · rw [if_neg (by omega)]
    exact h.qz j (by omega)
  · try dsimp only
    rw [if_neg (by omega)]
    exact h.qn j hj
end
theorem tr_row {n : Nat} {f : Nat → Nat} (hf : ∀ j, f j < 1024) (h : (tr (rm n f)).length = n) : tr (rm n f) = rm n f := by
  have e := (tr_self (rm n f)).1
  rw [h, List.take_of_length_le (by rw [rm_len]; exact Nat.le_refl _)] at e
  rw [← e]
  apply List.ext_getElem
  · simp
  · intro j h1 h2
    rw [List.getElem_map, rm_get]
    exact Nat.mod_eq_of_lt (hf j)
theorem divI_end {xs ys : List Nat} {L M T : Nat} {fr fq : Nat → Nat} (h : DivI (tr xs) (tr ys) (divN xs ys) L M fr fq) (hne : tr ys ≠ []) (hT : (tr (rm L fr)).length = T) (hlt : T < (tr ys).length) :
    rm (divN xs ys) fq = pquo xs ys ∧ rm T fr = prem xs ys := by
  obtain ⟨h1, h2, h3⟩ := h.trimmed hT
  have bp : 0 < (tr ys).length := by omega
  have hfl : ∀ j, at_ (tr xs) j < 1024 := at_lt' (tr_bd xs)
  have hn : divN xs ys = (tr xs).length + 1 - (tr ys).length := rfl
  have hd := div_uniq (tr_bd ys) bp (tr_last ys hne) h.ql (fun j => dv2_lt (b := tr ys) (iv := divI ys) (n := divN xs ys) hfl (divN xs ys) j) h.qn (fun j hj => dv2_far hj (Nat.le_refl _))
    (fun j hj => h2 j (by omega)) (r' := dv1 (tr ys) (divI ys) (divN xs ys) (at_ (tr xs)) (divN xs ys)) (fun j hj => by
      rcases Nat.lt_or_ge (tr xs).length (tr ys).length with hc | hc
      · rw [show divN xs ys = 0 by omega]
        exact at_far (by omega)
      · exact dv1_gone (la := (tr xs).length) hfl (fun j hj => at_far hj) (tr_bd ys) bp (by omega) (divI_one hne) (ginv_lt _) (Nat.le_refl _) j (by omega))
    (fun j => by rw [← h.eq j]; exact dv_inv hfl (Nat.le_refl _) j)
  constructor
  · have e : pquo xs ys = tr (rm (divN xs ys) fq) := by
      unfold pquo
      rw [rm_congr fun j _ => hd.1 j]
    have hl := pquo_len (xs := xs) hne
    rw [e] at hl
    rw [e, tr_row h.ql hl]
  · have e : prem xs ys = tr (rm (tr xs).length fr) := by
      unfold prem
      rw [rm_congr fun j _ => hd.2 j]
    rw [e]
    have hTl : T ≤ (tr xs).length := Nat.le_trans h1 (Nat.le_trans h.ml h.la)
    rw [show tr (rm (tr xs).length fr) = tr (rm T fr) from tr_ext fun j => by
      rw [at_rm, at_rm]
      by_cases c : j < T
      · rw [if_pos c, if_pos (by omega)]
      · rw [if_neg c, h2 j (by omega), ite_self]]
    symm
    refine tr_of (rm_mem fun j _ => h.rl j) fun hne2 => ?_
    have hp : 0 < T := by
      rcases Nat.eq_zero_or_pos T with c | c
      · rw [c] at hne2; exact absurd rfl hne2
      · exact c
    rw [rm_len, at_rm, if_pos (by omega)]
    exact h3 hp
end Go.Proofs.Ytmchelbmeajcnaa
