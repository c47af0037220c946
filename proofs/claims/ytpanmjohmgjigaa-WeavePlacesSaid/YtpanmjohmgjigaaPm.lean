/- Polynomials over the field of 1024 numbers, by their factors: sums, products, values, slopes (plain mathematics). -/
import Derived.Test.YtpanmjohmgjigaaRv
namespace Go.Proofs.Ytpanmjohmgjigaa
open Go.Gf

/-- the sum of n numbers of the field -/
def X (n : Nat) (f : Nat → Nat) : Nat :=
  match n with
  | 0 => 0
  | n + 1 => X n f ^^^ f n
theorem X_succ (n : Nat) (f : Nat → Nat) : X (n + 1) f = X n f ^^^ f n := rfl
theorem X_congr {n : Nat} {f g : Nat → Nat} (h : ∀ i, i < n → f i = g i) : X n f = X n g := by
  induction n with
  | zero => rfl
  | succ n ih => rw [X_succ, X_succ, ih (fun i hi => h i (by omega)), h n (by omega)]
theorem X_lt {n : Nat} {f : Nat → Nat} (h : ∀ i, i < n → f i < 1024) : X n f < 1024 := by
  induction n with
  | zero => show 0 < 1024; decide
  | succ n ih => exact xor_lt (ih fun i hi => h i (by omega)) (h n (by omega))
theorem X_zero {n : Nat} {f : Nat → Nat} (h : ∀ i, i < n → f i = 0) : X n f = 0 := by
  induction n with
  | zero => rfl
  | succ n ih => rw [X_succ, ih (fun i hi => h i (by omega)), h n (by omega)]; rfl
theorem X_xor (n : Nat) (f g : Nat → Nat) : X n (fun i => f i ^^^ g i) = X n f ^^^ X n g := by
  induction n with
  | zero => simp [X]
  | succ n ih => rw [X_succ, X_succ, X_succ, ih, xor4]
theorem X_mul_left {n : Nat} {f : Nat → Nat} (c : Nat) : gm c (X n f) = X n fun i => gm c (f i) := by
  induction n with
  | zero => exact gm_zero_right c
  | succ n ih => rw [X_succ, X_succ, gm_xor_right, ih]
theorem X_mul_right {n : Nat} {f : Nat → Nat} (c : Nat) (h : ∀ i, i < n → f i < 1024) : gm (X n f) c = X n fun i => gm (f i) c := by
  induction n with
  | zero => exact gm_zero_left c
  | succ n ih => rw [X_succ, X_succ, gm_xor_left c (X_lt fun i hi => h i (by omega)) (h n (by omega)), ih fun i hi => h i (by omega)]
theorem X_swap (m n : Nat) (f : Nat → Nat → Nat) : X m (fun i => X n (f i)) = X n fun j => X m fun i => f i j := by
  induction m with
  | zero => exact (X_zero fun _ _ => rfl).symm
  | succ m ih => rw [X_succ, ih, ← X_xor]; rfl
theorem X_more {n m : Nat} {f : Nat → Nat} (h : n ≤ m) (hf : ∀ i, n ≤ i → i < m → f i = 0) : X m f = X n f := by
  induction m with
  | zero => have : n = 0 := by omega
            subst this; rfl
  | succ m ih =>
    rcases Nat.lt_or_ge n (m + 1) with hl | hl
    · rw [X_succ, hf m (by omega) (by omega), Nat.xor_zero]; exact ih (by omega) fun i h1 h2 => hf i h1 (by omega)
    · have : n = m + 1 := by omega
      subst this; rfl
theorem X_shift (n : Nat) (f : Nat → Nat) : X (n + 1) f = f 0 ^^^ X n fun i => f (i + 1) := by
  induction n with
  | zero => simp [X]
  | succ n ih => rw [X_succ, ih, X_succ, Nat.xor_assoc]
theorem X_rev (n : Nat) (f : Nat → Nat) : X (n + 1) f = X (n + 1) fun i => f (n - i) := by
  induction n generalizing f with
  | zero => rfl
  | succ n ih =>
    rw [X_succ, ih, X_shift (n + 1) (fun i => f (n + 1 - i)), Nat.xor_comm]
    congr 1
    exact X_congr fun i hi => by congr 1; omega

/-- the j-th factor of a product -/
def cv (f g : Nat → Nat) (j : Nat) : Nat := X (j + 1) fun i => gm (f i) (g (j - i))
theorem cv_comm {f g : Nat → Nat} (hf : ∀ i, f i < 1024) (hg : ∀ i, g i < 1024) (j : Nat) : cv f g j = cv g f j := by
  unfold cv
  rw [X_rev]
  exact X_congr fun i hi => by rw [gm_comm (hf _) (hg _)]; congr 2; omega
theorem cv_lt {f : Nat → Nat} (g : Nat → Nat) (hf : ∀ i, f i < 1024) (j : Nat) : cv f g j < 1024 := X_lt fun i _ => gm_lt _ (hf i)
theorem cv_xor_left {f g h : Nat → Nat} (hf : ∀ i, f i < 1024) (hg : ∀ i, g i < 1024) (j : Nat) : cv (fun i => f i ^^^ g i) h j = cv f h j ^^^ cv g h j := by
  unfold cv
  rw [← X_xor]
  exact X_congr fun i _ => gm_xor_left _ (hf i) (hg i)
theorem cv_xor_right (f g h : Nat → Nat) (j : Nat) : cv f (fun i => g i ^^^ h i) j = cv f g j ^^^ cv f h j := by
  unfold cv
  rw [← X_xor]
  exact X_congr fun i _ => gm_xor_right _ _ _
theorem cv_congr {f g f' g' : Nat → Nat} (hf : ∀ i, f i = f' i) (hg : ∀ i, g i = g' i) (j : Nat) : cv f g j = cv f' g' j := by
  have e1 : f = f' := funext hf
  have e2 : g = g' := funext hg
  rw [e1, e2]

/-! factors of what the rows say -/
theorem at_rm {n : Nat} {f : Nat → Nat} (j : Nat) : at_ (rm n f) j = if j < n then f j else 0 := by
  by_cases h : j < n
  · rw [if_pos h, at_get (by rw [rm_len]; exact h), rm_get]
  · rw [if_neg h, at_far (by rw [rm_len]; omega)]
theorem rm_succ (n : Nat) (f : Nat → Nat) : rm (n + 1) f = rm n f ++ [f n] := by
  unfold rm
  rw [List.range_succ, List.map_append]; rfl
/-- without its noughts at the end a row has the same factors -/
theorem at_tr (xs : List Nat) (j : Nat) : at_ (tr xs) j = at_ xs j % 1024 := by
  have e : xs = rm xs.length (at_ xs) := (rm_at xs).symm
  have hz : xs.length ≤ j → at_ xs j = 0 := at_far
  rw [e] at hz ⊢
  rw [rm_len] at hz
  generalize xs.length = n at hz ⊢
  generalize at_ xs = f at hz ⊢
  have key : ∀ n, at_ (tr (rm n f)) j = if j < n then f j % 1024 else 0 := by
    intro n
    induction n with
    | zero => simp [rm, tr, at_]
    | succ n ih =>
      rw [rm_succ, tr_snoc]
      by_cases h : f n % 1024 = 0
      · rw [if_pos h, ih]
        by_cases h1 : j < n
        · rw [if_pos h1, if_pos (by omega)]
        · rw [if_neg h1]
          by_cases h2 : j = n
          · subst h2; rw [if_pos (by omega), h]
          · rw [if_neg (by omega)]
      · rw [if_neg h, ← rm_succ]
        have : (rm (n + 1) f).map (· % 1024) = rm (n + 1) fun j => f j % 1024 := by simp [rm]
        rw [this, at_rm]
  rw [key, at_rm]
  by_cases h : j < n
  · rw [if_pos h, if_pos h]
  · rw [if_neg h, if_neg h]
/-- a row without noughts at its end has a last factor that is none -/
theorem tr_last (xs : List Nat) (h : tr xs ≠ []) : at_ (tr xs) ((tr xs).length - 1) ≠ 0 := by
  have e : xs = rm xs.length (at_ xs) := (rm_at xs).symm
  generalize xs.length = n at e
  generalize at_ xs = f at e
  subst e
  induction n with
  | zero => exact absurd rfl h
  | succ n ih =>
    rw [rm_succ, tr_snoc] at h ⊢
    by_cases h0 : f n % 1024 = 0
    · rw [if_pos h0] at h ⊢; exact ih h
    · rw [if_neg h0] at h ⊢
      rw [at_get (by simp)]
      simp
      exact h0
/-- rows without noughts at their ends are the same if their factors are -/
theorem tr_ext {xs ys : List Nat} (h : ∀ j, at_ xs j % 1024 = at_ ys j % 1024) : tr xs = tr ys := by
  have hl : ∀ {xs ys : List Nat}, (∀ j, at_ xs j % 1024 = at_ ys j % 1024) → (tr xs).length ≤ (tr ys).length := by
    intro xs ys h
    by_cases h0 : tr xs = []
    · rw [h0]; exact Nat.zero_le _
    · have h1 := tr_last xs h0
      rw [at_tr, h, ← at_tr] at h1
      rcases Nat.lt_or_ge ((tr xs).length - 1) (tr ys).length with h2 | h2
      · have := List.length_pos_iff.2 h0; omega
      · exact absurd (at_far h2) h1
  have e := Nat.le_antisymm (hl h) (hl fun j => (h j).symm)
  apply List.ext_getElem e
  intro i h1 h2
  rw [← at_get h1, ← at_get h2, at_tr, at_tr, h]
theorem tr_tr (xs : List Nat) : tr (tr xs) = tr xs := tr_ext fun j => by rw [at_tr]; omega
theorem tr_of {xs : List Nat} (h : ∀ x ∈ xs, x < 1024) (hl : xs ≠ [] → at_ xs (xs.length - 1) ≠ 0) : tr xs = xs := by
  by_cases h0 : xs = []
  · subst h0; rfl
  · obtain ⟨l, x, rfl⟩ : ∃ l x, xs = l ++ [x] := ⟨xs.dropLast, xs.getLast h0, (List.dropLast_concat_getLast h0).symm⟩
    have h2 := hl h0
    rw [at_get (by simp)] at h2
    simp at h2
    have hx := h x (by simp)
    rw [tr_snoc, if_neg (by omega)]
    have : ∀ y ∈ l ++ [x], y % 1024 = y := fun y hy => Nat.mod_eq_of_lt (h y hy)
    exact (List.map_congr_left this).trans (List.map_id _)

/-! sums and slopes -/
theorem xor_mod (a b : Nat) : (a ^^^ b) % 1024 = (a % 1024) ^^^ (b % 1024) := Nat.xor_mod_two_pow (n := 10)
theorem at_padd (xs ys : List Nat) (j : Nat) : at_ (padd xs ys) j = (at_ xs j % 1024) ^^^ (at_ ys j % 1024) := by
  unfold padd
  rw [at_tr, at_rm]
  by_cases h : j < max xs.length ys.length
  · rw [if_pos h, xor_mod]
  · rw [if_neg h, at_far (xs := xs) (by omega), at_far (xs := ys) (by omega)]; rfl
theorem at_slope (xs : List Nat) (j : Nat) : at_ (slope xs) j = if j % 2 = 0 then at_ xs (j + 1) % 1024 else 0 := by
  unfold slope
  rw [at_tr, at_rm]
  by_cases h : j < xs.length
  · rw [if_pos h]; split <;> rfl
  · rw [if_neg h]
    split
    · rw [at_far (xs := xs) (by omega)]
    · rfl
/-! products -/
theorem mrow_at {f : Nat → Nat} {x : Nat} {ys : List Nat} {i : Nat} (k j : Nat) : mrow f x ys i k j = f j ^^^ (if i ≤ j ∧ j < i + k then gm x (at_ ys (j - i)) else 0) := by
  induction k with
  | zero => rw [if_neg (by omega), Nat.xor_zero]; rfl
  | succ k ih =>
    unfold mrow
    by_cases h : j = i + k
    · subst h
      rw [if_pos rfl, ih, if_neg (by omega), Nat.xor_zero, if_pos (by omega), show i + k - i = k by omega]
    · rw [if_neg h, ih]
      by_cases h2 : i ≤ j ∧ j < i + k
      · rw [if_pos h2, if_pos (by omega)]
      · rw [if_neg h2, if_neg (by omega)]
/-- a whole row of the product: noughts behind the second polynomial change nothing -/
theorem mrow_full {f : Nat → Nat} {x : Nat} {ys : List Nat} {i : Nat} (j : Nat) : mrow f x ys i ys.length j = f j ^^^ (if i ≤ j then gm x (at_ ys (j - i)) else 0) := by
  rw [mrow_at]
  congr 1
  by_cases h : i ≤ j
  · by_cases h2 : j < i + ys.length
    · rw [if_pos ⟨h, h2⟩, if_pos h]
    · rw [if_neg (by omega), if_pos h, at_far (by omega), gm_zero_right]
  · rw [if_neg (by omega), if_neg h]
theorem mall_at (xs ys : List Nat) (i j : Nat) : mall xs ys i j = X i fun k => if k ≤ j then gm (at_ xs k) (at_ ys (j - k)) else 0 := by
  induction i with
  | zero => rfl
  | succ i ih =>
    rw [X_succ, ← ih]
    exact mrow_full j
/-- all rows: the factors of the product -/
theorem mall_full (xs ys : List Nat) (j : Nat) : mall xs ys xs.length j = cv (at_ xs) (at_ ys) j := by
  rw [mall_at]
  unfold cv
  rcases Nat.lt_or_ge xs.length (j + 1) with h | h
  · rw [X_more (n := xs.length) (m := j + 1) (by omega) (fun i h1 _ => by rw [at_far h1, gm_zero_left])]
    exact X_congr fun i hi => by rw [if_pos (by omega)]
  · rw [X_more (n := j + 1) (m := xs.length) (by omega) (fun i h1 _ => by rw [if_neg (by omega)])]
    exact X_congr fun i hi => by rw [if_pos (by omega)]
theorem at_lt' {xs : List Nat} (h : ∀ x ∈ xs, x < 1024) (j : Nat) : at_ xs j < 1024 := at_lt h (by decide)
/-- beyond its degree a product has noughts -/
theorem cv_far {xs ys : List Nat} {j : Nat} (h : xs.length + ys.length ≤ j + 1) : cv (at_ xs) (at_ ys) j = 0 := by
  refine X_zero fun i hi => ?_
  rcases Nat.lt_or_ge i xs.length with h1 | h1
  · rw [at_far (xs := ys) (by omega), gm_zero_right]
  · rw [at_far (xs := xs) h1, gm_zero_left]
theorem pmul_eq {xs ys : List Nat} (h : (tr xs).length + (tr ys).length - 1 ≤ 4096) : pmul xs ys = tr (rm ((tr xs).length + (tr ys).length) (cv (at_ (tr xs)) (at_ (tr ys)))) := by
  unfold pmul
  by_cases hc : (tr xs).length = 0 ∨ (tr ys).length = 0
  · rw [if_pos (by omega)]
    have z : ∀ j, cv (at_ (tr xs)) (at_ (tr ys)) j = 0 := by
      intro j
      refine X_zero fun i _ => ?_
      rcases hc with hc | hc
      · rw [at_far (xs := tr xs) (by omega), gm_zero_left]
      · rw [at_far (xs := tr ys) (by omega), gm_zero_right]
    have : tr [] = tr (rm ((tr xs).length + (tr ys).length) (cv (at_ (tr xs)) (at_ (tr ys)))) := tr_ext fun j => by
      rw [at_rm, z, ite_self]; rfl
    rw [← this]; rfl
  · rw [if_neg (by omega)]
    refine tr_ext fun j => ?_
    rw [at_rm, at_rm]
    by_cases h1 : j < (tr xs).length + (tr ys).length - 1
    · rw [if_pos h1, if_pos (by omega), mall_full]
    · rw [if_neg h1]
      split
      · rw [cv_far (by omega)]
      · rfl
theorem at_pmul {xs ys : List Nat} (h : (tr xs).length + (tr ys).length - 1 ≤ 4096) (j : Nat) : at_ (pmul xs ys) j = cv (at_ (tr xs)) (at_ (tr ys)) j := by
  rw [pmul_eq h, at_tr, at_rm]
  split
  · exact Nat.mod_eq_of_lt (cv_lt _ (at_lt' (tr_bd xs)) j)
  · rw [cv_far (by omega)]
theorem tr_pmul (xs ys : List Nat) : tr (pmul xs ys) = pmul xs ys := by
  unfold pmul; split
  · rfl
  · exact tr_tr _
theorem tr_padd (xs ys : List Nat) : tr (padd xs ys) = padd xs ys := tr_tr _
theorem tr_slope (xs : List Nat) : tr (slope xs) = slope xs := tr_tr _
/-- two rows of factors, each without noughts at its end -/
theorem row_ext {xs ys : List Nat} (hx : tr xs = xs) (hy : tr ys = ys) (h : ∀ j, at_ xs j = at_ ys j) : xs = ys := by
  rw [← hx, ← hy]; exact tr_ext fun j => by rw [h]

/-! values -/
theorem ev_X (x : Nat) (hx : x < 1024) (p : List Nat) : ev x p = X p.length fun i => gm (at_ p i % 1024) (gpow x i) := by
  induction p with
  | nil => rfl
  | cons c p ih =>
    show gm (ev x p) x ^^^ (c % 1024) = _
    rw [List.length_cons, X_shift, ih, X_mul_right _ (fun i _ => gm_lt _ (Nat.mod_lt _ (by decide))), Nat.xor_comm]
    have e0 : gm (at_ (c :: p) 0 % 1024) (gpow x 0) = c % 1024 := gm_one_right (c % 1024)
    have e1 : (X p.length fun i => gm (gm (at_ p i % 1024) (gpow x i)) x) = X p.length fun i => gm (at_ (c :: p) (i + 1) % 1024) (gpow x (i + 1)) := X_congr fun i _ => gm_assoc (Nat.mod_lt _ (by decide)) (gpow_lt i) hx
    rw [e0, e1]
theorem ev_more (x : Nat) (hx : x < 1024) (p : List Nat) {n : Nat} (h : p.length ≤ n) : ev x p = X n fun i => gm (at_ p i % 1024) (gpow x i) := by
  rw [ev_X x hx]
  exact (X_more h fun i h1 _ => by rw [at_far h1]; exact gm_zero_left _).symm
theorem ev_ext (x : Nat) (hx : x < 1024) {p q : List Nat} (h : ∀ j, at_ p j % 1024 = at_ q j % 1024) : ev x p = ev x q := by
  rw [ev_more x hx p (Nat.le_max_left p.length q.length), ev_more x hx q (Nat.le_max_right p.length q.length)]
  exact X_congr fun i _ => by rw [h]
theorem ev_tr (x : Nat) (hx : x < 1024) (p : List Nat) : ev x (tr p) = ev x p := ev_ext x hx fun j => by rw [at_tr]; omega
theorem ev_padd (x : Nat) (hx : x < 1024) (p q : List Nat) : ev x (padd p q) = ev x p ^^^ ev x q := by
  have hl : (padd p q).length ≤ max p.length q.length := by
    refine Nat.le_trans (tr_len _) ?_
    rw [rm_len]; exact Nat.le_refl _
  rw [ev_more x hx _ hl, ev_more x hx p (Nat.le_max_left p.length q.length), ev_more x hx q (Nat.le_max_right p.length q.length), ← X_xor]
  refine X_congr fun i _ => ?_
  have h1 : at_ p i % 1024 < 1024 := Nat.mod_lt _ (by decide)
  have h2 : at_ q i % 1024 < 1024 := Nat.mod_lt _ (by decide)
  rw [at_padd, Nat.mod_eq_of_lt (xor_lt h1 h2), gm_xor_left _ h1 h2]
theorem gpow_add (x m n : Nat) (hx : x < 1024) : gm (gpow x m) (gpow x n) = gpow x (m + n) := by
  rcases cases_E hx with rfl | ⟨i, _, rfl⟩
  · rcases Nat.eq_zero_or_pos m with rfl | hm
    · rw [show gpow 0 0 = 1 from rfl, gm_one_left (gpow_lt n), Nat.zero_add]
    · rw [gpow_zero (by omega), gm_zero_left, gpow_zero (by omega)]
  · rw [gpow_E, gpow_E, gpow_E, gm_E, Nat.mul_add]
/-- the value of the factors of a product is the product of the values -/
theorem cv_ev {f g : Nat → Nat} (x m n : Nat) (hx : x < 1024) (hf : ∀ i, f i < 1024) (hg : ∀ i, g i < 1024) (fz : ∀ i, m ≤ i → f i = 0) (gz : ∀ i, n ≤ i → g i = 0) :
    (X (m + n) fun j => gm (cv f g j) (gpow x j)) = gm (X m fun i => gm (f i) (gpow x i)) (X n fun i => gm (g i) (gpow x i)) := by
  have hR : gm (X m fun i => gm (f i) (gpow x i)) (X n fun i => gm (g i) (gpow x i)) = X m fun i => X n fun k => gm (gm (f i) (g k)) (gpow x (i + k)) := by
    rw [X_mul_right _ (fun i _ => gm_lt _ (hf i))]
    refine X_congr fun i _ => ?_
    rw [X_mul_left]
    refine X_congr fun k _ => ?_
    rw [← gpow_add x i k hx, gm_assoc (hf i) (gpow_lt i) (gm_lt _ (hg k)), gm_assoc (hf i) (hg k) (gm_lt _ (gpow_lt i))]
    refine congrArg (gm (f i)) ?_
    rw [← gm_assoc (gpow_lt i) (hg k) (gpow_lt k), gm_comm (gpow_lt i) (hg k), gm_assoc (hg k) (gpow_lt i) (gpow_lt k)]
  rw [hR]
  -- each factor, over all places
  have hL : (X (m + n) fun j => gm (cv f g j) (gpow x j)) = X (m + n) fun j => X m fun i => if i ≤ j then gm (gm (f i) (g (j - i))) (gpow x j) else 0 := by
    refine X_congr fun j _ => ?_
    unfold cv
    rw [X_mul_right _ (fun i _ => gm_lt _ (hf i))]
    rcases Nat.lt_or_ge m (j + 1) with h | h
    · rw [X_more (n := m) (m := j + 1) (by omega) (fun i h1 _ => by rw [fz i h1, gm_zero_left, gm_zero_left])]
      exact X_congr fun i hi => by rw [if_pos (by omega)]
    · rw [X_more (n := j + 1) (m := m) (by omega) (fun i h1 _ => by rw [if_neg (by omega)])]
      exact X_congr fun i hi => by rw [if_pos (by omega)]
  rw [hL, X_swap]
  refine X_congr fun i hi => ?_
  -- shift by i
  have sh : ∀ k, (X (i + k) fun j => if i ≤ j then gm (gm (f i) (g (j - i))) (gpow x j) else 0) = X k fun k => gm (gm (f i) (g k)) (gpow x (i + k)) := by
    intro k
    induction k with
    | zero => exact X_zero fun j hj => by rw [if_neg (by omega)]
    | succ k ih =>
      rw [← Nat.add_assoc, X_succ, ih, X_succ, if_pos (by omega), show i + k - i = k by omega]
  have : m + n = i + (m + n - i) := by omega
  rw [this, sh]
  exact X_more (by omega) fun k h1 _ => by rw [gz k h1, gm_zero_right, gm_zero_left]
theorem ev_pmul (x : Nat) (hx : x < 1024) {p q : List Nat} (h : (tr p).length + (tr q).length - 1 ≤ 4096) : ev x (pmul p q) = gm (ev x p) (ev x q) := by
  have hl : (pmul p q).length ≤ (tr p).length + (tr q).length := by
    rw [pmul_eq h]
    refine Nat.le_trans (tr_len _) ?_
    rw [rm_len]; exact Nat.le_refl _
  have hp := at_lt' (tr_bd p)
  have hq := at_lt' (tr_bd q)
  rw [ev_more x hx _ hl, ← ev_tr x hx p, ← ev_tr x hx q, ev_X x hx (tr p), ev_X x hx (tr q)]
  have e1 : (X (tr p).length fun i => gm (at_ (tr p) i % 1024) (gpow x i)) = X (tr p).length fun i => gm (at_ (tr p) i) (gpow x i) := X_congr fun i _ => by rw [Nat.mod_eq_of_lt (hp i)]
  have e2 : (X (tr q).length fun i => gm (at_ (tr q) i % 1024) (gpow x i)) = X (tr q).length fun i => gm (at_ (tr q) i) (gpow x i) := X_congr fun i _ => by rw [Nat.mod_eq_of_lt (hq i)]
  rw [e1, e2, ← cv_ev x _ _ hx hp hq (fun i h => at_far h) (fun i h => at_far h)]
  exact X_congr fun j _ => by rw [at_pmul h, Nat.mod_eq_of_lt (cv_lt _ hp j)]
end Go.Proofs.Ytpanmjohmgjigaa
