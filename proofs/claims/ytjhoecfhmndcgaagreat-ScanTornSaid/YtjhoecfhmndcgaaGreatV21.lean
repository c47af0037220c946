/- Products of factors hang not on how they are bracketed; a polynomial has no more roots than its degree (plain mathematics). · The locator and the evaluator of what is wrong (plain mathematics). · The locator's roots, and what is wrong there (plain mathematics). · The divisions of Euclid find the locator and the evaluator (plain mathematics). · Two words of the code that part in at most sixteen places are one (plain mathematics). · Bytes' bits, ten by ten (plain mathematics). · Slices of bytes as lists; the reference's Symbols, Bytes. -/
import Derived.Test.YtjhoecfhmndcgaaGreatV18
import Derived.Test.YtjhoecfhmndcgaaGreatV16
namespace Go.Proofs.YtjhoecfhmndcgaaGreat
open Go.Gf

theorem X_from (k n : Nat) (F : Nat → Nat) : X (k + n) (fun i => if k ≤ i then F i else 0) = X n fun m => F (m + k) := by
  induction n with
  | zero => exact X_zero fun i hi => by rw [if_neg (by omega)]
  | succ n ih =>
    rw [← Nat.add_assoc, X_succ, ih, X_succ, if_pos (by omega), Nat.add_comm n k]
theorem cv_assoc {f g h : Nat → Nat} (hf : ∀ i, f i < 1024) (hg : ∀ i, g i < 1024) (hh : ∀ i, h i < 1024) (j : Nat) : cv (cv f g) h j = cv f (cv g h) j := by
  have e1 : cv (cv f g) h j = X (j + 1) fun i => X (j + 1) fun k => if k ≤ i then gm (f k) (gm (g (i - k)) (h (j - i))) else 0 := by
    unfold cv
    refine X_congr fun i hi => ?_
    rw [X_mul_right _ (fun k _ => gm_lt _ (hf k))]
    rw [X_more (n := i + 1) (m := j + 1) (by omega) (fun k h1 _ => by rw [if_neg (by omega)])]
    refine X_congr fun k hk => ?_
    rw [if_pos (by omega), gm_assoc (hf k) (hg _) (hh _)]
  rw [e1, X_swap]
  unfold cv
  refine X_congr fun k hk => ?_
  rw [X_mul_left]
  have := X_from k (j + 1 - k) (fun i => gm (f k) (gm (g (i - k)) (h (j - i))))
  rw [show k + (j + 1 - k) = j + 1 by omega] at this
  rw [this, show j - k + 1 = j + 1 - k by omega]
  refine X_congr fun m hm => ?_
  rw [show m + k - k = m by omega, show j - (m + k) = j - k - m by omega]
/-- only the first places matter -/
theorem cv_upto {f g f' g' : Nat → Nat} {j : Nat} (hf : ∀ i, i ≤ j → f i = f' i) (hg : ∀ i, i ≤ j → g i = g' i) : cv f g j = cv f' g' j := by
  unfold cv
  exact X_congr fun i hi => by rw [hf i (by omega), hg (j - i) (by omega)]

/-! roots -/
/-- division by (x + r) -/
def sq (r : Nat) : List Nat → List Nat
  | [] => []
  | _ :: p => ev r p :: sq r p
theorem gm_swap {a b c : Nat} (ha : a < 1024) (hb : b < 1024) (hc : c < 1024) : gm (gm a b) c = gm (gm a c) b := by
  rw [gm_assoc ha hb hc, gm_comm hb hc, ← gm_assoc ha hc hb]
theorem sq_step {A B c x r : Nat} (hA : A < 1024) (hB : B < 1024) (hx : x < 1024) (hr : r < 1024) :
    gm (gm A (x ^^^ r) ^^^ B) x ^^^ c = gm (gm A x ^^^ B) (x ^^^ r) ^^^ (gm B r ^^^ c) := by
  have ht := xor_lt hx hr
  have e1 := gm_xor_left x (gm_lt (x ^^^ r) hA) hB
  have e2 := gm_xor_left (x ^^^ r) (gm_lt x hA) hB
  have e3 := gm_swap hA ht hx
  have e4 := gm_xor_right B x r
  rw [e1, e2, e3, e4]
  generalize gm (gm A x) (x ^^^ r) = p
  generalize gm B x = q
  generalize gm B r = s
  rw [Nat.xor_assoc p q c, Nat.xor_assoc p (q ^^^ s), Nat.xor_assoc q s, ← Nat.xor_assoc s s c, Nat.xor_self, Nat.zero_xor]
theorem ev_sq {x r : Nat} (hx : x < 1024) (hr : r < 1024) (p : List Nat) : ev x p = gm (ev x (sq r p)) (x ^^^ r) ^^^ ev r p := by
  induction p with
  | nil =>
    have e : gm 0 (x ^^^ r) = 0 := gm_zero_left _
    show 0 = gm 0 (x ^^^ r) ^^^ 0
    rw [e]; rfl
  | cons c p ih =>
    have he := ev_lt r p
    have e1 : ev x (c :: p) = gm (ev x p) x ^^^ (c % 1024) := rfl
    have e2 : ev x (sq r (c :: p)) = gm (ev x (sq r p)) x ^^^ (ev r p % 1024) := rfl
    have e3 : ev r (c :: p) = gm (ev r p) r ^^^ (c % 1024) := rfl
    rw [e1, e2, e3, ih, Nat.mod_eq_of_lt he]
    exact sq_step (ev_lt x (sq r p)) he hx hr
theorem at_sq (r : Nat) (p : List Nat) (j : Nat) : at_ (sq r p) j = ev r (p.drop (j + 1)) := by
  induction p generalizing j with
  | nil => rfl
  | cons c p ih =>
    cases j with
    | zero => rfl
    | succ j => exact ih j
theorem ev_const {r : Nat} (hr : r < 1024) {p : List Nat} (h : ∀ j, 0 < j → at_ p j % 1024 = 0) : ev r p = at_ p 0 % 1024 := by
  have : ev r p = ev r [at_ p 0] := ev_ext r hr fun j => by
    rcases Nat.eq_zero_or_pos j with h0 | h0
    · subst h0; rfl
    · rw [h j h0, at_far (by simp; omega)]
  rw [this]
  have e : gm 0 r = 0 := gm_zero_left _
  show gm 0 r ^^^ (at_ p 0 % 1024) = _
  rw [e, Nat.zero_xor]
theorem at_drop (p : List Nat) (k j : Nat) : at_ (p.drop k) j = at_ p (j + k) := by
  simp [at_, List.getD, List.getElem?_drop, Nat.add_comm]
/-- A POLYNOMIAL OF DEGREE m HAS AT MOST m ROOTS -/
theorem roots_le : ∀ (m : Nat) (p : List Nat), at_ p m % 1024 ≠ 0 → (∀ j, m < j → at_ p j % 1024 = 0) → ∀ rs : List Nat, rs.Nodup → (∀ r ∈ rs, r < 1024 ∧ ev r p = 0) → rs.length ≤ m := by
  intro m
  induction m with
  | zero =>
    intro p h0 hz rs _ hr
    cases rs with
    | nil => exact Nat.le_refl _
    | cons r rs =>
      obtain ⟨h1, h2⟩ := hr r List.mem_cons_self
      rw [ev_const h1 hz] at h2
      exact absurd h2 h0
  | succ m ih =>
    intro p h0 hz rs hn hr
    cases rs with
    | nil => exact Nat.zero_le _
    | cons r rs =>
      obtain ⟨h1, h2⟩ := hr r List.mem_cons_self
      have hn' := List.nodup_cons.1 hn
      have := ih (sq r p) (by
        rw [at_sq, ev_const h1 (fun j hj => by rw [at_drop]; exact hz _ (by omega)), at_drop, Nat.zero_add]
        omega) (fun j hj => by
        rw [at_sq, ev_const h1 (fun i hi => by rw [at_drop]; exact hz _ (by omega)), at_drop, hz _ (by omega)]) rs hn'.2 (fun x hx => by
        obtain ⟨h3, h4⟩ := hr x (List.mem_cons_of_mem _ hx)
        refine ⟨h3, ?_⟩
        have e := ev_sq h3 h1 p
        rw [h4, h2, Nat.xor_zero] at e
        rcases (gm_eq_zero (ev_lt x (sq r p)) (xor_lt h3 h1)).1 e.symm with h5 | h5
        · exact h5
        · exact absurd (xor_zero_eq h5 ▸ hx) hn'.1)
      rw [List.length_cons]; omega
end Go.Proofs.YtjhoecfhmndcgaaGreat
namespace Go.Proofs.YtjhoecfhmndcgaaGreat
open Go.Gf

/-- (what a place stands for, what is wrong there) -/
abbrev Errs := List (Nat × Nat)
def Lo : Errs → List Nat
  | [] => [1]
  | p :: ps => pmul [1, p.1] (Lo ps)
def Om : Errs → List Nat
  | [] => []
  | p :: ps => padd (pmul [gm p.2 p.1] (Lo ps)) (pmul [1, p.1] (Om ps))
def Sm : Errs → Nat → Nat
  | [], _ => 0
  | p :: ps, i => gm p.2 (gpow p.1 (i + 1)) ^^^ Sm ps i
structure Gd (ps : Errs) : Prop where
  len : ps.length ≤ 1000
  bd : ∀ p ∈ ps, p.1 ≠ 0 ∧ p.1 < 1024 ∧ p.2 ≠ 0 ∧ p.2 < 1024
  nd : (ps.map Prod.fst).Nodup
theorem Gd.tail {p : Nat × Nat} {ps : Errs} (h : Gd (p :: ps)) : Gd ps :=
  ⟨by have := h.len; simp at this; omega, fun q hq => h.bd q (List.mem_cons_of_mem _ hq), (List.nodup_cons.1 (by simpa using h.nd)).2⟩
theorem Gd.head {p : Nat × Nat} {ps : Errs} (h : Gd (p :: ps)) : p.1 ≠ 0 ∧ p.1 < 1024 ∧ p.2 ≠ 0 ∧ p.2 < 1024 := h.bd p List.mem_cons_self
theorem tr_two {x : Nat} (h0 : x ≠ 0) (h1 : x < 1024) : tr [1, x] = [1, x] := by
  have : ([1, x] : List Nat) = [1] ++ [x] := rfl
  rw [this, tr_snoc, if_neg (by omega)]
  simp; omega
theorem pmul_len_le (p q : List Nat) : (pmul p q).length ≤ (tr p).length + (tr q).length - 1 := by
  unfold pmul
  split
  · exact Nat.zero_le _
  · refine Nat.le_trans (tr_len _) ?_
    rw [rm_len]; exact Nat.le_refl _
theorem Lo_tr (ps : Errs) : tr (Lo ps) = Lo ps := by
  cases ps with
  | nil => rfl
  | cons p ps => exact tr_pmul _ _
theorem Lo_len {ps : Errs} (h : Gd ps) : (Lo ps).length = ps.length + 1 := by
  induction ps with
  | nil => rfl
  | cons p ps ih =>
    have ih := ih h.tail
    have hh := h.head
    have hl := h.len
    rw [List.length_cons] at hl ⊢
    have e := tr_two hh.1 hh.2.1
    have := pmul_len (p := [1, p.1]) (q := Lo ps) (by rw [e, Lo_tr, ih]; simp; omega) (by rw [e]; simp) (by rw [Lo_tr]; intro h0; rw [h0] at ih; simp at ih)
    show (pmul [1, p.1] (Lo ps)).length = _
    rw [this, e, Lo_tr, ih]; simp; omega
theorem Om_tr (ps : Errs) : tr (Om ps) = Om ps := by
  cases ps with
  | nil => rfl
  | cons p ps => exact tr_padd _ _
theorem Om_len {ps : Errs} (h : Gd ps) : (Om ps).length ≤ ps.length := by
  induction ps with
  | nil => exact Nat.le_refl _
  | cons p ps ih =>
    have ih := ih h.tail
    have hL := Lo_len h.tail
    have h1 : (tr [gm p.2 p.1]).length ≤ 1 := Nat.le_trans (tr_len _) (Nat.le_refl _)
    have h2 : (tr [1, p.1]).length ≤ 2 := Nat.le_trans (tr_len _) (Nat.le_refl _)
    have e := padd_len (pmul [gm p.2 p.1] (Lo ps)) (pmul [1, p.1] (Om ps))
    rw [tr_padd, tr_pmul, tr_pmul] at e
    have e1 := pmul_len_le [gm p.2 p.1] (Lo ps)
    have e2 := pmul_len_le [1, p.1] (Om ps)
    rw [Lo_tr] at e1
    rw [Om_tr] at e2
    show (padd _ _).length ≤ _
    rw [List.length_cons]
    omega
theorem Sm_lt {ps : Errs} (h : Gd ps) (i : Nat) : Sm ps i < 1024 := by
  induction ps with
  | nil => show 0 < 1024; decide
  | cons p ps ih => exact xor_lt (gm_lt _ h.head.2.2.2) (ih h.tail)
theorem at_lt_tr {xs : List Nat} (h : tr xs = xs) (j : Nat) : at_ xs j < 1024 := by rw [← h]; exact at_lt' (tr_bd _) j
theorem at_two (x j : Nat) : at_ [1, x] j = if j = 0 then 1 else if j = 1 then x else 0 := by
  match j with
  | 0 => rfl
  | 1 => rfl
  | j + 2 => rw [at_far (by simp), if_neg (by omega), if_neg (by omega)]
theorem at_one (c j : Nat) : at_ [c] j = if j = 0 then c else 0 := by
  match j with
  | 0 => rfl
  | j + 1 => rw [at_far (by simp), if_neg (by omega)]
/-- (1 + x y) times what one place gives to the sums -/
theorem cv_single {x e : Nat} (hx : x < 1024) (he : e < 1024) (j : Nat) : cv (at_ [1, x]) (fun i => gm e (gpow x (i + 1))) j = at_ [gm e x] j := by
  have h1 : gpow x 1 = x := by
    show gm (gpow x 0) x = x
    show gm 1 x = x
    exact gm_one_left hx
  cases j with
  | zero =>
    show X 1 _ = _
    rw [X_succ]
    show 0 ^^^ gm (at_ [1, x] 0) (gm e (gpow x 1)) = at_ [gm e x] 0
    rw [Nat.zero_xor, h1]
    show gm 1 (gm e x) = gm e x
    exact gm_one_left (gm_lt _ he)
  | succ j =>
    unfold cv
    have hs : gpow x (j + 1 + 1) = gm (gpow x (j + 1)) x := rfl
    have e2 : X (j + 1 + 1) (fun i => gm (at_ [1, x] i) (gm e (gpow x (j + 1 - i + 1)))) = X 2 fun i => gm (at_ [1, x] i) (gm e (gpow x (j + 1 - i + 1))) :=
      X_more (by omega) fun i h2 _ => by rw [at_far (by simp; omega), gm_zero_left]
    rw [e2, at_one, if_neg (by omega)]
    show (0 ^^^ gm 1 (gm e (gpow x (j + 1 + 1)))) ^^^ gm x (gm e (gpow x (j + 1 - 1 + 1))) = 0
    rw [Nat.zero_xor, show j + 1 - 1 + 1 = j + 1 by omega, hs, gm_one_left (gm_lt _ he), gm_comm hx (gm_lt _ he), gm_assoc he (gpow_lt _) hx, Nat.xor_self]
/-- THE LOCATOR TIMES THE SUMS IS THE EVALUATOR -/
theorem key {ps : Errs} (h : Gd ps) (j : Nat) : cv (at_ (Lo ps)) (Sm ps) j = at_ (Om ps) j := by
  induction ps generalizing j with
  | nil => exact X_zero fun i _ => gm_zero_right _
  | cons p ps ih =>
    have ih := ih h.tail
    have hh := h.head
    have hL := at_lt_tr (Lo_tr ps)
    have hO := at_lt_tr (Om_tr ps)
    have hS := Sm_lt h.tail
    have h2 := at_lt_tr (tr_two hh.1 hh.2.1)
    have hc : gm p.2 p.1 < 1024 := gm_lt _ hh.2.2.2
    have hlL := Lo_len h.tail
    have hlO := Om_len h.tail
    have hlen := h.len
    rw [List.length_cons] at hlen
    have t1 : (tr [gm p.2 p.1]).length ≤ 1 := Nat.le_trans (tr_len _) (Nat.le_refl _)
    have t2 : (tr [1, p.1]).length ≤ 2 := Nat.le_trans (tr_len _) (Nat.le_refl _)
    have eL : ∀ i, at_ (Lo (p :: ps)) i = cv (at_ [1, p.1]) (at_ (Lo ps)) i := fun i => by
      show at_ (pmul [1, p.1] (Lo ps)) i = _
      rw [at_pmul (by rw [Lo_tr]; omega), tr_two hh.1 hh.2.1, Lo_tr]
    have hcv : ∀ i, cv (at_ [1, p.1]) (at_ (Lo ps)) i < 1024 := cv_lt _ h2
    have es : ∀ i, gm p.2 (gpow p.1 (i + 1)) < 1024 := fun i => gm_lt _ hh.2.2.2
    have e1 : cv (at_ (Lo (p :: ps))) (Sm (p :: ps)) j = cv (cv (at_ [1, p.1]) (at_ (Lo ps))) (fun i => gm p.2 (gpow p.1 (i + 1))) j ^^^ cv (cv (at_ [1, p.1]) (at_ (Lo ps))) (Sm ps) j := by
      rw [← cv_xor_right]
      exact cv_congr eL (fun _ => rfl) j
    have e2 : cv (cv (at_ [1, p.1]) (at_ (Lo ps))) (fun i => gm p.2 (gpow p.1 (i + 1))) j = cv (at_ [gm p.2 p.1]) (at_ (Lo ps)) j := by
      have a1 : cv (cv (at_ [1, p.1]) (at_ (Lo ps))) (fun i => gm p.2 (gpow p.1 (i + 1))) j = cv (cv (at_ (Lo ps)) (at_ [1, p.1])) (fun i => gm p.2 (gpow p.1 (i + 1))) j := cv_congr (fun i => cv_comm h2 hL i) (fun _ => rfl) j
      rw [a1, cv_assoc hL h2 es, cv_congr (fun _ => rfl) (fun i => cv_single hh.2.1 hh.2.2.2 i) j]
      exact cv_comm hL (fun i => by rw [at_one]; split; exact hc; decide) j
    have e3 : cv (cv (at_ [1, p.1]) (at_ (Lo ps))) (Sm ps) j = cv (at_ [1, p.1]) (at_ (Om ps)) j := by
      rw [cv_assoc h2 hL hS]
      exact cv_congr (fun _ => rfl) ih j
    rw [e1, e2, e3]
    show _ = at_ (padd _ _) j
    rw [at_padd, at_pmul (by rw [Lo_tr]; omega), at_pmul (by rw [Om_tr]; omega), tr_two hh.1 hh.2.1, Lo_tr, Om_tr]
    have t3 : ∀ i, at_ (tr [gm p.2 p.1]) i = at_ [gm p.2 p.1] i := fun i => by
      rw [at_tr, at_one]; split
      · exact Nat.mod_eq_of_lt hc
      · rfl
    rw [cv_congr t3 (fun _ => rfl) j, Nat.mod_eq_of_lt (cv_lt _ (fun i => by rw [at_one]; split; exact hc; decide) j), Nat.mod_eq_of_lt (cv_lt _ h2 j)]
end Go.Proofs.YtjhoecfhmndcgaaGreat
namespace Go.Proofs.YtjhoecfhmndcgaaGreat
open Go.Gf

theorem ev_two {x r : Nat} (hx : x < 1024) (_hr : r < 1024) : ev r [1, x] = gm x r ^^^ 1 := by
  have e : gm 0 r = 0 := gm_zero_left _
  show gm (gm 0 r ^^^ (x % 1024)) r ^^^ (1 % 1024) = _
  rw [e, Nat.zero_xor, Nat.mod_eq_of_lt hx]
theorem ev_one' {c r : Nat} (hc : c < 1024) : ev r [c] = c := by
  have e : gm 0 r = 0 := gm_zero_left _
  show gm 0 r ^^^ (c % 1024) = _
  rw [e, Nat.zero_xor, Nat.mod_eq_of_lt hc]
theorem ev_slope_two {x r : Nat} (hx : x < 1024) (hr : r < 1024) : ev r (slope [1, x]) = x := by
  have : ev r (slope [1, x]) = ev r [x] := ev_ext r hr fun j => by
    rcases Nat.eq_zero_or_pos j with h0 | h0
    · subst h0
      rw [at_slope, if_pos (by decide), at_two, if_neg (by decide), if_pos (by decide)]
      show x % 1024 % 1024 = x % 1024
      omega
    · have e1 : at_ [1, x] (j + 1) = 0 := at_far (by simp; omega)
      have e2 : at_ [x] j = 0 := at_far (by simp; omega)
      rw [at_slope, e1, e2]
      split <;> rfl
  rw [this, ev_one' hx]
section
variable {p : Nat × Nat} {ps : Errs} {r : Nat}
theorem sizes (h : Gd (p :: ps)) : (tr [gm p.2 p.1]).length ≤ 1 ∧ (tr [1, p.1]).length ≤ 2 ∧ (tr (Lo ps)).length ≤ 1001 ∧ (tr (Om ps)).length ≤ 1001 := by
  have h1 := Lo_len h.tail
  have h2 := Om_len h.tail
  have h3 := h.tail.len
  refine ⟨Nat.le_trans (tr_len _) (Nat.le_refl _), Nat.le_trans (tr_len _) (Nat.le_refl _), ?_, ?_⟩
  · rw [Lo_tr]; omega
  · rw [Om_tr]; omega
theorem ev_Lo (h : Gd (p :: ps)) (hr : r < 1024) : ev r (Lo (p :: ps)) = gm (gm p.1 r ^^^ 1) (ev r (Lo ps)) := by
  obtain ⟨_, s2, s3, _⟩ := sizes h
  show ev r (pmul [1, p.1] (Lo ps)) = _
  rw [ev_pmul r hr (by omega), ev_two h.head.2.1 hr]
theorem ev_Om (h : Gd (p :: ps)) (hr : r < 1024) : ev r (Om (p :: ps)) = gm (gm p.2 p.1) (ev r (Lo ps)) ^^^ gm (gm p.1 r ^^^ 1) (ev r (Om ps)) := by
  obtain ⟨s1, s2, s3, s4⟩ := sizes h
  show ev r (padd (pmul [gm p.2 p.1] (Lo ps)) (pmul [1, p.1] (Om ps))) = _
  rw [ev_padd r hr, ev_pmul r hr (by omega), ev_pmul r hr (by omega), ev_two h.head.2.1 hr, ev_one' (gm_lt _ h.head.2.2.2)]
theorem ev_dL (h : Gd (p :: ps)) (hr : r < 1024) : ev r (slope (Lo (p :: ps))) = gm p.1 (ev r (Lo ps)) ^^^ gm (gm p.1 r ^^^ 1) (ev r (slope (Lo ps))) := by
  obtain ⟨s1, s2, s3, s4⟩ := sizes h
  have hsl := slope_len (Lo ps)
  have hs2 := slope_len [1, p.1]
  show ev r (slope (pmul [1, p.1] (Lo ps))) = _
  rw [slope_pmul (by omega), ev_padd r hr, ev_pmul r hr (by omega), ev_pmul r hr (by omega), ev_two h.head.2.1 hr, ev_slope_two h.head.2.1 hr]
end
theorem one_inv {x y r : Nat} (hx : x < 1024) (hy : y < 1024) (hr : r < 1024) (h1 : gm x r = 1) (h2 : gm y r = 1) : x = y := by
  rw [gm_comm hx hr] at h1
  rw [gm_comm hy hr] at h2
  rw [ginv_unique hr hx h1, ginv_unique hr hy h2]
theorem xor_one {a : Nat} (h : a ^^^ 1 = 0) : a = 1 := xor_zero_eq h
theorem Lo_root {ps : Errs} (h : Gd ps) {r : Nat} (hr : r < 1024) : ev r (Lo ps) = 0 ↔ ∃ p ∈ ps, gm p.1 r = 1 := by
  induction ps with
  | nil =>
    have : ev r (Lo []) = 1 := ev_one' (by decide)
    rw [this]
    constructor
    · intro h; cases h
    · rintro ⟨p, hp, _⟩; cases hp
  | cons p ps ih =>
    have ih := ih h.tail
    have hx := gm_lt r h.head.2.1
    rw [ev_Lo h hr, gm_eq_zero (xor_lt hx (by decide)) (ev_lt _ _), ih]
    constructor
    · rintro (h1 | ⟨q, hq, h1⟩)
      · exact ⟨p, List.mem_cons_self, xor_one h1⟩
      · exact ⟨q, List.mem_cons_of_mem _ hq, h1⟩
    · rintro ⟨q, hq, h1⟩
      rcases List.mem_cons.1 hq with rfl | hq
      · left; rw [h1, Nat.xor_self]
      · exact Or.inr ⟨q, hq, h1⟩
/-- WHAT IS WRONG IS THE EVALUATOR BY THE LOCATOR's SLOPE -/
theorem forney {ps : Errs} (h : Gd ps) {r : Nat} (hr : r < 1024) {p : Nat × Nat} (hp : p ∈ ps) (h1 : gm p.1 r = 1) :
    ev r (slope (Lo ps)) ≠ 0 ∧ ev r (Om ps) = gm p.2 (ev r (slope (Lo ps))) := by
  induction ps with
  | nil => cases hp
  | cons q ps ih =>
    have hh := h.head
    have hb := h.bd p hp
    have hnd := List.nodup_cons.1 (by simpa using h.nd : (q.1 :: ps.map Prod.fst).Nodup)
    rw [ev_dL h hr, ev_Om h hr]
    have hLlt := ev_lt r (Lo ps)
    by_cases hq : q.1 = p.1
    · -- the first one
      have hL : ev r (Lo ps) ≠ 0 := by
        intro h0
        obtain ⟨s, hs, hs1⟩ := (Lo_root h.tail hr).1 h0
        have := one_inv hb.2.1 (h.tail.bd s hs).2.1 hr h1 hs1
        exact hnd.1 (hq ▸ this ▸ List.mem_map_of_mem hs)
      have hpq : p = q := by
        rcases List.mem_cons.1 hp with e | e
        · exact e
        · exact absurd (hq ▸ List.mem_map_of_mem (f := Prod.fst) e) hnd.1
      subst hpq
      have z : gm p.1 r ^^^ 1 = 0 := by rw [h1, Nat.xor_self]
      have z1 : gm 0 (ev r (slope (Lo ps))) = 0 := gm_zero_left _
      have z2 : gm 0 (ev r (Om ps)) = 0 := gm_zero_left _
      rw [z, z1, z2, Nat.xor_zero, Nat.xor_zero]
      refine ⟨?_, gm_assoc hb.2.2.2 hb.2.1 hLlt⟩
      intro h0
      rcases (gm_eq_zero hb.2.1 hLlt).1 h0 with h2 | h2
      · exact hb.1 h2
      · exact hL h2
    · have hp' : p ∈ ps := by
        rcases List.mem_cons.1 hp with e | e
        · exact absurd (by rw [e]) hq
        · exact e
      obtain ⟨i1, i2⟩ := ih h.tail hp'
      have hL : ev r (Lo ps) = 0 := (Lo_root h.tail hr).2 ⟨p, hp', h1⟩
      have hk : gm q.1 r ^^^ 1 ≠ 0 := fun h0 => hq (one_inv hh.2.1 hb.2.1 hr (xor_one h0) h1)
      have hkl : gm q.1 r ^^^ 1 < 1024 := xor_lt (gm_lt _ hh.2.1) (by decide)
      have hsl := ev_lt r (slope (Lo ps))
      rw [hL, gm_zero_right, gm_zero_right, Nat.zero_xor, Nat.zero_xor]
      refine ⟨?_, ?_⟩
      · intro h0
        rcases (gm_eq_zero hkl hsl).1 h0 with h2 | h2
        · exact hk h2
        · exact i1 h2
      · rw [i2, ← gm_assoc hkl hb.2.2.2 hsl, gm_comm hkl hb.2.2.2, gm_assoc hb.2.2.2 hkl hsl]
end Go.Proofs.YtjhoecfhmndcgaaGreat
namespace Go.Proofs.YtjhoecfhmndcgaaGreat
open Go.Gf

/-- what holds all along the divisions: a, b the last two rests, u, v what the sums are multiplied by for them -/
structure EI (S : Nat → Nat) (a b u v : List Nat) : Prop where
  ta : tr a = a
  tb : tr b = b
  tu : tr u = u
  tv : tr v = v
  one : ∀ j, cv (at_ a) (at_ v) j ^^^ cv (at_ b) (at_ u) j = if j = 16 then 1 else 0
  sv : ∀ j, j < 16 → cv (at_ v) S j = at_ b j
  su : ∀ j, j < 16 → cv (at_ u) S j = at_ a j
  len : v.length + a.length = 18
  lv : 1 ≤ v.length
  lu : u.length ≤ v.length
  lb : b.length < a.length
def x16 : List Nat := [0, 0, 0, 0, 0, 0, 0, 0, 0, 0, 0, 0, 0, 0, 0, 0, 1]
theorem at_x16 (j : Nat) : at_ x16 j = if j = 16 then 1 else 0 := by
  rcases Nat.lt_or_ge j 17 with h | h
  · exact (by decide : ∀ j : Fin 17, at_ x16 j = if j.val = 16 then 1 else 0) ⟨j, h⟩
  · rw [at_far (by simpa [x16] using h), if_neg (by omega)]
theorem x16_tr : tr x16 = x16 := by decide
theorem cv_nil_left (g : Nat → Nat) (j : Nat) : cv (at_ []) g j = 0 := X_zero fun _ _ => gm_zero_left _
theorem cv_one_left (g : Nat → Nat) (hg : ∀ i, g i < 1024) (j : Nat) : cv (at_ [1]) g j = g j := by
  have : cv (at_ [1]) g j = cv (fun i => if i = 0 then 1 else 0) g j := cv_congr (fun i => at_one 1 i) (fun _ => rfl) j
  rw [this, cv_delta, if_pos (Nat.zero_le _), Nat.sub_zero, gm_one_left (hg j)]
theorem ei_start {S : List Nat} (hS : tr S = S) (hl : S.length ≤ 16) : EI (at_ S) x16 S [] [1] := by
  have hb := at_lt_tr hS
  refine ⟨x16_tr, hS, rfl, rfl, fun j => ?_, fun j _ => cv_one_left _ hb j, fun j hj => ?_, rfl, Nat.le_refl _, Nat.zero_le _, by simp [x16]; omega⟩
  · have e1 : cv (at_ S) (at_ []) j = 0 := X_zero fun i _ => gm_zero_right _
    rw [e1, Nat.xor_zero, cv_comm (at_lt_tr x16_tr) (at_lt_tr (rfl : tr [1] = [1])), cv_one_left _ (at_lt_tr x16_tr), at_x16]
  · rw [cv_nil_left, at_x16, if_neg (by omega)]
section
variable {S : Nat → Nat} {a b u v : List Nat}
theorem ei_step (h : EI S a b u v) (hS : ∀ i, S i < 1024) (h9 : 9 ≤ b.length) : EI S b (prem a b) v (padd u (pmul (pquo a b) v)) ∧ (prem a b).length < b.length := by
  have hne : tr b ≠ [] := by rw [h.tb]; intro e; rw [e] at h9; simp at h9
  have hlen := h.len
  have hlv := h.lv
  have hlu := h.lu
  have hlb := h.lb
  have hA := at_lt_tr h.ta
  have hB := at_lt_tr h.tb
  have hU := at_lt_tr h.tu
  have hV := at_lt_tr h.tv
  have tq : tr (pquo a b) = pquo a b := tr_pquo
  have trr : tr (prem a b) = prem a b := tr_prem
  have hQ := at_lt_tr tq
  have hR := at_lt_tr trr
  have lq : (pquo a b).length = a.length + 1 - b.length := by rw [pquo_len hne]; unfold divN; rw [h.ta, h.tb]
  have lr : (prem a b).length < b.length := by have := prem_len (xs := a) hne; rwa [h.tb] at this
  have hqv : (tr (pquo a b)).length + (tr v).length - 1 ≤ 4096 := by rw [tq, h.tv]; omega
  have hqb : (tr (pquo a b)).length + (tr b).length - 1 ≤ 4096 := by rw [tq, h.tb]; omega
  -- a = q b + r
  have ea : ∀ j, at_ a j = cv (at_ (pquo a b)) (at_ b) j ^^^ at_ (prem a b) j := by
    intro j
    have e := quo_rem (xs := a) (ys := b) hne (by rw [h.ta, h.tb]; omega)
    rw [h.ta] at e
    have e2 : at_ (padd (pmul (pquo a b) b) (prem a b)) j = at_ a j := by rw [e]
    rw [at_padd, at_pmul hqb, tq, h.tb, Nat.mod_eq_of_lt (cv_lt _ hQ j), Nat.mod_eq_of_lt (hR j)] at e2
    exact e2.symm
  have ev : ∀ j, at_ (padd u (pmul (pquo a b) v)) j = at_ u j ^^^ cv (at_ (pquo a b)) (at_ v) j := by
    intro j
    rw [at_padd, at_pmul hqv, tq, h.tv, Nat.mod_eq_of_lt (hU j), Nat.mod_eq_of_lt (cv_lt _ hQ j)]
  have hqne : tr (pquo a b) ≠ [] := by rw [tq]; intro e; rw [e] at lq; simp at lq; omega
  have hvne : tr v ≠ [] := by rw [h.tv]; intro e; rw [e] at hlv; simp at hlv
  have lqv : (pmul (pquo a b) v).length = 18 - b.length := by
    have := pmul_len hqv hqne hvne
    rw [tq, h.tv] at this
    omega
  have lnew : (padd u (pmul (pquo a b) v)).length = 18 - b.length := by
    rw [padd_len_ne (by rw [h.tu, tr_pmul, lqv]; omega), h.tu, tr_pmul, lqv]; omega
  refine ⟨⟨h.tb, trr, h.tv, tr_padd _ _, fun j => ?_, fun j hj => ?_, h.sv, by omega, by omega, by omega, lr⟩, lr⟩
  · rw [← h.one j]
    have e1 : cv (at_ b) (at_ (padd u (pmul (pquo a b) v))) j = cv (at_ b) (at_ u) j ^^^ cv (at_ b) (cv (at_ (pquo a b)) (at_ v)) j := by
      rw [← cv_xor_right]
      exact cv_congr (fun _ => rfl) ev j
    have e2 : cv (at_ a) (at_ v) j = cv (cv (at_ (pquo a b)) (at_ b)) (at_ v) j ^^^ cv (at_ (prem a b)) (at_ v) j := by
      rw [← cv_xor_left (cv_lt _ hQ) hR]
      exact cv_congr ea (fun _ => rfl) j
    have e3 : cv (cv (at_ (pquo a b)) (at_ b)) (at_ v) j = cv (at_ b) (cv (at_ (pquo a b)) (at_ v)) j := by
      rw [← cv_assoc hB hQ hV]
      exact cv_congr (fun i => cv_comm hQ hB i) (fun _ => rfl) j
    rw [e1, e2, e3]
    generalize cv (at_ b) (at_ u) j = p
    generalize cv (at_ b) (cv (at_ (pquo a b)) (at_ v)) j = q
    generalize cv (at_ (prem a b)) (at_ v) j = s
    rw [Nat.xor_comm p q, Nat.xor_assoc, Nat.xor_assoc, Nat.xor_comm p s]
  · have e1 : cv (at_ (padd u (pmul (pquo a b) v))) S j = cv (at_ u) S j ^^^ cv (cv (at_ (pquo a b)) (at_ v)) S j := by
      rw [← cv_xor_left hU (cv_lt _ hQ)]
      exact cv_congr ev (fun _ => rfl) j
    have e2 : cv (cv (at_ (pquo a b)) (at_ v)) S j = cv (at_ (pquo a b)) (at_ b) j := by
      rw [cv_assoc hQ hV hS]
      exact cv_upto (fun _ _ => rfl) (fun i hi => h.sv i (by omega))
    rw [e1, e2, h.su j hj, ea j]
    generalize cv (at_ (pquo a b)) (at_ b) j = q
    rw [Nat.xor_comm q, Nat.xor_assoc, Nat.xor_self, Nat.xor_zero]
end
end Go.Proofs.YtjhoecfhmndcgaaGreat
namespace Go.Proofs.YtjhoecfhmndcgaaGreat
open Go.Gf

theorem ev_zero (p : List Nat) : ev 0 p = at_ p 0 % 1024 := by
  cases p with
  | nil => rfl
  | cons c p =>
    show gm (ev 0 p) 0 ^^^ (c % 1024) = c % 1024
    rw [gm_zero_right, Nat.zero_xor]
/-- x times the product of (x + q), q from a list -/
def rp : List Nat → List Nat
  | [] => [0, 1]
  | q :: qs => pmul (rp qs) [q, 1]
theorem tr_pair (q : Nat) : tr [q, 1] = [q % 1024, 1] := by
  have : ([q, 1] : List Nat) = [q] ++ [1] := rfl
  rw [this, tr_snoc, if_neg (by decide)]
  rfl
theorem rp_tr (qs : List Nat) : tr (rp qs) = rp qs := by
  cases qs with
  | nil => show tr [0, 1] = [0, 1]; rw [tr_pair]
  | cons q qs => exact tr_pmul _ _
theorem rp_len {qs : List Nat} (h : qs.length ≤ 2000) : (rp qs).length ≤ qs.length + 2 := by
  induction qs with
  | nil => exact Nat.le_refl _
  | cons q qs ih =>
    have ih := ih (by simp at h; omega)
    simp at h
    have h1 : (tr [q, 1]).length = 2 := by rw [tr_pair]; rfl
    have e : rp (q :: qs) = pmul (rp qs) [q, 1] := rfl
    rw [e, pmul_eq (by rw [rp_tr, h1]; omega), List.length_cons]
    -- the product's length
    have hl : (pmul (rp qs) [q, 1]).length ≤ (rp qs).length + 1 := by
      unfold pmul
      split
      · exact Nat.zero_le _
      · refine Nat.le_trans (tr_len _) ?_
        rw [rm_len, rp_tr, h1]; omega
    rw [← pmul_eq (by rw [rp_tr, h1]; omega)]
    omega
/-- the product of (x + q) at x -/
def rtp (x : Nat) : List Nat → Nat
  | [] => 1
  | q :: qs => gm (rtp x qs) (x ^^^ q)
theorem rtp_lt {x : Nat} {qs : List Nat} : rtp x qs < 1024 := by
  induction qs with
  | nil => show 1 < 1024; decide
  | cons q qs ih => exact gm_lt _ ih
theorem ev_pair {x q : Nat} (hx : x < 1024) (hq : q < 1024) : ev x [q, 1] = x ^^^ q := by
  show gm (gm 0 x ^^^ (1 % 1024)) x ^^^ (q % 1024) = _
  rw [gm_zero_left, Nat.zero_xor, Nat.mod_eq_of_lt hq, show 1 % 1024 = 1 from rfl, gm_one_left hx]
theorem ev_rp {x : Nat} {qs : List Nat} (hx : x < 1024) (h : qs.length ≤ 2000) (hq : ∀ q ∈ qs, q < 1024) : ev x (rp qs) = gm x (rtp x qs) := by
  induction qs with
  | nil =>
    show ev x [0, 1] = gm x 1
    rw [ev_pair hx (by decide), Nat.xor_zero, gm_one_right]
  | cons q qs ih =>
    simp at h
    have ih := ih (by omega) (fun y hy => hq y (List.mem_cons_of_mem _ hy))
    have hl := rp_len (qs := qs) (by omega)
    have h1 : (tr [q, 1]).length = 2 := by rw [tr_pair]; rfl
    have hqq := hq q List.mem_cons_self
    show ev x (pmul (rp qs) [q, 1]) = gm x (gm (rtp x qs) (x ^^^ q))
    rw [ev_pmul x hx (by rw [rp_tr, h1]; omega), ih, ev_pair hx hqq, gm_assoc hx rtp_lt (xor_lt hx hqq)]
theorem rtp_zero {x : Nat} {qs : List Nat} (hx : x < 1024) (hq : ∀ q ∈ qs, q < 1024) : rtp x qs = 0 ↔ x ∈ qs := by
  induction qs with
  | nil => constructor
           · intro h; cases h
           · intro h; cases h
  | cons q qs ih =>
    have ih := ih fun y hy => hq y (List.mem_cons_of_mem _ hy)
    have hqq := hq q List.mem_cons_self
    show gm (rtp x qs) (x ^^^ q) = 0 ↔ _
    rw [gm_eq_zero rtp_lt (xor_lt hx hqq), ih, List.mem_cons]
    constructor
    · rintro (h | h)
      · exact Or.inr h
      · left
        have : (x ^^^ q) ^^^ q = 0 ^^^ q := by rw [h]
        rwa [Nat.xor_assoc, Nat.xor_self, Nat.xor_zero, Nat.zero_xor] at this
    · rintro (h | h)
      · right; rw [h, Nat.xor_self]
      · exact Or.inl h

/-- what place j of a word of n symbols stands for -/
def loc (n j : Nat) : Nat := E (n - 1 - j)
theorem loc_lt (n j : Nat) : loc n j < 1024 := E_lt _
theorem loc_inj {n i j : Nat} (hn : n ≤ 1023) (hi : i < n) (hj : j < n) (h : loc n i = loc n j) : i = j := by
  have := E_inj.1 h
  rw [Nat.mod_eq_of_lt (by omega), Nat.mod_eq_of_lt (by omega)] at this
  omega
/-- the i-th sum of a word -/
def syn (n : Nat) (d : Nat → Nat) (i : Nat) : Nat := X n fun j => gm (d j) (gpow (loc n j) i)
/-- A WORD WHOSE FIRST m SUMS ARE NOUGHT, AND THAT HAS AT MOST m SYMBOLS OTHER THAN NOUGHT, IS NOUGHT -/
theorem rs_zero {n m : Nat} {d : Nat → Nat} (hn : n ≤ 1023) (hm : m ≤ 1000) (hd : ∀ j, d j < 1024) (hs : ∀ i, 1 ≤ i → i ≤ m → syn n d i = 0) (P : List Nat) (hP : P.length ≤ m) (hsup : ∀ j, j < n → d j ≠ 0 → j ∈ P) :
    ∀ j, j < n → d j = 0 := by
  intro p hp
  rcases Nat.eq_zero_or_pos (d p) with h0 | h0
  · exact h0
  exfalso
  have hpP := hsup p hp (by omega)
  let Q := (P.erase p).filter (fun q => decide (q < n) && decide (q ≠ p))
  have hQl : Q.length + 1 ≤ m := by
    have h1 : Q.length ≤ (P.erase p).length := List.length_filter_le _ _
    have h2 := List.length_erase_of_mem hpP
    have h3 := List.length_pos_iff.2 (List.ne_nil_of_mem hpP)
    omega
  have hQ : ∀ q ∈ Q, q < n ∧ q ≠ p := by
    intro q hq
    have := (List.mem_filter.1 hq).2
    simpa using this
  have hQs : ∀ j, j < n → j ≠ p → d j ≠ 0 → j ∈ Q := by
    intro j hj hjp hdj
    refine List.mem_filter.2 ⟨(List.mem_erase_of_ne hjp).2 (hsup j hj hdj), by simp [hj, hjp]⟩
  have qs : ∀ q ∈ Q.map (loc n), q < 1024 := by
    intro q hq
    obtain ⟨y, _, rfl⟩ := List.mem_map.1 hq
    exact loc_lt n y
  have hlen : (Q.map (loc n)).length ≤ 2000 := by rw [List.length_map]; omega
  have hL := rp_len hlen
  rw [List.length_map] at hL
  -- the sum over all places, of the symbols times the polynomial's values
  have hsum : (X n fun j => gm (d j) (ev (loc n j) (rp (Q.map (loc n))))) = 0 := by
    have e1 : (X n fun j => gm (d j) (ev (loc n j) (rp (Q.map (loc n))))) = X (Q.length + 2) fun i => gm (at_ (rp (Q.map (loc n))) i % 1024) (syn n d i) := by
      have : ∀ j, gm (d j) (ev (loc n j) (rp (Q.map (loc n)))) = X (Q.length + 2) fun i => gm (at_ (rp (Q.map (loc n))) i % 1024) (gm (d j) (gpow (loc n j) i)) := by
        intro j
        rw [ev_more (loc n j) (loc_lt n j) _ hL, X_mul_left]
        refine X_congr fun i _ => ?_
        have h1 : at_ (rp (Q.map (loc n))) i % 1024 < 1024 := Nat.mod_lt _ (by decide)
        rw [← gm_assoc (hd j) h1 (gpow_lt i), gm_comm (hd j) h1, gm_assoc h1 (hd j) (gpow_lt i)]
      rw [X_congr (fun j _ => this j), X_swap]
      refine X_congr fun i _ => ?_
      rw [← X_mul_left]; rfl
    rw [e1]
    refine X_zero fun i hi => ?_
    rcases Nat.eq_zero_or_pos i with h1 | h1
    · subst h1
      have h2 : at_ (rp (Q.map (loc n))) 0 % 1024 = 0 := by
        rw [← ev_zero, ev_rp (by decide) hlen qs, gm_zero_left]
      rw [h2, gm_zero_left]
    · rw [hs i h1 (by omega), gm_zero_right]
  have hone : (X n fun j => gm (d j) (ev (loc n j) (rp (Q.map (loc n))))) = gm (d p) (ev (loc n p) (rp (Q.map (loc n)))) := by
    refine X_one (f := fun j => gm (d j) (ev (loc n j) (rp (Q.map (loc n))))) hp fun j hj hjp => ?_
    show gm (d j) (ev (loc n j) (rp (Q.map (loc n)))) = 0
    by_cases hdj : d j = 0
    · rw [hdj, gm_zero_left]
    · have hjQ := hQs j hj hjp hdj
      have : ev (loc n j) (rp (Q.map (loc n))) = 0 := by
        rw [ev_rp (loc_lt n j) hlen qs, (rtp_zero (loc_lt n j) qs).2 (List.mem_map_of_mem hjQ), gm_zero_right]
      rw [this, gm_zero_right]
  rw [hone] at hsum
  rcases (gm_eq_zero (hd p) (ev_lt _ _)).1 hsum with h1 | h1
  · omega
  · rw [ev_rp (loc_lt n p) hlen qs] at h1
    rcases (gm_eq_zero (loc_lt n p) rtp_lt).1 h1 with h2 | h2
    · exact E_ne _ h2
    · have := (rtp_zero (loc_lt n p) qs).1 h2
      obtain ⟨q, hq, hqe⟩ := List.mem_map.1 this
      obtain ⟨hqn, hqp⟩ := hQ q hq
      exact hqp (loc_inj hn hqn hp hqe)
end Go.Proofs.YtjhoecfhmndcgaaGreat
namespace Go.Proofs.YtjhoecfhmndcgaaGreat

theorem ext_at {a b : List Nat} (hl : a.length = b.length) (h : ∀ j, j < a.length → at_ a j = at_ b j) : a = b := by
  apply List.ext_getElem hl
  intro j h1 h2
  have := h j h1
  rwa [at_get h1, at_get h2] at this
/-- n bits as a number, the highest first -/
def ofB : Nat → (Nat → Bool) → Nat
  | 0, _ => 0
  | n + 1, f => 2 * ofB n f + if f n then 1 else 0
theorem ofB_congr {n : Nat} {f g : Nat → Bool} (h : ∀ k, k < n → f k = g k) : ofB n f = ofB n g := by
  induction n with
  | zero => rfl
  | succ n ih => unfold ofB; rw [ih fun k hk => h k (by omega), h n (by omega)]
theorem ofB_bit (n : Nat) (f : Nat → Bool) (t : Nat) : (ofB n f).testBit t = (decide (t < n) && f (n - 1 - t)) := by
  induction n generalizing t with
  | zero => simp [ofB]
  | succ n ih =>
    unfold ofB
    cases t with
    | zero =>
      rw [Nat.testBit_zero]
      cases hf : f n <;> simp [hf] <;> omega
    | succ t =>
      rw [Nat.testBit_succ]
      have e : (2 * ofB n f + if f n = true then 1 else 0) / 2 = ofB n f := by split <;> omega
      rw [e, ih]
      have e2 : n + 1 - 1 - (t + 1) = n - 1 - t := by omega
      rw [e2]
      congr 1
      simp
theorem ofB_lt (n : Nat) (f : Nat → Bool) : ofB n f < 2 ^ n := by
  induction n with
  | zero => simp [ofB]
  | succ n ih => unfold ofB; rw [Nat.pow_succ]; split <;> omega
theorem ofB_of {n v : Nat} (h : v < 2 ^ n) : ofB n (fun k => v.testBit (n - 1 - k)) = v := by
  apply Nat.eq_of_testBit_eq
  intro t
  rw [ofB_bit]
  by_cases ht : t < n
  · rw [show n - 1 - (n - 1 - t) = t by omega]; simp [ht]
  · have : v.testBit t = false := Nat.testBit_lt_two_pow (Nat.lt_of_lt_of_le h (Nat.pow_le_pow_right (by decide) (by omega)))
    rw [this]; simp [ht]
/-- bit i of bytes, of symbols -/
def bit8 (xs : List Nat) (i : Nat) : Bool := (at_ xs (i / 8)).testBit (7 - i % 8)
def bit10 (s : List Nat) (i : Nat) : Bool := (at_ s (i / 10)).testBit (9 - i % 10)
def symN (n : Nat) : Nat := (8 * n + 9) / 10
def pk (xs : List Nat) : List Nat := rm (symN xs.length) fun j => ofB 10 fun k => bit8 xs (10 * j + k)
def upk (s : List Nat) (n : Nat) : List Nat := rm n fun j => ofB 8 fun k => bit10 s (8 * j + k)
section
variable {xs ys s : List Nat}
theorem pk_len (xs : List Nat) : (pk xs).length = symN xs.length := rm_len _ _
theorem upk_len (s : List Nat) (n : Nat) : (upk s n).length = n := rm_len _ _
theorem pk_bd (xs : List Nat) : ∀ y ∈ pk xs, y < 1024 := rm_mem fun _ _ => ofB_lt 10 _
theorem upk_bd (s : List Nat) (n : Nat) : ∀ y ∈ upk s n, y < 256 := rm_mem fun _ _ => ofB_lt 8 _
theorem bit8_far {i : Nat} (h : 8 * xs.length ≤ i) : bit8 xs i = false := by
  unfold bit8
  rw [at_far (by omega)]; simp
theorem bit10_far {i : Nat} (h : 10 * s.length ≤ i) : bit10 s i = false := by
  unfold bit10
  rw [at_far (by omega)]; simp
theorem bit10_pk (xs : List Nat) (i : Nat) : bit10 (pk xs) i = bit8 xs i := by
  rcases Nat.lt_or_ge (i / 10) (symN xs.length) with h | h
  · unfold bit10 pk
    rw [at_rm, if_pos h, ofB_bit, show 10 - 1 - (9 - i % 10) = i % 10 by omega, show 10 * (i / 10) + i % 10 = i by omega]
    simp; omega
  · rw [bit10_far (by rw [pk_len]; omega), bit8_far (by unfold symN at h; omega)]
theorem bit8_upk (s : List Nat) (n i : Nat) : bit8 (upk s n) i = (decide (i < 8 * n) && bit10 s i) := by
  by_cases h : i < 8 * n
  · unfold bit8 upk
    rw [at_rm, if_pos (by omega), ofB_bit, show 8 - 1 - (7 - i % 8) = i % 8 by omega, show 8 * (i / 8) + i % 8 = i by omega]
    simp [h]; omega
  · rw [bit8_far (by rw [upk_len]; omega)]; simp [h]
/-- rows of small numbers are known by their bits -/
theorem ext_bit8 (hl : xs.length = ys.length) (hx : ∀ x ∈ xs, x < 256) (hy : ∀ y ∈ ys, y < 256) (h : ∀ i, i < 8 * xs.length → bit8 xs i = bit8 ys i) : xs = ys := by
  refine ext_at hl fun j hj => ?_
  rw [← ofB_of (n := 8) (at_lt hx (by decide) : at_ xs j < 2 ^ 8), ← ofB_of (n := 8) (at_lt hy (by decide) : at_ ys j < 2 ^ 8)]
  refine ofB_congr fun k hk => ?_
  have := h (8 * j + k) (by omega)
  unfold bit8 at this
  rw [show (8 * j + k) / 8 = j by omega, show (8 * j + k) % 8 = k by omega] at this
  exact this
/-- packed, and back -/
theorem upk_pk (hx : ∀ x ∈ xs, x < 256) : upk (pk xs) xs.length = xs :=
  ext_bit8 (upk_len _ _) (upk_bd _ _) hx fun i hi => by
    rw [upk_len] at hi
    rw [bit8_upk, bit10_pk]; simp [hi]
end
/-- the symbols after i bits, the bytes after i bits -/
def pkTo (xs : List Nat) (i j : Nat) : Nat := ofB 10 fun k => decide (10 * j + k < i) && bit8 xs (10 * j + k)
theorem pkTo_zero (xs : List Nat) (j : Nat) : pkTo xs 0 j = 0 := by
  apply Nat.eq_of_testBit_eq; intro t
  unfold pkTo; rw [ofB_bit]; simp
theorem pkTo_end (xs : List Nat) (j : Nat) : pkTo xs (8 * xs.length) j = ofB 10 fun k => bit8 xs (10 * j + k) := by
  refine ofB_congr fun k _ => ?_
  by_cases h : 10 * j + k < 8 * xs.length
  · simp [h]
  · rw [bit8_far (by omega)]; simp
theorem pkTo_lt (xs : List Nat) (i j : Nat) : pkTo xs i j < 1024 := ofB_lt 10 _
/-- one bit more -/
theorem pkTo_step (xs : List Nat) (i j : Nat) : pkTo xs (i + 1) j = if j = i / 10 ∧ bit8 xs i = true then pkTo xs i j ||| 2 ^ (9 - i % 10) else pkTo xs i j := by
  have key : ∀ t, t < 10 → (decide (10 * j + (9 - t) < i + 1) && bit8 xs (10 * j + (9 - t))) = ((decide (10 * j + (9 - t) < i) && bit8 xs (10 * j + (9 - t))) || (decide (j = i / 10 ∧ 9 - i % 10 = t) && bit8 xs i)) := fun t ht => by
    by_cases h : 10 * j + (9 - t) = i
    · have h1 : j = i / 10 ∧ 9 - i % 10 = t := by omega
      rw [h]; simp [h1]
    · have h1 : ¬ (j = i / 10 ∧ 9 - i % 10 = t) := by omega
      by_cases h2 : 10 * j + (9 - t) < i
      · simp [h1, h2]; omega
      · have h3 : ¬ 10 * j + (9 - t) < i + 1 := by omega
        simp [h1, h2, h3]
  apply Nat.eq_of_testBit_eq
  intro t
  have e1 : (pkTo xs (i + 1) j).testBit t = (decide (t < 10) && (decide (10 * j + (9 - t) < i + 1) && bit8 xs (10 * j + (9 - t)))) := ofB_bit _ _ _
  have e2 : (pkTo xs i j).testBit t = (decide (t < 10) && (decide (10 * j + (9 - t) < i) && bit8 xs (10 * j + (9 - t)))) := ofB_bit _ _ _
  rw [e1]
  by_cases ht : t < 10
  · rw [key t ht]
    split
    · rename_i hc
      rw [Nat.testBit_or, e2, Nat.testBit_two_pow, hc.2]
      simp [ht, hc.1]
    · rename_i hc
      rw [e2]
      have : (decide (j = i / 10 ∧ 9 - i % 10 = t) && bit8 xs i) = false := by
        rw [Bool.eq_false_iff]
        intro h
        rw [Bool.and_eq_true, decide_eq_true_eq] at h
        exact hc ⟨h.1.1, h.2⟩
      rw [this, Bool.or_false]
  · simp only [ht, decide_false, Bool.false_and]
    split
    · rw [Nat.testBit_or, e2, Nat.testBit_two_pow]
      have : ¬ 9 - i % 10 = t := by omega
      simp [ht, this]
    · rw [e2]; simp [ht]
end Go.Proofs.YtjhoecfhmndcgaaGreat
namespace Go.Proofs.YtjhoecfhmndcgaaGreat
open Go.RowKit Go.Gf

def ub (n : Nat) : Value := .int .u8 (n : Int)
/-- a slice of bytes that holds xs, in blocks below B -/
def Sb (w : World) (B : Nat) (A : Option Addr) (xs : List Nat) : Prop := (∀ x ∈ xs, x < 256) ∧ (xs = [] ∨ ∃ a, A = some a ∧ a.block < B ∧ ∀ i (h : i < xs.length), w.cell? (a.add i) = some (ub xs[i]))
section
variable {w w' : World} {B B' : Nat} {A : Option Addr} {xs : List Nat}
theorem Sb.nil (w : World) (B : Nat) (A : Option Addr) : Sb w B A [] := ⟨by simp, Or.inl rfl⟩
theorem Sb.keep (h : Sb w B A xs) (hk : ∀ p : Addr, p.block < B → w'.cell? p = w.cell? p) : Sb w' B A xs := by
  refine ⟨h.1, ?_⟩
  rcases h.2 with e | ⟨a, e, h1, h2⟩
  · exact Or.inl e
  · exact Or.inr ⟨a, e, h1, fun i hi => by rw [hk _ (by rw [add_block]; exact h1)]; exact h2 i hi⟩
theorem Sb.more (h : Sb w B A xs) (hB : B ≤ B') : Sb w B' A xs := by
  refine ⟨h.1, ?_⟩
  rcases h.2 with e | ⟨a, e, h1, h2⟩
  · exact Or.inl e
  · exact Or.inr ⟨a, e, Nat.lt_of_lt_of_le h1 hB, h2⟩
theorem Sb.below (h : Sb w B A xs) (hb : Below B w w') : Sb w' B A xs := h.keep fun _ hp => hb.cell hp
theorem Sb.far (h : Sb w w.heap.size A xs) (hb : Below w.heap.size w w') : Sb w' w'.heap.size A xs := (h.below hb).more hb.size
theorem Sb.at_ {i : Nat} (h : Sb w B A xs) (hi : i < xs.length) : ∃ a, A = some a ∧ a.block < B ∧ w.cell? (a.add i) = some (.int .u8 ((xs[i] : Nat) : Int)) := by
  rcases h.2 with e | ⟨a, e, h1, h2⟩
  · rw [e] at hi; exact absurd hi (by simp)
  · exact ⟨a, e, h1, h2 i hi⟩
end
/-- block g holds these bytes, and no others -/
def Ab (w : World) (g : Nat) (cs : List Nat) : Prop := w.heap[g]? = some (.cells (cs.map ub).toArray 5 (0, 0))
section
variable {w w' : World} {g B : Nat} {cs : List Nat}
theorem Ab.lt (h : Ab w g cs) : g < w.heap.size := by
  rcases Nat.lt_or_ge g w.heap.size with hlt | hge
  · exact hlt
  · unfold Ab at h; rw [Array.getElem?_eq_none hge] at h; cases h
theorem Ab.cell (h : Ab w g cs) {i : Nat} (hi : i < cs.length) : w.cell? ⟨g, i, none⟩ = some (.int .u8 ((cs[i] : Nat) : Int)) := by
  rw [cell_of_row w g i _ 5 (0, 0) h]
  simp [hi, ub]
theorem Ab.frozen (h : Ab w g cs) (i : Nat) : w.frozen? ⟨g, i, none⟩ = false := by
  unfold Ab at h
  simp [World.frozen?, h]
theorem Ab.new (w : World) (cs : List Nat) : Ab (w.alloc (.cells (cs.map ub).toArray 5)) w.heap.size cs := heap_alloc_new w _
theorem Ab.set_ (h : Ab w g cs) (i n : Nat) : Ab (w.setCell ⟨g, i, none⟩ (.int .u8 (n : Int))) g (cs.set i n) := by
  unfold Ab at *
  simp only [World.setCell]
  rw [Array.getElem?_modify, h]
  simp [List.map_set, ub]
theorem Ab.sb (h : Ab w g cs) (hc : ∀ x ∈ cs, x < 256) : Sb w w.heap.size (some ⟨g, 0, none⟩) cs := by
  refine ⟨hc, Or.inr ⟨_, rfl, h.lt, fun i hi => ?_⟩⟩
  have e : (⟨g, 0, none⟩ : Addr).add i = ⟨g, i, none⟩ := by unfold Addr.add; split <;> simp_all
  rw [e]; exact h.cell hi
end
theorem made_ub (n : Nat) : madeCells #[.int .u8 0] n = ((List.replicate n 0).map ub).toArray := by
  unfold madeCells
  apply Array.ext
  · simp
  · intro i h1 h2
    simp [ub, Nat.mod_one]
theorem info5 : (Tryz.prog.info? 5).map (fun i => (i.zero, i.size, i.bytes)) = some (some (.int .u8 0), 1, 1) := by kernel_rfl

/-- a number, none below nought and none above 2^40 -/
def clampN (n : Int) : Nat := (min (max n 0) 1099511627776).toNat
def bytN (n : Nat) : Nat := 10 * n / 8
set_option maxHeartbeats 1000000 in
theorem refsymbols_any (n : Int) (w : World) : Calls Tryz.prog 55 #[.int .i64 n] w fun e w' => e = .returned (.int .i64 ((symN (clampN n) : Nat) : Int)) ∧ w = w' := by
  obtain ⟨m, hm⟩ : ∃ m : Nat, m = clampN n := ⟨_, rfl⟩
  have hm1 : m ≤ 1099511627776 := by rw [hm]; unfold clampN; omega
  have hs : ((symN m : Nat) : Int) = (8 * (m : Int) + 9) / 10 := by unfold symN; omega
  rw [← hm]
  rcases Int.lt_or_le n 0 with h0 | h0
  · have hn : m = 0 := by rw [hm]; unfold clampN; omega
    go_enter Tryz.func55, Tryz.ntmps55
    go_wp2_with fail
    go_ret
    exact ⟨by rw [hs, hn]; rfl, rfl⟩
  · rcases Int.lt_or_le 1099511627776 n with h1 | h1
    · have hn : m = 1099511627776 := by rw [hm]; unfold clampN; omega
      go_enter Tryz.func55, Tryz.ntmps55
      go_wp2_with fail
      go_ret
      exact ⟨by rw [hs, hn]; rfl, rfl⟩
    · have hn : n = (m : Int) := by rw [hm]; unfold clampN; omega
      clear hm
      subst hn
      go_enter Tryz.func55, Tryz.ntmps55
      go_wp2_with fail
      go_ret
      exact ⟨by rw [hs]; rfl, rfl⟩
set_option maxHeartbeats 1000000 in
theorem refbytes_any (n : Int) (w : World) : Calls Tryz.prog 36 #[.int .i64 n] w fun e w' => e = .returned (.int .i64 ((bytN (clampN n) : Nat) : Int)) ∧ w = w' := by
  obtain ⟨m, hm⟩ : ∃ m : Nat, m = clampN n := ⟨_, rfl⟩
  have hm1 : m ≤ 1099511627776 := by rw [hm]; unfold clampN; omega
  have hs : ((bytN m : Nat) : Int) = 10 * (m : Int) / 8 := by unfold bytN; omega
  rw [← hm]
  rcases Int.lt_or_le n 0 with h0 | h0
  · have hn : m = 0 := by rw [hm]; unfold clampN; omega
    go_enter Tryz.func36, Tryz.ntmps36
    go_wp2_with fail
    go_ret
    exact ⟨by rw [hs, hn]; rfl, rfl⟩
  · rcases Int.lt_or_le 1099511627776 n with h1 | h1
    · have hn : m = 1099511627776 := by rw [hm]; unfold clampN; omega
      go_enter Tryz.func36, Tryz.ntmps36
      go_wp2_with fail
      go_ret
      exact ⟨by rw [hs, hn]; rfl, rfl⟩
    · have hn : n = (m : Int) := by rw [hm]; unfold clampN; omega
      clear hm
      subst hn
      go_enter Tryz.func36, Tryz.ntmps36
      go_wp2_with fail
      go_ret
      exact ⟨by rw [hs]; rfl, rfl⟩
theorem shr_bit8 (X s : Nat) (hX : X < 256) : (bits .and .u8 ((X : Int) / 2 ^ s) 1 == 1) = X.testBit s := by
  have e : ((X : Int) / 2 ^ s) = ((X / 2 ^ s : Nat) : Int) := by push_cast; rfl
  have h : bits .and .u8 ((X / 2 ^ s : Nat) : Int) 1 = ((X / 2 ^ s &&& 1 : Nat) : Int) := u8_and_nat (X / 2 ^ s) 1 (Nat.lt_of_le_of_lt (Nat.div_le_self _ _) hX) (by decide)
  rw [e, h, nat_mask1, Nat.testBit_eq_decide_div_mod_eq]
  by_cases h2 : X / 2 ^ s % 2 = 1
  · rw [h2]; rfl
  · rw [show X / 2 ^ s % 2 = 0 by omega]; rfl
theorem wrap16 (s : Nat) (h : s < 16) : IntKind.u16.wrap (2 ^ s) = ((2 ^ s : Nat) : Int) := (by decide : ∀ s : Fin 16, IntKind.u16.wrap (2 ^ s.val) = ((2 ^ s.val : Nat) : Int)) ⟨s, h⟩
theorem or_set16 {V s : Nat} (hV : V < 1024) (hs : s < 10) : bits .or .u16 (V : Int) (IntKind.u16.wrap (2 ^ s)) = ((V ||| 2 ^ s : Nat) : Int) := by
  have : 2 ^ s < 1024 := Nat.pow_lt_pow_right (by decide) hs
  rw [wrap16 s (by omega), u16_or_nat V (2 ^ s) (by omega) (by omega)]
/-- a row of 16-bit numbers in new memory -/
def RowU (w : World) (ys : List Nat) (e : Ending) (w' : World) : Prop := ∃ g, e = .returned (.slice (some ⟨g, 0, none⟩) ys.length ys.length) ∧ w.heap.size ≤ g ∧ Arr w' g ys ∧ Below w.heap.size w w'
set_option maxHeartbeats 4000000 in
theorem refpack_any (A : Option Addr) (c : Nat) (xs : List Nat) (w : World) (h : Sb w w.heap.size A xs) (hl : xs.length ≤ 1000000) :
    Calls Tryz.prog 32 #[.slice A xs.length c] w (RowU w (pk xs)) := by
  have H := Lib.hid h
  clear h
  obtain ⟨n, hn⟩ : ∃ n, Hid (symN xs.length = n) := ⟨_, Lib.hid rfl⟩
  have hn1 : n ≤ 1000000 := by rw [← hn.out]; unfold symN; omega
  have hcl : clampN (xs.length : Int) = xs.length := by unfold clampN; omega
  have hc := refsymbols_any (xs.length : Int) w
  rw [hcl, hn.out] at hc
  replace hc := Lib.hid hc
  have hmk : ∀ w, (Instr.makeSlice 41 (.int .i64 (n : Int)) (.int .i64 (n : Int))).run Tryz.prog w = .ok (.slice (some ⟨w.heap.size, 0, none⟩) n n) (w.alloc (.cells (madeCells #[.int .u16 0] n) 46)) :=
    run_make_row' (P := Tryz.prog) 41 46 (.int .u16 0) 2 Tryz.underlying41 info22 rfl .i64 .i64 n (by omega) (by omega)
  go_enter Tryz.func32, Tryz.ntmps32
  go_wp2_with (go_at_call 55; (with_reducible refine hc.out.mono ?_); rintro e w1 ⟨rfl, rfl⟩)
  have hO := (own_start w n).congr (f' := pkTo xs 0) fun j _ => (pkTo_zero xs j).symm
  generalize w.alloc (.cells (madeCells #[.int .u16 0] n) 46) = w0 at hO ⊢
  go_loopw [4] (fun q wr => ∃ i : Nat, i ≤ 8 * xs.length ∧ q = .int .i64 i ∧ Own w wr w.heap.size n (pkTo xs i)) (fun q _ => 8 * xs.length - (intOf q).toNat)
  case atStart => exact ⟨0, Nat.zero_le _, rfl, hO⟩
  case round =>
    clear hO
    obtain ⟨i, hi, rfl, HO⟩ := hrel
    replace HO := Lib.hid HO
    by_cases hlt : i < 8 * xs.length
    · have hd : decide ((i : Int) < 8 * (xs.length : Int)) = true := by rw [decide_eq_true_eq]; omega
      obtain ⟨q, hq⟩ : ∃ q : Nat, (i : Int) / 8 = (q : Int) := ⟨i / 8, by omega⟩
      obtain ⟨s, hs⟩ : ∃ s : Nat, 7 - (i : Int) % 8 = (s : Int) := ⟨7 - i % 8, by omega⟩
      have hql : q < xs.length := by omega
      have hqI : (q : Int) < (xs.length : Int) := by omega
      have hs8 : s < 8 := by omega
      obtain ⟨a, hAe, hab, hcell⟩ := (H.out.far HO.out.2.1).at_ hql
      subst hAe
      have hx := H.out.1 xs[q] (List.getElem_mem hql)
      obtain ⟨q2, hq2⟩ : ∃ q : Nat, (i : Int) / 10 = (q : Int) := ⟨i / 10, by omega⟩
      obtain ⟨s2, hs2⟩ : ∃ s : Nat, 9 - (i : Int) % 10 = (s : Int) := ⟨9 - i % 10, by omega⟩
      have hs10 : s2 < 10 := by omega
      have hq2n : q2 < n := by have := hn.out; unfold symN at this; omega
      have hq2I : (q2 : Int) < (n : Int) := by omega
      have hc2 := HO.out.cell hq2n
      have hf2 := HO.out.2.2.frozen q2
      obtain ⟨X, hX⟩ : ∃ X, Hid (xs[q] = X) := ⟨_, Lib.hid rfl⟩
      rw [hX.out] at hcell hx
      obtain ⟨V, hV⟩ : ∃ V, Hid (pkTo xs i q2 = V) := ⟨_, Lib.hid rfl⟩
      have hV1 : V < 1024 := by rw [← hV.out]; exact pkTo_lt _ _ _
      rw [hV.out] at hc2
      have hbt := shr_bit8 X s hx
      have hbe : Hid (bit8 xs i = X.testBit s) := by
        unfold Hid bit8
        rw [show i / 8 = q by omega, show 7 - i % 8 = s by omega, at_get hql, hX.out]
      have hor := or_set16 hV1 hs10
      obtain ⟨b, hb⟩ : ∃ b, Hid (X.testBit s = b) := ⟨_, Lib.hid rfl⟩
      rw [hb.out] at hbt hbe
      cases b
      · have HO2 : Hid (Own w wr w.heap.size n (pkTo xs (i + 1))) := HO.out.congr fun j _ => by
          rw [pkTo_step, if_neg]
          intro h
          rw [hbe.out] at h
          cases h.2
        clear hc2 hf2 HO
        go_wp2_with fail
        go_roundw
        case rel => exact ⟨i + 1, by omega, by go_num, HO2.out⟩
        case measure => simp [intOf]; omega
      · have HO2 : Hid (Own w (wr.setCell ⟨w.heap.size, q2, none⟩ (.int .u16 ((V ||| 2 ^ s2 : Nat) : Int))) w.heap.size n (pkTo xs (i + 1))) := (HO.out.set_ q2 (V ||| 2 ^ s2)).congr fun j _ => by
          rw [pkTo_step, hbe.out]
          by_cases e : j = q2
          · rw [if_pos e, if_pos ⟨by omega, rfl⟩, e, hV.out, show 9 - i % 10 = s2 by omega]
          · rw [if_neg e, if_neg (fun h => e (by have := h.1; omega))]
        obtain ⟨Z, hZ⟩ : ∃ Z, Hid (V ||| 2 ^ s2 = Z) := ⟨_, Lib.hid rfl⟩
        rw [hZ.out] at hor HO2
        clear HO
        go_wp2_with fail
        go_roundw
        case rel => exact ⟨i + 1, by omega, by go_num, HO2.out⟩
        case measure => simp [intOf]; omega
    · obtain rfl : i = 8 * xs.length := by omega
      have hd : decide ((((8 * xs.length : Nat)) : Int) < 8 * (xs.length : Int)) = false := by rw [decide_eq_false_iff_not]; omega
      have hA := HO.out.2.2
      have e : rm n (pkTo xs (8 * xs.length)) = pk xs := by
        unfold pk
        rw [hn.out]
        exact rm_congr fun j _ => pkTo_end xs j
      rw [e] at hA
      have hpl : Hid ((pk xs).length = n) := by rw [← hn.out]; exact Lib.hid (pk_len xs)
      have hb := HO.out.2.1
      replace hA := Lib.hid hA
      replace hb := Lib.hid hb
      clear HO e
      go_wp2_with fail
      go_ret
      exact ⟨w.heap.size, by rw [hpl.out]; rfl, Nat.le_refl _, hA.out, hb.out⟩
/-- what Unpack answers: an error's number, and bytes -/
def upkE (s : List Nat) (n : Int) : Nat := if n < 0 ∨ (bytN s.length : Int) < n then 3 else if s.any (fun x => decide (1024 ≤ x)) = true then 1 else 0
def upkW (s : List Nat) (n : Int) : List Nat := if upkE s n = 0 then upk s n.toNat else []
/-- a slice of bytes and an error's number -/
def RowB (w : World) (ys : List Nat) (f : Nat) (e : Ending) (w' : World) : Prop := ∃ A c, e = .returned (.tuple #[.slice A ys.length c, .int .i64 (f : Int)]) ∧ ys.length ≤ c ∧ Sb w' w'.heap.size A ys ∧ Below w.heap.size w w'
theorem upkE_size {s : List Nat} {n : Int} (h : n < 0 ∨ (bytN s.length : Int) < n) : upkE s n = 3 := by unfold upkE; rw [if_pos h]
theorem upkE_big {s : List Nat} {n : Int} (h : ¬ (n < 0 ∨ (bytN s.length : Int) < n)) {k : Nat} (hk : k < s.length) (hb : 1024 ≤ s[k]) : upkE s n = 1 := by
  unfold upkE
  rw [if_neg h, if_pos]
  exact List.any_eq_true.2 ⟨s[k], List.getElem_mem hk, by simpa using hb⟩
theorem upkE_ok {s : List Nat} {n : Int} (h : ¬ (n < 0 ∨ (bytN s.length : Int) < n)) (hb : ∀ k (h : k < s.length), s[k] < 1024) : upkE s n = 0 := by
  unfold upkE
  rw [if_neg h, if_neg]
  intro e
  obtain ⟨x, hx, h2⟩ := List.any_eq_true.1 e
  obtain ⟨k, hk, rfl⟩ := List.getElem_of_mem hx
  have := hb k hk
  simp at h2; omega
/-- a row of bytes of one's own -/
def OwnB (w wr : World) (g n : Nat) (f : Nat → Nat) : Prop := w.heap.size ≤ g ∧ Below w.heap.size w wr ∧ Ab wr g (rm n f)
section
variable {w wr : World} {g n : Nat} {f f' : Nat → Nat}
theorem ownB_start (w : World) (n : Nat) : OwnB w (w.alloc (.cells (madeCells #[.int .u8 0] n) 5)) w.heap.size n (fun _ => 0) := by
  refine ⟨Nat.le_refl _, (Below.refl _ _).alloc (Nat.le_refl _) _, ?_⟩
  rw [made_ub, rm_zero]
  exact Ab.new w _
theorem OwnB.set_ (h : OwnB w wr g n f) (i v : Nat) : OwnB w (wr.setCell ⟨g, i, none⟩ (.int .u8 (v : Int))) g n (fun j => if j = i then v else f j) := by
  refine ⟨h.1, h.2.1.setCell h.1 _, ?_⟩
  rw [← rm_set]; exact h.2.2.set_ i v
theorem OwnB.congr (h : OwnB w wr g n f) (e : ∀ j, j < n → f j = f' j) : OwnB w wr g n f' := by
  refine ⟨h.1, h.2.1, ?_⟩
  rw [← rm_congr e]; exact h.2.2
theorem OwnB.cell (h : OwnB w wr g n f) {i : Nat} (hi : i < n) : wr.cell? ⟨g, i, none⟩ = some (.int .u8 ((f i : Nat) : Int)) := by
  have := h.2.2.cell (i := i) (by rw [rm_len]; exact hi)
  rw [rm_get] at this; exact this
end

end Go.Proofs.YtjhoecfhmndcgaaGreat
