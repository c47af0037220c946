/- Products of factors hang not on how they are bracketed; a polynomial has no more roots than its degree (plain mathematics). · The locator and the evaluator of what is wrong (plain mathematics). · The locator's roots, and what is wrong there (plain mathematics). · The divisions of Euclid find the locator and the evaluator (plain mathematics). · Where the divisions of Euclid end: the locator's roots and what is wrong there (plain mathematics). · Two words of the code that part in at most sixteen places are one (plain mathematics). · Words of the code, what is wrong in a word, and that one word of the code at most is near (plain mathematics). · What the decoder puts right (plain mathematics). · Encoding by taking away multiples of the generator (plain mathematics). · Words of the code: how far they lie apart, sums, multiples, noughts ahead, and turning one symbol (plain mathematics). -/
import Derived.Test.YtmchelbmeajcnaaPm
namespace Go.Proofs.Ytmchelbmeajcnaa
open Go.Gf

theorem X_from (k n : Nat) (F : Nat → Nat) : X (k + n) (fun i => if k ≤ i then F i else 0) = X n fun m => F (m + k) := by
  induction n with
  | zero => exact X_zero fun i hi => by rw [if_neg (by omega)]
  | succ n ih =>
    rw [← Nat.add_assoc, X_succ, ih, X_succ, if_pos (by omega), Nat.add_comm n k]
theorem cv_assoc {f g h : Nat → Nat} (hf : ∀ i, f i < 1024) (hg : ∀ i, g i < 1024) (hh : ∀ i, h i < 1024) (j : Nat) : cv (cv f g) h j = cv f (cv g h) j := by
  have e1 : cv (cv f g) h j = X (j + 1) fun i => X (j + 1) fun k => if k ≤ i then gm (f k) (gm (g (i - k)) (h (j - i))) else 0 := by
    unfold cv
    refine X_congr fun i hi => ?_
    rw [X_mul_right _ (fun k _ => gm_lt _ (hf k))]
    rw [X_more (n := i + 1) (m := j + 1) (by omega) (fun k h1 _ => by rw [if_neg (by omega)])]
    refine X_congr fun k hk => ?_
    rw [if_pos (by omega), gm_assoc (hf k) (hg _) (hh _)]
  rw [e1, X_swap]
  unfold cv
  refine X_congr fun k hk => ?_
  rw [X_mul_left]
  have := X_from k (j + 1 - k) (fun i => gm (f k) (gm (g (i - k)) (h (j - i))))
  rw [show k + (j + 1 - k) = j + 1 by omega] at this
  rw [this, show j - k + 1 = j + 1 - k by omega]
  refine X_congr fun m hm => ?_
  rw [show m + k - k = m by omega, show j - (m + k) = j - k - m by omega]
/-- only the first places matter -/
theorem cv_upto {f g f' g' : Nat → Nat} {j : Nat} (hf : ∀ i, i ≤ j → f i = f' i) (hg : ∀ i, i ≤ j → g i = g' i) : cv f g j = cv f' g' j := by
  unfold cv
  exact X_congr fun i hi => by rw [hf i (by omega), hg (j - i) (by omega)]

/-! roots -/
/-- division by (x + r) -/
def sq (r : Nat) : List Nat → List Nat
  | [] => []
  | _ :: p => ev r p :: sq r p
theorem gm_swap {a b c : Nat} (ha : a < 1024) (hb : b < 1024) (hc : c < 1024) : gm (gm a b) c = gm (gm a c) b := by
  rw [gm_assoc ha hb hc, gm_comm hb hc, ← gm_assoc ha hc hb]
theorem sq_step {A B c x r : Nat} (hA : A < 1024) (hB : B < 1024) (hx : x < 1024) (hr : r < 1024) :
    gm (gm A (x ^^^ r) ^^^ B) x ^^^ c = gm (gm A x ^^^ B) (x ^^^ r) ^^^ (gm B r ^^^ c) := by
  have ht := xor_lt hx hr
  have e1 := gm_xor_left x (gm_lt (x ^^^ r) hA) hB
  have e2 := gm_xor_left (x ^^^ r) (gm_lt x hA) hB
  have e3 := gm_swap hA ht hx
  have e4 := gm_xor_right B x r
  rw [e1, e2, e3, e4]
  generalize gm (gm A x) (x ^^^ r) = p
  generalize gm B x = q
  generalize gm B r = s
  rw [Nat.xor_assoc p q c, Nat.xor_assoc p (q ^^^ s), Nat.xor_assoc q s, ← Nat.xor_assoc s s c, Nat.xor_self, Nat.zero_xor]
theorem ev_sq {x r : Nat} (hx : x < 1024) (hr : r < 1024) (p : List Nat) : ev x p = gm (ev x (sq r p)) (x ^^^ r) ^^^ ev r p := by
  induction p with
  | nil =>
    have e : gm 0 (x ^^^ r) = 0 := gm_zero_left _
    show 0 = gm 0 (x ^^^ r) ^^^ 0
    rw [e]; rfl
  | cons c p ih =>
    have he := ev_lt r p
    have e1 : ev x (c :: p) = gm (ev x p) x ^^^ (c % 1024) := rfl
    have e2 : ev x (sq r (c :: p)) = gm (ev x (sq r p)) x ^^^ (ev r p % 1024) := rfl
    have e3 : ev r (c :: p) = gm (ev r p) r ^^^ (c % 1024) := rfl
    rw [e1, e2, e3, ih, Nat.mod_eq_of_lt he]
    exact sq_step (ev_lt x (sq r p)) he hx hr
theorem at_sq (r : Nat) (p : List Nat) (j : Nat) : at_ (sq r p) j = ev r (p.drop (j + 1)) := by
  induction p generalizing j with
  | nil => rfl
  | cons c p ih =>
    cases j with
    | zero => rfl
    | succ j => exact ih j
theorem ev_const {r : Nat} (hr : r < 1024) {p : List Nat} (h : ∀ j, 0 < j → at_ p j % 1024 = 0) : ev r p = at_ p 0 % 1024 := by
  have : ev r p = ev r [at_ p 0] := ev_ext r hr fun j => by
    rcases Nat.eq_zero_or_pos j with h0 | h0
    · subst h0; rfl
    · rw [h j h0, at_far (by simp; omega)]
  rw [this]
  have e : gm 0 r = 0 := gm_zero_left _
  show gm 0 r ^^^ (at_ p 0 % 1024) = _
  rw [e, Nat.zero_xor]
theorem at_drop (p : List Nat) (k j : Nat) : at_ (p.drop k) j = at_ p (j + k) := by
  simp [at_, List.getD, List.getElem?_drop, Nat.add_comm]
/-- A POLYNOMIAL OF DEGREE m HAS AT MOST m ROOTS -/
theorem roots_le : ∀ (m : Nat) (p : List Nat), at_ p m % 1024 ≠ 0 → (∀ j, m < j → at_ p j % 1024 = 0) → ∀ rs : List Nat, rs.Nodup → (∀ r ∈ rs, r < 1024 ∧ ev r p = 0) → rs.length ≤ m := by
  intro m
  induction m with
  | zero =>
    intro p h0 hz rs _ hr
    cases rs with
    | nil => exact Nat.le_refl _
    | cons r rs =>
      obtain ⟨h1, h2⟩ := hr r List.mem_cons_self
      rw [ev_const h1 hz] at h2
      exact absurd h2 h0
  | succ m ih =>
    intro p h0 hz rs hn hr
    cases rs with
    | nil => exact Nat.zero_le _
    | cons r rs =>
      obtain ⟨h1, h2⟩ := hr r List.mem_cons_self
      have hn' := List.nodup_cons.1 hn
      have := ih (sq r p) (by
        rw [at_sq, ev_const h1 (fun j hj => by rw [at_drop]; exact hz _ (by omega)), at_drop, Nat.zero_add]
        omega) (fun j hj => by
        rw [at_sq, ev_const h1 (fun i hi => by rw [at_drop]; exact hz _ (by omega)), at_drop, hz _ (by omega)]) rs hn'.2 (fun x hx => by
        obtain ⟨h3, h4⟩ := hr x (List.mem_cons_of_mem _ hx)
        refine ⟨h3, ?_⟩
        have e := ev_sq h3 h1 p
        rw [h4, h2, Nat.xor_zero] at e
        rcases (gm_eq_zero (ev_lt x (sq r p)) (xor_lt h3 h1)).1 e.symm with h5 | h5
        · exact h5
        · exact absurd (xor_zero_eq h5 ▸ hx) hn'.1)
      rw [List.length_cons]; omega
end Go.Proofs.Ytmchelbmeajcnaa
namespace Go.Proofs.Ytmchelbmeajcnaa
open Go.Gf

/-- (what a place stands for, what is wrong there) -/
abbrev Errs := List (Nat × Nat)
def Lo : Errs → List Nat
  | [] => [1]
  | p :: ps => pmul [1, p.1] (Lo ps)
def Om : Errs → List Nat
  | [] => []
  | p :: ps => padd (pmul [gm p.2 p.1] (Lo ps)) (pmul [1, p.1] (Om ps))
def Sm : Errs → Nat → Nat
  | [], _ => 0
  | p :: ps, i => gm p.2 (gpow p.1 (i + 1)) ^^^ Sm ps i
structure Gd (ps : Errs) : Prop where
  len : ps.length ≤ 1000
  bd : ∀ p ∈ ps, p.1 ≠ 0 ∧ p.1 < 1024 ∧ p.2 ≠ 0 ∧ p.2 < 1024
  nd : (ps.map Prod.fst).Nodup
theorem Gd.tail {p : Nat × Nat} {ps : Errs} (h : Gd (p :: ps)) : Gd ps :=
  ⟨by have := h.len; simp at this; omega, fun q hq => h.bd q (List.mem_cons_of_mem _ hq), (List.nodup_cons.1 (by simpa using h.nd)).2⟩
theorem Gd.head {p : Nat × Nat} {ps : Errs} (h : Gd (p :: ps)) : p.1 ≠ 0 ∧ p.1 < 1024 ∧ p.2 ≠ 0 ∧ p.2 < 1024 := h.bd p List.mem_cons_self
theorem tr_two {x : Nat} (h0 : x ≠ 0) (h1 : x < 1024) : tr [1, x] = [1, x] := by
  have : ([1, x] : List Nat) = [1] ++ [x] := rfl
  rw [this, tr_snoc, if_neg (by omega)]
  simp; omega
theorem tr_one {x : Nat} (h0 : x ≠ 0) (h1 : x < 1024) : tr [x] = [x] := by
  have : ([x] : List Nat) = [] ++ [x] := rfl
  rw [this, tr_snoc, if_neg (by omega)]
  simp; omega
theorem pmul_len_le (p q : List Nat) : (pmul p q).length ≤ (tr p).length + (tr q).length - 1 := by
  unfold pmul
  split
  · exact Nat.zero_le _
  · refine Nat.le_trans (tr_len _) ?_
    rw [rm_len]; exact Nat.le_refl _
theorem Lo_tr (ps : Errs) : tr (Lo ps) = Lo ps := by
  cases ps with
  | nil => rfl
  | cons p ps => exact tr_pmul _ _
theorem Lo_len {ps : Errs} (h : Gd ps) : (Lo ps).length = ps.length + 1 := by
  induction ps with
  | nil => rfl
  | cons p ps ih =>
    have ih := ih h.tail
    have hh := h.head
    have hl := h.len
    rw [List.length_cons] at hl ⊢
    have e := tr_two hh.1 hh.2.1
    have := pmul_len (p := [1, p.1]) (q := Lo ps) (by rw [e, Lo_tr, ih]; simp; omega) (by rw [e]; simp) (by rw [Lo_tr]; intro h0; rw [h0] at ih; simp at ih)
    show (pmul [1, p.1] (Lo ps)).length = _
    rw [this, e, Lo_tr, ih]; simp; omega
theorem Om_tr (ps : Errs) : tr (Om ps) = Om ps := by
  cases ps with
  | nil => rfl
  | cons p ps => exact tr_padd _ _
theorem Om_len {ps : Errs} (h : Gd ps) : (Om ps).length ≤ ps.length := by
  induction ps with
  | nil => exact Nat.le_refl _
  | cons p ps ih =>
    have ih := ih h.tail
    have hL := Lo_len h.tail
    have h1 : (tr [gm p.2 p.1]).length ≤ 1 := Nat.le_trans (tr_len _) (Nat.le_refl _)
    have h2 : (tr [1, p.1]).length ≤ 2 := Nat.le_trans (tr_len _) (Nat.le_refl _)
    have e := padd_len (pmul [gm p.2 p.1] (Lo ps)) (pmul [1, p.1] (Om ps))
    rw [tr_padd, tr_pmul, tr_pmul] at e
    have e1 := pmul_len_le [gm p.2 p.1] (Lo ps)
    have e2 := pmul_len_le [1, p.1] (Om ps)
    rw [Lo_tr] at e1
    rw [Om_tr] at e2
    show (padd _ _).length ≤ _
    rw [List.length_cons]
    omega
theorem Sm_lt {ps : Errs} (h : Gd ps) (i : Nat) : Sm ps i < 1024 := by
  induction ps with
  | nil => show 0 < 1024; decide
  | cons p ps ih => exact xor_lt (gm_lt _ h.head.2.2.2) (ih h.tail)
theorem at_lt_tr {xs : List Nat} (h : tr xs = xs) (j : Nat) : at_ xs j < 1024 := by rw [← h]; exact at_lt' (tr_bd _) j
theorem at_two (x j : Nat) : at_ [1, x] j = if j = 0 then 1 else if j = 1 then x else 0 := by
  match j with
  | 0 => rfl
  | 1 => rfl
  | j + 2 => rw [at_far (by simp), if_neg (by omega), if_neg (by omega)]
theorem at_one (c j : Nat) : at_ [c] j = if j = 0 then c else 0 := by
  match j with
  | 0 => rfl
  | j + 1 => rw [at_far (by simp), if_neg (by omega)]
/-- (1 + x y) times what one place gives to the sums -/
theorem cv_single {x e : Nat} (hx : x < 1024) (he : e < 1024) (j : Nat) : cv (at_ [1, x]) (fun i => gm e (gpow x (i + 1))) j = at_ [gm e x] j := by
  have h1 : gpow x 1 = x := by
    show gm (gpow x 0) x = x
    show gm 1 x = x
    exact gm_one_left hx
  cases j with
  | zero =>
    show X 1 _ = _
    rw [X_succ]
    show 0 ^^^ gm (at_ [1, x] 0) (gm e (gpow x 1)) = at_ [gm e x] 0
    rw [Nat.zero_xor, h1]
    show gm 1 (gm e x) = gm e x
    exact gm_one_left (gm_lt _ he)
  | succ j =>
    unfold cv
    have hs : gpow x (j + 1 + 1) = gm (gpow x (j + 1)) x := rfl
    have e2 : X (j + 1 + 1) (fun i => gm (at_ [1, x] i) (gm e (gpow x (j + 1 - i + 1)))) = X 2 fun i => gm (at_ [1, x] i) (gm e (gpow x (j + 1 - i + 1))) :=
      X_more (by omega) fun i h2 _ => by rw [at_far (by simp; omega), gm_zero_left]
    rw [e2, at_one, if_neg (by omega)]
    show (0 ^^^ gm 1 (gm e (gpow x (j + 1 + 1)))) ^^^ gm x (gm e (gpow x (j + 1 - 1 + 1))) = 0
    rw [Nat.zero_xor, show j + 1 - 1 + 1 = j + 1 by omega, hs, gm_one_left (gm_lt _ he), gm_comm hx (gm_lt _ he), gm_assoc he (gpow_lt _) hx, Nat.xor_self]
/-- THE LOCATOR TIMES THE SUMS IS THE EVALUATOR -/
theorem key {ps : Errs} (h : Gd ps) (j : Nat) : cv (at_ (Lo ps)) (Sm ps) j = at_ (Om ps) j := by
  induction ps generalizing j with
  | nil => exact X_zero fun i _ => gm_zero_right _
  | cons p ps ih =>
    have ih := ih h.tail
    have hh := h.head
    have hL := at_lt_tr (Lo_tr ps)
    have hO := at_lt_tr (Om_tr ps)
    have hS := Sm_lt h.tail
    have h2 := at_lt_tr (tr_two hh.1 hh.2.1)
    have hc : gm p.2 p.1 < 1024 := gm_lt _ hh.2.2.2
    have hlL := Lo_len h.tail
    have hlO := Om_len h.tail
    have hlen := h.len
    rw [List.length_cons] at hlen
    have t1 : (tr [gm p.2 p.1]).length ≤ 1 := Nat.le_trans (tr_len _) (Nat.le_refl _)
    have t2 : (tr [1, p.1]).length ≤ 2 := Nat.le_trans (tr_len _) (Nat.le_refl _)
    have eL : ∀ i, at_ (Lo (p :: ps)) i = cv (at_ [1, p.1]) (at_ (Lo ps)) i := fun i => by
      show at_ (pmul [1, p.1] (Lo ps)) i = _
      rw [at_pmul (by rw [Lo_tr]; omega), tr_two hh.1 hh.2.1, Lo_tr]
    have hcv : ∀ i, cv (at_ [1, p.1]) (at_ (Lo ps)) i < 1024 := cv_lt _ h2
    have es : ∀ i, gm p.2 (gpow p.1 (i + 1)) < 1024 := fun i => gm_lt _ hh.2.2.2
    have e1 : cv (at_ (Lo (p :: ps))) (Sm (p :: ps)) j = cv (cv (at_ [1, p.1]) (at_ (Lo ps))) (fun i => gm p.2 (gpow p.1 (i + 1))) j ^^^ cv (cv (at_ [1, p.1]) (at_ (Lo ps))) (Sm ps) j := by
      rw [← cv_xor_right]
      exact cv_congr eL (fun _ => rfl) j
    have e2 : cv (cv (at_ [1, p.1]) (at_ (Lo ps))) (fun i => gm p.2 (gpow p.1 (i + 1))) j = cv (at_ [gm p.2 p.1]) (at_ (Lo ps)) j := by
      have a1 : cv (cv (at_ [1, p.1]) (at_ (Lo ps))) (fun i => gm p.2 (gpow p.1 (i + 1))) j = cv (cv (at_ (Lo ps)) (at_ [1, p.1])) (fun i => gm p.2 (gpow p.1 (i + 1))) j := cv_congr (fun i => cv_comm h2 hL i) (fun _ => rfl) j
      rw [a1, cv_assoc hL h2 es, cv_congr (fun _ => rfl) (fun i => cv_single hh.2.1 hh.2.2.2 i) j]
      exact cv_comm hL (fun i => by rw [at_one]; split; exact hc; decide) j
    have e3 : cv (cv (at_ [1, p.1]) (at_ (Lo ps))) (Sm ps) j = cv (at_ [1, p.1]) (at_ (Om ps)) j := by
      rw [cv_assoc h2 hL hS]
      exact cv_congr (fun _ => rfl) ih j
    rw [e1, e2, e3]
    show _ = at_ (padd _ _) j
    rw [at_padd, at_pmul (by rw [Lo_tr]; omega), at_pmul (by rw [Om_tr]; omega), tr_two hh.1 hh.2.1, Lo_tr, Om_tr]
    have t3 : ∀ i, at_ (tr [gm p.2 p.1]) i = at_ [gm p.2 p.1] i := fun i => by
      rw [at_tr, at_one]; split
      · exact Nat.mod_eq_of_lt hc
      · rfl
    rw [cv_congr t3 (fun _ => rfl) j, Nat.mod_eq_of_lt (cv_lt _ (fun i => by rw [at_one]; split; exact hc; decide) j), Nat.mod_eq_of_lt (cv_lt _ h2 j)]
end Go.Proofs.Ytmchelbmeajcnaa
namespace Go.Proofs.Ytmchelbmeajcnaa
open Go.Gf

theorem ev_two {x r : Nat} (hx : x < 1024) (_hr : r < 1024) : ev r [1, x] = gm x r ^^^ 1 := by
  have e : gm 0 r = 0 := gm_zero_left _
  show gm (gm 0 r ^^^ (x % 1024)) r ^^^ (1 % 1024) = _
  rw [e, Nat.zero_xor, Nat.mod_eq_of_lt hx]
theorem ev_one' {c r : Nat} (hc : c < 1024) : ev r [c] = c := by
  have e : gm 0 r = 0 := gm_zero_left _
  show gm 0 r ^^^ (c % 1024) = _
  rw [e, Nat.zero_xor, Nat.mod_eq_of_lt hc]
theorem ev_slope_two {x r : Nat} (hx : x < 1024) (hr : r < 1024) : ev r (slope [1, x]) = x := by
  have : ev r (slope [1, x]) = ev r [x] := ev_ext r hr fun j => by
    rcases Nat.eq_zero_or_pos j with h0 | h0
    · subst h0
      rw [at_slope, if_pos (by decide), at_two, if_neg (by decide), if_pos (by decide)]
      show x % 1024 % 1024 = x % 1024
      omega
    · have e1 : at_ [1, x] (j + 1) = 0 := at_far (by simp; omega)
      have e2 : at_ [x] j = 0 := at_far (by simp; omega)
      rw [at_slope, e1, e2]
      split <;> rfl
  rw [this, ev_one' hx]
section
variable {p : Nat × Nat} {ps : Errs} {r : Nat}
theorem sizes (h : Gd (p :: ps)) : (tr [gm p.2 p.1]).length ≤ 1 ∧ (tr [1, p.1]).length ≤ 2 ∧ (tr (Lo ps)).length ≤ 1001 ∧ (tr (Om ps)).length ≤ 1001 := by
  have h1 := Lo_len h.tail
  have h2 := Om_len h.tail
  have h3 := h.tail.len
  refine ⟨Nat.le_trans (tr_len _) (Nat.le_refl _), Nat.le_trans (tr_len _) (Nat.le_refl _), ?_, ?_⟩
  · rw [Lo_tr]; omega
  · rw [Om_tr]; omega
theorem ev_Lo (h : Gd (p :: ps)) (hr : r < 1024) : ev r (Lo (p :: ps)) = gm (gm p.1 r ^^^ 1) (ev r (Lo ps)) := by
  obtain ⟨_, s2, s3, _⟩ := sizes h
  show ev r (pmul [1, p.1] (Lo ps)) = _
  rw [ev_pmul r hr (by omega), ev_two h.head.2.1 hr]
theorem ev_Om (h : Gd (p :: ps)) (hr : r < 1024) : ev r (Om (p :: ps)) = gm (gm p.2 p.1) (ev r (Lo ps)) ^^^ gm (gm p.1 r ^^^ 1) (ev r (Om ps)) := by
  obtain ⟨s1, s2, s3, s4⟩ := sizes h
  show ev r (padd (pmul [gm p.2 p.1] (Lo ps)) (pmul [1, p.1] (Om ps))) = _
  rw [ev_padd r hr, ev_pmul r hr (by omega), ev_pmul r hr (by omega), ev_two h.head.2.1 hr, ev_one' (gm_lt _ h.head.2.2.2)]
theorem ev_dL (h : Gd (p :: ps)) (hr : r < 1024) : ev r (slope (Lo (p :: ps))) = gm p.1 (ev r (Lo ps)) ^^^ gm (gm p.1 r ^^^ 1) (ev r (slope (Lo ps))) := by
  obtain ⟨s1, s2, s3, s4⟩ := sizes h
  have hsl := slope_len (Lo ps)
  have hs2 := slope_len [1, p.1]
  show ev r (slope (pmul [1, p.1] (Lo ps))) = _
  rw [slope_pmul (by omega), ev_padd r hr, ev_pmul r hr (by omega), ev_pmul r hr (by omega), ev_two h.head.2.1 hr, ev_slope_two h.head.2.1 hr]
end
theorem one_inv {x y r : Nat} (hx : x < 1024) (hy : y < 1024) (hr : r < 1024) (h1 : gm x r = 1) (h2 : gm y r = 1) : x = y := by
  rw [gm_comm hx hr] at h1
  rw [gm_comm hy hr] at h2
  rw [ginv_unique hr hx h1, ginv_unique hr hy h2]
theorem xor_one {a : Nat} (h : a ^^^ 1 = 0) : a = 1 := xor_zero_eq h
theorem Lo_root {ps : Errs} (h : Gd ps) {r : Nat} (hr : r < 1024) : ev r (Lo ps) = 0 ↔ ∃ p ∈ ps, gm p.1 r = 1 := by
  induction ps with
  | nil =>
    have : ev r (Lo []) = 1 := ev_one' (by decide)
    rw [this]
    constructor
    · intro h; cases h
    · rintro ⟨p, hp, _⟩; cases hp
  | cons p ps ih =>
    have ih := ih h.tail
    have hx := gm_lt r h.head.2.1
    rw [ev_Lo h hr, gm_eq_zero (xor_lt hx (by decide)) (ev_lt _ _), ih]
    constructor
    · rintro (h1 | ⟨q, hq, h1⟩)
      · exact ⟨p, List.mem_cons_self, xor_one h1⟩
      · exact ⟨q, List.mem_cons_of_mem _ hq, h1⟩
    · rintro ⟨q, hq, h1⟩
      rcases List.mem_cons.1 hq with rfl | hq
      · left; rw [h1, Nat.xor_self]
      · exact Or.inr ⟨q, hq, h1⟩
/-- WHAT IS WRONG IS THE EVALUATOR BY THE LOCATOR's SLOPE -/
theorem forney {ps : Errs} (h : Gd ps) {r : Nat} (hr : r < 1024) {p : Nat × Nat} (hp : p ∈ ps) (h1 : gm p.1 r = 1) :
    ev r (slope (Lo ps)) ≠ 0 ∧ ev r (Om ps) = gm p.2 (ev r (slope (Lo ps))) := by
  induction ps with
  | nil => cases hp
  | cons q ps ih =>
    have hh := h.head
    have hb := h.bd p hp
    have hnd := List.nodup_cons.1 (by simpa using h.nd : (q.1 :: ps.map Prod.fst).Nodup)
    rw [ev_dL h hr, ev_Om h hr]
    have hLlt := ev_lt r (Lo ps)
    by_cases hq : q.1 = p.1
    · -- the first one
      have hL : ev r (Lo ps) ≠ 0 := by
        intro h0
        obtain ⟨s, hs, hs1⟩ := (Lo_root h.tail hr).1 h0
        have := one_inv hb.2.1 (h.tail.bd s hs).2.1 hr h1 hs1
        exact hnd.1 (hq ▸ this ▸ List.mem_map_of_mem hs)
      have hpq : p = q := by
        rcases List.mem_cons.1 hp with e | e
        · exact e
        · exact absurd (hq ▸ List.mem_map_of_mem (f := Prod.fst) e) hnd.1
      subst hpq
      have z : gm p.1 r ^^^ 1 = 0 := by rw [h1, Nat.xor_self]
      have z1 : gm 0 (ev r (slope (Lo ps))) = 0 := gm_zero_left _
      have z2 : gm 0 (ev r (Om ps)) = 0 := gm_zero_left _
      rw [z, z1, z2, Nat.xor_zero, Nat.xor_zero]
      refine ⟨?_, gm_assoc hb.2.2.2 hb.2.1 hLlt⟩
      intro h0
      rcases (gm_eq_zero hb.2.1 hLlt).1 h0 with h2 | h2
      · exact hb.1 h2
      · exact hL h2
    · have hp' : p ∈ ps := by
        rcases List.mem_cons.1 hp with e | e
        · exact absurd (by rw [e]) hq
        · exact e
      obtain ⟨i1, i2⟩ := ih h.tail hp'
      have hL : ev r (Lo ps) = 0 := (Lo_root h.tail hr).2 ⟨p, hp', h1⟩
      have hk : gm q.1 r ^^^ 1 ≠ 0 := fun h0 => hq (one_inv hh.2.1 hb.2.1 hr (xor_one h0) h1)
      have hkl : gm q.1 r ^^^ 1 < 1024 := xor_lt (gm_lt _ hh.2.1) (by decide)
      have hsl := ev_lt r (slope (Lo ps))
      rw [hL, gm_zero_right, gm_zero_right, Nat.zero_xor, Nat.zero_xor]
      refine ⟨?_, ?_⟩
      · intro h0
        rcases (gm_eq_zero hkl hsl).1 h0 with h2 | h2
        · exact hk h2
        · exact i1 h2
      · rw [i2, ← gm_assoc hkl hb.2.2.2 hsl, gm_comm hkl hb.2.2.2, gm_assoc hb.2.2.2 hkl hsl]
end Go.Proofs.Ytmchelbmeajcnaa
namespace Go.Proofs.Ytmchelbmeajcnaa
open Go.Gf

/-- what holds all along the divisions: a, b the last two rests, u, v what the sums are multiplied by for them -/
structure EI (S : Nat → Nat) (a b u v : List Nat) : Prop where
  ta : tr a = a
  tb : tr b = b
  tu : tr u = u
  tv : tr v = v
  one : ∀ j, cv (at_ a) (at_ v) j ^^^ cv (at_ b) (at_ u) j = if j = 16 then 1 else 0
  sv : ∀ j, j < 16 → cv (at_ v) S j = at_ b j
  su : ∀ j, j < 16 → cv (at_ u) S j = at_ a j
  len : v.length + a.length = 18
  lv : 1 ≤ v.length
  lu : u.length ≤ v.length
  lb : b.length < a.length
def x16 : List Nat := [0, 0, 0, 0, 0, 0, 0, 0, 0, 0, 0, 0, 0, 0, 0, 0, 1]
theorem at_x16 (j : Nat) : at_ x16 j = if j = 16 then 1 else 0 := by
  rcases Nat.lt_or_ge j 17 with h | h
  · exact (by decide : ∀ j : Fin 17, at_ x16 j = if j.val = 16 then 1 else 0) ⟨j, h⟩
  · rw [at_far (by simpa [x16] using h), if_neg (by omega)]
theorem x16_tr : tr x16 = x16 := by decide
theorem cv_nil_left (g : Nat → Nat) (j : Nat) : cv (at_ []) g j = 0 := X_zero fun _ _ => gm_zero_left _
theorem cv_one_left (g : Nat → Nat) (hg : ∀ i, g i < 1024) (j : Nat) : cv (at_ [1]) g j = g j := by
  have : cv (at_ [1]) g j = cv (fun i => if i = 0 then 1 else 0) g j := cv_congr (fun i => at_one 1 i) (fun _ => rfl) j
  rw [this, cv_delta, if_pos (Nat.zero_le _), Nat.sub_zero, gm_one_left (hg j)]
theorem ei_start {S : List Nat} (hS : tr S = S) (hl : S.length ≤ 16) : EI (at_ S) x16 S [] [1] := by
  have hb := at_lt_tr hS
  refine ⟨x16_tr, hS, rfl, rfl, fun j => ?_, fun j _ => cv_one_left _ hb j, fun j hj => ?_, rfl, Nat.le_refl _, Nat.zero_le _, by simp [x16]; omega⟩
  · have e1 : cv (at_ S) (at_ []) j = 0 := X_zero fun i _ => gm_zero_right _
    rw [e1, Nat.xor_zero, cv_comm (at_lt_tr x16_tr) (at_lt_tr (rfl : tr [1] = [1])), cv_one_left _ (at_lt_tr x16_tr), at_x16]
  · rw [cv_nil_left, at_x16, if_neg (by omega)]
section
variable {S : Nat → Nat} {a b u v : List Nat}
theorem ei_step (h : EI S a b u v) (hS : ∀ i, S i < 1024) (h9 : 9 ≤ b.length) : EI S b (prem a b) v (padd u (pmul (pquo a b) v)) ∧ (prem a b).length < b.length := by
  have hne : tr b ≠ [] := by rw [h.tb]; intro e; rw [e] at h9; simp at h9
  have hlen := h.len
  have hlv := h.lv
  have hlu := h.lu
  have hlb := h.lb
  have hA := at_lt_tr h.ta
  have hB := at_lt_tr h.tb
  have hU := at_lt_tr h.tu
  have hV := at_lt_tr h.tv
  have tq : tr (pquo a b) = pquo a b := tr_pquo
  have trr : tr (prem a b) = prem a b := tr_prem
  have hQ := at_lt_tr tq
  have hR := at_lt_tr trr
  have lq : (pquo a b).length = a.length + 1 - b.length := by rw [pquo_len hne]; unfold divN; rw [h.ta, h.tb]
  have lr : (prem a b).length < b.length := by have := prem_len (xs := a) hne; rwa [h.tb] at this
  have hqv : (tr (pquo a b)).length + (tr v).length - 1 ≤ 4096 := by rw [tq, h.tv]; omega
  have hqb : (tr (pquo a b)).length + (tr b).length - 1 ≤ 4096 := by rw [tq, h.tb]; omega
  -- a = q b + r
  have ea : ∀ j, at_ a j = cv (at_ (pquo a b)) (at_ b) j ^^^ at_ (prem a b) j := by
    intro j
    have e := quo_rem (xs := a) (ys := b) hne (by rw [h.ta, h.tb]; omega)
    rw [h.ta] at e
    have e2 : at_ (padd (pmul (pquo a b) b) (prem a b)) j = at_ a j := by rw [e]
    rw [at_padd, at_pmul hqb, tq, h.tb, Nat.mod_eq_of_lt (cv_lt _ hQ j), Nat.mod_eq_of_lt (hR j)] at e2
    exact e2.symm
  have ev : ∀ j, at_ (padd u (pmul (pquo a b) v)) j = at_ u j ^^^ cv (at_ (pquo a b)) (at_ v) j := by
    intro j
    rw [at_padd, at_pmul hqv, tq, h.tv, Nat.mod_eq_of_lt (hU j), Nat.mod_eq_of_lt (cv_lt _ hQ j)]
  have hqne : tr (pquo a b) ≠ [] := by rw [tq]; intro e; rw [e] at lq; simp at lq; omega
  have hvne : tr v ≠ [] := by rw [h.tv]; intro e; rw [e] at hlv; simp at hlv
  have lqv : (pmul (pquo a b) v).length = 18 - b.length := by
    have := pmul_len hqv hqne hvne
    rw [tq, h.tv] at this
    omega
  have lnew : (padd u (pmul (pquo a b) v)).length = 18 - b.length := by
    rw [padd_len_ne (by rw [h.tu, tr_pmul, lqv]; omega), h.tu, tr_pmul, lqv]; omega
  refine ⟨⟨h.tb, trr, h.tv, tr_padd _ _, fun j => ?_, fun j hj => ?_, h.sv, by omega, by omega, by omega, lr⟩, lr⟩
  · rw [← h.one j]
    have e1 : cv (at_ b) (at_ (padd u (pmul (pquo a b) v))) j = cv (at_ b) (at_ u) j ^^^ cv (at_ b) (cv (at_ (pquo a b)) (at_ v)) j := by
      rw [← cv_xor_right]
      exact cv_congr (fun _ => rfl) ev j
    have e2 : cv (at_ a) (at_ v) j = cv (cv (at_ (pquo a b)) (at_ b)) (at_ v) j ^^^ cv (at_ (prem a b)) (at_ v) j := by
      rw [← cv_xor_left (cv_lt _ hQ) hR]
      exact cv_congr ea (fun _ => rfl) j
    have e3 : cv (cv (at_ (pquo a b)) (at_ b)) (at_ v) j = cv (at_ b) (cv (at_ (pquo a b)) (at_ v)) j := by
      rw [← cv_assoc hB hQ hV]
      exact cv_congr (fun i => cv_comm hQ hB i) (fun _ => rfl) j
    rw [e1, e2, e3]
    generalize cv (at_ b) (at_ u) j = p
    generalize cv (at_ b) (cv (at_ (pquo a b)) (at_ v)) j = q
    generalize cv (at_ (prem a b)) (at_ v) j = s
    rw [Nat.xor_comm p q, Nat.xor_assoc, Nat.xor_assoc, Nat.xor_comm p s]
  · have e1 : cv (at_ (padd u (pmul (pquo a b) v))) S j = cv (at_ u) S j ^^^ cv (cv (at_ (pquo a b)) (at_ v)) S j := by
      rw [← cv_xor_left hU (cv_lt _ hQ)]
      exact cv_congr ev (fun _ => rfl) j
    have e2 : cv (cv (at_ (pquo a b)) (at_ v)) S j = cv (at_ (pquo a b)) (at_ b) j := by
      rw [cv_assoc hQ hV hS]
      exact cv_upto (fun _ _ => rfl) (fun i hi => h.sv i (by omega))
    rw [e1, e2, h.su j hj, ea j]
    generalize cv (at_ (pquo a b)) (at_ b) j = q
    rw [Nat.xor_comm q, Nat.xor_assoc, Nat.xor_self, Nat.xor_zero]
end
end Go.Proofs.Ytmchelbmeajcnaa
namespace Go.Proofs.Ytmchelbmeajcnaa
open Go.Gf

theorem gpow_ne {r : Nat} (hr : r < 1024) (h0 : r ≠ 0) (n : Nat) : gpow r n ≠ 0 := by
  rcases cases_E hr with h | ⟨i, _, rfl⟩
  · exact absurd h h0
  · rw [gpow_E]; exact E_ne _
theorem ev_x16 {r : Nat} (hr : r < 1024) : ev r x16 = gpow r 16 := by
  rw [ev_X r hr, show x16.length = 17 from rfl, X_one (k := 16) (by decide) (fun i _ hne => by rw [at_x16, if_neg hne]; exact gm_zero_left _)]
  rw [at_x16, if_pos rfl]
  exact gm_one_left (gpow_lt _)
section
variable {S : Nat → Nat} {a b u v : List Nat} {ps : Errs}
/-- WHERE THE DIVISIONS END -/
theorem ei_end (h : EI S a b u v) (h8 : b.length ≤ 8) (h9 : 9 ≤ a.length) (hg : Gd ps) (hp : ps.length ≤ 8) (hs : ∀ i, i < 16 → Sm ps i = S i) :
    v.length = ps.length + 1 ∧ (∀ r, r < 1024 → (ev r v = 0 ↔ ∃ p ∈ ps, gm p.1 r = 1)) ∧ ∀ p ∈ ps, ∀ r, r < 1024 → gm p.1 r = 1 → ev r (slope v) ≠ 0 ∧ ev r b = gm p.2 (ev r (slope v)) := by
  have hlen := h.len
  have hlv := h.lv
  have hlu := h.lu
  have lL := Lo_len hg
  have lO := Om_len hg
  have hA := at_lt_tr h.ta
  have hB := at_lt_tr h.tb
  have hU := at_lt_tr h.tu
  have hV := at_lt_tr h.tv
  have hL := at_lt_tr (Lo_tr ps)
  have hO := at_lt_tr (Om_tr ps)
  have hSm := Sm_lt hg
  have tL := Lo_tr ps
  have tO := Om_tr ps
  have nV : (tr v).length ≤ 9 := by rw [h.tv]; omega
  have nA : (tr a).length ≤ 17 := by rw [h.ta]; omega
  have nB : (tr b).length ≤ 8 := by rw [h.tb]; omega
  have nU : (tr u).length ≤ 9 := by rw [h.tu]; omega
  have nL : (tr (Lo ps)).length ≤ 9 := by rw [tL]; omega
  have nO : (tr (Om ps)).length ≤ 8 := by rw [tO]; omega
  -- v O = L b
  have hvo : ∀ j, cv (at_ v) (at_ (Om ps)) j = cv (at_ (Lo ps)) (at_ b) j := by
    intro j
    rcases Nat.lt_or_ge j 16 with hj | hj
    · have e1 : cv (at_ v) (at_ (Om ps)) j = cv (at_ v) (cv (at_ (Lo ps)) (Sm ps)) j := cv_congr (fun _ => rfl) (fun i => (key hg i).symm) j
      have e2 : cv (at_ v) (cv (at_ (Lo ps)) (Sm ps)) j = cv (at_ (Lo ps)) (cv (at_ v) (Sm ps)) j := by
        rw [← cv_assoc hV hL hSm, ← cv_assoc hL hV hSm]
        exact cv_congr (fun i => cv_comm hV hL i) (fun _ => rfl) j
      have e3 : cv (at_ (Lo ps)) (cv (at_ v) (Sm ps)) j = cv (at_ (Lo ps)) (at_ b) j := cv_upto (fun _ _ => rfl) fun i hi => by
        rw [← h.sv i (by omega)]
        exact cv_upto (fun _ _ => rfl) fun k hk => hs k (by omega)
      rw [e1, e2, e3]
    · rw [cv_far (by rw [h.tv] at nV; rw [tO] at nO; omega), cv_far (by rw [tL] at nL; rw [h.tb] at nB; omega)]
  have hvoL : pmul v (Om ps) = pmul (Lo ps) b := row_ext (tr_pmul _ _) (tr_pmul _ _) fun j => by
    rw [at_pmul (by omega), at_pmul (by omega), h.tv, tO, tL, h.tb]; exact hvo j
  -- L x^16 = v (L a + O u)
  have atM : ∀ j, at_ (padd (pmul (Lo ps) a) (pmul (Om ps) u)) j = cv (at_ (Lo ps)) (at_ a) j ^^^ cv (at_ (Om ps)) (at_ u) j := by
    intro j
    rw [at_padd, at_pmul (by omega), at_pmul (by omega), tL, h.ta, tO, h.tu, Nat.mod_eq_of_lt (cv_lt _ hL j), Nat.mod_eq_of_lt (cv_lt _ hO j)]
  have lM1 := pmul_len_le (Lo ps) a
  have lM2 := pmul_len_le (Om ps) u
  have lM := padd_len (pmul (Lo ps) a) (pmul (Om ps) u)
  rw [tr_padd, tr_pmul, tr_pmul] at lM
  have hvM : pmul v (padd (pmul (Lo ps) a) (pmul (Om ps) u)) = pmul (Lo ps) x16 := row_ext (tr_pmul _ _) (tr_pmul _ _) fun j => by
    rw [at_pmul (by rw [tr_padd]; omega), at_pmul (by rw [x16_tr]; simp [x16]; omega), h.tv, tr_padd, tL, x16_tr]
    have e0 : cv (at_ v) (at_ (padd (pmul (Lo ps) a) (pmul (Om ps) u))) j = cv (at_ v) (cv (at_ (Lo ps)) (at_ a)) j ^^^ cv (at_ v) (cv (at_ (Om ps)) (at_ u)) j := by
      rw [← cv_xor_right]
      exact cv_congr (fun _ => rfl) atM j
    have e1 : cv (at_ v) (cv (at_ (Lo ps)) (at_ a)) j = cv (at_ (Lo ps)) (cv (at_ a) (at_ v)) j := by
      rw [cv_comm hV (cv_lt _ hL), cv_assoc hL hA hV]
    have e2 : cv (at_ v) (cv (at_ (Om ps)) (at_ u)) j = cv (at_ (Lo ps)) (cv (at_ b) (at_ u)) j := by
      rw [← cv_assoc hV hO hU, ← cv_assoc hL hB hU]
      exact cv_congr hvo (fun _ => rfl) j
    rw [e0, e1, e2, ← cv_xor_right]
    exact cv_congr (fun _ => rfl) (fun i => by rw [h.one i, at_x16]) j
  have lowM : ∀ j, j < 16 → at_ (padd (pmul (Lo ps) a) (pmul (Om ps) u)) j = 0 := by
    intro j hj
    rw [atM]
    have e1 : cv (at_ (Lo ps)) (at_ a) j = cv (at_ (Lo ps)) (cv (at_ u) (Sm ps)) j := cv_upto (fun _ _ => rfl) fun i hi => by
      rw [← h.su i (by omega)]
      exact cv_upto (fun _ _ => rfl) fun k hk => (hs k (by omega)).symm
    have e2 : cv (at_ (Om ps)) (at_ u) j = cv (at_ (Lo ps)) (cv (at_ u) (Sm ps)) j := by
      have a1 : cv (at_ (Om ps)) (at_ u) j = cv (cv (at_ (Lo ps)) (Sm ps)) (at_ u) j := cv_congr (fun i => (key hg i).symm) (fun _ => rfl) j
      rw [a1, cv_assoc hL hSm hU]
      exact cv_congr (fun _ => rfl) (fun i => cv_comm hSm hU i) j
    rw [e1, e2, Nat.xor_self]
  have hvne : tr v ≠ [] := by rw [h.tv]; intro e; rw [e] at hlv; simp at hlv
  have hLne : tr (Lo ps) ≠ [] := by rw [tL]; intro e; rw [e] at lL; simp at lL
  have lLx := pmul_len (p := Lo ps) (q := x16) (by rw [x16_tr]; simp [x16]; omega) hLne (by rw [x16_tr]; simp [x16])
  rw [tL, x16_tr, lL, show x16.length = 17 from rfl] at lLx
  have hMne : tr (padd (pmul (Lo ps) a) (pmul (Om ps) u)) ≠ [] := by
    intro e
    rw [pmul_nil_right e] at hvM
    rw [← hvM] at lLx
    simp at lLx
  have lMM := pmul_len (p := v) (q := padd (pmul (Lo ps) a) (pmul (Om ps) u)) (by rw [tr_padd]; omega) hvne hMne
  rw [hvM, lLx, h.tv, tr_padd] at lMM
  rw [tr_padd] at hMne
  have lM17 : 17 ≤ (padd (pmul (Lo ps) a) (pmul (Om ps) u)).length := by
    have e := tr_last (padd (pmul (Lo ps) a) (pmul (Om ps) u)) (by rw [tr_padd]; exact hMne)
    rw [tr_padd] at e
    have hp0 := List.length_pos_iff.2 hMne
    rcases Nat.lt_or_ge ((padd (pmul (Lo ps) a) (pmul (Om ps) u)).length - 1) 16 with h1 | h1
    · exact absurd (lowM _ h1) e
    · omega
  have degv : v.length ≤ ps.length + 1 := by omega
  -- roots of L are roots of v
  have rootv : ∀ p ∈ ps, ∀ r, r < 1024 → gm p.1 r = 1 → ev r v = 0 := by
    intro p hp1 r hr h1
    have e := ev_pmul r hr (p := v) (q := Om ps) (by omega)
    have hL0 := (Lo_root hg hr).2 ⟨p, hp1, h1⟩
    obtain ⟨f1, f2⟩ := forney hg hr hp1 h1
    have hb := hg.bd p hp1
    rw [hvoL, ev_pmul r hr (by omega), hL0, gm_zero_left] at e
    rcases (gm_eq_zero (ev_lt r v) (ev_lt r (Om ps))).1 e.symm with h2 | h2
    · exact h2
    · rw [f2] at h2
      rcases (gm_eq_zero hb.2.2.2 (ev_lt _ _)).1 h2 with h3 | h3
      · exact absurd h3 hb.2.2.1
      · exact absurd h3 f1
  have hginv : ∀ p ∈ ps, gm p.1 (ginv p.1) = 1 := fun p hp1 => gm_ginv (hg.bd p hp1).2.1 (hg.bd p hp1).1
  have hnd : (ps.map fun p => ginv p.1).Nodup := by
    have : (ps.map fun p => ginv p.1) = (ps.map Prod.fst).map ginv := by rw [List.map_map]; rfl
    rw [this]
    refine List.Pairwise.map ginv ?_ (List.Pairwise.and_mem.1 hg.nd)
    rintro x y ⟨hx, hy, hxy⟩ he
    obtain ⟨p, hp1, rfl⟩ := List.mem_map.1 hx
    obtain ⟨q, hq1, rfl⟩ := List.mem_map.1 hy
    refine hxy (one_inv (hg.bd p hp1).2.1 (hg.bd q hq1).2.1 (ginv_lt p.1) (hginv p hp1) ?_)
    rw [he]; exact hginv q hq1
  have topv : at_ v (v.length - 1) % 1024 ≠ 0 := by
    have e := tr_last v hvne
    rw [h.tv] at e
    rw [Nat.mod_eq_of_lt (hV _)]; exact e
  have highv : ∀ j, v.length - 1 < j → at_ v j % 1024 = 0 := fun j hj => by rw [at_far (by omega)]
  have hrs : ∀ r ∈ ps.map (fun p => ginv p.1), r < 1024 ∧ ev r v = 0 := by
    intro r hr
    obtain ⟨p, hp1, rfl⟩ := List.mem_map.1 hr
    exact ⟨ginv_lt _, rootv p hp1 _ (ginv_lt _) (hginv p hp1)⟩
  have cnt := roots_le (v.length - 1) v topv highv _ hnd hrs
  rw [List.length_map] at cnt
  have hlenv : v.length = ps.length + 1 := by omega
  refine ⟨hlenv, fun r hr => ⟨fun h0 => ?_, fun ⟨p, hp1, h1⟩ => rootv p hp1 r hr h1⟩, fun p hp1 r hr h1 => ?_⟩
  · by_cases hm : r ∈ ps.map (fun p => ginv p.1)
    · obtain ⟨p, hp1, rfl⟩ := List.mem_map.1 hm
      exact ⟨p, hp1, hginv p hp1⟩
    · have := roots_le (v.length - 1) v topv highv (r :: ps.map fun p => ginv p.1) (List.nodup_cons.2 ⟨hm, hnd⟩) (fun x hx => by
        rcases List.mem_cons.1 hx with rfl | hx
        · exact ⟨hr, h0⟩
        · exact hrs x hx)
      rw [List.length_cons, List.length_map] at this
      omega
  · obtain ⟨f1, f2⟩ := forney hg hr hp1 h1
    have hb := hg.bd p hp1
    have hv0 := rootv p hp1 r hr h1
    have hL0 := (Lo_root hg hr).2 ⟨p, hp1, h1⟩
    have sv := slope_len v
    have sO := slope_len (Om ps)
    have sL := slope_len (Lo ps)
    have sb := slope_len b
    have e1 : ev r (slope (pmul v (Om ps))) = gm (ev r (slope v)) (ev r (Om ps)) := by
      rw [slope_pmul (by omega), ev_padd r hr, ev_pmul r hr (by omega), ev_pmul r hr (by omega), hv0, gm_zero_left, Nat.xor_zero]
    have e2 : ev r (slope (pmul (Lo ps) b)) = gm (ev r (slope (Lo ps))) (ev r b) := by
      rw [slope_pmul (by omega), ev_padd r hr, ev_pmul r hr (by omega), ev_pmul r hr (by omega), hL0, gm_zero_left, Nat.xor_zero]
    rw [hvoL, e2, f2] at e1
    have hdL := ev_lt r (slope (Lo ps))
    have hdv := ev_lt r (slope v)
    have hbl := ev_lt r b
    -- b is not nought there
    have hb0 : ev r b ≠ 0 := by
      have hx : padd (pmul a v) (pmul b u) = x16 := row_ext (tr_padd _ _) x16_tr fun j => by
        rw [at_padd, at_pmul (by omega), at_pmul (by omega), h.ta, h.tv, h.tb, h.tu, Nat.mod_eq_of_lt (cv_lt _ hA j), Nat.mod_eq_of_lt (cv_lt _ hB j), h.one j, at_x16]
      have e := ev_x16 hr
      rw [← hx, ev_padd r hr, ev_pmul r hr (by omega), ev_pmul r hr (by omega), hv0, gm_zero_right, Nat.zero_xor] at e
      intro h2
      rw [h2, gm_zero_left] at e
      have hr0 : r ≠ 0 := by rintro rfl; rw [gm_zero_right] at h1; cases h1
      exact gpow_ne hr hr0 16 e.symm
    have e3 : ev r b = gm p.2 (ev r (slope v)) := by
      have e4 : gm (ev r (slope (Lo ps))) (ev r b) = gm (ev r (slope (Lo ps))) (gm p.2 (ev r (slope v))) := by
        rw [e1, ← gm_assoc hdv hb.2.2.2 hdL, gm_comm hdv hb.2.2.2]
        exact gm_comm (gm_lt _ hb.2.2.2) hdL
      have e5 : gm (ev r (slope (Lo ps))) (ev r b ^^^ gm p.2 (ev r (slope v))) = 0 := by
        rw [gm_xor_right, e4, Nat.xor_self]
      rcases (gm_eq_zero hdL (xor_lt hbl (gm_lt _ hb.2.2.2))).1 e5 with h2 | h2
      · exact absurd h2 f1
      · exact xor_zero_eq h2
    refine ⟨fun h2 => hb0 ?_, e3⟩
    rw [e3, h2, gm_zero_right]
end
end Go.Proofs.Ytmchelbmeajcnaa
namespace Go.Proofs.Ytmchelbmeajcnaa
open Go.Gf

theorem ev_zero (p : List Nat) : ev 0 p = at_ p 0 % 1024 := by
  cases p with
  | nil => rfl
  | cons c p =>
    show gm (ev 0 p) 0 ^^^ (c % 1024) = c % 1024
    rw [gm_zero_right, Nat.zero_xor]
/-- x times the product of (x + q), q from a list -/
def rp : List Nat → List Nat
  | [] => [0, 1]
  | q :: qs => pmul (rp qs) [q, 1]
theorem tr_pair (q : Nat) : tr [q, 1] = [q % 1024, 1] := by
  have : ([q, 1] : List Nat) = [q] ++ [1] := rfl
  rw [this, tr_snoc, if_neg (by decide)]
  rfl
theorem rp_tr (qs : List Nat) : tr (rp qs) = rp qs := by
  cases qs with
  | nil => show tr [0, 1] = [0, 1]; rw [tr_pair]
  | cons q qs => exact tr_pmul _ _
theorem rp_len {qs : List Nat} (h : qs.length ≤ 2000) : (rp qs).length ≤ qs.length + 2 := by
  induction qs with
  | nil => exact Nat.le_refl _
  | cons q qs ih =>
    have ih := ih (by simp at h; omega)
    simp at h
    have h1 : (tr [q, 1]).length = 2 := by rw [tr_pair]; rfl
    have e : rp (q :: qs) = pmul (rp qs) [q, 1] := rfl
    rw [e, pmul_eq (by rw [rp_tr, h1]; omega), List.length_cons]
    -- the product's length
    have hl : (pmul (rp qs) [q, 1]).length ≤ (rp qs).length + 1 := by
      unfold pmul
      split
      · exact Nat.zero_le _
      · refine Nat.le_trans (tr_len _) ?_
        rw [rm_len, rp_tr, h1]; omega
    rw [← pmul_eq (by rw [rp_tr, h1]; omega)]
    omega
/-- the product of (x + q) at x -/
def rtp (x : Nat) : List Nat → Nat
  | [] => 1
  | q :: qs => gm (rtp x qs) (x ^^^ q)
theorem rtp_lt {x : Nat} {qs : List Nat} : rtp x qs < 1024 := by
  induction qs with
  | nil => show 1 < 1024; decide
  | cons q qs ih => exact gm_lt _ ih
theorem ev_pair {x q : Nat} (hx : x < 1024) (hq : q < 1024) : ev x [q, 1] = x ^^^ q := by
  show gm (gm 0 x ^^^ (1 % 1024)) x ^^^ (q % 1024) = _
  rw [gm_zero_left, Nat.zero_xor, Nat.mod_eq_of_lt hq, show 1 % 1024 = 1 from rfl, gm_one_left hx]
theorem ev_rp {x : Nat} {qs : List Nat} (hx : x < 1024) (h : qs.length ≤ 2000) (hq : ∀ q ∈ qs, q < 1024) : ev x (rp qs) = gm x (rtp x qs) := by
  induction qs with
  | nil =>
    show ev x [0, 1] = gm x 1
    rw [ev_pair hx (by decide), Nat.xor_zero, gm_one_right]
  | cons q qs ih =>
    simp at h
    have ih := ih (by omega) (fun y hy => hq y (List.mem_cons_of_mem _ hy))
    have hl := rp_len (qs := qs) (by omega)
    have h1 : (tr [q, 1]).length = 2 := by rw [tr_pair]; rfl
    have hqq := hq q List.mem_cons_self
    show ev x (pmul (rp qs) [q, 1]) = gm x (gm (rtp x qs) (x ^^^ q))
    rw [ev_pmul x hx (by rw [rp_tr, h1]; omega), ih, ev_pair hx hqq, gm_assoc hx rtp_lt (xor_lt hx hqq)]
theorem rtp_zero {x : Nat} {qs : List Nat} (hx : x < 1024) (hq : ∀ q ∈ qs, q < 1024) : rtp x qs = 0 ↔ x ∈ qs := by
  induction qs with
  | nil => constructor
           · intro h; cases h
           · intro h; cases h
  | cons q qs ih =>
    have ih := ih fun y hy => hq y (List.mem_cons_of_mem _ hy)
    have hqq := hq q List.mem_cons_self
    show gm (rtp x qs) (x ^^^ q) = 0 ↔ _
    rw [gm_eq_zero rtp_lt (xor_lt hx hqq), ih, List.mem_cons]
    constructor
    · rintro (h | h)
      · exact Or.inr h
      · left
        have : (x ^^^ q) ^^^ q = 0 ^^^ q := by rw [h]
        rwa [Nat.xor_assoc, Nat.xor_self, Nat.xor_zero, Nat.zero_xor] at this
    · rintro (h | h)
      · right; rw [h, Nat.xor_self]
      · exact Or.inl h

/-- what place j of a word of n symbols stands for -/
def loc (n j : Nat) : Nat := E (n - 1 - j)
theorem loc_lt (n j : Nat) : loc n j < 1024 := E_lt _
theorem loc_inj {n i j : Nat} (hn : n ≤ 1023) (hi : i < n) (hj : j < n) (h : loc n i = loc n j) : i = j := by
  have := E_inj.1 h
  rw [Nat.mod_eq_of_lt (by omega), Nat.mod_eq_of_lt (by omega)] at this
  omega
/-- the i-th sum of a word -/
def syn (n : Nat) (d : Nat → Nat) (i : Nat) : Nat := X n fun j => gm (d j) (gpow (loc n j) i)
/-- A WORD WHOSE FIRST m SUMS ARE NOUGHT, AND THAT HAS AT MOST m SYMBOLS OTHER THAN NOUGHT, IS NOUGHT -/
theorem rs_zero {n m : Nat} {d : Nat → Nat} (hn : n ≤ 1023) (hm : m ≤ 1000) (hd : ∀ j, d j < 1024) (hs : ∀ i, 1 ≤ i → i ≤ m → syn n d i = 0) (P : List Nat) (hP : P.length ≤ m) (hsup : ∀ j, j < n → d j ≠ 0 → j ∈ P) :
    ∀ j, j < n → d j = 0 := by
  intro p hp
  rcases Nat.eq_zero_or_pos (d p) with h0 | h0
  · exact h0
  exfalso
  have hpP := hsup p hp (by omega)
  let Q := (P.erase p).filter (fun q => decide (q < n) && decide (q ≠ p))
  have hQl : Q.length + 1 ≤ m := by
    have h1 : Q.length ≤ (P.erase p).length := List.length_filter_le _ _
    have h2 := List.length_erase_of_mem hpP
    have h3 := List.length_pos_iff.2 (List.ne_nil_of_mem hpP)
    omega
  have hQ : ∀ q ∈ Q, q < n ∧ q ≠ p := by
    intro q hq
    have := (List.mem_filter.1 hq).2
    simpa using this
  have hQs : ∀ j, j < n → j ≠ p → d j ≠ 0 → j ∈ Q := by
    intro j hj hjp hdj
    refine List.mem_filter.2 ⟨(List.mem_erase_of_ne hjp).2 (hsup j hj hdj), by simp [hj, hjp]⟩
  have qs : ∀ q ∈ Q.map (loc n), q < 1024 := by
    intro q hq
    obtain ⟨y, _, rfl⟩ := List.mem_map.1 hq
    exact loc_lt n y
  have hlen : (Q.map (loc n)).length ≤ 2000 := by rw [List.length_map]; omega
  have hL := rp_len hlen
  rw [List.length_map] at hL
  -- the sum over all places, of the symbols times the polynomial's values
  have hsum : (X n fun j => gm (d j) (ev (loc n j) (rp (Q.map (loc n))))) = 0 := by
    have e1 : (X n fun j => gm (d j) (ev (loc n j) (rp (Q.map (loc n))))) = X (Q.length + 2) fun i => gm (at_ (rp (Q.map (loc n))) i % 1024) (syn n d i) := by
      have : ∀ j, gm (d j) (ev (loc n j) (rp (Q.map (loc n)))) = X (Q.length + 2) fun i => gm (at_ (rp (Q.map (loc n))) i % 1024) (gm (d j) (gpow (loc n j) i)) := by
        intro j
        rw [ev_more (loc n j) (loc_lt n j) _ hL, X_mul_left]
        refine X_congr fun i _ => ?_
        have h1 : at_ (rp (Q.map (loc n))) i % 1024 < 1024 := Nat.mod_lt _ (by decide)
        rw [← gm_assoc (hd j) h1 (gpow_lt i), gm_comm (hd j) h1, gm_assoc h1 (hd j) (gpow_lt i)]
      rw [X_congr (fun j _ => this j), X_swap]
      refine X_congr fun i _ => ?_
      rw [← X_mul_left]; rfl
    rw [e1]
    refine X_zero fun i hi => ?_
    rcases Nat.eq_zero_or_pos i with h1 | h1
    · subst h1
      have h2 : at_ (rp (Q.map (loc n))) 0 % 1024 = 0 := by
        rw [← ev_zero, ev_rp (by decide) hlen qs, gm_zero_left]
      rw [h2, gm_zero_left]
    · rw [hs i h1 (by omega), gm_zero_right]
  have hone : (X n fun j => gm (d j) (ev (loc n j) (rp (Q.map (loc n))))) = gm (d p) (ev (loc n p) (rp (Q.map (loc n)))) := by
    refine X_one (f := fun j => gm (d j) (ev (loc n j) (rp (Q.map (loc n))))) hp fun j hj hjp => ?_
    show gm (d j) (ev (loc n j) (rp (Q.map (loc n)))) = 0
    by_cases hdj : d j = 0
    · rw [hdj, gm_zero_left]
    · have hjQ := hQs j hj hjp hdj
      have : ev (loc n j) (rp (Q.map (loc n))) = 0 := by
        rw [ev_rp (loc_lt n j) hlen qs, (rtp_zero (loc_lt n j) qs).2 (List.mem_map_of_mem hjQ), gm_zero_right]
      rw [this, gm_zero_right]
  rw [hone] at hsum
  rcases (gm_eq_zero (hd p) (ev_lt _ _)).1 hsum with h1 | h1
  · omega
  · rw [ev_rp (loc_lt n p) hlen qs] at h1
    rcases (gm_eq_zero (loc_lt n p) rtp_lt).1 h1 with h2 | h2
    · exact E_ne _ h2
    · have := (rtp_zero (loc_lt n p) qs).1 h2
      obtain ⟨q, hq, hqe⟩ := List.mem_map.1 this
      obtain ⟨hqn, hqp⟩ := hQ q hq
      exact hqp (loc_inj hn hqn hp hqe)
end Go.Proofs.Ytmchelbmeajcnaa
namespace Go.Proofs.Ytmchelbmeajcnaa
open Go.Gf

/-- a word's value: its first symbol is the factor of the highest power -/
def hv (x : Nat) (w : List Nat) : Nat := ev x w.reverse
theorem hv_take {x : Nat} {w : List Nat} {k : Nat} (h : k < w.length) : hv x (w.take (k + 1)) = gm (hv x (w.take k)) x ^^^ (w[k] % 1024) := by
  unfold hv
  rw [take_snoc h, List.reverse_append]
  rfl
theorem hv_lt (x : Nat) (w : List Nat) : hv x w < 1024 := ev_lt _ _
theorem at_reverse {w : List Nat} {i : Nat} (h : i < w.length) : at_ w.reverse i = at_ w (w.length - 1 - i) := by
  rw [at_get (by simpa using h), at_get (by omega), List.getElem_reverse]
theorem X_rev' (n : Nat) (f : Nat → Nat) : X n f = X n fun i => f (n - 1 - i) := by
  cases n with
  | zero => rfl
  | succ n => rw [X_rev]; rfl
theorem hv_syn (w : List Nat) (i : Nat) : hv (E i) w = syn w.length (fun j => at_ w j % 1024) i := by
  unfold hv syn
  rw [ev_X (E i) (E_lt i), List.length_reverse, X_rev']
  refine X_congr fun j hj => ?_
  rw [at_reverse (by omega), show w.length - 1 - (w.length - 1 - j) = j by omega]
  congr 1
  unfold loc
  rw [gpow_E, gpow_E, Nat.mul_comm]
/-- is it a word of the code? -/
def isCw (w : List Nat) : Prop := ∀ i, 1 ≤ i → i ≤ 16 → hv (E i) w = 0
/-- the places in which two words part -/
def posTo (w c : List Nat) (m : Nat) : List Nat := (List.range m).filter fun j => decide (at_ w j ≠ at_ c j)
def errs (w c : List Nat) (m : Nat) : Errs := (posTo w c m).map fun j => (loc w.length j, at_ w j ^^^ at_ c j)
theorem posTo_succ (w c : List Nat) (m : Nat) : posTo w c (m + 1) = posTo w c m ++ if at_ w m ≠ at_ c m then [m] else [] := by
  unfold posTo
  rw [List.range_succ, List.filter_append]
  congr 1
  by_cases h : at_ w m ≠ at_ c m
  · rw [if_pos h]; simp [h]
  · rw [if_neg h]; simp at h; simp [h]
theorem Sm_append (xs ys : Errs) (i : Nat) : Sm (xs ++ ys) i = Sm xs i ^^^ Sm ys i := by
  induction xs with
  | nil => show Sm ys i = 0 ^^^ _; rw [Nat.zero_xor]
  | cons p xs ih => show gm _ _ ^^^ Sm (xs ++ ys) i = (gm _ _ ^^^ Sm xs i) ^^^ _; rw [ih, Nat.xor_assoc]
theorem Sm_errs (w c : List Nat) (m i : Nat) : Sm (errs w c m) i = X m fun j => gm (at_ w j ^^^ at_ c j) (gpow (loc w.length j) (i + 1)) := by
  induction m with
  | zero => rfl
  | succ m ih =>
    unfold errs at ih ⊢
    rw [posTo_succ, List.map_append, Sm_append, ih, X_succ]
    congr 1
    by_cases h : at_ w m ≠ at_ c m
    · rw [if_pos h]
      show gm _ _ ^^^ 0 = _
      rw [Nat.xor_zero]
    · rw [if_neg h]
      have h' : at_ w m = at_ c m := by simpa using h
      rw [h', Nat.xor_self, gm_zero_left]; rfl
theorem posTo_len (w c : List Nat) (hl : w.length = c.length) (m : Nat) (hm : m ≤ w.length) : (posTo w c m).length = cnt w c m := by
  induction m with
  | zero => rfl
  | succ m ih =>
    have h1 : m < w.length := by omega
    have h2 : m < c.length := by omega
    rw [posTo_succ, List.length_append, ih (by omega), cnt_step h1 h2, at_get h1, at_get h2]
    by_cases h : w[m] = c[m]
    · rw [if_neg (by simpa using h), if_pos h]; rfl
    · rw [if_pos (by simpa using h), if_neg h]; rfl
theorem dl_pos (w c : List Nat) (hl : w.length = c.length) : dl w c = (posTo w c w.length).length := by
  rw [posTo_len w c hl w.length (Nat.le_refl _)]
  unfold dl
  rw [cnt_end (by omega), hl, Nat.max_self, Nat.min_self, Nat.sub_self, Nat.zero_add]
theorem mem_pos {w c : List Nat} {m j : Nat} : j ∈ posTo w c m ↔ j < m ∧ at_ w j ≠ at_ c j := by
  unfold posTo
  rw [List.mem_filter, List.mem_range]
  simp
theorem dl_comm (w c : List Nat) (hl : w.length = c.length) : dl w c = dl c w := by
  rw [dl_pos w c hl, dl_pos c w hl.symm, hl]
  unfold posTo
  congr 2
  funext j
  rw [decide_eq_decide]
  exact ⟨fun h => h.symm, fun h => h.symm⟩
section
variable {w c : List Nat}
theorem errs_gd (hl : w.length = c.length) (hn : w.length ≤ 1023) (hw : ∀ y ∈ w, y < 1024) (hc : ∀ y ∈ c, y < 1024) (h8 : dl w c ≤ 1000) : Gd (errs w c w.length) := by
  refine ⟨?_, ?_, ?_⟩
  · unfold errs; rw [List.length_map, ← dl_pos w c hl]; exact h8
  · intro p hp
    obtain ⟨j, hj, rfl⟩ := List.mem_map.1 hp
    obtain ⟨h1, h2⟩ := mem_pos.1 hj
    exact ⟨E_ne _, loc_lt _ _, fun h => h2 (xor_zero_eq h), xor_lt (at_lt hw (by decide)) (at_lt hc (by decide))⟩
  · have : (errs w c w.length).map Prod.fst = (posTo w c w.length).map (loc w.length) := by unfold errs; rw [List.map_map]; rfl
    rw [this]
    have hnd : (posTo w c w.length).Nodup := List.Pairwise.filter _ List.nodup_range
    refine List.Pairwise.map _ ?_ (List.Pairwise.and_mem.1 hnd)
    rintro x y ⟨hx, hy, hxy⟩ he
    exact hxy (loc_inj hn (mem_pos.1 hx).1 (mem_pos.1 hy).1 he)
/-- the sums of what is wrong are those of the word -/
theorem errs_sums (hl : w.length = c.length) (hw : ∀ y ∈ w, y < 1024) (hc : ∀ y ∈ c, y < 1024) (hcw : isCw c) (i : Nat) (hi : i < 16) : Sm (errs w c w.length) i = hv (E (i + 1)) w := by
  have h0 := hcw (i + 1) (by omega) (by omega)
  rw [hv_syn] at h0 ⊢
  rw [Sm_errs]
  unfold syn at *
  have : (X w.length fun j => gm (at_ w j ^^^ at_ c j) (gpow (loc w.length j) (i + 1))) = (X w.length fun j => gm (at_ w j % 1024) (gpow (loc w.length j) (i + 1))) ^^^ X w.length fun j => gm (at_ c j % 1024) (gpow (loc c.length j) (i + 1)) := by
    rw [← X_xor]
    refine X_congr fun j _ => ?_
    have a1 : at_ w j < 1024 := at_lt hw (by decide)
    have a2 : at_ c j < 1024 := at_lt hc (by decide)
    rw [← hl, Nat.mod_eq_of_lt a1, Nat.mod_eq_of_lt a2, gm_xor_left _ a1 a2]
  rw [this, hl, h0, Nat.xor_zero]
end
/-- a word of the code within eight places -/
structure Near (w c : List Nat) : Prop where
  len : c.length = w.length
  bd : ∀ y ∈ c, y < 1024
  cw : isCw c
  near : dl c w ≤ 8
theorem list_ext_at {a b : List Nat} (hl : a.length = b.length) (h : ∀ j, j < a.length → at_ a j = at_ b j) : a = b := by
  apply List.ext_getElem hl
  intro j h1 h2
  have := h j h1
  rwa [at_get h1, at_get h2] at this
/-- THERE IS AT MOST ONE -/
theorem near_unique {w c c' : List Nat} (hn : w.length ≤ 1023) (h : Near w c) (h' : Near w c') : c = c' := by
  have hl : c.length = c'.length := h.len.trans h'.len.symm
  refine list_ext_at hl fun j hj => ?_
  have hc : ∀ j, at_ c j < 1024 := fun j => at_lt h.bd (by decide)
  have hc' : ∀ j, at_ c' j < 1024 := fun j => at_lt h'.bd (by decide)
  have h1 := h.near
  have h2 := h'.near
  rw [dl_pos c w h.len] at h1
  rw [dl_pos c' w h'.len] at h2
  have z := rs_zero (n := w.length) (m := 16) (d := fun j => at_ c j ^^^ at_ c' j) hn (by decide) (fun j => xor_lt (hc j) (hc' j)) (fun i h1 h2 => by
    have e1 := h.cw i h1 h2
    have e2 := h'.cw i h1 h2
    rw [hv_syn] at e1 e2
    rw [h.len] at e1
    rw [h'.len] at e2
    unfold syn at *
    have : (X w.length fun j => gm (at_ c j ^^^ at_ c' j) (gpow (loc w.length j) i)) = (X w.length fun j => gm (at_ c j % 1024) (gpow (loc w.length j) i)) ^^^ X w.length fun j => gm (at_ c' j % 1024) (gpow (loc w.length j) i) := by
      rw [← X_xor]
      refine X_congr fun j _ => ?_
      rw [Nat.mod_eq_of_lt (hc j), Nat.mod_eq_of_lt (hc' j), gm_xor_left _ (hc j) (hc' j)]
    rw [this, e1, e2]; rfl) (posTo c w c.length ++ posTo c' w c'.length) (by rw [List.length_append]; omega) (fun j hj hd => by
    rw [List.mem_append, mem_pos, mem_pos]
    by_cases e : at_ c j = at_ w j
    · right
      refine ⟨by rw [h'.len]; exact hj, fun e2 => hd ?_⟩
      show at_ c j ^^^ at_ c' j = 0
      rw [e, e2, Nat.xor_self]
    · exact Or.inl ⟨by rw [h.len]; exact hj, e⟩) j (by rw [← h.len]; exact hj)
  exact xor_zero_eq z
end Go.Proofs.Ytmchelbmeajcnaa
namespace Go.Proofs.Ytmchelbmeajcnaa
open Go.Gf

/-- the sixteen sums of a word -/
def sums (w : List Nat) : List Nat := rm 16 fun i => hv (E (i + 1)) w
/-- where the locator is looked at for place i -/
def ivp (n i : Nat) : Nat := ginv (loc n i)
theorem ivp_lt (n i : Nat) : ivp n i < 1024 := ginv_lt _
/-- place i, put right -/
def fixd (v b d w : List Nat) (n i : Nat) : Nat := at_ w i ^^^ (if ev (ivp n i) v = 0 then gm (ev (ivp n i) b) (ginv (ev (ivp n i) d)) else 0)
/-- how many of the first m places are roots -/
def manyR (v : List Nat) (n : Nat) : Nat → Nat
  | 0 => 0
  | m + 1 => manyR v n m + if ev (ivp n m) v = 0 then 1 else 0
theorem sums_tr (w : List Nat) (i : Nat) (h : i < 16) : at_ (tr (sums w)) i = hv (E (i + 1)) w := by
  unfold sums
  rw [at_tr, at_rm, if_pos h]
  exact Nat.mod_eq_of_lt (hv_lt _ _)
theorem sums_len (w : List Nat) : (tr (sums w)).length ≤ 16 := by
  refine Nat.le_trans (tr_len _) ?_
  unfold sums; rw [rm_len]; exact Nat.le_refl _
theorem cw_sums {w : List Nat} : isCw w ↔ ∀ i, i < 16 → at_ (sums w) i = 0 := by
  unfold sums isCw
  constructor
  · intro h i hi
    rw [at_rm, if_pos hi]
    exact h (i + 1) (by omega) (by omega)
  · intro h i h1 h2
    have := h (i - 1) (by omega)
    rw [at_rm, if_pos (by omega), show i - 1 + 1 = i by omega] at this
    exact this
theorem gm_ivp {n i j : Nat} (hn : n ≤ 1023) (hi : i < n) (hj : j < n) : gm (loc n j) (ivp n i) = 1 ↔ j = i := by
  constructor
  · intro h
    have h2 : gm (loc n i) (ivp n i) = 1 := gm_ginv (loc_lt n i) (E_ne _)
    exact loc_inj hn hj hi (one_inv (loc_lt n j) (loc_lt n i) (ivp_lt n i) h h2)
  · rintro rfl
    exact gm_ginv (loc_lt n j) (E_ne _)
/-- IF THERE IS A WORD OF THE CODE WITHIN EIGHT PLACES, THE DECODER FINDS IT -/
theorem dec_near {w c a b u v : List Nat} (hn : w.length ≤ 1023) (hw : ∀ y ∈ w, y < 1024) (h : EI (at_ (tr (sums w))) a b u v) (h8 : b.length ≤ 8) (h9 : 9 ≤ a.length) (hc : Near w c) (hbad : ¬ isCw w) :
    (2 ≤ v.length ∧ v.length ≤ 9) ∧ (∀ i, i < w.length → ev (ivp w.length i) v = 0 → ev (ivp w.length i) (slope v) ≠ 0) ∧ (∀ i, i < w.length → fixd v b (slope v) w w.length i = at_ c i) ∧ manyR v w.length w.length = v.length - 1 := by
  have hl : w.length = c.length := hc.len.symm
  have hdl : dl w c ≤ 8 := by rw [dl_comm w c hl]; exact hc.near
  have hg : Gd (errs w c w.length) := errs_gd hl hn hw hc.bd (by omega)
  have hlen : (errs w c w.length).length = dl w c := by unfold errs; rw [List.length_map, dl_pos w c hl]
  obtain ⟨e1, e2, e3⟩ := ei_end h h8 h9 hg (by omega) (fun i hi => by rw [errs_sums hl hw hc.bd hc.cw i hi, sums_tr w i hi])
  have hne : dl w c ≠ 0 := by
    intro h0
    have : w = c := (dl_zero hl).1 h0
    exact hbad (this ▸ hc.cw)
  have root : ∀ i, i < w.length → (ev (ivp w.length i) v = 0 ↔ at_ w i ≠ at_ c i) := by
    intro i hi
    rw [e2 _ (ivp_lt _ _)]
    constructor
    · rintro ⟨p, hp, h1⟩
      obtain ⟨j, hj, rfl⟩ := List.mem_map.1 hp
      obtain ⟨h2, h3⟩ := mem_pos.1 hj
      rw [(gm_ivp hn hi h2).1 h1] at h3
      exact h3
    · intro h1
      exact ⟨_, List.mem_map.2 ⟨i, mem_pos.2 ⟨hi, h1⟩, rfl⟩, (gm_ivp hn hi hi).2 rfl⟩
  have val : ∀ i, i < w.length → at_ w i ≠ at_ c i → ev (ivp w.length i) (slope v) ≠ 0 ∧ ev (ivp w.length i) b = gm (at_ w i ^^^ at_ c i) (ev (ivp w.length i) (slope v)) := fun i hi h1 =>
    e3 _ (List.mem_map.2 ⟨i, mem_pos.2 ⟨hi, h1⟩, rfl⟩) _ (ivp_lt _ _) ((gm_ivp hn hi hi).2 rfl)
  refine ⟨by omega, fun i hi h0 => (val i hi ((root i hi).1 h0)).1, fun i hi => ?_, ?_⟩
  · unfold fixd
    have a1 : at_ w i < 1024 := at_lt hw (by decide)
    have a2 : at_ c i < 1024 := at_lt hc.bd (by decide)
    by_cases h0 : ev (ivp w.length i) v = 0
    · obtain ⟨v1, v2⟩ := val i hi ((root i hi).1 h0)
      rw [if_pos h0, v2, gm_assoc (xor_lt a1 a2) (ev_lt _ _) (ginv_lt _), gm_ginv (ev_lt _ _) v1, gm_one_right, ← Nat.xor_assoc, Nat.xor_self, Nat.zero_xor]
    · have := mt (root i hi).2 h0
      rw [if_neg h0, Nat.xor_zero]
      simpa using this
  · have hm : ∀ m, m ≤ w.length → manyR v w.length m = (posTo w c m).length := by
      intro m
      induction m with
      | zero => intro _; rfl
      | succ m ih =>
        intro hm
        rw [posTo_succ, List.length_append, ← ih (by omega)]
        show manyR v w.length m + _ = _
        congr 1
        by_cases h1 : at_ w m ≠ at_ c m
        · rw [if_pos ((root m (by omega)).2 h1), if_pos h1]; rfl
        · rw [if_neg (mt (root m (by omega)).1 h1), if_neg h1]; rfl
    rw [hm _ (Nat.le_refl _), ← dl_pos w c hl]
    omega
end Go.Proofs.Ytmchelbmeajcnaa
namespace Go.Proofs.Ytmchelbmeajcnaa
open Go.Gf

/-- the product of (x + E i), i from 1 to k -/
def gens : Nat → List Nat
  | 0 => [1]
  | k + 1 => pmul (gens k) [E (k + 1), 1]
theorem gens_len : (gens 16).length = 17 := by decide +kernel
theorem gens_top : at_ (gens 16) 16 = 1 := by decide +kernel
theorem gens_tr : tr (gens 16) = gens 16 := tr_pmul _ _
theorem gens_root16 : ∀ r : Fin 16, ev (E (r.val + 1)) (gens 16) = 0 := by decide +kernel
theorem gens_root {i : Nat} (h1 : 1 ≤ i) (h2 : i ≤ 16) : ev (E i) (gens 16) = 0 := by
  have := gens_root16 ⟨i - 1, by omega⟩
  rwa [show (⟨i - 1, by omega⟩ : Fin 16).val + 1 = i by show i - 1 + 1 = i; omega] at this
theorem gens_lt (j : Nat) : at_ (gens 16) j < 1024 := at_lt_tr gens_tr j
/-- a row's value -/
def vs (x n : Nat) (f : Nat → Nat) : Nat := X n fun j => gm (f j) (gpow x (n - 1 - j))
theorem hv_vs (x : Nat) (hx : x < 1024) (w : List Nat) (hw : ∀ y ∈ w, y < 1024) : hv x w = vs x w.length (at_ w) := by
  unfold hv vs
  rw [ev_X x hx, List.length_reverse, X_rev']
  refine X_congr fun j hj => ?_
  rw [at_reverse (by omega), show w.length - 1 - (w.length - 1 - j) = j by omega, Nat.mod_eq_of_lt (at_lt hw (by decide))]
theorem vs_xor (x n : Nat) (f g : Nat → Nat) (hf : ∀ j, f j < 1024) (hg : ∀ j, g j < 1024) : vs x n (fun j => f j ^^^ g j) = vs x n f ^^^ vs x n g := by
  unfold vs
  rw [← X_xor]
  exact X_congr fun j _ => gm_xor_left _ (hf j) (hg j)
/-- a multiple of the generator, taken away from place i on, leaves a row's value at the roots as it was -/
theorem vs_mrow {x n i c : Nat} {f : Nat → Nat} (hx : x < 1024) (hr : ev x (gens 16) = 0) (hf : ∀ j, f j < 1024) (hc : c < 1024) (hi : i + 17 ≤ n) :
    vs x n (mrow f c (gens 16).reverse i 17) = vs x n f := by
  have hG := gens_lt
  have hrev : ∀ m, m < 17 → at_ (gens 16).reverse m = at_ (gens 16) (16 - m) := fun m hm => by rw [at_reverse (by rw [gens_len]; omega), gens_len]
  have e1 : vs x n (mrow f c (gens 16).reverse i 17) = vs x n f ^^^ X n fun j => gm (if i ≤ j ∧ j < i + 17 then gm c (at_ (gens 16).reverse (j - i)) else 0) (gpow x (n - 1 - j)) := by
    unfold vs
    rw [← X_xor]
    refine X_congr fun j _ => ?_
    rw [mrow_at]
    refine gm_xor_left _ (hf j) ?_
    split
    · exact gm_lt _ hc
    · decide
  have e2 : (X n fun j => gm (if i ≤ j ∧ j < i + 17 then gm c (at_ (gens 16).reverse (j - i)) else 0) (gpow x (n - 1 - j))) = 0 := by
    rw [X_more (n := i + 17) hi (fun j h1 _ => by rw [if_neg (by omega), gm_zero_left])]
    have e3 : (X (i + 17) fun j => gm (if i ≤ j ∧ j < i + 17 then gm c (at_ (gens 16).reverse (j - i)) else 0) (gpow x (n - 1 - j))) = X (i + 17) fun j => if i ≤ j then gm (gm c (at_ (gens 16).reverse (j - i))) (gpow x (n - 1 - j)) else 0 := X_congr fun j hj => by
      by_cases h : i ≤ j
      · rw [if_pos ⟨h, hj⟩, if_pos h]
      · rw [if_neg (fun h2 => h h2.1), if_neg h, gm_zero_left]
    rw [e3, X_from i 17 (fun j => gm (gm c (at_ (gens 16).reverse (j - i))) (gpow x (n - 1 - j)))]
    have e4 : (X 17 fun m => gm (gm c (at_ (gens 16).reverse (m + i - i))) (gpow x (n - 1 - (m + i)))) = X 17 fun m => gm c (gm (gm (at_ (gens 16) (16 - m)) (gpow x (16 - m))) (gpow x (n - 17 - i))) := X_congr fun m hm => by
      rw [show m + i - i = m by omega, hrev m hm, show n - 1 - (m + i) = (16 - m) + (n - 17 - i) by omega, ← gpow_add x _ _ hx, gm_assoc hc (hG _) (gm_lt _ (gpow_lt _)), ← gm_assoc (hG _) (gpow_lt _) (gpow_lt _)]
    rw [e4, ← X_mul_left, ← X_mul_right _ (fun m _ => gm_lt _ (hG _))]
    have e5 : (X 17 fun m => gm (at_ (gens 16) (16 - m)) (gpow x (16 - m))) = 0 := by
      have := X_rev 16 (fun m => gm (at_ (gens 16) m) (gpow x m))
      rw [← this]
      have e6 := ev_X x hx (gens 16)
      rw [gens_len, hr] at e6
      rw [e6]
      exact X_congr fun m _ => by rw [Nat.mod_eq_of_lt (hG m)]
    rw [e5, gm_zero_left, gm_zero_right]
  rw [e1, e2, Nat.xor_zero]
/-- the row after i steps -/
def er (xs : List Nat) : Nat → Nat → Nat
  | 0, j => at_ xs j
  | i + 1, j => mrow (er xs i) (er xs i i) (gens 16).reverse i 17 j
section
variable {xs : List Nat}
theorem er_lt (hx : ∀ x ∈ xs, x < 1024) (i j : Nat) : er xs i j < 1024 := by
  induction i generalizing j with
  | zero => exact at_lt hx (by decide)
  | succ i ih => exact mrow_lt ih (ih i) _ _
theorem er_low (i j : Nat) (h : j < i) : er xs i j = 0 := by
  induction i generalizing j with
  | zero => omega
  | succ i ih =>
    show mrow (er xs i) (er xs i i) (gens 16).reverse i 17 j = 0
    rw [mrow_at]
    rcases Nat.lt_or_ge j i with h1 | h1
    · rw [ih j h1, if_neg (by omega)]; rfl
    · obtain rfl : j = i := by omega
      rw [if_pos ⟨Nat.le_refl _, by omega⟩, Nat.sub_self, at_reverse (by rw [gens_len]; omega), gens_len, gens_top, gm_one_right, Nat.xor_self]
theorem er_vs (hx : ∀ x ∈ xs, x < 1024) {r : Nat} (h1 : 1 ≤ r) (h2 : r ≤ 16) (i : Nat) (hi : i ≤ xs.length) : vs (E r) (xs.length + 16) (er xs i) = vs (E r) (xs.length + 16) (at_ xs) := by
  induction i with
  | zero => rfl
  | succ i ih =>
    rw [← ih (by omega)]
    exact vs_mrow (E_lt r) (gens_root h1 h2) (er_lt hx i) (er_lt hx i i) (by omega)
end
/-- the word of xs -/
def enc (xs : List Nat) : List Nat := xs ++ rm 16 fun t => er xs xs.length (xs.length + t)
theorem enc_len (xs : List Nat) : (enc xs).length = xs.length + 16 := by unfold enc; rw [List.length_append, rm_len]
theorem at_append (a b : List Nat) (j : Nat) : at_ (a ++ b) j = if j < a.length then at_ a j else at_ b (j - a.length) := by
  unfold at_ List.getD
  split
  · rename_i h; rw [List.getElem?_append_left h]
  · rename_i h; rw [List.getElem?_append_right (by omega)]
theorem enc_bd {xs : List Nat} (hx : ∀ x ∈ xs, x < 1024) : ∀ y ∈ enc xs, y < 1024 := by
  intro y hy
  rcases List.mem_append.1 hy with h | h
  · exact hx y h
  · exact rm_mem (fun j _ => er_lt hx _ _) y h
theorem enc_cw {xs : List Nat} (hx : ∀ x ∈ xs, x < 1024) : isCw (enc xs) := by
  intro r h1 h2
  rw [hv_vs (E r) (E_lt r) _ (enc_bd hx), enc_len]
  have e : vs (E r) (xs.length + 16) (at_ (enc xs)) = vs (E r) (xs.length + 16) (fun j => at_ xs j ^^^ er xs xs.length j) := by
    unfold vs
    refine X_congr fun j hj => ?_
    congr 1
    show at_ (xs ++ rm 16 fun t => er xs xs.length (xs.length + t)) j = at_ xs j ^^^ er xs xs.length j
    rw [at_append]
    by_cases h : j < xs.length
    · rw [if_pos h, er_low _ _ h, Nat.xor_zero]
    · rw [if_neg h, at_far (xs := xs) (by omega), Nat.zero_xor, at_rm, if_pos (by omega), show xs.length + (j - xs.length) = j by omega]
  rw [e, vs_xor _ _ _ _ (fun j => at_lt hx (by decide)) (er_lt hx _), er_vs hx h1 h2 _ (Nat.le_refl _), Nat.xor_self]
/-- A WORD OF THE CODE IS KNOWN BY ALL BUT ITS LAST SIXTEEN SYMBOLS -/
theorem cw_prefix {a b : List Nat} (hl : a.length = b.length) (hn : a.length ≤ 1023) (ha : ∀ y ∈ a, y < 1024) (hb : ∀ y ∈ b, y < 1024) (ca : isCw a) (cb : isCw b) {k : Nat} (hk : a.length ≤ k + 16) (h : ∀ j, j < k → at_ a j = at_ b j) : a = b := by
  refine list_ext_at hl fun j hj => ?_
  have hA : ∀ j, at_ a j < 1024 := fun j => at_lt ha (by decide)
  have hB : ∀ j, at_ b j < 1024 := fun j => at_lt hb (by decide)
  have z := rs_zero (n := a.length) (m := 16) (d := fun j => at_ a j ^^^ at_ b j) hn (by decide) (fun j => xor_lt (hA j) (hB j)) (fun i h1 h2 => by
    have e1 := ca i h1 h2
    have e2 := cb i h1 h2
    rw [hv_syn] at e1 e2
    rw [← hl] at e2
    unfold syn at *
    have : (X a.length fun j => gm (at_ a j ^^^ at_ b j) (gpow (loc a.length j) i)) = (X a.length fun j => gm (at_ a j % 1024) (gpow (loc a.length j) i)) ^^^ X a.length fun j => gm (at_ b j % 1024) (gpow (loc a.length j) i) := by
      rw [← X_xor]
      refine X_congr fun j _ => ?_
      rw [Nat.mod_eq_of_lt (hA j), Nat.mod_eq_of_lt (hB j), gm_xor_left _ (hA j) (hB j)]
    rw [this, e1, e2]; rfl) ((List.range 16).map fun t => k + t) (by simp) (fun j hj hd => by
    rcases Nat.lt_or_ge j k with h1 | h1
    · exact absurd (by show at_ a j ^^^ at_ b j = 0; rw [h j h1, Nat.xor_self]) hd
    · exact List.mem_map.2 ⟨j - k, List.mem_range.2 (by omega), by omega⟩) j hj
  exact xor_zero_eq z
theorem enc_unique {xs w : List Nat} (hx : ∀ x ∈ xs, x < 1024) (hl : w.length = xs.length + 16) (hn : w.length ≤ 1023) (hw : ∀ y ∈ w, y < 1024) (hc : isCw w) (h : ∀ j, j < xs.length → at_ w j = at_ xs j) : w = enc xs :=
  cw_prefix (by rw [enc_len]; exact hl) hn hw (enc_bd hx) hc (enc_cw hx) (k := xs.length) (by omega) fun j hj => by
    rw [h j hj]; unfold enc; rw [at_append, if_pos hj]
end Go.Proofs.Ytmchelbmeajcnaa
namespace Go.Proofs.Ytmchelbmeajcnaa
open Go.Gf

theorem vs_congr {x n : Nat} {f g : Nat → Nat} (h : ∀ j, j < n → f j = g j) : vs x n f = vs x n g :=
  X_congr fun j hj => by rw [h j hj]
theorem vs_scale (x n s : Nat) (f : Nat → Nat) (hf : ∀ j, f j < 1024) (hs : s < 1024) : vs x n (fun j => gm (f j) s) = gm s (vs x n f) := by
  unfold vs
  rw [X_mul_left]
  refine X_congr fun j _ => ?_
  show gm (gm (f j) s) (gpow x (n - 1 - j)) = _
  rw [gm_comm (hf j) hs, gm_assoc hs (hf j) (gpow_lt _)]
theorem cw_vs {w : List Nat} (hw : ∀ y ∈ w, y < 1024) : isCw w ↔ ∀ i, 1 ≤ i → i ≤ 16 → vs (E i) w.length (at_ w) = 0 := by
  unfold isCw
  refine ⟨fun h i h1 h2 => ?_, fun h i h1 h2 => ?_⟩
  · rw [← hv_vs (E i) (E_lt i) w hw]; exact h i h1 h2
  · rw [hv_vs (E i) (E_lt i) w hw]; exact h i h1 h2
theorem rm_bd {n : Nat} {f : Nat → Nat} (h : ∀ j, f j < 1024) : ∀ y ∈ rm n f, y < 1024 := rm_mem fun j _ => h j
/-- the sum of two words -/
def xw (a b : List Nat) : List Nat := rm a.length fun j => at_ a j ^^^ at_ b j
/-- a word times a number -/
def sw (s : Nat) (a : List Nat) : List Nat := rm a.length fun j => gm (at_ a j) s
section
variable {a b : List Nat} {s : Nat}
theorem xw_len : (xw a b).length = a.length := rm_len _ _
theorem sw_len : (sw s a).length = a.length := rm_len _ _
theorem xw_at (h : a.length = b.length) (j : Nat) : at_ (xw a b) j = at_ a j ^^^ at_ b j := by
  unfold xw
  rw [at_rm]
  split
  · rfl
  · rw [at_far (xs := a) (by omega), at_far (xs := b) (by omega)]; rfl
theorem sw_at (j : Nat) : at_ (sw s a) j = gm (at_ a j) s := by
  unfold sw
  rw [at_rm]
  split
  · rfl
  · rw [at_far (xs := a) (by omega), gm_zero_left]
theorem xw_bd (ha : ∀ y ∈ a, y < 1024) (hb : ∀ y ∈ b, y < 1024) : ∀ y ∈ xw a b, y < 1024 := rm_bd fun j => xor_lt (at_lt ha (by decide)) (at_lt hb (by decide))
theorem sw_bd (ha : ∀ y ∈ a, y < 1024) : ∀ y ∈ sw s a, y < 1024 := rm_bd fun j => gm_lt _ (at_lt ha (by decide))
theorem cw_xor (hl : a.length = b.length) (ha : ∀ y ∈ a, y < 1024) (hb : ∀ y ∈ b, y < 1024) (ca : isCw a) (cb : isCw b) : isCw (xw a b) := by
  rw [cw_vs (xw_bd ha hb)]
  intro i h1 h2
  have e1 := (cw_vs ha).1 ca i h1 h2
  have e2 := (cw_vs hb).1 cb i h1 h2
  rw [← hl] at e2
  rw [xw_len, vs_congr (fun j _ => xw_at hl j), vs_xor _ _ _ _ (fun j => at_lt ha (by decide)) (fun j => at_lt hb (by decide)), e1, e2]; rfl
theorem cw_scale (ha : ∀ y ∈ a, y < 1024) (hs : s < 1024) (ca : isCw a) : isCw (sw s a) := by
  rw [cw_vs (sw_bd ha)]
  intro i h1 h2
  have e1 := (cw_vs ha).1 ca i h1 h2
  rw [sw_len, vs_congr (fun j _ => sw_at j), vs_scale _ _ _ _ (fun j => at_lt ha (by decide)) hs, e1, gm_zero_right]
theorem enc_pre (xs : List Nat) {j : Nat} (h : j < xs.length) : at_ (enc xs) j = at_ xs j := by
  unfold enc; rw [at_append, if_pos h]
theorem enc_xor (hl : a.length = b.length) (hn : a.length ≤ 1007) (ha : ∀ y ∈ a, y < 1024) (hb : ∀ y ∈ b, y < 1024) : enc (xw a b) = xw (enc a) (enc b) := by
  have hl2 : (enc a).length = (enc b).length := by rw [enc_len, enc_len, hl]
  symm
  refine enc_unique (xw_bd ha hb) (by rw [xw_len, xw_len, enc_len]) (by rw [xw_len, enc_len]; omega) (xw_bd (enc_bd ha) (enc_bd hb)) (cw_xor hl2 (enc_bd ha) (enc_bd hb) (enc_cw ha) (enc_cw hb)) fun j hj => ?_
  rw [xw_len] at hj
  rw [xw_at hl2, xw_at hl, enc_pre a hj, enc_pre b (by omega)]
theorem enc_scale (hn : a.length ≤ 1007) (ha : ∀ y ∈ a, y < 1024) (hs : s < 1024) : enc (sw s a) = sw s (enc a) := by
  symm
  refine enc_unique (sw_bd ha) (by rw [sw_len, sw_len, enc_len]) (by rw [sw_len, enc_len]; omega) (sw_bd (enc_bd ha)) (cw_scale (enc_bd ha) hs (enc_cw ha)) fun j hj => ?_
  rw [sw_len] at hj
  rw [sw_at, sw_at, enc_pre a hj]
/-- TWO WORDS OF THE CODE PART IN MORE THAN SIXTEEN PLACES -/
theorem cw_dist (hl : a.length = b.length) (hn : a.length ≤ 1023) (ha : ∀ y ∈ a, y < 1024) (hb : ∀ y ∈ b, y < 1024) (ca : isCw a) (cb : isCw b) (hd : dl a b ≤ 16) : a = b := by
  refine list_ext_at hl fun j hj => ?_
  have hA : ∀ j, at_ a j < 1024 := fun j => at_lt ha (by decide)
  have hB : ∀ j, at_ b j < 1024 := fun j => at_lt hb (by decide)
  rw [dl_pos a b hl] at hd
  have z := rs_zero (n := a.length) (m := 16) (d := fun j => at_ a j ^^^ at_ b j) hn (by decide) (fun j => xor_lt (hA j) (hB j)) (fun i h1 h2 => by
    have e1 := ca i h1 h2
    have e2 := cb i h1 h2
    rw [hv_syn] at e1 e2
    rw [← hl] at e2
    unfold syn at *
    have : (X a.length fun j => gm (at_ a j ^^^ at_ b j) (gpow (loc a.length j) i)) = (X a.length fun j => gm (at_ a j % 1024) (gpow (loc a.length j) i)) ^^^ X a.length fun j => gm (at_ b j % 1024) (gpow (loc a.length j) i) := by
      rw [← X_xor]
      refine X_congr fun j _ => ?_
      rw [Nat.mod_eq_of_lt (hA j), Nat.mod_eq_of_lt (hB j), gm_xor_left _ (hA j) (hB j)]
    rw [this, e1, e2]; rfl) (posTo a b a.length) hd (fun j hj hd => by
    rw [mem_pos]
    exact ⟨hj, fun e => hd (by show at_ a j ^^^ at_ b j = 0; rw [e, Nat.xor_self])⟩) j hj
  exact xor_zero_eq z
end
/-- noughts ahead -/
def front (k : Nat) (a : List Nat) : List Nat := List.replicate k 0 ++ a
section
variable {a b w : List Nat} {k : Nat}
theorem front_len : (front k a).length = k + a.length := by unfold front; rw [List.length_append, List.length_replicate]
theorem front_bd : (∀ y ∈ front k a, y < 1024) ↔ ∀ y ∈ a, y < 1024 := by
  unfold front
  constructor
  · intro h y hy; exact h y (List.mem_append_right _ hy)
  · intro h y hy
    rcases List.mem_append.1 hy with h1 | h1
    · rw [List.eq_of_mem_replicate h1]; decide
    · exact h y h1
theorem hv_front (x : Nat) (hx : x < 1024) : hv x (front k a) = hv x a := by
  unfold hv front
  refine ev_ext x hx fun j => ?_
  rw [List.reverse_append, List.reverse_replicate, at_append]
  split
  · rfl
  · rename_i h
    rw [at_far (xs := a.reverse) (by omega)]
    unfold at_ List.getD
    rw [List.getElem?_replicate]
    split <;> rfl
theorem cw_front : isCw (front k a) ↔ isCw a := by
  unfold isCw
  refine ⟨fun h i h1 h2 => ?_, fun h i h1 h2 => ?_⟩
  · rw [← hv_front (k := k) _ (E_lt i)]; exact h i h1 h2
  · rw [hv_front _ (E_lt i)]; exact h i h1 h2
theorem dl_front : dl (front k a) (front k b) = dl a b := by
  unfold dl front
  rw [List.zip_append (by simp), List.countP_append, List.length_append, List.length_append, List.length_replicate]
  have : ((List.replicate k 0).zip (List.replicate k 0)).countP (fun p : Nat × Nat => p.1 != p.2) = 0 := by
    rw [List.zip_replicate']
    simp
  rw [this]
  omega
theorem near_front : Near (front k w) (front k a) ↔ Near w a := by
  constructor
  · intro h
    exact ⟨by have := h.len; rw [front_len, front_len] at this; omega, front_bd.1 h.bd, cw_front.1 h.cw, by have := h.near; rwa [dl_front] at this⟩
  · intro h
    exact ⟨by rw [front_len, front_len, h.len], front_bd.2 h.bd, cw_front.2 h.cw, by rw [dl_front]; exact h.near⟩
theorem front_of (hk : k ≤ b.length) (h : ∀ j, j < k → at_ b j = 0) : b = front k (b.drop k) := by
  refine list_ext_at (by rw [front_len, List.length_drop]; omega) fun j hj => ?_
  unfold front
  rw [at_append, List.length_replicate]
  split
  · rename_i h1
    rw [h j h1]
    unfold at_ List.getD
    rw [List.getElem?_replicate, if_pos h1]; rfl
  · unfold at_ List.getD
    rw [List.getElem?_drop, show k + (j - k) = j by omega]
end
/-- one symbol changed where two rows did not part -/
theorem dl_set {a b : List Nat} (hl : a.length = b.length) {k : Nat} (hk : k < a.length) (h : at_ a k = at_ b k) (y : Nat) : dl a (b.set k y) = dl a b + if y = at_ a k then 0 else 1 := by
  induction a generalizing b k with
  | nil => simp at hk
  | cons x a ih =>
    cases b with
    | nil => simp at hl
    | cons z b =>
      have hl' : a.length = b.length := by simpa using hl
      have e : ∀ (x z : Nat) (a b : List Nat), a.length = b.length → dl (x :: a) (z :: b) = dl a b + if x = z then 0 else 1 := fun x z a b hl => by
        unfold dl
        simp only [List.length_cons, List.zip_cons_cons, List.countP_cons, hl]
        by_cases h : x = z <;> simp [h]
      cases k with
      | zero =>
        have h0 : x = z := h
        rw [List.set_cons_zero, e x y a b hl', e x z a b hl', h0]
        show _ = _ + if y = z then 0 else 1
        by_cases h1 : y = z
        · simp [h1]
        · simp [h1, Ne.symm h1]
      | succ k =>
        rw [List.set_cons_succ, e x z a (b.set k y) (by rw [List.length_set]; exact hl'), e x z a b hl', ih hl' (by simpa using hk) h]
        show _ = _ + (if y = at_ a k then 0 else 1)
        omega
end Go.Proofs.Ytmchelbmeajcnaa
