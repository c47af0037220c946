/- append onto a row of one's own: what changes is that row's block alone, or a new one. · Polynomials over the field of 1024 numbers: slopes of products, quotients and rests, degrees (plain mathematics). · Polynomials over the field of 1024 numbers: quotient times divisor and the rest are what was divided; there is just one such pair (plain mathematics). · Division by steps from the highest place down, skipping what is nought there (plain mathematics). · The program's package poly: the length of a polynomial, and Trim. -/
import Derived.Test.YtjhoecfhmndcgaaGreatV16
namespace Go.Proofs.YtjhoecfhmndcgaaGreat
open Go.RowKit Go.Gf

theorem OwnS.inHeap {w0 w : World} {v : Value} {ys : List Nat} (h : OwnS w0 w v ys) {k : Nat} (hk : v.ownBlock = some k) : k < w.heap.size := by
  obtain ⟨⟨_, h2⟩, _⟩ := h
  rcases h2 with ⟨rfl, _⟩ | ⟨g, cap, cur, rfl, _, hh, _⟩
  · cases hk
  · simp [Value.ownBlock] at hk
    subst hk
    rcases Nat.lt_or_ge g w.heap.size with hlt | hge
    · exact hlt
    · rw [Array.getElem?_eq_none hge] at hh; cases hh
/-- another block grows: the row stays -/
theorem OwnS.grown {w0 w w' : World} {v : Value} {ys : List Nat} {r : Option Nat} (h : OwnS w0 w v ys) (hg : w.grownBy w' r) (hne : v.ownBlock = none ∨ v.ownBlock ≠ r) : OwnS w0 w' v ys := ⟨h.1.kept hg hne, h.2⟩
theorem OwnS.alloc {w0 w : World} {v : Value} {ys : List Nat} (h : OwnS w0 w v ys) (o : Obj) : OwnS w0 (w.alloc o) v ys := ⟨h.1.alloc o, h.2⟩
set_option maxRecDepth 20000 in
theorem app_own {w0 w : World} {ops : Array Oper} {rest : List Oper} {o : Oper} {a : Act} {Q : Exit → Act → World → Prop} (hgd : o.guard = none) (s x : Operand)
    (ho : o.op = .call { callee := .builtin .append, args := #[s, x], argTypes := #[41, 41] }) (v : Value) (ys : List Nat) (hs : a.eval s = v) (hown : OwnS w0 w v ys) (hb : w0.heap.size ≤ w.heap.size)
    (ad : Addr) (c : Nat) (zs : List Nat) (hx : a.eval x = .slice (some ad) zs.length c) (hz : Sl w w.heap.size (some ad) zs) (h63 : ys.length + zs.length ≤ 1000000)
    (h : ∀ v' w', OwnS w0 w' v' (ys ++ zs) → w.grownBy w' v.ownBlock → (v'.ownBlock = v.ownBlock ∨ v'.ownBlock = some w.heap.size) → wpList Tryz.prog ops Q rest (a.put o.dst v') w') :
    wpList Tryz.prog ops Q (o :: rest) a w := by
  have hi0 := info22
  obtain ⟨i, hi, hrest⟩ := Option.map_eq_some_iff.1 hi0
  simp only [Prod.mk.injEq] at hrest
  obtain ⟨i1, i2, i3⟩ := hrest
  have hcell : ∀ j (hj : j < zs.length), w.cell? (ad.add j) = some (uv zs[j]) := by
    intro j hj
    rcases hz.2 with e | ⟨ad', e, _, hc⟩
    · rw [e] at hj; exact absurd hj (by simp)
    · injection e with e; subst e; exact hc j hj
  refine wpList_append_own_at w hgd s x 41 ho w0.heap.size 46 i (.int .u16 0) 1 2 Tryz.underlying41 hi i1 i2 i3 rfl (by decide) v ys.length (ys.map uv) hs hown.1 ad zs.length c (zs.map uv) hx (by simp) (fun j u hu => ?_) (fun u hu => ?_) (by unfold maxLen; omega) (by omega) hb (fun v' w' h1 h2 _ h5 => ?_)
  · rw [List.getElem?_map] at hu
    rcases Nat.lt_or_ge j zs.length with hj | hj
    · rw [List.getElem?_eq_getElem hj] at hu
      injection hu with hu
      rw [← hu]; exact hcell j hj
    · rw [List.getElem?_eq_none hj] at hu; cases hu
  · obtain ⟨y, _, rfl⟩ := List.mem_map.1 hu; rfl
  · refine h v' w' ⟨?_, ?_⟩ h2 h5
    · rw [List.length_append, List.map_append]; exact h1
    · intro y hy
      rcases List.mem_append.1 hy with hy | hy
      · exact hown.2 y hy
      · exact hz.1 y hy
/-- make([]uint16, 0, n) -/
theorem make_empty (n : Nat) (hn : n ≤ 1000000) (w : World) : (Instr.makeSlice 41 (.int .i64 0) (.int .i64 (n : Int))).run Tryz.prog w = .ok (.slice (some ⟨w.heap.size, 0, none⟩) 0 n) (w.alloc (.cells (madeCells #[.int .u16 0] n) 46)) := by
  have hi0 := info22
  obtain ⟨i, hi, hrest⟩ := Option.map_eq_some_iff.1 hi0
  simp only [Prod.mk.injEq] at hrest
  obtain ⟨i1, i2, i3⟩ := hrest
  have := run_make (P := Tryz.prog) w 41 46 i (.int .u16 0) Tryz.underlying41 hi i1 .i64 .i64 0 (n : Int) (Int.le_refl _) (by omega) (by rw [i3]; omega) (by omega)
  rw [i2] at this
  rw [show (Value.int IntKind.u16 0).cells = #[Value.int IntKind.u16 0] from rfl] at this
  simpa using this
theorem OwnS.emptyN (n : Nat) (hn : n ≤ 1000000) (w : World) : OwnS w (w.alloc (.cells (madeCells #[.int .u16 0] n) 46)) (.slice (some ⟨w.heap.size, 0, none⟩) 0 n) [] :=
  ⟨World.ownsRow_made w _ n (Nat.le_refl _) (by unfold maxLen; omega) (by rw [size_madeCells, Nat.mul_one]), by simp⟩
end Go.Proofs.YtjhoecfhmndcgaaGreat
namespace Go.Proofs.YtjhoecfhmndcgaaGreat
open Go.Gf

/-! slopes -/
def dF (f : Nat → Nat) (i : Nat) : Nat := if i % 2 = 0 then f (i + 1) else 0
theorem cv_slope {f g : Nat → Nat} (j : Nat) : cv (dF f) g j ^^^ cv f (dF g) j = if j % 2 = 0 then cv f g (j + 1) else 0 := by
  have h1 : cv (dF f) g j = X (j + 2) fun i => if i % 2 = 1 then gm (f i) (g (j + 1 - i)) else 0 := by
    rw [X_shift, if_neg (by decide), Nat.zero_xor]
    refine X_congr fun i hi => ?_
    unfold dF
    by_cases h : i % 2 = 0
    · rw [if_pos h, if_pos (by omega), show j + 1 - (i + 1) = j - i by omega]
    · rw [if_neg h, if_neg (by omega), gm_zero_left]
  have h2 : cv f (dF g) j = X (j + 2) fun i => if (j + 1 - i) % 2 = 1 then gm (f i) (g (j + 1 - i)) else 0 := by
    rw [X_succ, if_neg (by omega), Nat.xor_zero]
    refine X_congr fun i hi => ?_
    unfold dF
    by_cases h : (j - i) % 2 = 0
    · rw [if_pos h, if_pos (by omega), show j - i + 1 = j + 1 - i by omega]
    · rw [if_neg h, if_neg (by omega), gm_zero_right]
  rw [h1, h2, ← X_xor]
  by_cases hj : j % 2 = 0
  · rw [if_pos hj]
    refine X_congr fun i hi => ?_
    by_cases h : i % 2 = 1
    · rw [if_pos h, if_neg (by omega), Nat.xor_zero]
    · rw [if_neg h, if_pos (by omega), Nat.zero_xor]
  · rw [if_neg hj]
    refine X_zero fun i hi => ?_
    by_cases h : i % 2 = 1
    · rw [if_pos h, if_pos (by omega), Nat.xor_self]
    · rw [if_neg h, if_neg (by omega), Nat.xor_self]
theorem at_slope' (xs : List Nat) (j : Nat) : at_ (slope xs) j = dF (at_ (tr xs)) j := by
  rw [at_slope]; unfold dF; rw [at_tr]
theorem slope_len (xs : List Nat) : (tr (slope xs)).length ≤ (tr xs).length := by
  rw [tr_slope]
  by_cases h0 : slope xs = []
  · rw [h0]; exact Nat.zero_le _
  · have h1 := tr_last xs
    have h2 : at_ (slope xs) ((slope xs).length - 1) ≠ 0 := by
      have := tr_last (slope xs) (by rw [tr_slope]; exact h0)
      rw [tr_slope] at this; exact this
    rw [at_slope'] at h2
    unfold dF at h2
    rcases Nat.lt_or_ge (tr xs).length ((slope xs).length) with h3 | h3
    · exfalso
      apply h2
      rw [at_far (by omega), ite_self]
    · exact h3
/-- THE SLOPE OF A PRODUCT -/
theorem slope_pmul {p q : List Nat} (h : (tr p).length + (tr q).length - 1 ≤ 4096) : slope (pmul p q) = padd (pmul (slope p) q) (pmul p (slope q)) := by
  have l1 := slope_len p
  have l2 := slope_len q
  refine row_ext (tr_slope _) (tr_padd _ _) fun j => ?_
  rw [at_slope', tr_pmul, at_padd, at_pmul (by omega), at_pmul (by omega)]
  have hp := at_lt' (tr_bd p)
  have hq := at_lt' (tr_bd q)
  have e1 : cv (at_ (tr (slope p))) (at_ (tr q)) j = cv (dF (at_ (tr p))) (at_ (tr q)) j := cv_congr (fun i => by rw [tr_slope, at_slope']) (fun _ => rfl) j
  have e2 : cv (at_ (tr p)) (at_ (tr (slope q))) j = cv (at_ (tr p)) (dF (at_ (tr q))) j := cv_congr (fun _ => rfl) (fun i => by rw [tr_slope, at_slope']) j
  have b1 : cv (dF (at_ (tr p))) (at_ (tr q)) j < 1024 := cv_lt _ (fun i => by unfold dF; split; exact hp _; decide) j
  have b2 : cv (at_ (tr p)) (dF (at_ (tr q))) j < 1024 := cv_lt _ hp j
  rw [e1, e2, Nat.mod_eq_of_lt b1, Nat.mod_eq_of_lt b2, cv_slope]
  unfold dF
  rw [at_pmul h]
/-! sums and products: order, dealing out -/
theorem padd_len (p q : List Nat) : (tr (padd p q)).length ≤ max (tr p).length (tr q).length := by
  rw [tr_padd]
  by_cases h0 : padd p q = []
  · rw [h0]; exact Nat.zero_le _
  · have h1 := tr_last (padd p q) (by rw [tr_padd]; exact h0)
    rw [tr_padd, at_padd, ← at_tr, ← at_tr] at h1
    rcases Nat.lt_or_ge (max (tr p).length (tr q).length) ((padd p q).length) with h2 | h2
    · exfalso
      apply h1
      rw [at_far (xs := tr p) (by omega), at_far (xs := tr q) (by omega)]; rfl
    · exact h2
/-! degrees -/
theorem len_of {xs : List Nat} (hx : tr xs = xs) {n : Nat} (h1 : at_ xs n ≠ 0) (h2 : ∀ j, n < j → at_ xs j = 0) : xs.length = n + 1 := by
  have a1 : n < xs.length := by
    rcases Nat.lt_or_ge n xs.length with h | h
    · exact h
    · exact absurd (at_far h) h1
  have hne : xs ≠ [] := by rintro rfl; simp at a1
  have a2 := tr_last xs (by rw [hx]; exact hne)
  rw [hx] at a2
  rcases Nat.lt_or_ge n (xs.length - 1) with h | h
  · exact absurd (h2 _ h) a2
  · omega
theorem X_one {n k : Nat} {f : Nat → Nat} (hk : k < n) (h : ∀ i, i < n → i ≠ k → f i = 0) : X n f = f k := by
  induction n with
  | zero => omega
  | succ n ih =>
    rw [X_succ]
    by_cases e : k = n
    · subst e
      rw [X_zero fun i hi => h i (by omega) (by omega), Nat.zero_xor]
    · rw [h n (by omega) (by omega), Nat.xor_zero]
      exact ih (by omega) fun i hi => h i (by omega)
theorem pmul_len {p q : List Nat} (h : (tr p).length + (tr q).length - 1 ≤ 4096) (hp : tr p ≠ []) (hq : tr q ≠ []) : (pmul p q).length = (tr p).length + (tr q).length - 1 := by
  have lp := List.length_pos_iff.2 hp
  have lq := List.length_pos_iff.2 hq
  have := len_of (tr_pmul p q) (n := (tr p).length + (tr q).length - 2) ?_ ?_
  · omega
  · rw [at_pmul h]
    unfold cv
    rw [X_one (k := (tr p).length - 1) (by omega) (fun i hi hne => ?_)]
    · rw [show (tr p).length + (tr q).length - 2 - ((tr p).length - 1) = (tr q).length - 1 by omega]
      intro hz
      rcases (gm_eq_zero (at_lt' (tr_bd p) _) (at_lt' (tr_bd q) _)).1 hz with h1 | h1
      · exact tr_last p hp h1
      · exact tr_last q hq h1
    · rcases Nat.lt_or_ge i (tr p).length with h1 | h1
      · rw [at_far (xs := tr q) (by omega), gm_zero_right]
      · rw [at_far (xs := tr p) h1, gm_zero_left]
  · intro j hj
    rw [at_pmul h, cv_far (by omega)]
theorem pmul_nil_right {p q : List Nat} (h : tr q = []) : pmul p q = [] := by
  unfold pmul; rw [h]; simp
theorem padd_len_ne {p q : List Nat} (h : (tr p).length ≠ (tr q).length) : (padd p q).length = max (tr p).length (tr q).length := by
  have key : ∀ {p q : List Nat}, (tr p).length < (tr q).length → (padd p q).length = (tr q).length := by
    intro p q hl
    have hq : tr q ≠ [] := by intro e; rw [e] at hl; simp at hl
    have := len_of (tr_padd p q) (n := (tr q).length - 1) ?_ ?_
    · omega
    · rw [at_padd, ← at_tr, ← at_tr, at_far (xs := tr p) (by omega), Nat.zero_xor]; exact tr_last q hq
    · intro j hj
      rw [at_padd, ← at_tr, ← at_tr, at_far (xs := tr p) (by omega), at_far (xs := tr q) (by omega)]; rfl
  rcases Nat.lt_or_ge (tr p).length (tr q).length with hl | hl
  · rw [key hl]; omega
  · have hl' : (tr q).length < (tr p).length := by omega
    have e : padd p q = padd q p := row_ext (tr_padd _ _) (tr_padd _ _) fun j => by rw [at_padd, at_padd, Nat.xor_comm]
    rw [e, key hl']; omega
end Go.Proofs.YtjhoecfhmndcgaaGreat
namespace Go.Proofs.YtjhoecfhmndcgaaGreat
open Go.Gf

section
variable {b : List Nat} {iv n la : Nat} {f : Nat → Nat}
/-- the quotient has nothing yet below the place that is next -/
theorem dv2_low {t j : Nat} (ht : t ≤ n) (h : j < n - t) : dv2 b iv n f t j = 0 := by
  induction t with
  | zero => rfl
  | succ t ih => unfold dv2; rw [if_neg (by omega)]; exact ih (by omega) (by omega)
theorem dv2_far {t j : Nat} (h : n ≤ j) (hn : t ≤ n) : dv2 b iv n f t j = 0 := by
  induction t with
  | zero => rfl
  | succ t ih => unfold dv2; rw [if_neg (by omega)]; exact ih (by omega)
theorem cv_delta (m x : Nat) (g : Nat → Nat) (j : Nat) : cv (fun i => if i = m then x else 0) g j = if m ≤ j then gm x (g (j - m)) else 0 := by
  unfold cv
  have e : (X (j + 1) fun i => gm (if i = m then x else 0) (g (j - i))) = if m ≤ j then gm x (g (j - m)) else 0 := by
    by_cases h : m ≤ j
    · rw [if_pos h, X_one (f := fun i => gm (if i = m then x else 0) (g (j - i))) (k := m) (by omega) (fun i _ hne => by show gm (if i = m then x else 0) (g (j - i)) = 0; rw [if_neg hne, gm_zero_left])]
      show gm (if m = m then x else 0) (g (j - m)) = _
      rw [if_pos rfl]
    · rw [if_neg h]
      exact X_zero fun i hi => by rw [if_neg (by omega), gm_zero_left]
  exact e
/-- WHAT IS LEFT, AND THE QUOTIENT TIMES THE DIVISOR, ARE WHAT WAS DIVIDED -/
theorem dv_inv (hf : ∀ j, f j < 1024) {t : Nat} (ht : t ≤ n) (j : Nat) : f j = dv1 b iv n f t j ^^^ cv (dv2 b iv n f t) (at_ b) j := by
  induction t with
  | zero =>
    have : cv (dv2 b iv n f 0) (at_ b) j = 0 := X_zero fun i _ => gm_zero_left _
    rw [this, Nat.xor_zero]; rfl
  | succ t ih =>
    have ih := ih (by omega)
    have e1 : dv1 b iv n f (t + 1) j = dv1 b iv n f t j ^^^ (if n - 1 - t ≤ j then gm (gm (dv1 b iv n f t (n - 1 - t + b.length - 1)) iv) (at_ b (j - (n - 1 - t))) else 0) := mrow_full j
    have e2 : cv (dv2 b iv n f (t + 1)) (at_ b) j = cv (dv2 b iv n f t) (at_ b) j ^^^ (if n - 1 - t ≤ j then gm (gm (dv1 b iv n f t (n - 1 - t + b.length - 1)) iv) (at_ b (j - (n - 1 - t))) else 0) := by
      rw [← cv_delta, ← cv_xor_left (fun i => dv2_lt hf t i) (fun i => by
        show (if i = n - 1 - t then _ else 0) < 1024
        split
        · exact gm_lt _ (dv1_lt hf _ _)
        · decide)]
      refine cv_congr (fun i => ?_) (fun _ => rfl) j
      show dv2 b iv n f (t + 1) i = dv2 b iv n f t i ^^^ (if i = n - 1 - t then _ else 0)
      conv => lhs; unfold dv2
      by_cases h : i = n - 1 - t
      · rw [if_pos h, if_pos h, dv2_low (by omega) (by omega), Nat.zero_xor]
      · rw [if_neg h, if_neg h, Nat.xor_zero]
    rw [e1, e2, xor4, Nat.xor_self, Nat.xor_zero]
    exact ih
/-- place by place the greatest factor goes -/
theorem dv1_gone (hf : ∀ j, f j < 1024) (hfar : ∀ j, la ≤ j → f j = 0) (hb : ∀ x ∈ b, x < 1024) (bp : 0 < b.length) (hn : n + b.length = la + 1) (hiv : gm iv (at_ b (b.length - 1)) = 1) (hivl : iv < 1024) {t : Nat} (ht : t ≤ n) (j : Nat) (hj : la - t ≤ j) : dv1 b iv n f t j = 0 := by
  induction t generalizing j with
  | zero => exact hfar j (by omega)
  | succ t ih =>
    have ih := fun j hj => ih (by omega) j hj
    have e1 : dv1 b iv n f (t + 1) j = dv1 b iv n f t j ^^^ (if n - 1 - t ≤ j then gm (gm (dv1 b iv n f t (n - 1 - t + b.length - 1)) iv) (at_ b (j - (n - 1 - t))) else 0) := mrow_full j
    rw [e1]
    rcases Nat.lt_or_ge j (la - t) with h | h
    · have hjj : n - 1 - t + b.length - 1 = j := by omega
      rw [hjj, if_pos (by omega), show j - (n - 1 - t) = b.length - 1 by omega, gm_assoc (dv1_lt hf t j) hivl (at_lt' hb _), hiv, gm_one_right, Nat.xor_self]
    · rw [ih j h, Nat.zero_xor]
      split
      · rw [at_far (by omega), gm_zero_right]
      · rfl
end

section
variable {xs ys : List Nat}
theorem divI_one (h : tr ys ≠ []) : gm (divI ys) (at_ (tr ys) ((tr ys).length - 1)) = 1 := by
  have h1 := tr_last ys h
  have h2 := at_lt' (tr_bd ys) ((tr ys).length - 1)
  unfold divI
  rw [gm_comm (ginv_lt _) h2]
  exact gm_ginv h2 h1
theorem at_pquo (_h : tr ys ≠ []) (j : Nat) : at_ (pquo xs ys) j = dv2 (tr ys) (divI ys) (divN xs ys) (at_ (tr xs)) (divN xs ys) j := by
  unfold pquo
  rw [at_tr, at_rm]
  by_cases hj : j < divN xs ys
  · rw [if_pos hj, Nat.mod_eq_of_lt (dv2_lt (at_lt' (tr_bd xs)) _ _)]
  · rw [if_neg hj, dv2_far (by omega) (Nat.le_refl _)]
theorem at_prem (h : tr ys ≠ []) (j : Nat) : at_ (prem xs ys) j = dv1 (tr ys) (divI ys) (divN xs ys) (at_ (tr xs)) (divN xs ys) j := by
  unfold prem
  rw [at_tr, at_rm]
  by_cases hj : j < (tr xs).length
  · rw [if_pos hj, Nat.mod_eq_of_lt (dv1_lt (at_lt' (tr_bd xs)) _ _)]
  · rw [if_neg hj]
    have lp := List.length_pos_iff.2 h
    rcases Nat.lt_or_ge (tr xs).length (tr ys).length with hl | hl
    · have e : divN xs ys = 0 := by unfold divN; omega
      rw [e]
      show 0 = at_ (tr xs) j
      rw [at_far (by omega)]
    · have hn : divN xs ys + (tr ys).length = (tr xs).length + 1 := by unfold divN; omega
      exact (dv1_gone (at_lt' (tr_bd xs)) (fun j => at_far) (tr_bd ys) lp hn (divI_one h) (ginv_lt _) (Nat.le_refl _) j (by omega)).symm
theorem tr_pquo : tr (pquo xs ys) = pquo xs ys := tr_tr _
theorem tr_prem : tr (prem xs ys) = prem xs ys := tr_tr _
theorem pquo_len_le : (pquo xs ys).length ≤ divN xs ys := by
  refine Nat.le_trans (tr_len _) ?_
  rw [rm_len]; exact Nat.le_refl _
/-- THE REST IS SHORTER THAN THE DIVISOR -/
theorem prem_len (h : tr ys ≠ []) : (prem xs ys).length < (tr ys).length := by
  have lp := List.length_pos_iff.2 h
  by_cases h0 : prem xs ys = []
  · rw [h0]; exact lp
  · have h1 := tr_last (prem xs ys) (by rw [tr_prem]; exact h0)
    rw [tr_prem, at_prem h] at h1
    rcases Nat.lt_or_ge ((prem xs ys).length) (tr ys).length with h2 | h2
    · exact h2
    · exfalso
      apply h1
      rcases Nat.lt_or_ge (tr xs).length (tr ys).length with hl | hl
      · have e : divN xs ys = 0 := by unfold divN; omega
        rw [e]
        exact at_far (xs := tr xs) (by omega)
      · have hn : divN xs ys + (tr ys).length = (tr xs).length + 1 := by unfold divN; omega
        exact dv1_gone (at_lt' (tr_bd xs)) (fun j => at_far) (tr_bd ys) lp hn (divI_one h) (ginv_lt _) (Nat.le_refl _) _ (by omega)
/-- QUOTIENT TIMES DIVISOR AND THE REST ARE WHAT WAS DIVIDED -/
theorem quo_rem (h : tr ys ≠ []) (hl : (tr xs).length + (tr ys).length ≤ 2000) : padd (pmul (pquo xs ys) ys) (prem xs ys) = tr xs := by
  have ql : (tr (pquo xs ys)).length ≤ divN xs ys := by rw [tr_pquo]; exact pquo_len_le
  have hq : divN xs ys ≤ (tr xs).length + 1 := by unfold divN; omega
  refine row_ext (tr_padd _ _) (tr_tr _) fun j => ?_
  have hx := at_lt' (tr_bd xs)
  have hdiv := dv_inv (b := tr ys) (iv := divI ys) (n := divN xs ys) hx (Nat.le_refl _) j
  rw [at_padd, at_pmul (by omega), at_prem h]
  have e : cv (at_ (tr (pquo xs ys))) (at_ (tr ys)) j = cv (dv2 (tr ys) (divI ys) (divN xs ys) (at_ (tr xs)) (divN xs ys)) (at_ (tr ys)) j := cv_congr (fun i => by rw [tr_pquo, at_pquo h]) (fun _ => rfl) j
  rw [e, Nat.mod_eq_of_lt (cv_lt _ (fun i => dv2_lt hx _ i) j), Nat.mod_eq_of_lt (dv1_lt hx _ _), Nat.xor_comm]
  exact hdiv.symm
/-- the quotient's length -/
theorem pquo_len (h : tr ys ≠ []) : (pquo xs ys).length = divN xs ys := by
  have lp := List.length_pos_iff.2 h
  rcases Nat.eq_zero_or_pos (divN xs ys) with h0 | h0
  · have := pquo_len_le (xs := xs) (ys := ys); omega
  · have hx := at_lt' (tr_bd xs)
    have hge : (tr ys).length ≤ (tr xs).length := by unfold divN at h0; omega
    have hxn : tr xs ≠ [] := by intro e; rw [e] at hge; exact absurd (Nat.lt_of_lt_of_le lp hge) (by decide)
    have key : ∀ t, 0 < t → t ≤ divN xs ys → dv2 (tr ys) (divI ys) (divN xs ys) (at_ (tr xs)) t (divN xs ys - 1) ≠ 0 := by
      intro t ht htn
      induction t with
      | zero => omega
      | succ t ih =>
        unfold dv2
        rcases Nat.eq_zero_or_pos t with h1 | h1
        · subst h1
          rw [if_pos (by omega)]
          have : divN xs ys - 1 - 0 + (tr ys).length - 1 = (tr xs).length - 1 := by
            have hd : divN xs ys = (tr xs).length + 1 - (tr ys).length := rfl
            omega
          rw [this]
          show gm (at_ (tr xs) ((tr xs).length - 1)) (divI ys) ≠ 0
          intro hz
          rcases (gm_eq_zero (hx _) (ginv_lt _)).1 hz with h2 | h2
          · exact tr_last xs hxn h2
          · have h3 := divI_one h
            have h4 : gm (divI ys) (at_ (tr ys) ((tr ys).length - 1)) = 0 := by
              have : divI ys = 0 := h2
              rw [this, gm_zero_left]
            rw [h4] at h3; cases h3
        · rw [if_neg (by omega)]; exact ih h1 (by omega)
    have := len_of (xs := pquo xs ys) tr_pquo (n := divN xs ys - 1) (by rw [at_pquo h]; exact key _ h0 (Nat.le_refl _)) (fun j hj => by rw [at_pquo h]; exact dv2_far (by omega) (Nat.le_refl _))
    omega
end
end Go.Proofs.YtjhoecfhmndcgaaGreat
namespace Go.Proofs.YtjhoecfhmndcgaaGreat
open Go.RowKit Go.Gf

theorem tr_take_self (xs : List Nat) : ∀ k, k ≤ xs.length → tr (xs.take k) = (xs.take (tr (xs.take k)).length).map (· % 1024) ∧ (tr (xs.take k)).length ≤ k := by
  intro k
  induction k with
  | zero => intro _; exact ⟨rfl, Nat.le_refl _⟩
  | succ k ih =>
    intro hk
    have hlt : k < xs.length := by omega
    obtain ⟨h1, h2⟩ := ih (by omega)
    rw [tr_take hlt]
    by_cases h0 : xs[k] % 1024 = 0
    · rw [if_pos h0]; exact ⟨h1, by omega⟩
    · rw [if_neg h0]
      have e : ((xs.take (k + 1)).map (· % 1024)).length = k + 1 := by simp; omega
      rw [e]; exact ⟨rfl, Nat.le_refl _⟩
theorem tr_self (xs : List Nat) : (xs.take (tr xs).length).map (· % 1024) = tr xs ∧ (tr xs).length ≤ xs.length := by
  have := tr_take_self xs xs.length (Nat.le_refl _)
  rw [List.take_length] at this
  exact ⟨this.1.symm, this.2⟩

theorem xor_cancel {a b c : Nat} (h : a ^^^ b = c) : a = b ^^^ c := by
  rw [← h, Nat.xor_comm a b, ← Nat.xor_assoc, Nat.xor_self, Nat.zero_xor]
theorem xor_zero_eq {a b : Nat} (h : a ^^^ b = 0) : a = b := by
  have := xor_cancel h; rw [this, Nat.xor_zero]
/-- quotient and rest are just one -/
theorem div_uniq {b : List Nat} (hb : ∀ x ∈ b, x < 1024) (bp : 0 < b.length) (hl : at_ b (b.length - 1) ≠ 0) {q q' r r' : Nat → Nat} (hq1 : ∀ j, q j < 1024) (hq1' : ∀ j, q' j < 1024)
    {n : Nat} (hq : ∀ j, n ≤ j → q j = 0) (hq' : ∀ j, n ≤ j → q' j = 0) (hr : ∀ j, b.length ≤ j + 1 → r j = 0) (hr' : ∀ j, b.length ≤ j + 1 → r' j = 0)
    (h : ∀ j, r j ^^^ cv q (at_ b) j = r' j ^^^ cv q' (at_ b) j) : (∀ j, q j = q' j) ∧ ∀ j, r j = r' j := by
  have hbl := at_lt' hb
  have key : ∀ d k, n - k = d → k < n → (∀ j, k < j → q j = q' j) → q k = q' k := by
    intro d k _ hk hj
    have hs : cv (fun i => q i ^^^ q' i) (at_ b) (k + b.length - 1) = 0 := by
      rw [cv_xor_left hq1 hq1']
      have e := h (k + b.length - 1)
      rw [hr _ (by omega), hr' _ (by omega), Nat.zero_xor, Nat.zero_xor] at e
      rw [e, Nat.xor_self]
    unfold cv at hs
    rw [X_one (k := k) (by omega) (fun i hi hne => by
      rcases Nat.lt_or_gt_of_ne hne with h1 | h1
      · rw [at_far (xs := b) (by omega), gm_zero_right]
      · have e : gm (q i ^^^ q' i) (at_ b (k + b.length - 1 - i)) = 0 := by rw [hj i h1, Nat.xor_self, gm_zero_left]
        exact e)] at hs
    replace hs : gm (q k ^^^ q' k) (at_ b (k + b.length - 1 - k)) = 0 := hs
    rw [show k + b.length - 1 - k = b.length - 1 by omega] at hs
    rcases (gm_eq_zero (xor_lt (hq1 k) (hq1' k)) (hbl _)).1 hs with h1 | h1
    · exact xor_zero_eq h1
    · exact absurd h1 hl
  have all : ∀ d k, n - k = d → q k = q' k := by
    intro d
    induction d using Nat.strongRecOn with
    | _ d ih =>
      intro k hd
      rcases Nat.lt_or_ge k n with hk | hk
      · exact key d k hd hk fun j hj => by
          rcases Nat.lt_or_ge j n with h1 | h1
          · exact ih (n - j) (by omega) j rfl
          · rw [hq j h1, hq' j h1]
      · rw [hq k hk, hq' k hk]
  have hqq : ∀ j, q j = q' j := fun j => all _ j rfl
  refine ⟨hqq, fun j => ?_⟩
  have e := h j
  rw [cv_congr hqq (fun _ => rfl)] at e
  have := xor_cancel e
  rw [this, Nat.xor_comm (r' j), ← Nat.xor_assoc, Nat.xor_self, Nat.zero_xor]

/-- so far: a is fr and fq times b; fr is nought from M on; fq's places are laid from the top -/
structure DivI (a b : List Nat) (nq L M : Nat) (fr fq : Nat → Nat) : Prop where
  ml : M ≤ L
  la : L ≤ a.length
  rl : ∀ j, fr j < 1024
  ql : ∀ j, fq j < 1024
  eq : ∀ j, at_ a j = fr j ^^^ cv fq (at_ b) j
  rz : ∀ j, M ≤ j → fr j = 0
  qz : ∀ j, j + b.length ≤ M → fq j = 0
  qn : ∀ j, nq ≤ j → fq j = 0
theorem divI_start {a b : List Nat} (ha : ∀ x ∈ a, x < 1024) (nq : Nat) : DivI a b nq a.length a.length (at_ a) (fun _ => 0) :=
  ⟨Nat.le_refl _, Nat.le_refl _, at_lt' ha, fun _ => by decide, fun j => by
    have : cv (fun _ => 0) (at_ b) j = 0 := X_zero fun i _ => gm_zero_left _
    rw [this, Nat.xor_zero], fun j hj => at_far hj, fun _ _ => rfl, fun _ _ => rfl⟩
section
variable {a b : List Nat} {nq L M T : Nat} {fr fq : Nat → Nat}
/-- what the trimmed length says of the row -/
theorem DivI.trimmed (h : DivI a b nq L M fr fq) (hT : (tr (rm L fr)).length = T) : T ≤ M ∧ (∀ j, T ≤ j → fr j = 0) ∧ (0 < T → fr (T - 1) ≠ 0) := by
  have hat : ∀ j, at_ (tr (rm L fr)) j = if j < L then fr j else 0 := fun j => by
    rw [at_tr, at_rm]
    split
    · exact Nat.mod_eq_of_lt (h.rl j)
    · rfl
  have h2 : ∀ j, T ≤ j → fr j = 0 := by
    intro j hj
    have e := hat j
    rw [at_far (by omega)] at e
    rcases Nat.lt_or_ge j L with h1 | h1
    · rw [if_pos h1] at e; exact e.symm
    · exact h.rz j (Nat.le_trans h.ml h1)
  have h3 : 0 < T → fr (T - 1) ≠ 0 := by
    intro hp
    have e := tr_last (rm L fr) (by intro e; rw [e] at hT; simp at hT; omega)
    rw [hT, hat] at e
    split at e
    · exact e
    · exact absurd rfl e
  refine ⟨?_, h2, h3⟩
  rcases Nat.lt_or_ge M T with h1 | h1
  · exact absurd (h.rz (T - 1) (by omega)) (h3 (by omega))
  · exact h1
theorem DivI.step (h : DivI a b nq L M fr fq) (hT : (tr (rm L fr)).length = T) (hb : ∀ x ∈ b, x < 1024) (bp : 0 < b.length) {iv f : Nat} (hivl : iv < 1024) (hiv : gm iv (at_ b (b.length - 1)) = 1)
    (hle : b.length ≤ T) (hf : f = gm (fr (T - 1)) iv) (hnq : nq = a.length + 1 - b.length) :
    DivI a b nq T (T - 1) (mrow fr f b (T - b.length) b.length) (fun j => if j = T - b.length then f else fq j) := by
  obtain ⟨h1, h2, h3⟩ := h.trimmed hT
  have fl : f < 1024 := by rw [hf]; exact gm_lt _ (h.rl _)
  have hz0 : fq (T - b.length) = 0 := h.qz _ (by omega)
  have hml := h.ml
  have hla := h.la
  have hbl := at_lt' hb
  refine ⟨by omega, by omega, fun j => mrow_lt h.rl fl _ _, fun j => by (try dsimp only); split; exact fl; exact h.ql j, fun j => ?_, fun j hj => ?_, fun j hj => ?_, fun j hj => ?_⟩
  · have hsum : ∀ i, (if i = T - b.length then f else fq i) = fq i ^^^ (if i = T - b.length then f else 0) := fun i => by
      by_cases e : i = T - b.length
      · rw [if_pos e, if_pos e, e, hz0, Nat.zero_xor]
      · rw [if_neg e, if_neg e, Nat.xor_zero]
    rw [cv_congr hsum (fun _ => rfl), cv_xor_left h.ql (fun i => by split; exact fl; decide), cv_delta, mrow_full, h.eq j]
    rw [xor4, Nat.xor_comm (fr j ^^^ cv fq (at_ b) j), Nat.xor_self, Nat.zero_xor]
  · rw [mrow_full]
    rcases Nat.lt_or_ge j T with h4 | h4
    · obtain rfl : j = T - 1 := by omega
      rw [if_pos (by omega), show T - 1 - (T - b.length) = b.length - 1 by omega, hf, gm_assoc (h.rl _) hivl (hbl _), hiv, gm_one_right, Nat.xor_self]
    · rw [h2 j h4, at_far (xs := b) (by omega), gm_zero_right, ite_self, Nat.xor_zero]
  · rw [if_neg (by omega)]
    exact h.qz j (by omega)
  · try dsimp only
    rw [if_neg (by omega)]
    exact h.qn j hj
end
theorem tr_row {n : Nat} {f : Nat → Nat} (hf : ∀ j, f j < 1024) (h : (tr (rm n f)).length = n) : tr (rm n f) = rm n f := by
  have e := (tr_self (rm n f)).1
  rw [h, List.take_of_length_le (by rw [rm_len]; exact Nat.le_refl _)] at e
  rw [← e]
  apply List.ext_getElem
  · simp
  · intro j h1 h2
    rw [List.getElem_map, rm_get]
    exact Nat.mod_eq_of_lt (hf j)
theorem divI_end {xs ys : List Nat} {L M T : Nat} {fr fq : Nat → Nat} (h : DivI (tr xs) (tr ys) (divN xs ys) L M fr fq) (hne : tr ys ≠ []) (hT : (tr (rm L fr)).length = T) (hlt : T < (tr ys).length) :
    rm (divN xs ys) fq = pquo xs ys ∧ rm T fr = prem xs ys := by
  obtain ⟨h1, h2, h3⟩ := h.trimmed hT
  have bp : 0 < (tr ys).length := by omega
  have hfl : ∀ j, at_ (tr xs) j < 1024 := at_lt' (tr_bd xs)
  have hn : divN xs ys = (tr xs).length + 1 - (tr ys).length := rfl
  have hd := div_uniq (tr_bd ys) bp (tr_last ys hne) h.ql (fun j => dv2_lt (b := tr ys) (iv := divI ys) (n := divN xs ys) hfl (divN xs ys) j) h.qn (fun j hj => dv2_far hj (Nat.le_refl _))
    (fun j hj => h2 j (by omega)) (r' := dv1 (tr ys) (divI ys) (divN xs ys) (at_ (tr xs)) (divN xs ys)) (fun j hj => by
      rcases Nat.lt_or_ge (tr xs).length (tr ys).length with hc | hc
      · rw [show divN xs ys = 0 by omega]
        exact at_far (by omega)
      · exact dv1_gone (la := (tr xs).length) hfl (fun j hj => at_far hj) (tr_bd ys) bp (by omega) (divI_one hne) (ginv_lt _) (Nat.le_refl _) j (by omega))
    (fun j => by rw [← h.eq j]; exact dv_inv hfl (Nat.le_refl _) j)
  constructor
  · have e : pquo xs ys = tr (rm (divN xs ys) fq) := by
      unfold pquo
      rw [rm_congr fun j _ => hd.1 j]
    have hl := pquo_len (xs := xs) hne
    rw [e] at hl
    rw [e, tr_row h.ql hl]
  · have e : prem xs ys = tr (rm (tr xs).length fr) := by
      unfold prem
      rw [rm_congr fun j _ => hd.2 j]
    rw [e]
    have hTl : T ≤ (tr xs).length := Nat.le_trans h1 (Nat.le_trans h.ml h.la)
    rw [show tr (rm (tr xs).length fr) = tr (rm T fr) from tr_ext fun j => by
      rw [at_rm, at_rm]
      by_cases c : j < T
      · rw [if_pos c, if_pos (by omega)]
      · rw [if_neg c, h2 j (by omega), ite_self]]
    symm
    refine tr_of (rm_mem fun j _ => h.rl j) fun hne2 => ?_
    have hp : 0 < T := by
      rcases Nat.eq_zero_or_pos T with c | c
      · rw [c] at hne2; exact absurd rfl hne2
      · exact c
    rw [rm_len, at_rm, if_pos (by omega)]
    exact h3 hp
end Go.Proofs.YtjhoecfhmndcgaaGreat
namespace Go.Proofs.YtjhoecfhmndcgaaGreat
open Go.RowKit Go.Gf

set_option maxHeartbeats 2000000 in
theorem plen_any (A : Option Addr) (c : Nat) (xs : List Nat) (w : World) (h : Sl w w.heap.size A xs) (hl : xs.length ≤ 1000000) :
    Calls Tryz.prog 167 #[.slice A xs.length c] w fun e w' => e = .returned (.int .i64 (((tr xs).length : Nat) : Int)) ∧ w = w' := by
  have H := Lib.hid h
  clear h
  generalize hT : (tr xs).length = T
  have HT := Lib.hid hT
  clear hT
  go_enter Tryz.func167, Tryz.ntmps167
  go_wp2
  go_loop [3] (fun n => ∃ k : Nat, k ≤ xs.length ∧ Hid (tr (xs.take k) = tr xs) ∧ n = .int .i64 k) (fun n => (intOf n).toNat)
  case atStart => exact ⟨xs.length, Nat.le_refl _, by unfold Hid; rw [List.take_length], rfl⟩
  case round =>
    obtain ⟨k, hk, HK, rfl⟩ := hrel
    by_cases h0 : k = 0
    · subst h0
      have HL : Hid (T = 0) := by rw [← HT.out, ← HK.out]; rfl
      clear HK
      go_wp2
      go_ret
      exact ⟨by rw [HL.out]; rfl, rfl⟩
    · obtain ⟨m, rfl⟩ : ∃ m, k = m + 1 := ⟨k - 1, by omega⟩
      have hi : m < xs.length := by omega
      have hjj : ((m + 1 : Nat) : Int) - 1 = (m : Int) := by omega
      obtain ⟨a, rfl, hab, hcell⟩ := H.out.at_ hi
      have hx := H.out.1 xs[m] (List.getElem_mem hi)
      by_cases hz : xs[m] % 1024 = 0
      · have hz' : ((xs[m] : Int) % 1024 == 0) = true := by simp; omega
        have HK' : Hid (tr (xs.take m) = tr xs) := by
          have := HK.out; rw [tr_take hi, if_pos hz] at this; exact this
        clear HK hz
        go_wp2
        go_round
        case rel => exact ⟨m, by omega, HK', by first | rfl | go_num⟩
        case measure => simp [intOf]
      · have HL : Hid (T = m + 1) := by
          unfold Hid
          rw [← HT.out, ← HK.out, tr_take hi, if_neg hz]
          simp; omega
        have hz' : ((xs[m] : Int) % 1024 == 0) = false := by simp; omega
        clear HK hz
        go_wp2
        go_ret
        exact ⟨by rw [HL.out]; first | rfl | go_num, rfl⟩

set_option maxHeartbeats 2000000 in
theorem ptrim_blk (A : Option Addr) (c : Nat) (xs : List Nat) (w : World) (h : Sl w w.heap.size A xs) (hl : xs.length ≤ 1000000) :
    Calls Tryz.prog 156 #[.slice A xs.length c] w (GivesB w (tr xs)) := by
  have H := Lib.hid h
  have HC := Lib.hid (plen_any A c xs w h hl)
  clear h
  have HL := Lib.hid (tr_self xs)
  generalize hK : (tr xs).length = K at HC HL
  have HK := Lib.hid hK
  clear hK
  have hKl : K ≤ 1000000 := Nat.le_trans HL.out.2 hl
  have hmk := run_make_row' (P := Tryz.prog) 41 46 (.int .u16 0) 2 Tryz.underlying41 info22 rfl .i64 .i64 K (by omega) (by omega)
  go_enter Tryz.func156, Tryz.ntmps156
  go_wp2_with (go_at_call 167; (with_reducible refine HC.out.mono ?_); rintro e w' ⟨rfl, rfl⟩)
  go_loopw [10] (fun q wr => ∃ j : Nat, j ≤ K ∧ q = .int .i64 j ∧ Fill w wr xs K j) (fun q _ => K - (intOf q).toNat)
  case atStart => exact ⟨0, Nat.zero_le _, rfl, fill_start w xs K⟩
  case round =>
    clear hmk
    obtain ⟨j, hj, rfl, HF⟩ := hrel
    by_cases hlt : j < K
    · have hjx : j < xs.length := by have := HL.out.2; omega
      obtain ⟨ad, rfl, hab2, hcell2⟩ := (H.out.below HF.1).at_ hjx
      have hx := H.out.1 xs[j] (List.getElem_mem hjx)
      have hc0 := HF.2.cell (i := j) (by simp; omega)
      have hfz := HF.2.frozen j
      have HF' := Lib.hid (fill_step hlt hjx HF)
      clear HF
      go_wp2
      go_roundw
      case rel => exact ⟨j + 1, by omega, by go_num, HF'.out⟩
      case measure => simp [intOf]; omega
    · obtain rfl : j = K := by omega
      have HF' := Lib.hid (fill_end HL.out HF)
      clear HF
      go_wp2
      go_ret
      exact HF'.out
end Go.Proofs.YtjhoecfhmndcgaaGreat
