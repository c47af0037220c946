/- Division by steps from the highest place down, skipping what is nought there (plain mathematics). -/
import Derived.Test.YtciafkobnlfpbaaPo
namespace Go.Proofs.Ytciafkobnlfpbaa
open Go.RowKit Go.Gf

theorem tr_take_self (xs : List Nat) : ∀ k, k ≤ xs.length → tr (xs.take k) = (xs.take (tr (xs.take k)).length).map (· % 1024) ∧ (tr (xs.take k)).length ≤ k := by
  intro k
  induction k with
  | zero => intro _; exact ⟨rfl, Nat.le_refl _⟩
  | succ k ih =>
    intro hk
    have hlt : k < xs.length := by omega
    obtain ⟨h1, h2⟩ := ih (by omega)
    rw [tr_take hlt]
    by_cases h0 : xs[k] % 1024 = 0
    · rw [if_pos h0]; exact ⟨h1, by omega⟩
    · rw [if_neg h0]
      have e : ((xs.take (k + 1)).map (· % 1024)).length = k + 1 := by simp; omega
      rw [e]; exact ⟨rfl, Nat.le_refl _⟩
theorem tr_self (xs : List Nat) : (xs.take (tr xs).length).map (· % 1024) = tr xs ∧ (tr xs).length ≤ xs.length := by
  have := tr_take_self xs xs.length (Nat.le_refl _)
  rw [List.take_length] at this
  exact ⟨this.1.symm, this.2⟩

theorem xor_cancel {a b c : Nat} (h : a ^^^ b = c) : a = b ^^^ c := by
  rw [← h, Nat.xor_comm a b, ← Nat.xor_assoc, Nat.xor_self, Nat.zero_xor]
theorem xor_zero_eq {a b : Nat} (h : a ^^^ b = 0) : a = b := by
  have := xor_cancel h; rw [this, Nat.xor_zero]
/-- quotient and rest are just one -/
theorem div_uniq {b : List Nat} (hb : ∀ x ∈ b, x < 1024) (bp : 0 < b.length) (hl : at_ b (b.length - 1) ≠ 0) {q q' r r' : Nat → Nat} (hq1 : ∀ j, q j < 1024) (hq1' : ∀ j, q' j < 1024)
    {n : Nat} (hq : ∀ j, n ≤ j → q j = 0) (hq' : ∀ j, n ≤ j → q' j = 0) (hr : ∀ j, b.length ≤ j + 1 → r j = 0) (hr' : ∀ j, b.length ≤ j + 1 → r' j = 0)
    (h : ∀ j, r j ^^^ cv q (at_ b) j = r' j ^^^ cv q' (at_ b) j) : (∀ j, q j = q' j) ∧ ∀ j, r j = r' j := by
  have hbl := at_lt' hb
  have key : ∀ d k, n - k = d → k < n → (∀ j, k < j → q j = q' j) → q k = q' k := by
    intro d k _ hk hj
    have hs : cv (fun i => q i ^^^ q' i) (at_ b) (k + b.length - 1) = 0 := by
      rw [cv_xor_left hq1 hq1']
      have e := h (k + b.length - 1)
      rw [hr _ (by omega), hr' _ (by omega), Nat.zero_xor, Nat.zero_xor] at e
      rw [e, Nat.xor_self]
    unfold cv at hs
    rw [X_one (k := k) (by omega) (fun i hi hne => by
      rcases Nat.lt_or_gt_of_ne hne with h1 | h1
      · rw [at_far (xs := b) (by omega), gm_zero_right]
      · have e : gm (q i ^^^ q' i) (at_ b (k + b.length - 1 - i)) = 0 := by rw [hj i h1, Nat.xor_self, gm_zero_left]
        exact e)] at hs
    replace hs : gm (q k ^^^ q' k) (at_ b (k + b.length - 1 - k)) = 0 := hs
    rw [show k + b.length - 1 - k = b.length - 1 by omega] at hs
    rcases (gm_eq_zero (xor_lt (hq1 k) (hq1' k)) (hbl _)).1 hs with h1 | h1
    · exact xor_zero_eq h1
    · exact absurd h1 hl
  have all : ∀ d k, n - k = d → q k = q' k := by
    intro d
    induction d using Nat.strongRecOn with
    | _ d ih =>
      intro k hd
      rcases Nat.lt_or_ge k n with hk | hk
      · exact key d k hd hk fun j hj => by
          rcases Nat.lt_or_ge j n with h1 | h1
          · exact ih (n - j) (by omega) j rfl
          · rw [hq j h1, hq' j h1]
      · rw [hq k hk, hq' k hk]
  have hqq : ∀ j, q j = q' j := fun j => all _ j rfl
  refine ⟨hqq, fun j => ?_⟩
  have e := h j
  rw [cv_congr hqq (fun _ => rfl)] at e
  have := xor_cancel e
  rw [this, Nat.xor_comm (r' j), ← Nat.xor_assoc, Nat.xor_self, Nat.zero_xor]

/-- so far: a is fr and fq times b; fr is nought from M on; fq's places are laid from the top -/
structure DivI (a b : List Nat) (nq L M : Nat) (fr fq : Nat → Nat) : Prop where
  ml : M ≤ L
  la : L ≤ a.length
  rl : ∀ j, fr j < 1024
  ql : ∀ j, fq j < 1024
  eq : ∀ j, at_ a j = fr j ^^^ cv fq (at_ b) j
  rz : ∀ j, M ≤ j → fr j = 0
  qz : ∀ j, j + b.length ≤ M → fq j = 0
  qn : ∀ j, nq ≤ j → fq j = 0
theorem divI_start {a b : List Nat} (ha : ∀ x ∈ a, x < 1024) (nq : Nat) : DivI a b nq a.length a.length (at_ a) (fun _ => 0) :=
  ⟨Nat.le_refl _, Nat.le_refl _, at_lt' ha, fun _ => by decide, fun j => by
    have : cv (fun _ => 0) (at_ b) j = 0 := X_zero fun i _ => gm_zero_left _
    rw [this, Nat.xor_zero], fun j hj => at_far hj, fun _ _ => rfl, fun _ _ => rfl⟩
section
variable {a b : List Nat} {nq L M T : Nat} {fr fq : Nat → Nat}
/-- what the trimmed length says of the row -/
theorem DivI.trimmed (h : DivI a b nq L M fr fq) (hT : (tr (rm L fr)).length = T) : T ≤ M ∧ (∀ j, T ≤ j → fr j = 0) ∧ (0 < T → fr (T - 1) ≠ 0) := by
  have hat : ∀ j, at_ (tr (rm L fr)) j = if j < L then fr j else 0 := fun j => by
    rw [at_tr, at_rm]
    split
    · exact Nat.mod_eq_of_lt (h.rl j)
    · rfl
  have h2 : ∀ j, T ≤ j → fr j = 0 := by
    intro j hj
    have e := hat j
    rw [at_far (by omega)] at e
    rcases Nat.lt_or_ge j L with h1 | h1
    · rw [if_pos h1] at e; exact e.symm
    · exact h.rz j (Nat.le_trans h.ml h1)
  have h3 : 0 < T → fr (T - 1) ≠ 0 := by
    intro hp
    have e := tr_last (rm L fr) (by intro e; rw [e] at hT; simp at hT; omega)
    rw [hT, hat] at e
    split at e
    · exact e
    · exact absurd rfl e
  refine ⟨?_, h2, h3⟩
  rcases Nat.lt_or_ge M T with h1 | h1
  · exact absurd (h.rz (T - 1) (by omega)) (h3 (by omega))
  · exact h1
theorem DivI.step (h : DivI a b nq L M fr fq) (hT : (tr (rm L fr)).length = T) (hb : ∀ x ∈ b, x < 1024) (bp : 0 < b.length) {iv f : Nat} (hivl : iv < 1024) (hiv : gm iv (at_ b (b.length - 1)) = 1)
    (hle : b.length ≤ T) (hf : f = gm (fr (T - 1)) iv) (hnq : nq = a.length + 1 - b.length) :
    DivI a b nq T (T - 1) (mrow fr f b (T - b.length) b.length) (fun j => if j = T - b.length then f else fq j) := by
  obtain ⟨h1, h2, h3⟩ := h.trimmed hT
  have fl : f < 1024 := by rw [hf]; exact gm_lt _ (h.rl _)
  have hz0 : fq (T - b.length) = 0 := h.qz _ (by omega)
  have hml := h.ml
  have hla := h.la
  have hbl := at_lt' hb
  refine ⟨by omega, by omega, fun j => mrow_lt h.rl fl _ _, fun j => by (try dsimp only); split; exact fl; exact h.ql j, fun j => ?_, fun j hj => ?_, fun j hj => ?_, fun j hj => ?_⟩
  · have hsum : ∀ i, (if i = T - b.length then f else fq i) = fq i ^^^ (if i = T - b.length then f else 0) := fun i => by
      by_cases e : i = T - b.length
      · rw [if_pos e, if_pos e, e, hz0, Nat.zero_xor]
      · rw [if_neg e, if_neg e, Nat.xor_zero]
    rw [cv_congr hsum (fun _ => rfl), cv_xor_left h.ql (fun i => by split; exact fl; decide), cv_delta, mrow_full, h.eq j]
    rw [xor4, Nat.xor_comm (fr j ^^^ cv fq (at_ b) j), Nat.xor_self, Nat.zero_xor]
  · rw [mrow_full]
    rcases Nat.lt_or_ge j T with h4 | h4
    · obtain rfl : j = T - 1 := by omega
      rw [if_pos (by omega), show T - 1 - (T - b.length) = b.length - 1 by omega, hf, gm_assoc (h.rl _) hivl (hbl _), hiv, gm_one_right, Nat.xor_self]
    · rw [h2 j h4, at_far (xs := b) (by omega), gm_zero_right, ite_self, Nat.xor_zero]
  · rw [if_neg (by omega)]
    exact h.qz j (by omega)
  · try dsimp only
    rw [if_neg (by omega)]
    exact h.qn j hj
end
theorem tr_row {n : Nat} {f : Nat → Nat} (hf : ∀ j, f j < 1024) (h : (tr (rm n f)).length = n) : tr (rm n f) = rm n f := by
  have e := (tr_self (rm n f)).1
  rw [h, List.take_of_length_le (by rw [rm_len]; exact Nat.le_refl _)] at e
  rw [← e]
  apply List.ext_getElem
  · simp
  · intro j h1 h2
    rw [List.getElem_map, rm_get]
    exact Nat.mod_eq_of_lt (hf j)
theorem divI_end {xs ys : List Nat} {L M T : Nat} {fr fq : Nat → Nat} (h : DivI (tr xs) (tr ys) (divN xs ys) L M fr fq) (hne : tr ys ≠ []) (hT : (tr (rm L fr)).length = T) (hlt : T < (tr ys).length) :
    rm (divN xs ys) fq = pquo xs ys ∧ rm T fr = prem xs ys := by
  obtain ⟨h1, h2, h3⟩ := h.trimmed hT
  have bp : 0 < (tr ys).length := by omega
  have hfl : ∀ j, at_ (tr xs) j < 1024 := at_lt' (tr_bd xs)
  have hn : divN xs ys = (tr xs).length + 1 - (tr ys).length := rfl
  have hd := div_uniq (tr_bd ys) bp (tr_last ys hne) h.ql (fun j => dv2_lt (b := tr ys) (iv := divI ys) (n := divN xs ys) hfl (divN xs ys) j) h.qn (fun j hj => dv2_far hj (Nat.le_refl _))
    (fun j hj => h2 j (by omega)) (r' := dv1 (tr ys) (divI ys) (divN xs ys) (at_ (tr xs)) (divN xs ys)) (fun j hj => by
      rcases Nat.lt_or_ge (tr xs).length (tr ys).length with hc | hc
      · rw [show divN xs ys = 0 by omega]
        exact at_far (by omega)
      · exact dv1_gone (la := (tr xs).length) hfl (fun j hj => at_far hj) (tr_bd ys) bp (by omega) (divI_one hne) (ginv_lt _) (Nat.le_refl _) j (by omega))
    (fun j => by rw [← h.eq j]; exact dv_inv hfl (Nat.le_refl _) j)
  constructor
  · have e : pquo xs ys = tr (rm (divN xs ys) fq) := by
      unfold pquo
      rw [rm_congr fun j _ => hd.1 j]
    have hl := pquo_len (xs := xs) hne
    rw [e] at hl
    rw [e, tr_row h.ql hl]
  · have e : prem xs ys = tr (rm (tr xs).length fr) := by
      unfold prem
      rw [rm_congr fun j _ => hd.2 j]
    rw [e]
    have hTl : T ≤ (tr xs).length := Nat.le_trans h1 (Nat.le_trans h.ml h.la)
    rw [show tr (rm (tr xs).length fr) = tr (rm T fr) from tr_ext fun j => by
      rw [at_rm, at_rm]
      by_cases c : j < T
      · rw [if_pos c, if_pos (by omega)]
      · rw [if_neg c, h2 j (by omega), ite_self]]
    symm
    refine tr_of (rm_mem fun j _ => h.rl j) fun hne2 => ?_
    have hp : 0 < T := by
      rcases Nat.eq_zero_or_pos T with c | c
      · rw [c] at hne2; exact absurd rfl hne2
      · exact c
    rw [rm_len, at_rm, if_pos (by omega)]
    exact h3 hp
end Go.Proofs.Ytciafkobnlfpbaa
