/- Two words of the code that part in at most sixteen places are one (plain mathematics). -/
import Derived.Test.YtciafkobnlfpbaaPo
namespace Go.Proofs.Ytciafkobnlfpbaa
open Go.Gf

theorem ev_zero (p : List Nat) : ev 0 p = at_ p 0 % 1024 := by
  cases p with
  | nil => rfl
  | cons c p =>
    show gm (ev 0 p) 0 ^^^ (c % 1024) = c % 1024
    rw [gm_zero_right, Nat.zero_xor]
/-- x times the product of (x + q), q from a list -/
def rp : List Nat → List Nat
  | [] => [0, 1]
  | q :: qs => pmul (rp qs) [q, 1]
theorem tr_pair (q : Nat) : tr [q, 1] = [q % 1024, 1] := by
  have : ([q, 1] : List Nat) = [q] ++ [1] := rfl
  rw [this, tr_snoc, if_neg (by decide)]
  rfl
theorem rp_tr (qs : List Nat) : tr (rp qs) = rp qs := by
  cases qs with
  | nil => show tr [0, 1] = [0, 1]; rw [tr_pair]
  | cons q qs => exact tr_pmul _ _
theorem rp_len {qs : List Nat} (h : qs.length ≤ 2000) : (rp qs).length ≤ qs.length + 2 := by
  induction qs with
  | nil => exact Nat.le_refl _
  | cons q qs ih =>
    have ih := ih (by simp at h; omega)
    simp at h
    have h1 : (tr [q, 1]).length = 2 := by rw [tr_pair]; rfl
    have e : rp (q :: qs) = pmul (rp qs) [q, 1] := rfl
    rw [e, pmul_eq (by rw [rp_tr, h1]; omega), List.length_cons]
    -- the product's length
    have hl : (pmul (rp qs) [q, 1]).length ≤ (rp qs).length + 1 := by
      unfold pmul
      split
      · exact Nat.zero_le _
      · refine Nat.le_trans (tr_len _) ?_
        rw [rm_len, rp_tr, h1]; omega
    rw [← pmul_eq (by rw [rp_tr, h1]; omega)]
    omega
/-- the product of (x + q) at x -/
def rtp (x : Nat) : List Nat → Nat
  | [] => 1
  | q :: qs => gm (rtp x qs) (x ^^^ q)
theorem rtp_lt {x : Nat} {qs : List Nat} : rtp x qs < 1024 := by
  induction qs with
  | nil => show 1 < 1024; decide
  | cons q qs ih => exact gm_lt _ ih
theorem ev_pair {x q : Nat} (hx : x < 1024) (hq : q < 1024) : ev x [q, 1] = x ^^^ q := by
  show gm (gm 0 x ^^^ (1 % 1024)) x ^^^ (q % 1024) = _
  rw [gm_zero_left, Nat.zero_xor, Nat.mod_eq_of_lt hq, show 1 % 1024 = 1 from rfl, gm_one_left hx]
theorem ev_rp {x : Nat} {qs : List Nat} (hx : x < 1024) (h : qs.length ≤ 2000) (hq : ∀ q ∈ qs, q < 1024) : ev x (rp qs) = gm x (rtp x qs) := by
  induction qs with
  | nil =>
    show ev x [0, 1] = gm x 1
    rw [ev_pair hx (by decide), Nat.xor_zero, gm_one_right]
  | cons q qs ih =>
    simp at h
    have ih := ih (by omega) (fun y hy => hq y (List.mem_cons_of_mem _ hy))
    have hl := rp_len (qs := qs) (by omega)
    have h1 : (tr [q, 1]).length = 2 := by rw [tr_pair]; rfl
    have hqq := hq q List.mem_cons_self
    show ev x (pmul (rp qs) [q, 1]) = gm x (gm (rtp x qs) (x ^^^ q))
    rw [ev_pmul x hx (by rw [rp_tr, h1]; omega), ih, ev_pair hx hqq, gm_assoc hx rtp_lt (xor_lt hx hqq)]
theorem rtp_zero {x : Nat} {qs : List Nat} (hx : x < 1024) (hq : ∀ q ∈ qs, q < 1024) : rtp x qs = 0 ↔ x ∈ qs := by
  induction qs with
  | nil => constructor
           · intro h; cases h
           · intro h; cases h
  | cons q qs ih =>
    have ih := ih fun y hy => hq y (List.mem_cons_of_mem _ hy)
    have hqq := hq q List.mem_cons_self
    show gm (rtp x qs) (x ^^^ q) = 0 ↔ _
    rw [gm_eq_zero rtp_lt (xor_lt hx hqq), ih, List.mem_cons]
    constructor
    · rintro (h | h)
      · exact Or.inr h
      · left
        have : (x ^^^ q) ^^^ q = 0 ^^^ q := by rw [h]
        rwa [Nat.xor_assoc, Nat.xor_self, Nat.xor_zero, Nat.zero_xor] at this
    · rintro (h | h)
      · right; rw [h, Nat.xor_self]
      · exact Or.inl h

/-- what place j of a word of n symbols stands for -/
def loc (n j : Nat) : Nat := E (n - 1 - j)
theorem loc_lt (n j : Nat) : loc n j < 1024 := E_lt _
theorem loc_inj {n i j : Nat} (hn : n ≤ 1023) (hi : i < n) (hj : j < n) (h : loc n i = loc n j) : i = j := by
  have := E_inj.1 h
  rw [Nat.mod_eq_of_lt (by omega), Nat.mod_eq_of_lt (by omega)] at this
  omega
/-- the i-th sum of a word -/
def syn (n : Nat) (d : Nat → Nat) (i : Nat) : Nat := X n fun j => gm (d j) (gpow (loc n j) i)
/-- A WORD WHOSE FIRST m SUMS ARE NOUGHT, AND THAT HAS AT MOST m SYMBOLS OTHER THAN NOUGHT, IS NOUGHT -/
theorem rs_zero {n m : Nat} {d : Nat → Nat} (hn : n ≤ 1023) (hm : m ≤ 1000) (hd : ∀ j, d j < 1024) (hs : ∀ i, 1 ≤ i → i ≤ m → syn n d i = 0) (P : List Nat) (hP : P.length ≤ m) (hsup : ∀ j, j < n → d j ≠ 0 → j ∈ P) :
    ∀ j, j < n → d j = 0 := by
  intro p hp
  rcases Nat.eq_zero_or_pos (d p) with h0 | h0
  · exact h0
  exfalso
  have hpP := hsup p hp (by omega)
  let Q := (P.erase p).filter (fun q => decide (q < n) && decide (q ≠ p))
  have hQl : Q.length + 1 ≤ m := by
    have h1 : Q.length ≤ (P.erase p).length := List.length_filter_le _ _
    have h2 := List.length_erase_of_mem hpP
    have h3 := List.length_pos_iff.2 (List.ne_nil_of_mem hpP)
    omega
  have hQ : ∀ q ∈ Q, q < n ∧ q ≠ p := by
    intro q hq
    have := (List.mem_filter.1 hq).2
    simpa using this
  have hQs : ∀ j, j < n → j ≠ p → d j ≠ 0 → j ∈ Q := by
    intro j hj hjp hdj
    refine List.mem_filter.2 ⟨(List.mem_erase_of_ne hjp).2 (hsup j hj hdj), by simp [hj, hjp]⟩
  have qs : ∀ q ∈ Q.map (loc n), q < 1024 := by
    intro q hq
    obtain ⟨y, _, rfl⟩ := List.mem_map.1 hq
    exact loc_lt n y
  have hlen : (Q.map (loc n)).length ≤ 2000 := by rw [List.length_map]; omega
  have hL := rp_len hlen
  rw [List.length_map] at hL
  -- the sum over all places, of the symbols times the polynomial's values
  have hsum : (X n fun j => gm (d j) (ev (loc n j) (rp (Q.map (loc n))))) = 0 := by
    have e1 : (X n fun j => gm (d j) (ev (loc n j) (rp (Q.map (loc n))))) = X (Q.length + 2) fun i => gm (at_ (rp (Q.map (loc n))) i % 1024) (syn n d i) := by
      have : ∀ j, gm (d j) (ev (loc n j) (rp (Q.map (loc n)))) = X (Q.length + 2) fun i => gm (at_ (rp (Q.map (loc n))) i % 1024) (gm (d j) (gpow (loc n j) i)) := by
        intro j
        rw [ev_more (loc n j) (loc_lt n j) _ hL, X_mul_left]
        refine X_congr fun i _ => ?_
        have h1 : at_ (rp (Q.map (loc n))) i % 1024 < 1024 := Nat.mod_lt _ (by decide)
        rw [← gm_assoc (hd j) h1 (gpow_lt i), gm_comm (hd j) h1, gm_assoc h1 (hd j) (gpow_lt i)]
      rw [X_congr (fun j _ => this j), X_swap]
      refine X_congr fun i _ => ?_
      rw [← X_mul_left]; rfl
    rw [e1]
    refine X_zero fun i hi => ?_
    rcases Nat.eq_zero_or_pos i with h1 | h1
    · subst h1
      have h2 : at_ (rp (Q.map (loc n))) 0 % 1024 = 0 := by
        rw [← ev_zero, ev_rp (by decide) hlen qs, gm_zero_left]
      rw [h2, gm_zero_left]
    · rw [hs i h1 (by omega), gm_zero_right]
  have hone : (X n fun j => gm (d j) (ev (loc n j) (rp (Q.map (loc n))))) = gm (d p) (ev (loc n p) (rp (Q.map (loc n)))) := by
    refine X_one (f := fun j => gm (d j) (ev (loc n j) (rp (Q.map (loc n))))) hp fun j hj hjp => ?_
    show gm (d j) (ev (loc n j) (rp (Q.map (loc n)))) = 0
    by_cases hdj : d j = 0
    · rw [hdj, gm_zero_left]
    · have hjQ := hQs j hj hjp hdj
      have : ev (loc n j) (rp (Q.map (loc n))) = 0 := by
        rw [ev_rp (loc_lt n j) hlen qs, (rtp_zero (loc_lt n j) qs).2 (List.mem_map_of_mem hjQ), gm_zero_right]
      rw [this, gm_zero_right]
  rw [hone] at hsum
  rcases (gm_eq_zero (hd p) (ev_lt _ _)).1 hsum with h1 | h1
  · omega
  · rw [ev_rp (loc_lt n p) hlen qs] at h1
    rcases (gm_eq_zero (loc_lt n p) rtp_lt).1 h1 with h2 | h2
    · exact E_ne _ h2
    · have := (rtp_zero (loc_lt n p) qs).1 h2
      obtain ⟨q, hq, hqe⟩ := List.mem_map.1 this
      obtain ⟨hqn, hqp⟩ := hQ q hq
      exact hqp (loc_inj hn hqn hp hqe)
end Go.Proofs.Ytciafkobnlfpbaa
