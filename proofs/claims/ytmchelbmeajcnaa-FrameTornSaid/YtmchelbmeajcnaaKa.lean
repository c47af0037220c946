/- Bytes' bits, ten by ten (plain mathematics). -/
import Derived.Test.YtmchelbmeajcnaaPm
namespace Go.Proofs.Ytmchelbmeajcnaa

theorem ext_at {a b : List Nat} (hl : a.length = b.length) (h : ∀ j, j < a.length → at_ a j = at_ b j) : a = b := by
  apply List.ext_getElem hl
  intro j h1 h2
  have := h j h1
  rwa [at_get h1, at_get h2] at this
/-- n bits as a number, the highest first -/
def ofB : Nat → (Nat → Bool) → Nat
  | 0, _ => 0
  | n + 1, f => 2 * ofB n f + if f n then 1 else 0
theorem ofB_congr {n : Nat} {f g : Nat → Bool} (h : ∀ k, k < n → f k = g k) : ofB n f = ofB n g := by
  induction n with
  | zero => rfl
  | succ n ih => unfold ofB; rw [ih fun k hk => h k (by omega), h n (by omega)]
theorem ofB_bit (n : Nat) (f : Nat → Bool) (t : Nat) : (ofB n f).testBit t = (decide (t < n) && f (n - 1 - t)) := by
  induction n generalizing t with
  | zero => simp [ofB]
  | succ n ih =>
    unfold ofB
    cases t with
    | zero =>
      rw [Nat.testBit_zero]
      cases hf : f n <;> simp [hf] <;> omega
    | succ t =>
      rw [Nat.testBit_succ]
      have e : (2 * ofB n f + if f n = true then 1 else 0) / 2 = ofB n f := by split <;> omega
      rw [e, ih]
      have e2 : n + 1 - 1 - (t + 1) = n - 1 - t := by omega
      rw [e2]
      congr 1
      simp
theorem ofB_lt (n : Nat) (f : Nat → Bool) : ofB n f < 2 ^ n := by
  induction n with
  | zero => simp [ofB]
  | succ n ih => unfold ofB; rw [Nat.pow_succ]; split <;> omega
theorem ofB_of {n v : Nat} (h : v < 2 ^ n) : ofB n (fun k => v.testBit (n - 1 - k)) = v := by
  apply Nat.eq_of_testBit_eq
  intro t
  rw [ofB_bit]
  by_cases ht : t < n
  · rw [show n - 1 - (n - 1 - t) = t by omega]; simp [ht]
  · have : v.testBit t = false := Nat.testBit_lt_two_pow (Nat.lt_of_lt_of_le h (Nat.pow_le_pow_right (by decide) (by omega)))
    rw [this]; simp [ht]
/-- bit i of bytes, of symbols -/
def bit8 (xs : List Nat) (i : Nat) : Bool := (at_ xs (i / 8)).testBit (7 - i % 8)
def bit10 (s : List Nat) (i : Nat) : Bool := (at_ s (i / 10)).testBit (9 - i % 10)
def symN (n : Nat) : Nat := (8 * n + 9) / 10
def pk (xs : List Nat) : List Nat := rm (symN xs.length) fun j => ofB 10 fun k => bit8 xs (10 * j + k)
def upk (s : List Nat) (n : Nat) : List Nat := rm n fun j => ofB 8 fun k => bit10 s (8 * j + k)
section
variable {xs ys s : List Nat}
theorem pk_len (xs : List Nat) : (pk xs).length = symN xs.length := rm_len _ _
theorem upk_len (s : List Nat) (n : Nat) : (upk s n).length = n := rm_len _ _
theorem pk_bd (xs : List Nat) : ∀ y ∈ pk xs, y < 1024 := rm_mem fun _ _ => ofB_lt 10 _
theorem upk_bd (s : List Nat) (n : Nat) : ∀ y ∈ upk s n, y < 256 := rm_mem fun _ _ => ofB_lt 8 _
theorem bit8_far {i : Nat} (h : 8 * xs.length ≤ i) : bit8 xs i = false := by
  unfold bit8
  rw [at_far (by omega)]; simp
theorem bit10_far {i : Nat} (h : 10 * s.length ≤ i) : bit10 s i = false := by
  unfold bit10
  rw [at_far (by omega)]; simp
theorem bit10_pk (xs : List Nat) (i : Nat) : bit10 (pk xs) i = bit8 xs i := by
  rcases Nat.lt_or_ge (i / 10) (symN xs.length) with h | h
  · unfold bit10 pk
    rw [at_rm, if_pos h, ofB_bit, show 10 - 1 - (9 - i % 10) = i % 10 by omega, show 10 * (i / 10) + i % 10 = i by omega]
    simp; omega
  · rw [bit10_far (by rw [pk_len]; omega), bit8_far (by unfold symN at h; omega)]
theorem bit8_upk (s : List Nat) (n i : Nat) : bit8 (upk s n) i = (decide (i < 8 * n) && bit10 s i) := by
  by_cases h : i < 8 * n
  · unfold bit8 upk
    rw [at_rm, if_pos (by omega), ofB_bit, show 8 - 1 - (7 - i % 8) = i % 8 by omega, show 8 * (i / 8) + i % 8 = i by omega]
    simp [h]; omega
  · rw [bit8_far (by rw [upk_len]; omega)]; simp [h]
/-- rows of small numbers are known by their bits -/
theorem ext_bit8 (hl : xs.length = ys.length) (hx : ∀ x ∈ xs, x < 256) (hy : ∀ y ∈ ys, y < 256) (h : ∀ i, i < 8 * xs.length → bit8 xs i = bit8 ys i) : xs = ys := by
  refine ext_at hl fun j hj => ?_
  rw [← ofB_of (n := 8) (at_lt hx (by decide) : at_ xs j < 2 ^ 8), ← ofB_of (n := 8) (at_lt hy (by decide) : at_ ys j < 2 ^ 8)]
  refine ofB_congr fun k hk => ?_
  have := h (8 * j + k) (by omega)
  unfold bit8 at this
  rw [show (8 * j + k) / 8 = j by omega, show (8 * j + k) % 8 = k by omega] at this
  exact this
theorem ext_bit10 (hl : xs.length = ys.length) (hx : ∀ x ∈ xs, x < 1024) (hy : ∀ y ∈ ys, y < 1024) (h : ∀ i, i < 10 * xs.length → bit10 xs i = bit10 ys i) : xs = ys := by
  refine ext_at hl fun j hj => ?_
  rw [← ofB_of (n := 10) (at_lt hx (by decide) : at_ xs j < 2 ^ 10), ← ofB_of (n := 10) (at_lt hy (by decide) : at_ ys j < 2 ^ 10)]
  refine ofB_congr fun k hk => ?_
  have := h (10 * j + k) (by omega)
  unfold bit10 at this
  rw [show (10 * j + k) / 10 = j by omega, show (10 * j + k) % 10 = k by omega] at this
  exact this
/-- packed, and back -/
theorem upk_pk (hx : ∀ x ∈ xs, x < 256) : upk (pk xs) xs.length = xs :=
  ext_bit8 (upk_len _ _) (upk_bd _ _) hx fun i hi => by
    rw [upk_len] at hi
    rw [bit8_upk, bit10_pk]; simp [hi]
/-- whole bytes out of symbols, and packed again -/
theorem pk_upk (hs : ∀ x ∈ s, x < 1024) (h4 : s.length % 4 = 0) : pk (upk s (10 * s.length / 8)) = s :=
  ext_bit10 (by rw [pk_len, upk_len]; unfold symN; omega) (pk_bd _) hs fun i hi => by
    rw [pk_len, upk_len] at hi
    unfold symN at hi
    rw [bit10_pk, bit8_upk]
    have : i < 8 * (10 * s.length / 8) := by omega
    simp [this]
/-- five bytes are four symbols -/
theorem pk_append (h5 : xs.length % 5 = 0) : pk (xs ++ ys) = pk xs ++ pk ys := by
  have hl : (pk xs).length * 5 = xs.length * 4 := by rw [pk_len]; unfold symN; omega
  have e8 : ∀ i, bit8 (xs ++ ys) i = if i < 8 * xs.length then bit8 xs i else bit8 ys (i - 8 * xs.length) := fun i => by
    unfold bit8 at_ List.getD
    split
    · rw [List.getElem?_append_left (by omega)]
    · rw [List.getElem?_append_right (by omega), show i / 8 - xs.length = (i - 8 * xs.length) / 8 by omega, show (i - 8 * xs.length) % 8 = i % 8 by omega]
  refine ext_bit10 ?_ (pk_bd _) ?_ fun i _ => ?_
  · rw [List.length_append, pk_len, pk_len, pk_len, List.length_append]; unfold symN; omega
  · intro y hy
    rcases List.mem_append.1 hy with h | h
    · exact pk_bd _ y h
    · exact pk_bd _ y h
  · rw [bit10_pk, e8]
    have e10 : bit10 (pk xs ++ pk ys) i = if i < 10 * (pk xs).length then bit10 (pk xs) i else bit10 (pk ys) (i - 10 * (pk xs).length) := by
      unfold bit10 at_ List.getD
      split
      · rw [List.getElem?_append_left (by omega)]
      · rw [List.getElem?_append_right (by omega), show i / 10 - (pk xs).length = (i - 10 * (pk xs).length) / 10 by omega, show (i - 10 * (pk xs).length) % 10 = i % 10 by omega]
    rw [e10, bit10_pk, bit10_pk, show 10 * (pk xs).length = 8 * xs.length by omega]
end
/-- the symbols after i bits, the bytes after i bits -/
def pkTo (xs : List Nat) (i j : Nat) : Nat := ofB 10 fun k => decide (10 * j + k < i) && bit8 xs (10 * j + k)
def upkTo (s : List Nat) (i j : Nat) : Nat := ofB 8 fun k => decide (8 * j + k < i) && bit10 s (8 * j + k)
theorem pkTo_zero (xs : List Nat) (j : Nat) : pkTo xs 0 j = 0 := by
  apply Nat.eq_of_testBit_eq; intro t
  unfold pkTo; rw [ofB_bit]; simp
theorem upkTo_zero (s : List Nat) (j : Nat) : upkTo s 0 j = 0 := by
  apply Nat.eq_of_testBit_eq; intro t
  unfold upkTo; rw [ofB_bit]; simp
theorem pkTo_end (xs : List Nat) (j : Nat) : pkTo xs (8 * xs.length) j = ofB 10 fun k => bit8 xs (10 * j + k) := by
  refine ofB_congr fun k _ => ?_
  by_cases h : 10 * j + k < 8 * xs.length
  · simp [h]
  · rw [bit8_far (by omega)]; simp
theorem upkTo_end {s : List Nat} {n j : Nat} (h : j < n) : upkTo s (8 * n) j = ofB 8 fun k => bit10 s (8 * j + k) := by
  refine ofB_congr fun k hk => ?_
  have : 8 * j + k < 8 * n := by omega
  simp [this]
theorem pkTo_lt (xs : List Nat) (i j : Nat) : pkTo xs i j < 1024 := ofB_lt 10 _
theorem upkTo_lt (s : List Nat) (i j : Nat) : upkTo s i j < 256 := ofB_lt 8 _
/-- one bit more -/
theorem pkTo_step (xs : List Nat) (i j : Nat) : pkTo xs (i + 1) j = if j = i / 10 ∧ bit8 xs i = true then pkTo xs i j ||| 2 ^ (9 - i % 10) else pkTo xs i j := by
  have key : ∀ t, t < 10 → (decide (10 * j + (9 - t) < i + 1) && bit8 xs (10 * j + (9 - t))) = ((decide (10 * j + (9 - t) < i) && bit8 xs (10 * j + (9 - t))) || (decide (j = i / 10 ∧ 9 - i % 10 = t) && bit8 xs i)) := fun t ht => by
    by_cases h : 10 * j + (9 - t) = i
    · have h1 : j = i / 10 ∧ 9 - i % 10 = t := by omega
      rw [h]; simp [h1]
    · have h1 : ¬ (j = i / 10 ∧ 9 - i % 10 = t) := by omega
      by_cases h2 : 10 * j + (9 - t) < i
      · simp [h1, h2]; omega
      · have h3 : ¬ 10 * j + (9 - t) < i + 1 := by omega
        simp [h1, h2, h3]
  apply Nat.eq_of_testBit_eq
  intro t
  have e1 : (pkTo xs (i + 1) j).testBit t = (decide (t < 10) && (decide (10 * j + (9 - t) < i + 1) && bit8 xs (10 * j + (9 - t)))) := ofB_bit _ _ _
  have e2 : (pkTo xs i j).testBit t = (decide (t < 10) && (decide (10 * j + (9 - t) < i) && bit8 xs (10 * j + (9 - t)))) := ofB_bit _ _ _
  rw [e1]
  by_cases ht : t < 10
  · rw [key t ht]
    split
    · rename_i hc
      rw [Nat.testBit_or, e2, Nat.testBit_two_pow, hc.2]
      simp [ht, hc.1]
    · rename_i hc
      rw [e2]
      have : (decide (j = i / 10 ∧ 9 - i % 10 = t) && bit8 xs i) = false := by
        rw [Bool.eq_false_iff]
        intro h
        rw [Bool.and_eq_true, decide_eq_true_eq] at h
        exact hc ⟨h.1.1, h.2⟩
      rw [this, Bool.or_false]
  · simp only [ht, decide_false, Bool.false_and]
    split
    · rw [Nat.testBit_or, e2, Nat.testBit_two_pow]
      have : ¬ 9 - i % 10 = t := by omega
      simp [ht, this]
    · rw [e2]; simp [ht]
theorem upkTo_step (s : List Nat) (i j : Nat) : upkTo s (i + 1) j = if j = i / 8 ∧ bit10 s i = true then upkTo s i j ||| 2 ^ (7 - i % 8) else upkTo s i j := by
  have key : ∀ t, t < 8 → (decide (8 * j + (7 - t) < i + 1) && bit10 s (8 * j + (7 - t))) = ((decide (8 * j + (7 - t) < i) && bit10 s (8 * j + (7 - t))) || (decide (j = i / 8 ∧ 7 - i % 8 = t) && bit10 s i)) := fun t ht => by
    by_cases h : 8 * j + (7 - t) = i
    · have h1 : j = i / 8 ∧ 7 - i % 8 = t := by omega
      rw [h]; simp [h1]
    · have h1 : ¬ (j = i / 8 ∧ 7 - i % 8 = t) := by omega
      by_cases h2 : 8 * j + (7 - t) < i
      · simp [h1, h2]; omega
      · have h3 : ¬ 8 * j + (7 - t) < i + 1 := by omega
        simp [h1, h2, h3]
  apply Nat.eq_of_testBit_eq
  intro t
  have e1 : (upkTo s (i + 1) j).testBit t = (decide (t < 8) && (decide (8 * j + (7 - t) < i + 1) && bit10 s (8 * j + (7 - t)))) := ofB_bit _ _ _
  have e2 : (upkTo s i j).testBit t = (decide (t < 8) && (decide (8 * j + (7 - t) < i) && bit10 s (8 * j + (7 - t)))) := ofB_bit _ _ _
  rw [e1]
  by_cases ht : t < 8
  · rw [key t ht]
    split
    · rename_i hc
      rw [Nat.testBit_or, e2, Nat.testBit_two_pow, hc.2]
      simp [ht, hc.1]
    · rename_i hc
      rw [e2]
      have : (decide (j = i / 8 ∧ 7 - i % 8 = t) && bit10 s i) = false := by
        rw [Bool.eq_false_iff]
        intro h
        rw [Bool.and_eq_true, decide_eq_true_eq] at h
        exact hc ⟨h.1.1, h.2⟩
      rw [this, Bool.or_false]
  · simp only [ht, decide_false, Bool.false_and]
    split
    · rw [Nat.testBit_or, e2, Nat.testBit_two_pow]
      have : ¬ 7 - i % 8 = t := by omega
      simp [ht, this]
    · rw [e2]; simp [ht]
end Go.Proofs.Ytmchelbmeajcnaa
