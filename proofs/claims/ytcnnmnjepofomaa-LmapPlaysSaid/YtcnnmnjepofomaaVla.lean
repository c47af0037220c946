/- Words of bits as whole numbers: how many bits a number has, the lowest of them, the words of a row of bits (no program is named here). -/
import Derived.ProofKit
import Derived.Laws.BitsAllLaws
namespace Go.Bw
/-- how many of the first k are set -/
def pc (f : Nat → Bool) : Nat → Nat
  | 0 => 0
  | k + 1 => pc f k + (if f k then 1 else 0)
theorem pc_congr {f g : Nat → Bool} : ∀ {k : Nat}, (∀ j, j < k → f j = g j) → pc f k = pc g k
  | 0, _ => rfl
  | k + 1, h => by rw [pc, pc, pc_congr (k := k) fun j hj => h j (by omega), h k (by omega)]
theorem pc_add (f : Nat → Bool) (a : Nat) : ∀ b : Nat, pc f (a + b) = pc f a + pc (fun j => f (a + j)) b
  | 0 => rfl
  | b + 1 => by rw [← Nat.add_assoc, pc, pc, pc_add f a b, Nat.add_assoc]
theorem pc_zero {f : Nat → Bool} {k : Nat} (h : ∀ j, j < k → f j = false) : pc f k = 0 := by
  induction k with
  | zero => rfl
  | succ k ih => rw [pc, ih fun j hj => h j (by omega), h k (by omega)]; rfl
theorem pc_le (f : Nat → Bool) : ∀ k : Nat, pc f k ≤ k
  | 0 => Nat.le_refl _
  | k + 1 => by rw [pc]; have := pc_le f k; split <;> omega
theorem pc_mono (f : Nat → Bool) {a b : Nat} (h : a ≤ b) : pc f a ≤ pc f b := by
  obtain ⟨d, rfl⟩ := Nat.exists_eq_add_of_le h
  rw [pc_add]; omega
/-- beyond which none is set -/
theorem pc_end {f : Nat → Bool} {a b : Nat} (h : a ≤ b) (hf : ∀ j, a ≤ j → f j = false) : pc f b = pc f a := by
  obtain ⟨d, rfl⟩ := Nat.exists_eq_add_of_le h
  rw [pc_add, pc_zero (k := d) fun j _ => hf _ (by omega)]; rfl

theorem and_byte {a b c d : Nat} (ha : a < 256) (hc : c < 256) : (a + 256 * b) &&& (c + 256 * d) = (a &&& c) + 256 * (b &&& d) := by
  have h1 := Nat.and_mod_two_pow (a := a + 256 * b) (b := c + 256 * d) (n := 8)
  have h2 := Nat.and_div_two_pow (a := a + 256 * b) (b := c + 256 * d) (n := 8)
  have e1 : (a + 256 * b) % 2 ^ 8 = a := by omega
  have e2 : (c + 256 * d) % 2 ^ 8 = c := by omega
  have e3 : (a + 256 * b) / 2 ^ 8 = b := by omega
  have e4 : (c + 256 * d) / 2 ^ 8 = d := by omega
  rw [e1, e2] at h1
  rw [e3, e4] at h2
  have := Nat.div_add_mod ((a + 256 * b) &&& (c + 256 * d)) (2 ^ 8)
  rw [h1, h2] at this
  omega
/-- n bytes, all c -/
def M (c : Nat) : Nat → Nat
  | 0 => 0
  | n + 1 => c + 256 * M c n
def s1 (n x : Nat) : Nat := (x / 2 &&& M 85 n) + (x &&& M 85 n)
def s2 (n x : Nat) : Nat := (x / 4 &&& M 51 n) + (x &&& M 51 n)
def s3 (n x : Nat) : Nat := (x / 16 + x) &&& M 15 n
def b1 (a : Nat) : Nat := (a / 2 &&& 85) + (a &&& 85)
def b2 (a : Nat) : Nat := (a / 4 &&& 51) + (a &&& 51)
theorem s1_step (n a b : Nat) (ha : a < 256) : s1 (n + 1) (a + 256 * b) = b1 a + 256 * s1 n b := by
  have h : ∀ a, a < 256 → ∀ c, c < 2 → (a / 2 + 128 * c) &&& 85 = a / 2 &&& 85 := by decide +kernel
  have e : (a + 256 * b) / 2 = (a / 2 + 128 * (b % 2)) + 256 * (b / 2) := by omega
  unfold s1 b1
  rw [M, e, and_byte (by omega) (by decide), and_byte ha (by decide), h a ha _ (Nat.mod_lt _ (by decide))]
  omega
theorem s2_step (n a b : Nat) (ha : a < 256) : s2 (n + 1) (a + 256 * b) = b2 a + 256 * s2 n b := by
  have h : ∀ a, a < 256 → ∀ c, c < 4 → (a / 4 + 64 * c) &&& 51 = a / 4 &&& 51 := by decide +kernel
  have e : (a + 256 * b) / 4 = (a / 4 + 64 * (b % 4)) + 256 * (b / 4) := by omega
  unfold s2 b2
  rw [M, e, and_byte (by omega) (by decide), and_byte ha (by decide), h a ha _ (Nat.mod_lt _ (by decide))]
  omega
theorem b1_lt : ∀ a, a < 256 → b1 a < 256 := by decide +kernel
theorem b2_le : ∀ a, a < 256 → b2 (b1 a) ≤ 68 ∧ b2 (b1 a) % 16 ≤ 4 ∧ b2 (b1 a) / 16 ≤ 4 := by decide +kernel
theorem b3_is : ∀ a, a < 256 → ∀ c, c < 5 → (b2 (b1 a) / 16 + b2 (b1 a) + 16 * c) &&& 15 = pc a.testBit 8 := by decide +kernel
theorem s1_lt : ∀ (n x : Nat), x < 256 ^ n → s1 n x < 256 ^ n
  | 0, x, h => by have : x = 0 := by simpa using h
                  subst this; decide
  | n + 1, x, h => by
    have e : x = x % 256 + 256 * (x / 256) := by omega
    rw [Nat.pow_succ] at h
    have ih := s1_lt n (x / 256) (Nat.div_lt_of_lt_mul (by omega))
    have := b1_lt (x % 256) (Nat.mod_lt _ (by decide))
    rw [e, s1_step _ _ _ (Nat.mod_lt _ (by decide)), Nat.pow_succ]
    omega
theorem s2_low : ∀ (n x : Nat), x < 256 ^ n → s2 n (s1 n x) % 16 ≤ 4 ∧ s2 n (s1 n x) < 256 ^ n ∧ s2 n (s1 n x) / 16 + s2 n (s1 n x) < 256 ^ n
  | 0, x, h => by have : x = 0 := by simpa using h
                  subst this; decide
  | n + 1, x, h => by
    have e : x = x % 256 + 256 * (x / 256) := by omega
    have hm : x % 256 < 256 := Nat.mod_lt _ (by decide)
    rw [Nat.pow_succ] at h
    obtain ⟨i1, i2, i3⟩ := s2_low n (x / 256) (Nat.div_lt_of_lt_mul (by omega))
    have := b2_le (x % 256) hm
    rw [e, s1_step _ _ _ hm, s2_step _ _ _ (b1_lt _ hm), Nat.pow_succ]
    refine ⟨by omega, by omega, by omega⟩
/-- the bytes' numbers of bits, in bytes -/
def by_ : Nat → Nat → Nat
  | 0, _ => 0
  | n + 1, x => pc (x % 256).testBit 8 + 256 * by_ n (x / 256)
theorem s3_is : ∀ (n x : Nat), x < 256 ^ n → s3 n (s2 n (s1 n x)) = by_ n x
  | 0, x, h => by have : x = 0 := by simpa using h
                  subst this; decide
  | n + 1, x, h => by
    have e : x = x % 256 + 256 * (x / 256) := by omega
    have hm : x % 256 < 256 := Nat.mod_lt _ (by decide)
    rw [Nat.pow_succ] at h
    have hlt : x / 256 < 256 ^ n := Nat.div_lt_of_lt_mul (by omega)
    obtain ⟨i1, _, _⟩ := s2_low n (x / 256) hlt
    have ih := s3_is n (x / 256) hlt
    have hb := b2_le (x % 256) hm
    conv => lhs; rw [e, s1_step _ _ _ hm, s2_step _ _ _ (b1_lt _ hm)]
    rw [by_, ← ih]
    unfold s3
    generalize hu : s2 n (s1 n (x / 256)) = u at *
    have hv := b3_is (x % 256) hm (u % 16) (by omega)
    generalize b2 (b1 (x % 256)) = v at *
    have e2 : (v + 256 * u) / 16 + (v + 256 * u) = (v / 16 + v + 16 * (u % 16)) + 256 * (u / 16 + u) := by omega
    rw [M, e2, and_byte (by omega) (by decide), hv]
theorem tb_byte {a b : Nat} (ha : a < 256) (j : Nat) : (a + 256 * b).testBit j = if j < 8 then a.testBit j else b.testBit (j - 8) := by
  have := Nat.testBit_two_pow_mul_add b (i := 8) (b := a) ha j
  rw [show a + 256 * b = 2 ^ 8 * b + a by omega]; exact this
theorem pc_byte (x k : Nat) : pc x.testBit (8 + k) = pc (x % 256).testBit 8 + pc (x / 256).testBit k := by
  have hm : x % 256 < 256 := Nat.mod_lt _ (by decide)
  have e : ∀ j, x.testBit j = if j < 8 then (x % 256).testBit j else (x / 256).testBit (j - 8) := fun j => by
    conv => lhs; rw [show x = x % 256 + 256 * (x / 256) by omega]
    exact tb_byte hm j
  rw [pc_add]
  refine congr (congrArg (· + ·) (pc_congr fun j hj => ?_)) (pc_congr fun j hj => ?_)
  · rw [e, if_pos hj]
  · rw [e, if_neg (by omega)]; congr 1; omega
theorem id4 (a0 a1 a2 a3 a4 a5 a6 p7 : Nat) : (a0 + 256 * a1 + 65536 * (a2 + 256 * a3 + 65536 * (a4 + 256 * a5 + 65536 * (a6 + 256 * p7)))) + (a2 + 256 * a3 + 65536 * (a4 + 256 * a5 + 65536 * (a6 + 256 * p7))) =
    (a0 + a2 + 256 * (a1 + a3) + 65536 * (a2 + a4 + 256 * (a3 + a5))) + 4294967296 * (a4 + a6 + 256 * (a5 + p7) + 65536 * (a6 + 256 * p7)) := by omega
set_option maxHeartbeats 1000000 in
/-- THE NUMBER OF BITS, AS IT IS RECKONED -/
theorem ones (x : Nat) (h : x < 18446744073709551616) : ∃ y, s3 8 (s2 8 (s1 8 x)) = y ∧ y + y / 256 < 18446744073709551616 ∧
    (y + y / 256) + (y + y / 256) / 65536 < 18446744073709551616 ∧
    ((y + y / 256) + (y + y / 256) / 65536) + ((y + y / 256) + (y + y / 256) / 65536) / 4294967296 < 18446744073709551616 ∧
    (((y + y / 256) + (y + y / 256) / 65536) + ((y + y / 256) + (y + y / 256) / 65536) / 4294967296) % 128 = pc x.testBit 64 := by
  refine ⟨by_ 8 x, s3_is 8 x h, ?_⟩
  rw [show (64 : Nat) = 8 + 56 from rfl, pc_byte, show (56 : Nat) = 8 + 48 from rfl, pc_byte, show (48 : Nat) = 8 + 40 from rfl, pc_byte, show (40 : Nat) = 8 + 32 from rfl, pc_byte,
    show (32 : Nat) = 8 + 24 from rfl, pc_byte, show (24 : Nat) = 8 + 16 from rfl, pc_byte, show (16 : Nat) = 8 + 8 from rfl, pc_byte]
  simp only [by_]
  have q0 := pc_le (x % 256).testBit 8
  have q1 := pc_le (x / 256 % 256).testBit 8
  have q2 := pc_le (x / 256 / 256 % 256).testBit 8
  have q3 := pc_le (x / 256 / 256 / 256 % 256).testBit 8
  have q4 := pc_le (x / 256 / 256 / 256 / 256 % 256).testBit 8
  have q5 := pc_le (x / 256 / 256 / 256 / 256 / 256 % 256).testBit 8
  have q6 := pc_le (x / 256 / 256 / 256 / 256 / 256 / 256 % 256).testBit 8
  have q7 := pc_le (x / 256 / 256 / 256 / 256 / 256 / 256 / 256 % 256).testBit 8
  have e7 : x / 256 / 256 / 256 / 256 / 256 / 256 / 256 % 256 = x / 256 / 256 / 256 / 256 / 256 / 256 / 256 := by omega
  rw [e7] at q7 ⊢
  generalize pc (x % 256).testBit 8 = p0 at *
  generalize pc (x / 256 % 256).testBit 8 = p1 at *
  generalize pc (x / 256 / 256 % 256).testBit 8 = p2 at *
  generalize pc (x / 256 / 256 / 256 % 256).testBit 8 = p3 at *
  generalize pc (x / 256 / 256 / 256 / 256 % 256).testBit 8 = p4 at *
  generalize pc (x / 256 / 256 / 256 / 256 / 256 % 256).testBit 8 = p5 at *
  generalize pc (x / 256 / 256 / 256 / 256 / 256 / 256 % 256).testBit 8 = p6 at *
  generalize pc (x / 256 / 256 / 256 / 256 / 256 / 256 / 256).testBit 8 = p7 at *
  clear e7 h
  have d1 : (p0 + 256 * (p1 + 256 * (p2 + 256 * (p3 + 256 * (p4 + 256 * (p5 + 256 * (p6 + 256 * (p7 + 256 * 0)))))))) / 256 = p1 + 256 * (p2 + 256 * (p3 + 256 * (p4 + 256 * (p5 + 256 * (p6 + 256 * p7))))) := by omega
  rw [d1]
  obtain ⟨a0, ha0⟩ : ∃ a, p0 + p1 = a := ⟨_, rfl⟩
  obtain ⟨a1, ha1⟩ : ∃ a, p1 + p2 = a := ⟨_, rfl⟩
  obtain ⟨a2, ha2⟩ : ∃ a, p2 + p3 = a := ⟨_, rfl⟩
  obtain ⟨a3, ha3⟩ : ∃ a, p3 + p4 = a := ⟨_, rfl⟩
  obtain ⟨a4, ha4⟩ : ∃ a, p4 + p5 = a := ⟨_, rfl⟩
  obtain ⟨a5, ha5⟩ : ∃ a, p5 + p6 = a := ⟨_, rfl⟩
  obtain ⟨a6, ha6⟩ : ∃ a, p6 + p7 = a := ⟨_, rfl⟩
  have d2 : (p0 + 256 * (p1 + 256 * (p2 + 256 * (p3 + 256 * (p4 + 256 * (p5 + 256 * (p6 + 256 * (p7 + 256 * 0)))))))) + (p1 + 256 * (p2 + 256 * (p3 + 256 * (p4 + 256 * (p5 + 256 * (p6 + 256 * p7)))))) =
    a0 + 256 * a1 + 65536 * (a2 + 256 * a3 + 65536 * (a4 + 256 * a5 + 65536 * (a6 + 256 * p7))) := by omega
  have t : a0 + a2 + a4 + a6 = p0 + (p1 + (p2 + (p3 + (p4 + (p5 + (p6 + p7)))))) := by omega
  have l : a0 ≤ 16 ∧ a1 ≤ 16 ∧ a2 ≤ 16 ∧ a3 ≤ 16 ∧ a4 ≤ 16 ∧ a5 ≤ 16 ∧ a6 ≤ 16 ∧ p7 ≤ 16 := by omega
  rw [d2, ← t]
  clear t d1 d2 ha0 ha1 ha2 ha3 ha4 ha5 ha6 q0 q1 q2 q3 q4 q5 q6 q7
  have d3 : (a0 + 256 * a1 + 65536 * (a2 + 256 * a3 + 65536 * (a4 + 256 * a5 + 65536 * (a6 + 256 * p7)))) / 65536 = a2 + 256 * a3 + 65536 * (a4 + 256 * a5 + 65536 * (a6 + 256 * p7)) := by omega
  rw [d3]
  obtain ⟨c0, hc0⟩ : ∃ a, a0 + a2 = a := ⟨_, rfl⟩
  obtain ⟨c1, hc1⟩ : ∃ a, a1 + a3 = a := ⟨_, rfl⟩
  obtain ⟨c2, hc2⟩ : ∃ a, a2 + a4 = a := ⟨_, rfl⟩
  obtain ⟨c3, hc3⟩ : ∃ a, a3 + a5 = a := ⟨_, rfl⟩
  obtain ⟨c4, hc4⟩ : ∃ a, a4 + a6 = a := ⟨_, rfl⟩
  obtain ⟨c5, hc5⟩ : ∃ a, a5 + p7 = a := ⟨_, rfl⟩
  have d4 := id4 a0 a1 a2 a3 a4 a5 a6 p7
  rw [hc0, hc1, hc2, hc3, hc4, hc5] at d4
  have t : c0 + c4 = a0 + a2 + a4 + a6 := by omega
  have l2 : c0 ≤ 32 ∧ c1 ≤ 32 ∧ c2 ≤ 32 ∧ c3 ≤ 32 ∧ c4 ≤ 32 ∧ c5 ≤ 32 ∧ a6 ≤ 16 ∧ p7 ≤ 16 := by omega
  rw [d4, ← t]
  refine ⟨by omega, by omega, ?_⟩
  clear t d3 d4 hc0 hc1 hc2 hc3 hc4 hc5 l
  have d5 : ((c0 + 256 * c1 + 65536 * (c2 + 256 * c3)) + 4294967296 * (c4 + 256 * c5 + 65536 * (a6 + 256 * p7))) / 4294967296 = c4 + 256 * c5 + 65536 * (a6 + 256 * p7) := by omega
  rw [d5]
  refine ⟨by omega, by omega⟩

/-- THE LOWEST BIT ALONE -/
theorem low_bit {x t : Nat} (h : x < 18446744073709551616) (ht : x.testBit t = true) (hl : ∀ j, j < t → x.testBit j = false) : x &&& (18446744073709551616 - x) = 2 ^ t := by
  have t64 : t < 64 := by
    rcases Nat.lt_or_ge t 64 with h1 | h1
    · exact h1
    · have h2 : (2 : Nat) ^ 64 ≤ 2 ^ t := Nat.pow_le_pow_right (by decide) h1
      rw [Nat.testBit_lt_two_pow (by omega)] at ht; cases ht
  have hm : x % 2 ^ t = 0 := by
    apply Nat.eq_of_testBit_eq
    intro i
    rw [Nat.testBit_mod_two_pow, Nat.zero_testBit]
    by_cases hi : i < t
    · rw [hl i hi]; simp
    · simp [hi]
  have hx : x = 2 ^ t * (x / 2 ^ t) := by have := Nat.div_add_mod x (2 ^ t); omega
  have ho : x / 2 ^ t % 2 = 1 := by
    rw [Nat.testBit_eq_decide_div_mod_eq] at ht
    simpa using ht
  obtain ⟨q, hq⟩ : ∃ q, x / 2 ^ t = 2 * q + 1 := ⟨x / 2 ^ t / 2, by omega⟩
  rw [hq] at hx
  have hp : 0 < 2 ^ t := Nat.two_pow_pos t
  have h1 : x - 1 = 2 ^ t * (2 * q) + (2 ^ t - 1) := by rw [hx, Nat.mul_add]; omega
  have h0 : 0 < x := by rw [hx]; exact Nat.mul_pos hp (by omega)
  have e : 18446744073709551616 - x = 2 ^ 64 - ((x - 1) + 1) := by rw [Nat.sub_add_cancel h0]
  apply Nat.eq_of_testBit_eq
  intro i
  rw [Nat.testBit_and, e, Nat.testBit_two_pow_sub_succ (by omega), h1, Nat.testBit_two_pow_mul_add (2 * q) (b := 2 ^ t - 1) (i := t) (by omega), Nat.testBit_two_pow]
  by_cases hi : i < t
  · rw [hl i hi]; simp; omega
  · rw [if_neg hi]
    by_cases hit : i = t
    · subst hit
      rw [ht]; simp [t64]
    · have hg : x.testBit i = (2 * q + 1).testBit (i - t) := by
        conv => lhs; rw [hx]
        rw [Nat.testBit_two_pow_mul]
        simp [show t ≤ i by omega]
      obtain ⟨d, hd⟩ : ∃ d, i - t = d + 1 := ⟨i - t - 1, by omega⟩
      have e1 : (2 * q + 1).testBit (d + 1) = q.testBit d := by rw [Nat.testBit_succ]; congr 1; omega
      have e2 : (2 * q).testBit (d + 1) = q.testBit d := by rw [Nat.testBit_succ]; congr 1; omega
      rw [hg, hd, e1, e2]
      cases q.testBit d <;> simp <;> omega
/-- the table's places, as Go reckons them -/
def br (t : Nat) : Nat := 2 ^ t * 285870213051353865 % 18446744073709551616 / 288230376151711744

/-- a number's bits, the first the lowest -/
def ofB (f : Nat → Bool) : Nat → Nat
  | 0 => 0
  | k + 1 => 2 ^ k * (if f k then 1 else 0) + ofB f k
theorem ofB_lt (f : Nat → Bool) : ∀ k : Nat, ofB f k < 2 ^ k
  | 0 => Nat.one_pos
  | k + 1 => by rw [ofB, Nat.pow_succ]; have := ofB_lt f k; split <;> omega
theorem tb_ofB (f : Nat → Bool) : ∀ k j : Nat, (ofB f k).testBit j = (decide (j < k) && f j)
  | 0, j => by simp [ofB]
  | k + 1, j => by
    rw [ofB, Nat.testBit_two_pow_mul_add _ (ofB_lt f k), tb_ofB f k]
    by_cases h : j < k
    · simp [h, show j < k + 1 by omega]
    · rw [if_neg h]
      by_cases e : j = k
      · subst e; cases f j <;> simp
      · obtain ⟨d, hd⟩ : ∃ d, j - k = d + 1 := ⟨j - k - 1, by omega⟩
        rw [hd, Nat.testBit_succ]
        have : (if f k then 1 else 0) / 2 = 0 := by split <;> rfl
        rw [this]; simp; omega
/-- the i-th word of a row of bits -/
def wd (f : Nat → Bool) (i : Nat) : Nat := ofB (fun j => f (64 * i + j)) 64
theorem wd_lt (f : Nat → Bool) (i : Nat) : wd f i < 18446744073709551616 := ofB_lt _ 64
theorem tb_wd (f : Nat → Bool) (i j : Nat) : (wd f i).testBit j = (decide (j < 64) && f (64 * i + j)) := tb_ofB _ 64 j
theorem wd_congr {f g : Nat → Bool} {i : Nat} (h : ∀ j, j < 64 → f (64 * i + j) = g (64 * i + j)) : wd f i = wd g i := by
  apply Nat.eq_of_testBit_eq
  intro j
  rw [tb_wd, tb_wd]
  by_cases hj : j < 64
  · rw [h j hj]
  · simp [hj]
/-- bit p turned -/
def turn (f : Nat → Bool) (p : Nat) (j : Nat) : Bool := if j = p then !f j else f j
theorem wd_turn (f : Nat → Bool) (p : Nat) : wd f (p / 64) ^^^ 2 ^ (p % 64) = wd (turn f p) (p / 64) := by
  apply Nat.eq_of_testBit_eq
  intro j
  rw [Nat.testBit_xor, tb_wd, tb_wd, Nat.testBit_two_pow]
  unfold turn
  by_cases hj : j < 64
  · by_cases e : p % 64 = j
    · rw [if_pos (by omega)]; simp [hj, e]
    · rw [if_neg (by omega)]; simp [hj, e]
  · have : ¬ p % 64 = j := by omega
    simp [hj, this]
theorem wd_other (f : Nat → Bool) {p i : Nat} (h : i ≠ p / 64) : wd f i = wd (turn f p) i := wd_congr fun j hj => by
  unfold turn; rw [if_neg (by omega)]
theorem wd_has (f : Nat → Bool) (p : Nat) : (wd f (p / 64) &&& 2 ^ (p % 64) = 0) ↔ f p = false := by
  have e : (wd f (p / 64)).testBit (p % 64) = f p := by
    rw [tb_wd]
    have : p % 64 < 64 := Nat.mod_lt _ (by decide)
    rw [Nat.div_add_mod]; simp [this]
  constructor
  · intro h
    have := congrArg (·.testBit (p % 64)) h
    simp only [Nat.testBit_and, Nat.testBit_two_pow, Nat.zero_testBit] at this
    rw [e] at this
    simpa using this
  · intro h
    apply Nat.eq_of_testBit_eq
    intro j
    rw [Nat.testBit_and, Nat.testBit_two_pow, Nat.zero_testBit]
    by_cases hj : p % 64 = j
    · subst hj; rw [e, h]; rfl
    · simp [hj]
/-- all places from the k-th on -/
def up (k : Nat) : Nat := 18446744073709551615 * 2 ^ min k 64 % 18446744073709551616
theorem up_lt (k : Nat) : up k < 18446744073709551616 := Nat.mod_lt _ (by decide)
theorem tb_up (k j : Nat) : (up k).testBit j = (decide (j < 64) && decide (k ≤ j)) := by
  unfold up
  rw [show (18446744073709551616 : Nat) = 2 ^ 64 from rfl, Nat.testBit_mod_two_pow, Nat.mul_comm, Nat.testBit_two_pow_mul, show (18446744073709551615 : Nat) = 2 ^ 64 - 1 from rfl, Nat.testBit_two_pow_sub_one]
  by_cases h : j < 64
  · have e : decide (j - min k 64 < 64) = true := decide_eq_true (by omega)
    rw [e]
    by_cases hk : k ≤ j
    · have : min k 64 ≤ j := by omega
      simp [h, hk, this]
    · have : ¬ min k 64 ≤ j := by omega
      simp [h, hk, this]
  · simp [h]
/-- a &^ b -/
def an (a b : Nat) : Nat := (BitVec.ofNat 64 a &&& ~~~BitVec.ofNat 64 b).toNat
theorem an_lt (a b : Nat) : an a b < 18446744073709551616 := (BitVec.isLt _)
theorem tb_an (a b j : Nat) : (an a b).testBit j = (decide (j < 64) && a.testBit j && !b.testBit j) := by
  unfold an
  rw [BitVec.testBit_toNat, BitVec.getLsbD_and, BitVec.getLsbD_not, BitVec.getLsbD_ofNat, BitVec.getLsbD_ofNat]
  cases decide (j < 64) <;> cases a.testBit j <;> cases b.testBit j <;> rfl
theorem bw_andNot (a b : Nat) : bits .andNot .u64 (a : Int) (b : Int) = ((an a b : Nat) : Int) := by
  have h : bits .andNot .u64 (a : Int) (b : Int) = IntKind.u64.wrap ((an a b : Nat) : Int) := by
    unfold bits an
    simp only [IntKind.bits, BitVec.ofInt_natCast]
    rfl
  rw [h]
  have := an_lt a b
  generalize an a b = v at *
  simp only [IntKind.wrap, IntKind.signed, IntKind.bits]
  simp
  omega
/-- the first below n that is set, if any -/
def nx (f : Nat → Bool) : Nat → Option Nat
  | 0 => none
  | n + 1 => match nx f n with
    | some t => some t
    | none => if f n then some n else none
theorem nx_none {f : Nat → Bool} : ∀ {n : Nat}, nx f n = none ↔ ∀ j, j < n → f j = false
  | 0 => ⟨fun _ j hj => absurd hj (Nat.not_lt_zero _), fun _ => rfl⟩
  | n + 1 => by
    rw [nx]
    constructor
    · intro h j hj
      cases e : nx f n with
      | some t => rw [e] at h; cases h
      | none =>
        rw [e] at h
        have hf : f n = false := by cases hf : f n with
          | false => rfl
          | true => rw [hf] at h; cases h
        rcases Nat.lt_or_ge j n with h1 | h1
        · exact nx_none.1 e j h1
        · rw [show j = n by omega]; exact hf
    · intro h
      rw [nx_none.2 fun j hj => h j (by omega), h n (by omega)]; rfl
theorem nx_some {f : Nat → Bool} : ∀ {n t : Nat}, nx f n = some t ↔ t < n ∧ f t = true ∧ ∀ j, j < t → f j = false
  | 0, t => ⟨fun h => absurd h (by simp [nx]), fun h => absurd h.1 (Nat.not_lt_zero _)⟩
  | n + 1, t => by
    rw [nx]
    constructor
    · intro h
      cases e : nx f n with
      | some u =>
        rw [e] at h
        cases h
        obtain ⟨h1, h2⟩ := nx_some.1 e
        exact ⟨by omega, h2⟩
      | none =>
        rw [e] at h
        cases hf : f n with
        | false => rw [hf] at h; cases h
        | true =>
          rw [hf] at h
          cases h
          exact ⟨by omega, hf, nx_none.1 e⟩
    · intro ⟨h1, h2, h3⟩
      rcases Nat.lt_or_ge t n with h4 | h4
      · rw [nx_some.2 ⟨h4, h2, h3⟩]
      · have e : t = n := by omega
        subst e
        rw [nx_none.2 h3, h2]; rfl
/-- of a number that is not nought one bit is the lowest -/
theorem low_of {x : Nat} (h : x ≠ 0) (hx : x < 18446744073709551616) : ∃ t, t < 64 ∧ x.testBit t = true ∧ ∀ j, j < t → x.testBit j = false := by
  cases e : nx x.testBit 64 with
  | some t => exact ⟨t, nx_some.1 e⟩
  | none =>
    exfalso
    apply h
    apply Nat.eq_of_testBit_eq
    intro j
    rw [Nat.zero_testBit]
    rcases Nat.lt_or_ge j 64 with h1 | h1
    · exact nx_none.1 e j h1
    · have h2 : (2 : Nat) ^ 64 ≤ 2 ^ j := Nat.pow_le_pow_right (by decide) h1
      exact Nat.testBit_lt_two_pow (by omega)
end Go.Bw
