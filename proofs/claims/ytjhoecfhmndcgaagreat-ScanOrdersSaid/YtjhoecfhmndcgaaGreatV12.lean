/- Floating-point numbers as exact rationals: what a float64 is, and that sums, products, quotients and whole numbers stay between the format's own numbers (no program is named here). · Floating-point numbers made whole: cut off, and rounded down (no program is named here). · Floating-point numbers cut off, and their sign taken away (no program is named here). -/
import Derived.Laws.FloatArith
import GoSem.Extern.MathFloor
import GoSem.Extern.MathFloatBits
namespace Go.Fl
open Ieee

def pw (e : Int) : Rat := (2 : Rat) ^ e
theorem pw_pos (e : Int) : 0 < pw e := Rat.zpow_pos (by decide)
theorem pw_add (a b : Int) : pw (a + b) = pw a * pw b := Rat.zpow_add (by decide) a b
theorem pw_nat (n : Nat) : pw n = ((2 ^ n : Nat) : Rat) := by
  unfold pw; rw [Rat.zpow_natCast, Rat.natCast_pow]; rfl
theorem pw_zero : pw 0 = 1 := Rat.zpow_zero _
theorem pw_one : pw 1 = 2 := Rat.zpow_one _
theorem pw_sub {a b : Int} (h : b ≤ a) : pw a = ((2 ^ (a - b).toNat : Nat) : Rat) * pw b := by
  rw [← pw_nat, ← pw_add]; congr 1; omega
theorem pw_mono {a b : Int} (h : a ≤ b) : pw a ≤ pw b := by
  rw [pw_sub h]
  have h1 : ((1 : Nat) : Rat) ≤ ((2 ^ (b - a).toNat : Nat) : Rat) := Rat.natCast_le_natCast.2 Nat.one_le_two_pow
  have h2 := Rat.mul_le_mul_of_nonneg_right h1 (Rat.le_of_lt (pw_pos a))
  have h3 : ((1 : Nat) : Rat) * pw a = pw a := Rat.one_mul _
  rw [h3] at h2; exact h2
/-- with a sign -/
def sg (s : Bool) (q : Rat) : Rat := if s then -q else q
/-- a number datum's value -/
def dv (s : Bool) (m : Nat) (p : Int) : Rat := sg s ((m : Rat) * pw p)
theorem cast_signed (s : Bool) (m up : Nat) : ((signed s m up : Int) : Rat) = sg s ((m : Rat) * pw up) := by
  unfold signed sg
  rw [pw_nat, ← Rat.natCast_mul]
  cases s <;> simp [Nat.shiftLeft_eq, Rat.intCast_natCast]
theorem dv_base {s : Bool} {m : Nat} {i base : Int} (h : base ≤ i) : dv s m i = ((signed s m (i - base).toNat : Int) : Rat) * pw base := by
  rw [cast_signed]
  have e : pw i = pw ((i - base).toNat : Int) * pw base := by rw [← pw_add]; congr 1; omega
  unfold dv sg
  rw [e]
  split <;> grind
/-- the finite float64 'x' (its bits) is the number 'q' -/
def Is (x : Nat) (q : Rat) : Prop := ∃ s m p, double.read x = .number s m p ∧ dv s m p = q

theorem mul_lt_cancel {a b c : Rat} (hc : 0 < c) : a * c < b * c ↔ a < b := Rat.mul_lt_mul_right hc

theorem order_lt {x y : Nat} {a b : Rat} (hx : Is x a) (hy : Is y b) (h : a < b) : double.order x y = some .lt := by
  obtain ⟨s, m, i, rx, rfl⟩ := hx
  obtain ⟨t, n, j, ry, rfl⟩ := hy
  unfold Format.order
  rw [rx, ry]
  rw [dv_base (s := s) (m := m) (base := min i j) (Int.min_le_left _ _), dv_base (s := t) (m := n) (base := min i j) (Int.min_le_right _ _)] at h
  have h' := Rat.intCast_lt_intCast.1 ((mul_lt_cancel (pw_pos _)).1 h)
  simp only [Datum.order]
  rw [Int.compare_eq_lt.2 h']
theorem order_gt {x y : Nat} {a b : Rat} (hx : Is x a) (hy : Is y b) (h : b < a) : double.order x y = some .gt := by
  obtain ⟨s, m, i, rx, rfl⟩ := hx
  obtain ⟨t, n, j, ry, rfl⟩ := hy
  unfold Format.order
  rw [rx, ry]
  rw [dv_base (s := s) (m := m) (base := min i j) (Int.min_le_left _ _), dv_base (s := t) (m := n) (base := min i j) (Int.min_le_right _ _)] at h
  have h' := Rat.intCast_lt_intCast.1 ((mul_lt_cancel (pw_pos _)).1 h)
  simp only [Datum.order]
  rw [Int.compare_eq_gt.2 h']
theorem order_eq {x y : Nat} {a b : Rat} (hx : Is x a) (hy : Is y b) (h : a = b) : double.order x y = some .eq := by
  obtain ⟨s, m, i, rx, rfl⟩ := hx
  obtain ⟨t, n, j, ry, rfl⟩ := hy
  unfold Format.order
  rw [rx, ry]
  rw [dv_base (s := s) (m := m) (base := min i j) (Int.min_le_left _ _), dv_base (s := t) (m := n) (base := min i j) (Int.min_le_right _ _)] at h
  have h' : signed s m (i - min i j).toNat = signed t n (j - min i j).toNat := by
    have hp := pw_pos (min i j)
    rcases Int.lt_trichotomy (signed s m (i - min i j).toNat) (signed t n (j - min i j).toNat) with hl | hl | hl
    · have := (mul_lt_cancel hp).2 (Rat.intCast_lt_intCast.2 hl); rw [h] at this; exact absurd this Rat.lt_irrefl
    · exact hl
    · have := (mul_lt_cancel hp).2 (Rat.intCast_lt_intCast.2 hl); rw [h] at this; exact absurd this Rat.lt_irrefl
  simp only [Datum.order]
  rw [Int.compare_eq_eq.2 h']
theorem read_lt {x : Nat} {s : Bool} {m : Nat} {p : Int} (h : double.read x = .number s m p) : m < 2 ^ 53 := by
  unfold Format.read at h
  dsimp only at h
  split at h
  · cases h; rename_i hb; have : double.binade = 2 ^ 52 := rfl; omega
  · split at h
    · cases h
      have : double.binade = 2 ^ 52 := rfl
      have h2 := Nat.mod_lt (x % double.signWeight) (y := double.binade) (by rw [this]; exact Nat.two_pow_pos _)
      omega
    · split at h <;> cases h

/-! the exact sum, product -/
theorem sum_is {x y : Nat} {a b : Rat} (hx : Is x a) (hy : Is y b) : ∃ s m p, (double.read x).sum (double.read y) = some (.number s m p) ∧ dv s m p = a + b := by
  obtain ⟨s, m, i, rx, rfl⟩ := hx
  obtain ⟨t, n, j, ry, rfl⟩ := hy
  rw [rx, ry]
  refine ⟨_, _, _, rfl, ?_⟩
  rw [dv_base (s := s) (m := m) (base := min i j) (Int.min_le_left _ _), dv_base (s := t) (m := n) (base := min i j) (Int.min_le_right _ _)]
  generalize signed s m (i - min i j).toNat = u
  generalize signed t n (j - min i j).toNat = v
  generalize min i j = c
  have key : ∀ (d : Bool) (z : Int), (z < 0 → d = true) → (0 < z → d = false) → dv d z.natAbs c = (z : Rat) * pw c := by
    intro d z h1 h2
    unfold dv sg
    rcases Int.lt_trichotomy z 0 with h | h | h
    · rw [h1 h]
      have e : ((z.natAbs : Nat) : Rat) = -(z : Rat) := by rw [← Rat.intCast_natCast, ← Rat.intCast_neg]; congr 1; omega
      simp only [if_true]; rw [e]; grind
    · subst h; cases d <;> simp
    · rw [h2 h]
      have e : ((z.natAbs : Nat) : Rat) = (z : Rat) := by rw [← Rat.intCast_natCast]; congr 1; omega
      simp only [Bool.false_eq_true, if_false]; rw [e]
  rw [key _ (u + v) (by intro h; rw [if_neg (by omega)]; simpa using h) (by intro h; rw [if_neg (by omega)]; simp; omega)]
  rw [Rat.intCast_add]; grind
/-! rounding to whole numbers -/
theorem lt_log (n : Nat) : 2 * n < 2 ^ (n.log2 + 2) := by
  have := Nat.lt_log2_self (n := n)
  have e : 2 ^ (n.log2 + 2) = 2 * 2 ^ (n.log2 + 1) := by rw [Nat.pow_succ, Nat.mul_comm]
  omega
theorem cut_even_le {neg : Bool} {n d K : Nat} (h : n ≤ K * 2 ^ d) : Toward.even.cut neg n d ≤ K := by
  unfold Toward.cut
  dsimp only
  by_cases hd : d ≤ n.log2 + 2
  · rw [Nat.min_eq_left hd, Nat.shiftLeft_eq, Nat.one_mul]
    have hp : 0 < 2 ^ d := Nat.two_pow_pos d
    generalize 2 ^ d = g at *
    have h1 := Nat.div_add_mod n g
    have h2 := Nat.mod_lt n hp
    generalize n / g = q at *
    generalize n % g = r at *
    by_cases hqk : q + 1 ≤ K
    · have : ((decide (g < 2 * r) || g == 2 * r && q % 2 == 1).toNat) ≤ 1 := Bool.toNat_le _
      omega
    · have hK : K ≤ q := by omega
      have hm : K * g ≤ g * q := by rw [Nat.mul_comm g q]; exact Nat.mul_le_mul_right _ hK
      have hr : r = 0 := by omega
      have hq : q ≤ K := by
        rcases Nat.lt_or_ge K q with hl | hl
        · have : (K + 1) * g ≤ q * g := Nat.mul_le_mul_right _ hl
          rw [Nat.add_mul, Nat.mul_comm q g] at this
          omega
        · exact hl
      subst hr
      have e : (decide (g < 2 * 0) || g == 2 * 0 && q % 2 == 1) = false := by
        have : (g == 2 * 0) = false := by simp; omega
        rw [this]; simp
      rw [e]; simpa using hq
  · have hd' : n.log2 + 2 < d := by omega
    have hl := lt_log n
    rw [Nat.min_eq_right (by omega), Nat.shiftLeft_eq, Nat.one_mul]
    generalize 2 ^ (n.log2 + 2) = g at *
    have hq : n / g = 0 := Nat.div_eq_of_lt (by omega)
    have hr : n % g = n := Nat.mod_eq_of_lt (by omega)
    rw [hq, hr]
    have e : (decide (g < 2 * n) || g == 2 * n && 0 % 2 == 1) = false := by
      have : decide (g < 2 * n) = false := by simp; omega
      rw [this]; simp
    rw [e]; simp
theorem le_cut {way : Toward} {neg : Bool} {n d K : Nat} (h : K * 2 ^ d ≤ n) : K ≤ way.cut neg n d := by
  unfold Toward.cut
  dsimp only
  refine Nat.le_trans ?_ (Nat.le_add_right _ _)
  by_cases hd : d ≤ n.log2 + 2
  · rw [Nat.min_eq_left hd, Nat.shiftLeft_eq, Nat.one_mul]
    exact (Nat.le_div_iff_mul_le (Nat.two_pow_pos d)).2 h
  · have hd' : n.log2 + 2 < d := by omega
    have hl := lt_log n
    have hm : 2 ^ (n.log2 + 2) ≤ 2 ^ d := Nat.pow_le_pow_right (by omega) (by omega)
    have : K = 0 := by
      rcases Nat.eq_zero_or_pos K with h0 | h0
      · exact h0
      · have : 1 * 2 ^ d ≤ K * 2 ^ d := Nat.mul_le_mul_right _ h0
        omega
    subst this; exact Nat.zero_le _
theorem cut_zero_le {neg : Bool} {n d K : Nat} (h : n < (K + 1) * 2 ^ d) : Toward.zero.cut neg n d ≤ K := by
  unfold Toward.cut
  dsimp only
  by_cases hd : d ≤ n.log2 + 2
  · rw [Nat.min_eq_left hd, Nat.shiftLeft_eq, Nat.one_mul]
    have : n / 2 ^ d < K + 1 := (Nat.div_lt_iff_lt_mul (Nat.two_pow_pos d)).2 h
    simp; omega
  · have hd' : n.log2 + 2 < d := by omega
    have hl := lt_log n
    rw [Nat.min_eq_right (by omega), Nat.shiftLeft_eq, Nat.one_mul]
    have hq : n / 2 ^ (n.log2 + 2) = 0 := Nat.div_eq_of_lt (by omega)
    rw [hq]; simp

/-! the value of a rung -/
theorem dbl_least : double.leastPlace = -1074 := rfl
theorem dbl_binade : double.binade = 4503599627370496 := rfl
theorem dbl_inf : double.infRung = 9218868437227405312 := rfl
theorem dbl_sign : double.signWeight = 9223372036854775808 := rfl

/-- the word at place 'last' with 'kept' units, if it is finite -/
theorem read_word (neg : Bool) (u kept : Nat) (hk : kept ≤ 9007199254740992) (hu : u = 0 ∨ 4503599627370496 ≤ kept) (hf : u * 4503599627370496 + kept < 9218868437227405312) :
    ∃ m p, double.read (double.word neg (u * 4503599627370496 + kept)) = .number neg m p ∧ (m : Rat) * pw p = (kept : Rat) * pw ((u : Int) - 1074) := by
  have hw : (double.word neg (u * 4503599627370496 + kept)) / 9223372036854775808 % 2 = neg.toNat ∧ (double.word neg (u * 4503599627370496 + kept)) % 9223372036854775808 = u * 4503599627370496 + kept := by
    unfold Format.word; rw [dbl_sign]
    cases neg <;> simp <;> omega
  unfold Format.read
  rw [dbl_sign, dbl_binade, dbl_inf, dbl_least]
  dsimp only
  rw [hw.1, hw.2]
  have hb : (neg.toNat == 1) = neg := by cases neg <;> rfl
  rw [hb]
  by_cases h1 : u * 4503599627370496 + kept < 4503599627370496
  · rw [if_pos h1]
    have hu0 : u = 0 := by omega
    subst hu0
    refine ⟨_, _, rfl, ?_⟩
    simp
  · rw [if_neg h1, if_pos hf]
    refine ⟨_, _, rfl, ?_⟩
    rcases Nat.lt_or_ge kept 9007199254740992 with hl | hl
    · rcases Nat.lt_or_ge kept 4503599627370496 with hs | hs
      · have : u = 0 := by omega
        subst this; omega
      · have e1 : (u * 4503599627370496 + kept) % 4503599627370496 = kept - 4503599627370496 := by omega
        have e2 : (u * 4503599627370496 + kept) / 4503599627370496 - 1 = u := by omega
        rw [e1, e2, show 4503599627370496 + (kept - 4503599627370496) = kept by omega, show (-1074 + (u : Int)) = (u : Int) - 1074 by omega]
    · have hk' : kept = 9007199254740992 := by omega
      subst hk'
      have e1 : (u * 4503599627370496 + 9007199254740992) % 4503599627370496 = 0 := by omega
      have e2 : (u * 4503599627370496 + 9007199254740992) / 4503599627370496 - 1 = u + 1 := by omega
      rw [e1, e2, show (-1074 + ((u + 1 : Nat) : Int)) = 1 + ((u : Int) - 1074) by omega, pw_add, pw_one]
      have : (((4503599627370496 + 0 : Nat) : Rat)) * 2 = ((9007199254740992 : Nat) : Rat) := by decide +kernel
      rw [← this]; grind

/-- numbers that a float64 has -/
def Rep (q : Rat) : Prop := ∃ (K : Nat) (e : Int), (q = (K : Rat) * pw e ∨ q = -((K : Rat) * pw e)) ∧ K < 2 ^ 53 ∧ -1074 ≤ e ∧ e ≤ 970
theorem Rep.neg {q : Rat} (h : Rep q) : Rep (-q) := by
  obtain ⟨K, e, h, r⟩ := h
  refine ⟨K, e, ?_, r⟩
  rcases h with rfl | rfl
  · exact Or.inr rfl
  · left; grind

theorem lt_of_le_of_lt' {a b c : Rat} (h : a ≤ b) (h' : b < c) : a < c := by grind
theorem lt_of_lt_of_le' {a b c : Rat} (h : a < b) (h' : b ≤ c) : a < c := by grind
theorem cast_lt {a b : Nat} : (a : Rat) < (b : Rat) ↔ a < b := Rat.natCast_lt_natCast
theorem cast_le {a b : Nat} : (a : Rat) ≤ (b : Rat) ↔ a ≤ b := Rat.natCast_le_natCast

/-- a * 2^i ≤ b * 2^j, said of whole numbers -/
theorem le_iff {a b : Nat} {i j c : Int} (hi : c ≤ i) (hj : c ≤ j) : (a : Rat) * pw i ≤ (b : Rat) * pw j ↔ a * 2 ^ (i - c).toNat ≤ b * 2 ^ (j - c).toNat := by
  rw [pw_sub hi, pw_sub hj, ← Rat.mul_assoc, ← Rat.mul_assoc, ← Rat.natCast_mul, ← Rat.natCast_mul]
  constructor
  · intro h; exact cast_le.1 (Rat.le_of_mul_le_mul_right h (pw_pos c))
  · intro h; exact Rat.mul_le_mul_of_nonneg_right (cast_le.2 h) (Rat.le_of_lt (pw_pos c))

/-- THE MAGNITUDE, ROUNDED: what lies between two numbers of the format stays between them. -/
theorem nearest_mag (neg : Bool) (m : Nat) (p : Int) (lo hi : Nat × Int) (hlo : lo.1 < 2 ^ 53) (hloe : -1074 ≤ lo.2) (hhi : hi.1 < 2 ^ 53) (hhie : -1074 ≤ hi.2) (hhe : hi.2 ≤ 970)
    (h1 : (lo.1 : Rat) * pw lo.2 ≤ (m : Rat) * pw p) (h2 : (m : Rat) * pw p ≤ (hi.1 : Rat) * pw hi.2) :
    ∃ M P, double.read (double.nearest neg m p) = .number neg M P ∧ (lo.1 : Rat) * pw lo.2 ≤ (M : Rat) * pw P ∧ (M : Rat) * pw P ≤ (hi.1 : Rat) * pw hi.2 := by
  obtain ⟨a, e⟩ := lo
  obtain ⟨b, f⟩ := hi
  simp only at *
  unfold Format.nearest
  by_cases hm : m = 0
  · rw [if_pos hm]
    obtain ⟨M, P, hr, hv⟩ := read_word neg 0 0 (Nat.zero_le _) (Or.inl rfl) (by decide)
    refine ⟨M, P, hr, ?_, ?_⟩
    · rw [hv]; subst hm; simpa using h1
    · rw [hv]; subst hm; simpa using h2
  · rw [if_neg hm]
    rw [dbl_least, dbl_binade, dbl_inf, show ((double.fractionBits : Nat) : Int) = 52 from rfl]
    dsimp only
    have g1 : 2 ^ m.log2 ≤ m := Nat.log2_self_le hm
    have g2 : m < 2 ^ (m.log2 + 1) := Nat.lt_log2_self
    generalize m.log2 = L at *
    generalize hlast : max (p + (L : Int) - 52) (-1074) = last
    have hl1 : -1074 ≤ last := by omega
    -- bounds on what is kept
    have up : ∀ K : Nat, (m : Rat) * pw p ≤ (K : Rat) * pw last → Toward.even.cut neg (m <<< (p - last).toNat) (last - p).toNat ≤ K := by
      intro K hK
      rcases Int.le_total p last with hpl | hpl
      · rw [le_iff (Int.le_refl p) hpl] at hK
        rw [show (p - last).toNat = 0 by omega]
        refine cut_even_le ?_
        rw [show (p - p).toNat = 0 by omega] at hK
        simpa using hK
      · rw [le_iff hpl (Int.le_refl last)] at hK
        rw [show (last - p).toNat = 0 by omega, Nat.shiftLeft_eq]
        refine cut_even_le ?_
        rw [show (last - last).toNat = 0 by omega] at hK
        simpa using hK
    have down : ∀ K : Nat, (K : Rat) * pw last ≤ (m : Rat) * pw p → K ≤ Toward.even.cut neg (m <<< (p - last).toNat) (last - p).toNat := by
      intro K hK
      rcases Int.le_total p last with hpl | hpl
      · rw [le_iff hpl (Int.le_refl p)] at hK
        rw [show (p - last).toNat = 0 by omega]
        refine le_cut ?_
        rw [show (p - p).toNat = 0 by omega] at hK
        simpa using hK
      · rw [le_iff (Int.le_refl last) hpl] at hK
        rw [show (last - p).toNat = 0 by omega, Nat.shiftLeft_eq]
        refine le_cut ?_
        rw [show (last - last).toNat = 0 by omega] at hK
        simpa using hK
    generalize Toward.even.cut neg (m <<< (p - last).toNat) (last - p).toNat = kept at up down ⊢
    -- kept ≤ 2^53
    have k53 : kept ≤ 2 ^ 53 := by
      apply up
      have : pw (p + (L : Int) + 1) ≤ ((2 ^ 53 : Nat) : Rat) * pw last := by
        rw [← pw_nat, ← pw_add]; apply pw_mono; omega
      refine Rat.le_trans ?_ this
      rw [show p + (L : Int) + 1 = ((L + 1 : Nat) : Int) + p by omega, pw_add, pw_nat]
      exact Rat.mul_le_mul_of_nonneg_right (cast_le.2 (Nat.le_of_lt g2)) (Rat.le_of_lt (pw_pos p))
    have k52 : last ≠ -1074 → 2 ^ 52 ≤ kept := by
      intro hne
      apply down
      rw [← pw_nat, ← pw_add]
      have : pw (((52 : Nat) : Int) + last) ≤ pw (L + p) := by apply pw_mono; omega
      refine Rat.le_trans this ?_
      rw [pw_add, pw_nat]
      exact Rat.mul_le_mul_of_nonneg_right (cast_le.2 g1) (Rat.le_of_lt (pw_pos p))
    -- against the numbers of the format
    have hhi' : (kept : Rat) * pw last ≤ (b : Rat) * pw f := by
      rcases Int.le_total last f with hf | hf
      · have hu := up (b * 2 ^ (f - last).toNat) (by rw [Rat.natCast_mul, Rat.mul_assoc, ← pw_sub hf]; exact h2)
        rw [pw_sub hf, ← Rat.mul_assoc, ← Rat.natCast_mul]
        exact Rat.mul_le_mul_of_nonneg_right (cast_le.2 hu) (Rat.le_of_lt (pw_pos _))
      · rcases Int.lt_or_le f last with hfl | hfl
        · have hk := k52 (by omega)
          have a1 : (m : Rat) * pw p < ((2 ^ 52 : Nat) : Rat) * pw last := by
            refine lt_of_le_of_lt' h2 ?_
            have a2 : ((2 ^ 53 : Nat) : Rat) * pw f ≤ ((2 ^ 52 : Nat) : Rat) * pw last := by
              rw [← pw_nat, ← pw_nat, ← pw_add, ← pw_add]; apply pw_mono; omega
            exact lt_of_lt_of_le' ((Rat.mul_lt_mul_right (pw_pos f)).2 (cast_lt.2 hhi)) a2
          have a3 : ((2 ^ 52 : Nat) : Rat) * pw last ≤ (m : Rat) * pw p := by
            rw [← pw_nat, ← pw_add]
            have : pw (((52 : Nat) : Int) + last) ≤ pw (L + p) := by apply pw_mono; omega
            refine Rat.le_trans this ?_
            rw [pw_add, pw_nat]
            exact Rat.mul_le_mul_of_nonneg_right (cast_le.2 g1) (Rat.le_of_lt (pw_pos p))
          exact absurd (lt_of_lt_of_le' a1 a3) Rat.lt_irrefl
        · have : f = last := by omega
          subst this
          have hu := up b h2
          exact Rat.mul_le_mul_of_nonneg_right (cast_le.2 hu) (Rat.le_of_lt (pw_pos _))
    have hlo' : (a : Rat) * pw e ≤ (kept : Rat) * pw last := by
      rcases Int.lt_or_le e last with he | he
      · have hk := k52 (by omega)
        have a2 : ((2 ^ 53 : Nat) : Rat) * pw e ≤ ((2 ^ 52 : Nat) : Rat) * pw last := by
          rw [← pw_nat, ← pw_nat, ← pw_add, ← pw_add]; apply pw_mono; omega
        refine Rat.le_trans ?_ (Rat.le_trans a2 ?_)
        · exact Rat.mul_le_mul_of_nonneg_right (cast_le.2 (Nat.le_of_lt hlo)) (Rat.le_of_lt (pw_pos e))
        · exact Rat.mul_le_mul_of_nonneg_right (cast_le.2 hk) (Rat.le_of_lt (pw_pos _))
      · have hu := down (a * 2 ^ (e - last).toNat) (by rw [Rat.natCast_mul, Rat.mul_assoc, ← pw_sub he]; exact h1)
        rw [pw_sub he, ← Rat.mul_assoc, ← Rat.natCast_mul]
        exact Rat.mul_le_mul_of_nonneg_right (cast_le.2 hu) (Rat.le_of_lt (pw_pos _))
    -- it is finite
    have hfin : (kept : Rat) * pw last < pw 1023 := by
      refine lt_of_le_of_lt' hhi' ?_
      have a2 : ((2 ^ 53 : Nat) : Rat) * pw f ≤ pw 1023 := by
        rw [← pw_nat, ← pw_add]; apply pw_mono; omega
      exact lt_of_lt_of_le' ((Rat.mul_lt_mul_right (pw_pos f)).2 (cast_lt.2 hhi)) a2
    have hll : last ≤ 970 := by
      rcases Int.lt_or_le 970 last with h | h
      · have hk := k52 (by omega)
        have a1 : ((2 ^ 52 : Nat) : Rat) * pw last ≤ (kept : Rat) * pw last := Rat.mul_le_mul_of_nonneg_right (cast_le.2 hk) (Rat.le_of_lt (pw_pos _))
        have a2 : pw 1023 ≤ ((2 ^ 52 : Nat) : Rat) * pw last := by rw [← pw_nat, ← pw_add]; apply pw_mono; omega
        exact absurd (lt_of_lt_of_le' hfin (Rat.le_trans a2 a1)) Rat.lt_irrefl
      · exact h
    have e53 : (2:Nat) ^ 53 = 9007199254740992 := rfl
    have e52 : (2:Nat) ^ 52 = 4503599627370496 := rfl
    have hfr : (last - -1074).toNat * 4503599627370496 + kept < 9218868437227405312 := by omega
    rw [Nat.min_eq_left (Nat.le_of_lt hfr)]
    obtain ⟨M, P, hr, hv⟩ := read_word neg (last - -1074).toNat kept (by omega) (by omega) hfr
    refine ⟨M, P, hr, ?_, ?_⟩
    · rw [hv, show ((last - -1074).toNat : Int) - 1074 = last by omega]; exact hlo'
    · rw [hv, show ((last - -1074).toNat : Int) - 1074 = last by omega]; exact hhi'

theorem mag_nonneg (m : Nat) (p : Int) : 0 ≤ (m : Rat) * pw p := Rat.mul_nonneg Rat.natCast_nonneg (Rat.le_of_lt (pw_pos p))

theorem nearest_rep (neg : Bool) (m : Nat) (p : Int) {lo hi : Rat} (hlo : Rep lo) (hhi : Rep hi) (h1 : lo ≤ (m : Rat) * pw p) (h2 : (m : Rat) * pw p ≤ hi) :
    ∃ M P, double.read (double.nearest neg m p) = .number neg M P ∧ lo ≤ (M : Rat) * pw P ∧ (M : Rat) * pw P ≤ hi := by
  have hv := mag_nonneg m p
  obtain ⟨a, e, ha, a1, a2, a3⟩ := hlo
  obtain ⟨b, f, hb, b1, b2, b3⟩ := hhi
  have ga := mag_nonneg a e
  have gb := mag_nonneg b f
  have z0 : ((0 : Nat) : Rat) * pw 0 = 0 := by rw [show ((0 : Nat) : Rat) = 0 from rfl]; exact Rat.zero_mul _
  rcases ha with rfl | rfl <;> rcases hb with rfl | rfl
  · exact nearest_mag neg m p (a, e) (b, f) a1 a2 b1 b2 b3 h1 h2
  · obtain ⟨M, P, r, g1, g2⟩ := nearest_mag neg m p (a, e) (0, 0) a1 a2 (by decide) (by decide) (by decide) h1 (by simp only [z0]; grind)
    refine ⟨M, P, r, g1, ?_⟩
    simp only [z0] at g2; grind
  · obtain ⟨M, P, r, g1, g2⟩ := nearest_mag neg m p (0, 0) (b, f) (by decide) (by decide) b1 b2 b3 (by simp only [z0]; exact hv) h2
    refine ⟨M, P, r, ?_, g2⟩
    simp only [z0] at g1; grind
  · obtain ⟨M, P, r, g1, g2⟩ := nearest_mag neg m p (0, 0) (0, 0) (by decide) (by decide) (by decide) (by decide) (by decide) (by simp only [z0]; exact hv) (by simp only [z0]; grind)
    refine ⟨M, P, r, ?_, ?_⟩
    · simp only [z0] at g1; grind
    · simp only [z0] at g2; grind

/-- WRITTEN, A NUMBER STAYS BETWEEN THE FORMAT's NUMBERS BETWEEN WHICH IT LIES. -/
theorem write_is {s : Bool} {m : Nat} {p : Int} {lo hi : Rat} (hlo : Rep lo) (hhi : Rep hi) (h1 : lo ≤ dv s m p) (h2 : dv s m p ≤ hi) :
    ∃ v, Is (double.write (.number s m p)) v ∧ lo ≤ v ∧ v ≤ hi := by
  cases s
  · obtain ⟨M, P, r, g1, g2⟩ := nearest_rep false m p hlo hhi h1 h2
    exact ⟨_, ⟨false, M, P, r, rfl⟩, g1, g2⟩
  · have e : ∀ M P, dv true M P = -((M : Rat) * pw P) := fun _ _ => rfl
    rw [e] at h1 h2
    obtain ⟨M, P, r, g1, g2⟩ := nearest_rep true m p hhi.neg hlo.neg (by grind) (by grind)
    exact ⟨_, ⟨true, M, P, r, rfl⟩, by rw [e]; grind, by rw [e]; grind⟩

theorem add_within {x y : Nat} {a b lo hi : Rat} (hx : Is x a) (hy : Is y b) (hlo : Rep lo) (hhi : Rep hi) (h1 : lo ≤ a + b) (h2 : a + b ≤ hi) :
    ∃ r v, floatBits .add .f64 x y = some r ∧ Is r v ∧ lo ≤ v ∧ v ≤ hi := by
  obtain ⟨s, m, p, h, e⟩ := sum_is hx hy
  obtain ⟨v, hv, g⟩ := write_is (s := s) (m := m) (p := p) hlo hhi (by rw [e]; exact h1) (by rw [e]; exact h2)
  refine ⟨_, v, ?_, hv, g⟩
  show ((double.read x).sum (double.read y)).map double.write = _
  rw [h]; rfl
/-! the quotient -/
/-- the magnitude of a quotient with its sticky digit, held between numbers of the format -/
theorem quo_mag (m n : Nat) (i j : Int) (hm : m < 2 ^ 53) (hn : n ≠ 0) {lo hi : Rat} (hlo : Rep lo) (hhi : Rep hi)
    (h1 : lo * ((n : Rat) * pw j) ≤ (m : Rat) * pw i) (h2 : (m : Rat) * pw i ≤ hi * ((n : Rat) * pw j)) :
    lo ≤ ((2 * ((m <<< (54 + n.log2 - m.log2)) / n) + ((m <<< (54 + n.log2 - m.log2)) % n != 0).toNat : Nat) : Rat) * pw (i - j - ((54 + n.log2 - m.log2 : Nat) : Int) - 1) ∧
      ((2 * ((m <<< (54 + n.log2 - m.log2)) / n) + ((m <<< (54 + n.log2 - m.log2)) % n != 0).toNat : Nat) : Rat) * pw (i - j - ((54 + n.log2 - m.log2 : Nat) : Int) - 1) ≤ hi := by
  have npos : 0 < n := Nat.pos_of_ne_zero hn
  have hnj : 0 < (n : Rat) * pw j := Rat.mul_pos (Rat.natCast_pos.2 npos) (pw_pos j)
  generalize hmore : 54 + n.log2 - m.log2 = more
  -- the dividend
  have hD : ((m <<< more : Nat) : Rat) * pw (i - more) = (m : Rat) * pw i := by
    rw [Nat.shiftLeft_eq, Rat.natCast_mul, ← pw_nat, Rat.mul_assoc, ← pw_add]
    congr 2; omega
  have hbig : m = 0 ∨ 2 ^ 53 * n ≤ m <<< more := by
    rcases Nat.eq_zero_or_pos m with h0 | h0
    · exact Or.inl h0
    · right
      have g1 : 2 ^ m.log2 ≤ m := Nat.log2_self_le (by omega)
      have g2 : n < 2 ^ (n.log2 + 1) := Nat.lt_log2_self
      have g3 : m.log2 < 53 := (Nat.log2_lt (by omega)).2 hm
      rw [Nat.shiftLeft_eq]
      have a1 : 2 ^ 53 * n ≤ 2 ^ 53 * 2 ^ (n.log2 + 1) := Nat.mul_le_mul_left _ (Nat.le_of_lt g2)
      have a2 : 2 ^ 53 * 2 ^ (n.log2 + 1) = 2 ^ m.log2 * 2 ^ more := by rw [← Nat.pow_add, ← Nat.pow_add]; congr 1; omega
      have a3 : 2 ^ m.log2 * 2 ^ more ≤ m * 2 ^ more := Nat.mul_le_mul_right _ g1
      omega
  generalize hDD : m <<< more = D at *
  -- the quotient's place
  generalize hg : i - j - (more : Int) = g
  have hdiv := Nat.div_add_mod D n
  have hmod := Nat.mod_lt D npos
  generalize hQ : D / n = Q at *
  generalize hR : D % n = R at *
  have hval : (m : Rat) * pw i = (D : Rat) * pw g * pw j := by
    rw [← hD, Rat.mul_assoc, ← pw_add]; congr 2; omega
  have hhalf : pw g = 2 * pw (g - 1) := by
    rw [show g = 1 + (g - 1) by omega, pw_add, pw_one]; congr 2; omega
  -- bounds of the datum by multiples of the unit
  have up : ∀ K : Nat, D ≤ K * n → ((2 * Q + (R != 0).toNat : Nat) : Rat) * pw (g - 1) ≤ (K : Rat) * pw g := by
    intro K hK
    have : 2 * Q + (R != 0).toNat ≤ K * 2 := by
      by_cases hR0 : R = 0
      · subst hR0
        have : n * Q ≤ n * K := by rw [Nat.mul_comm n K]; omega
        have := Nat.le_of_mul_le_mul_left this npos
        simp; omega
      · have : n * Q < n * K := by rw [Nat.mul_comm n K]; omega
        have := Nat.lt_of_mul_lt_mul_left this
        have hb : (R != 0) = true := by simpa using hR0
        rw [hb]; simp; omega
    rw [hhalf, ← Rat.mul_assoc]
    refine Rat.mul_le_mul_of_nonneg_right ?_ (Rat.le_of_lt (pw_pos _))
    have h := cast_le.2 this
    rw [Rat.natCast_mul] at h
    exact h
  have down : ∀ K : Nat, K * n ≤ D → (K : Rat) * pw g ≤ ((2 * Q + (R != 0).toNat : Nat) : Rat) * pw (g - 1) := by
    intro K hK
    have : K * 2 ≤ 2 * Q + (R != 0).toNat := by
      have : n * K < n * (Q + 1) := by rw [Nat.mul_comm n K, Nat.mul_add]; omega
      have := Nat.lt_of_mul_lt_mul_left this
      omega
    rw [hhalf, ← Rat.mul_assoc]
    refine Rat.mul_le_mul_of_nonneg_right ?_ (Rat.le_of_lt (pw_pos _))
    have h := cast_le.2 this
    rw [Rat.natCast_mul] at h
    exact h
  have hnn : 0 ≤ ((2 * Q + (R != 0).toNat : Nat) : Rat) * pw (g - 1) := mag_nonneg _ _
  have hvn : 0 ≤ (m : Rat) * pw i := mag_nonneg _ _
  constructor
  · obtain ⟨K, e, ha, a1, a2, a3⟩ := hlo
    rcases ha with rfl | rfl
    · -- K * 2^e * n * 2^j ≤ D * 2^g * 2^j
      have hc : (K : Rat) * pw e * (n : Rat) ≤ (D : Rat) * pw g := by
        refine Rat.le_of_mul_le_mul_right (c := pw j) ?_ (pw_pos j)
        rw [← hval]; refine Rat.le_trans ?_ h1; rw [Rat.mul_assoc]; exact Rat.le_refl
      rcases Int.lt_or_le e g with he | he
      · rcases hbig with h0 | h0
        · subst h0
          have hK0 : (K : Rat) * pw e * ((n : Rat) * pw j) ≤ 0 := by simpa using h1
          have : (K : Rat) * pw e ≤ 0 := by
            refine Rat.le_of_mul_le_mul_right (c := (n : Rat) * pw j) ?_ hnj
            rw [Rat.zero_mul]; exact hK0
          exact Rat.le_trans this hnn
        · have d1 := down (2 ^ 53) h0
          refine Rat.le_trans ?_ d1
          have b1 : (K : Rat) * pw e ≤ ((2 ^ 53 : Nat) : Rat) * pw e := Rat.mul_le_mul_of_nonneg_right (cast_le.2 (Nat.le_of_lt a1)) (Rat.le_of_lt (pw_pos e))
          have b2 : ((2 ^ 53 : Nat) : Rat) * pw e ≤ ((2 ^ 53 : Nat) : Rat) * pw g := Rat.mul_le_mul_of_nonneg_left (pw_mono (by omega)) Rat.natCast_nonneg
          exact Rat.le_trans b1 b2
      · have d1 := down (K * 2 ^ (e - g).toNat) (by
          rw [pw_sub he] at hc
          have hc' : ((K * 2 ^ (e - g).toNat * n : Nat) : Rat) * pw g ≤ (D : Rat) * pw g := by
            rw [Rat.natCast_mul, Rat.natCast_mul]; grind
          exact cast_le.1 (Rat.le_of_mul_le_mul_right hc' (pw_pos g)))
        rw [pw_sub he, ← Rat.mul_assoc, ← Rat.natCast_mul]; exact d1
    · have := mag_nonneg K e; grind
  · obtain ⟨K, e, ha, a1, a2, a3⟩ := hhi
    have hpos0 : (m : Rat) * pw i = 0 → ((2 * Q + (R != 0).toNat : Nat) : Rat) * pw (g - 1) ≤ 0 := by
      intro h0
      rw [hval] at h0
      have hD0 : D = 0 := by
        rcases Nat.eq_zero_or_pos D with hz | hz
        · exact hz
        · have : 0 < (D : Rat) * pw g * pw j := Rat.mul_pos (Rat.mul_pos (Rat.natCast_pos.2 hz) (pw_pos g)) (pw_pos j)
          rw [h0] at this; exact absurd this Rat.lt_irrefl
      have := up 0 (by omega)
      have z : ((0 : Nat) : Rat) * pw g = 0 := by rw [show ((0 : Nat) : Rat) = 0 from rfl]; exact Rat.zero_mul _
      rw [z] at this; exact this
    rcases ha with rfl | rfl
    · have hc : (D : Rat) * pw g ≤ (K : Rat) * pw e * (n : Rat) := by
        refine Rat.le_of_mul_le_mul_right (c := pw j) ?_ (pw_pos j)
        rw [← hval]; refine Rat.le_trans h2 ?_; rw [Rat.mul_assoc, Rat.mul_assoc, Rat.mul_assoc]; exact Rat.le_refl
      rcases Int.lt_or_le e g with he | he
      · rcases hbig with h0 | h0
        · subst h0
          have := hpos0 (by simp)
          exact Rat.le_trans this (mag_nonneg K e)
        · exfalso
          have b0 : ((2 ^ 53 : Nat) : Rat) * pw e ≤ ((2 ^ 53 : Nat) : Rat) * pw g := Rat.mul_le_mul_of_nonneg_left (pw_mono (by omega)) Rat.natCast_nonneg
          have b1 : (K : Rat) * pw e < ((2 ^ 53 : Nat) : Rat) * pw e := (Rat.mul_lt_mul_right (pw_pos e)).2 (cast_lt.2 a1)
          have b2 : (K : Rat) * pw e * (n : Rat) < ((2 ^ 53 : Nat) : Rat) * pw g * (n : Rat) := (Rat.mul_lt_mul_right (Rat.natCast_pos.2 npos)).2 (lt_of_lt_of_le' b1 b0)
          have b3 : ((2 ^ 53 : Nat) : Rat) * pw g * (n : Rat) ≤ (D : Rat) * pw g := by
            have : ((2 ^ 53 * n : Nat) : Rat) * pw g ≤ (D : Rat) * pw g := Rat.mul_le_mul_of_nonneg_right (cast_le.2 h0) (Rat.le_of_lt (pw_pos g))
            rw [Rat.natCast_mul] at this; grind
          exact Rat.lt_irrefl (lt_of_le_of_lt' hc (lt_of_lt_of_le' b2 b3))
      · have d1 := up (K * 2 ^ (e - g).toNat) (by
          rw [pw_sub he] at hc
          have hc' : (D : Rat) * pw g ≤ ((K * 2 ^ (e - g).toNat * n : Nat) : Rat) * pw g := by
            rw [Rat.natCast_mul, Rat.natCast_mul]; grind
          exact cast_le.1 (Rat.le_of_mul_le_mul_right hc' (pw_pos g)))
        rw [pw_sub he, ← Rat.mul_assoc, ← Rat.natCast_mul]; exact d1
    · have hK := mag_nonneg K e
      have hle : -((K : Rat) * pw e) * ((n : Rat) * pw j) ≤ 0 := by
        have := Rat.mul_nonneg hK (Rat.le_of_lt hnj); grind
      have hz : (m : Rat) * pw i = 0 := Rat.le_antisymm (Rat.le_trans h2 hle) hvn
      have hz2 : (K : Rat) * pw e ≤ 0 := by
        refine Rat.le_of_mul_le_mul_right (c := (n : Rat) * pw j) ?_ hnj
        rw [Rat.zero_mul]; rw [hz] at h2; grind
      have := hpos0 hz; grind

theorem div_within {x y : Nat} {a b lo hi : Rat} (hx : Is x a) (hy : Is y b) (hb : 0 < b) (hlo : Rep lo) (hhi : Rep hi) (h1 : lo * b ≤ a) (h2 : a ≤ hi * b) :
    ∃ r v, floatBits .quo .f64 x y = some r ∧ Is r v ∧ lo ≤ v ∧ v ≤ hi := by
  obtain ⟨s, m, i, rx, rfl⟩ := hx
  obtain ⟨t, n, j, ry, rfl⟩ := hy
  have hn : n ≠ 0 := by
    rintro rfl
    have : dv t 0 j = 0 := by unfold dv sg; cases t <;> simp
    rw [this] at hb; exact absurd hb Rat.lt_irrefl
  have ht : t = false := by
    cases t
    · rfl
    · have := mag_nonneg n j
      have e : dv true n j = -((n : Rat) * pw j) := rfl
      rw [e] at hb; exact absurd hb (by grind)
  subst ht
  have eb : dv false n j = (n : Rat) * pw j := rfl
  rw [eb] at h1 h2
  have key : ∃ s' m' p', (double.read x).quotient 54 (double.read y) = some (.number s' m' p') ∧ lo ≤ dv s' m' p' ∧ dv s' m' p' ≤ hi := by
    rw [rx, ry]
    simp only [Datum.quotient]
    rw [if_neg hn]
    refine ⟨_, _, _, rfl, ?_⟩
    have hm := read_lt rx
    cases s
    · exact quo_mag m n i j hm hn hlo hhi h1 h2
    · have e : ∀ M P, dv true M P = -((M : Rat) * pw P) := fun _ _ => rfl
      rw [e] at h1 h2
      obtain ⟨g1, g2⟩ := quo_mag m n i j hm hn hhi.neg hlo.neg (by grind) (by grind)
      show lo ≤ dv true _ _ ∧ dv true _ _ ≤ hi
      rw [e]; constructor <;> grind
  obtain ⟨s', m', p', hq, g1, g2⟩ := key
  obtain ⟨v, hv, g⟩ := write_is (s := s') (m := m') (p := p') hlo hhi g1 g2
  refine ⟨_, v, ?_, hv, g⟩
  show ((double.read x).quotient (double.fractionBits + 2) (double.read y)).map double.write = _
  rw [show double.fractionBits + 2 = 54 from rfl, hq]; rfl
/-! whole numbers -/
theorem rep_units (n : Int) (e : Int) (h : n.natAbs < 2 ^ 53) (h1 : -1074 ≤ e) (h2 : e ≤ 970) : Rep ((n : Rat) * pw e) := by
  refine ⟨n.natAbs, e, ?_, h, h1, h2⟩
  rcases Int.le_total 0 n with h0 | h0
  · left; congr 1; rw [← Rat.intCast_natCast]; congr 1; omega
  · right
    have : (n : Rat) = -((n.natAbs : Nat) : Rat) := by rw [← Rat.intCast_natCast, ← Rat.intCast_neg]; congr 1; omega
    rw [this]; grind
theorem rep_int (n : Int) (h : n.natAbs < 2 ^ 53) : Rep (n : Rat) := by
  have := rep_units n 0 h (by decide) (by decide)
  rw [pw_zero, Rat.mul_one] at this; exact this
theorem ofInt_is (n : Int) (h : n.natAbs < 2 ^ 53) : Is (floatOfInt .f64 n) n := by
  have e : dv (decide (n < 0)) n.natAbs 0 = (n : Rat) := by
    unfold dv sg; rw [pw_zero, Rat.mul_one]
    rcases Int.lt_or_le n 0 with h0 | h0
    · simp only [h0, decide_true, if_true]; rw [← Rat.intCast_natCast, ← Rat.intCast_neg]; congr 1; omega
    · rw [if_neg (by simpa using h0), ← Rat.intCast_natCast]; congr 1; omega
  obtain ⟨v, hv, g1, g2⟩ := write_is (s := decide (n < 0)) (m := n.natAbs) (p := 0) (rep_int n h) (rep_int n h) (by rw [e]; exact Rat.le_refl) (by rw [e]; exact Rat.le_refl)
  have := Rat.le_antisymm g1 g2
  rw [this]; exact hv

/-- CUT TOWARDS ZERO, from nought on: the greatest whole number not above. -/
theorem toInt_is {x : Nat} {q : Rat} {k : Nat} (hx : Is x q) (h1 : (k : Rat) ≤ q) (h2 : q < ((k + 1 : Nat) : Rat)) : (FloatKind.f64.decode x).toInt .zero = some (k : Int) := by
  obtain ⟨s, m, p, rx, rfl⟩ := hx
  show (double.read x).toInt .zero = _
  rw [rx]
  have hk0 : (0 : Rat) ≤ (k : Rat) := Rat.natCast_nonneg
  have hmag : s = false ∨ m = 0 := by
    cases s
    · exact Or.inl rfl
    · right
      have e : dv true m p = -((m : Rat) * pw p) := rfl
      rw [e] at h1
      rcases Nat.eq_zero_or_pos m with hz | hz
      · exact hz
      · have := Rat.mul_pos (Rat.natCast_pos.2 hz) (pw_pos p); exact absurd h1 (by grind)
  have hv : dv s m p = (m : Rat) * pw p := by
    rcases hmag with rfl | rfl
    · rfl
    · unfold dv sg; cases s <;> simp
  rw [hv] at h1 h2
  have hcut : Toward.zero.cut s (m <<< p.toNat) (-p).toNat = k := by
    have f0 : ∀ j : Nat, (j : Rat) = (j : Rat) * pw 0 := by intro j; rw [pw_zero, Rat.mul_one]
    rw [f0 k] at h1
    rw [f0 (k + 1)] at h2
    have h2' : ¬ (((k + 1 : Nat) : Rat) * pw 0 ≤ (m : Rat) * pw p) := by intro h; exact Rat.lt_irrefl (lt_of_lt_of_le' h2 h)
    rcases Int.le_total p 0 with hp | hp
    · rw [le_iff hp (Int.le_refl p)] at h1 h2'
      rw [show p.toNat = 0 by omega, Nat.shiftLeft_zero, show (-p).toNat = (0 - p).toNat by omega]
      rw [show (p - p).toNat = 0 by omega, Nat.pow_zero, Nat.mul_one] at h1 h2'
      exact Nat.le_antisymm (cut_zero_le (by omega)) (le_cut h1)
    · rw [le_iff (Int.le_refl 0) hp] at h1 h2'
      rw [show (-p).toNat = 0 by omega, Nat.shiftLeft_eq, show p.toNat = (p - 0).toNat by omega]
      rw [show ((0 : Int) - 0).toNat = 0 from rfl, Nat.pow_zero, Nat.mul_one] at h1 h2'
      exact Nat.le_antisymm (cut_zero_le (by omega)) (le_cut (by omega))
  simp only [Datum.toInt, Datum.integral, hcut]
  rcases hmag with rfl | rfl
  · simp [signed]
  · have : k = 0 := by
      have hz : ((0 : Nat) : Rat) * pw p = 0 := by rw [show ((0 : Nat) : Rat) = 0 from rfl]; exact Rat.zero_mul _
      rw [hz] at h1
      have hk : (k : Rat) ≤ ((0 : Nat) : Rat) := h1
      have := cast_le.1 hk; omega
    subst this; cases s <;> simp [signed]
end Go.Fl
namespace Go.Fl
open Ieee

end Go.Fl
namespace Go.Fl
open Ieee

end Go.Fl
