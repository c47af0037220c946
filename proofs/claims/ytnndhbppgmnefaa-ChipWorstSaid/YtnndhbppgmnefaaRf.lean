/- The reference's products, powers and inverses: what they answer, said of the values. -/
import Derived.Test.YtnndhbppgmnefaaProg
import Derived.Test.YtnndhbppgmnefaaGf
import Derived.WalkKit
import Derived.WalkSpells
import Derived.WalkLawsBesides
import Derived.Laws.BitsAllLaws
import Derived.Lib.Hide
import Derived.IntWalk
namespace Go.Proofs.Ytnndhbppgmnefaa
open Go.RowKit Go.Gf

theorem i64_xor_nat (a b : Nat) (ha : a < 9223372036854775808) (hb : b < 9223372036854775808) : bits .xor .i64 (a : Int) (b : Int) = ((a ^^^ b : Nat) : Int) := by
  have hx : a ^^^ b < 2 ^ 63 := Nat.xor_lt_two_pow (by omega) (by omega)
  show IntKind.i64.wrap ((BitVec.ofInt 64 (a : Int) ^^^ BitVec.ofInt 64 (b : Int)).toNat : Int) = _
  rw [BitVec.toNat_xor, ofInt_u64 a (by omega), ofInt_u64 b (by omega), IntWalk.i64_in _ (by omega)]
theorem i64_and_nat (a b : Nat) (ha : a < 9223372036854775808) (hb : b < 9223372036854775808) : bits .and .i64 (a : Int) (b : Int) = ((a &&& b : Nat) : Int) := by
  have hx : a &&& b < 2 ^ 63 := Nat.and_lt_two_pow _ (by omega)
  show IntKind.i64.wrap ((BitVec.ofInt 64 (a : Int) &&& BitVec.ofInt 64 (b : Int)).toNat : Int) = _
  rw [BitVec.toNat_and, ofInt_u64 a (by omega), ofInt_u64 b (by omega), IntWalk.i64_in _ (by omega)]
theorem i64_or_nat (a b : Nat) (ha : a < 9223372036854775808) (hb : b < 9223372036854775808) : bits .or .i64 (a : Int) (b : Int) = ((a ||| b : Nat) : Int) := by
  have hx : a ||| b < 2 ^ 63 := Nat.or_lt_two_pow (by omega) (by omega)
  show IntKind.i64.wrap ((BitVec.ofInt 64 (a : Int) ||| BitVec.ofInt 64 (b : Int)).toNat : Int) = _
  rw [BitVec.toNat_or, ofInt_u64 a (by omega), ofInt_u64 b (by omega), IntWalk.i64_in _ (by omega)]
theorem i64_odd (a : Nat) (ha : a < 9223372036854775808) : bits .and .i64 (a : Int) 1 = ((a % 2 : Nat) : Int) := by
  have := i64_and_nat a 1 ha (by decide)
  rw [nat_mask1] at this; exact this
theorem u16_mask (n : Int) (h0 : 0 ≤ n) (h1 : n < 65536) : bits .and .u16 n 1023 = n % 1024 := by
  rw [u16_and n 1023 h0 h1 (by omega) (by omega), show (1023 : Int).toNat = 1023 from rfl, nat_mask10]; omega

/-- the product of two numbers, each modulo 1024 -/
def mulI (a b : Int) : Int := ((gm (a.toNat % 1024) (b.toNat % 1024) : Nat) : Int)
theorem mulI_bd (a b : Int) : 0 ≤ mulI a b ∧ mulI a b < 1024 := by
  unfold mulI
  have := gm_lt (a := a.toNat % 1024) (b.toNat % 1024) (Nat.mod_lt _ (by decide))
  omega


theorem E_two : (2 : Nat) = E 1 := rfl
theorem mulI_E (i j : Nat) : mulI ((E i : Nat) : Int) ((E j : Nat) : Int) = ((E (i + j) : Nat) : Int) := by
  unfold mulI
  rw [Int.toNat_natCast, Int.toNat_natCast, Nat.mod_eq_of_lt (E_lt i), Nat.mod_eq_of_lt (E_lt j), gm_E]
/-- x to the n, for any n -/
def expI (n : Int) : Int := ((E (n % 1023).toNat : Nat) : Int)

theorem mod1023 (n : Int) : (wrap64 (n.tmod 1023 + 1023)).tmod 1023 = (((n % 1023).toNat : Nat) : Int) := by
  have h1 : n.tmod 1023 = n % 1023 ∨ n.tmod 1023 = n % 1023 - 1023 := by
    rw [Int.tmod_eq_emod]; split <;> simp
  have h2 := Int.emod_nonneg n (b := 1023) (by omega)
  have h3 := Int.emod_lt_of_pos n (b := 1023) (by omega)
  rcases h1 with h | h
  · rw [h, IntWalk.wrap64_in _ (by omega), Int.tmod_eq_emod_of_nonneg (by omega)]; omega
  · have h4 : n.tmod 1023 = n % 1023 - 1023 := h
    rw [h4, IntWalk.wrap64_in _ (by omega), Int.tmod_eq_emod_of_nonneg (by omega)]; omega


/-- a power of a number of the field: square by square -/
def powL (a x : Nat) : Nat → Nat := fun n => gm x (gpow a n)
theorem gpow_sq (a n : Nat) (ha : a < 1024) : gpow (gm a a) n = gpow a (2 * n) := by
  rcases cases_E ha with rfl | ⟨i, _, rfl⟩
  · rw [gm_zero_left]
    rcases Nat.eq_zero_or_pos n with rfl | h
    · rfl
    · rw [gpow_zero (by omega), gpow_zero (by omega)]
  · rw [gm_E, gpow_E, gpow_E]; congr 1; rw [Nat.add_mul, Nat.mul_left_comm]; omega
theorem gm_lt' {a b : Nat} (ha : a < 1024) : gm a b < 1024 := gm_lt b ha
theorem mulI_nat {a b : Nat} (ha : a < 1024) (hb : b < 1024) : mulI (a : Int) (b : Int) = ((gm a b : Nat) : Int) := by
  unfold mulI
  rw [Int.toNat_natCast, Int.toNat_natCast, Nat.mod_eq_of_lt ha, Nat.mod_eq_of_lt hb]
theorem pow_even {a x n : Nat} (ha : a < 1024) (h : n % 2 = 0) : gm x (gpow a n) = gm x (gpow (gm a a) (n / 2)) := by
  rw [gpow_sq a (n / 2) ha, show 2 * (n / 2) = n by omega]
theorem pow_odd {a x n : Nat} (ha : a < 1024) (hx : x < 1024) (h : n % 2 = 1) : gm x (gpow a n) = gm (gm x a) (gpow (gm a a) (n / 2)) := by
  rw [gpow_sq a (n / 2) ha, gm_assoc hx ha (gpow_lt _)]
  obtain ⟨k, rfl⟩ : ∃ k, n = k + 1 := ⟨n - 1, by omega⟩
  rw [show 2 * ((k + 1) / 2) = k by omega]
  show gm x (gm (gpow a k) a) = _
  rw [gm_comm (gpow_lt k) ha]


/-- what a number is 1 with -/
def invI (a : Int) : Int := ((ginv (a.toNat % 1024) : Nat) : Int)
theorem gpow_1022 {a : Nat} (ha : a < 1024) (h0 : a ≠ 0) : gpow a 1022 = ginv a := by
  obtain ⟨e, hl⟩ := E_lg ha h0
  have : gpow (E (lg a)) 1022 = ginv (E (lg a)) := by
    rw [gpow_E, ginv_E]
    rw [E_inj]; omega
  rw [e] at this; exact this


/-- a number multiplied n times, n below 0: what it is 1 with, so often -/
def powI (a n : Int) : Int := if n = 0 then 1 else if a % 1024 = 0 then 0 else ((gpow (a.toNat % 1024) (n % 1023).toNat : Nat) : Int)

end Go.Proofs.Ytnndhbppgmnefaa
