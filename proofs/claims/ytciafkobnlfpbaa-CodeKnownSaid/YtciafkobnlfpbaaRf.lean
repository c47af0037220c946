/- The reference's products, powers and inverses: what they answer, said of the values. -/
import Derived.Test.YtciafkobnlfpbaaProg
import Derived.Test.YtciafkobnlfpbaaGf
import Derived.WalkKit
import Derived.WalkSpells
import Derived.WalkLawsBesides
import Derived.Laws.BitsAllLaws
import Derived.Lib.Hide
import Derived.IntWalk
namespace Go.Proofs.Ytciafkobnlfpbaa
open Go.RowKit Go.Gf

theorem i64_xor_nat (a b : Nat) (ha : a < 9223372036854775808) (hb : b < 9223372036854775808) : bits .xor .i64 (a : Int) (b : Int) = ((a ^^^ b : Nat) : Int) := by
  have hx : a ^^^ b < 2 ^ 63 := Nat.xor_lt_two_pow (by omega) (by omega)
  show IntKind.i64.wrap ((BitVec.ofInt 64 (a : Int) ^^^ BitVec.ofInt 64 (b : Int)).toNat : Int) = _
  rw [BitVec.toNat_xor, ofInt_u64 a (by omega), ofInt_u64 b (by omega), IntWalk.i64_in _ (by omega)]
theorem i64_and_nat (a b : Nat) (ha : a < 9223372036854775808) (hb : b < 9223372036854775808) : bits .and .i64 (a : Int) (b : Int) = ((a &&& b : Nat) : Int) := by
  have hx : a &&& b < 2 ^ 63 := Nat.and_lt_two_pow _ (by omega)
  show IntKind.i64.wrap ((BitVec.ofInt 64 (a : Int) &&& BitVec.ofInt 64 (b : Int)).toNat : Int) = _
  rw [BitVec.toNat_and, ofInt_u64 a (by omega), ofInt_u64 b (by omega), IntWalk.i64_in _ (by omega)]
theorem i64_or_nat (a b : Nat) (ha : a < 9223372036854775808) (hb : b < 9223372036854775808) : bits .or .i64 (a : Int) (b : Int) = ((a ||| b : Nat) : Int) := by
  have hx : a ||| b < 2 ^ 63 := Nat.or_lt_two_pow (by omega) (by omega)
  show IntKind.i64.wrap ((BitVec.ofInt 64 (a : Int) ||| BitVec.ofInt 64 (b : Int)).toNat : Int) = _
  rw [BitVec.toNat_or, ofInt_u64 a (by omega), ofInt_u64 b (by omega), IntWalk.i64_in _ (by omega)]
theorem i64_odd (a : Nat) (ha : a < 9223372036854775808) : bits .and .i64 (a : Int) 1 = ((a % 2 : Nat) : Int) := by
  have := i64_and_nat a 1 ha (by decide)
  rw [nat_mask1] at this; exact this
theorem u16_mask (n : Int) (h0 : 0 ≤ n) (h1 : n < 65536) : bits .and .u16 n 1023 = n % 1024 := by
  rw [u16_and n 1023 h0 h1 (by omega) (by omega), show (1023 : Int).toNat = 1023 from rfl, nat_mask10]; omega

/-- the product of two numbers, each modulo 1024 -/
def mulI (a b : Int) : Int := ((gm (a.toNat % 1024) (b.toNat % 1024) : Nat) : Int)
theorem mulI_bd (a b : Int) : 0 ≤ mulI a b ∧ mulI a b < 1024 := by
  unfold mulI
  have := gm_lt (a := a.toNat % 1024) (b.toNat % 1024) (Nat.mod_lt _ (by decide))
  omega

set_option maxHeartbeats 1000000 in
theorem refmul_any (a b : Int) (w : World) (a0 : 0 ≤ a) (a1 : a < 65536) (b0 : 0 ≤ b) (b1 : b < 65536) :
    Calls Try.prog 28 #[.int .u16 a, .int .u16 b] w fun e w' => e = .returned (.int .u16 (mulI a b)) ∧ w = w' := by
  have hA := u16_mask a a0 a1
  have hB := u16_mask b b0 b1
  have HT : Hid (mulI a b = ((gml 10 (a.toNat % 1024) (b.toNat % 1024) 0 : Nat) : Int)) := rfl
  generalize mulI a b = T at HT
  obtain ⟨A, hAe⟩ : ∃ A : Nat, a % 1024 = A := ⟨(a % 1024).toNat, by omega⟩
  obtain ⟨B, hBe⟩ : ∃ B : Nat, b % 1024 = B := ⟨(b % 1024).toNat, by omega⟩
  have hA1 : A < 1024 := by omega
  have hB1 : B < 1024 := by omega
  rw [show a.toNat % 1024 = A by omega, show b.toNat % 1024 = B by omega] at HT
  rw [hAe] at hA
  rw [hBe] at hB
  clear hAe hBe
  go_enter Try.func28, Try.ntmps28
  go_wp2
  go_loop [5, 6, 7] (fun x y o => ∃ k X Y O : Nat, X < 1024 ∧ Y < 2 ^ k ∧ O < 1024 ∧ k ≤ 10 ∧ Hid (T = ((gml k X Y O : Nat) : Int)) ∧ x = .int .i64 X ∧ y = .int .i64 Y ∧ o = .int .i64 O) (fun _ y _ => (intOf y).toNat)
  case atStart => exact ⟨10, A, B, 0, hA1, hB1, by omega, by omega, HT, rfl, rfl, rfl⟩
  case round =>
    obtain ⟨k, X, Y, O, hX, hY, hO, hk, HK, rfl, rfl, rfl⟩ := hrel
    clear hA hB HT
    have hO' : O < 9223372036854775808 := by omega
    have par := i64_odd Y (by have : (2 : Nat) ^ k ≤ 2 ^ 10 := Nat.pow_le_pow_right (by omega) hk; omega)
    have hxo := i64_xor_nat O X hO' (by omega)
    by_cases hy0 : 0 < Y
    · obtain ⟨k, rfl⟩ : ∃ k', k = k' + 1 := ⟨k - 1, by rcases k with _ | k; · simp at hY; omega
                                                       · omega⟩
      have hYh : Y / 2 < 2 ^ k := by rw [Nat.pow_succ] at hY; omega
      have hy0' : (0 : Int) < (Y : Int) := by omega
      have hx512 := i64_xor_nat (2 * X) 1033 (by omega) (by decide)
      clear hO'
      rcases Nat.mod_two_eq_zero_or_one Y with hp | hp
      · have HK' : Hid (T = ((gml k (xt X) (Y / 2) O : Nat) : Int)) := by
          have := HK.out; simp only [gml] at this; rw [if_neg (by omega)] at this; exact this
        rw [hp] at par
        have par' : bits .and .i64 (Y : Int) 1 = 0 := par
        clear par hxo HK hp
        by_cases hX5 : X < 512
        · have hlt : decide ((1024 : Int) ≤ (X : Int) * 2) = false := by rw [decide_eq_false_iff_not]; omega
          have ext : Hid (xt X = 2 * X) := by unfold Hid xt; rw [if_pos hX5]
          clear hx512 hX5
          go_wp2
          go_round
          case rel => exact ⟨k, xt X, Y / 2, O, xt_lt hX, hYh, hO, by omega, HK', by rw [ext.out]; congr 1; omega, by congr 1, rfl⟩
          case measure => simp [intOf]; omega
        · have hge : (1024 : Int) ≤ (X : Int) * 2 := by omega
          have ext : bits .xor .i64 ((X : Int) * 2) 1033 = ((xt X : Nat) : Int) := by
            have e : (X : Int) * 2 = ((2 * X : Nat) : Int) := by omega
            have e2 : xt X = 2 * X ^^^ 1033 := by unfold xt; rw [if_neg hX5]
            rw [e, e2, ← hx512]
            rfl
          clear hx512 hX5
          go_wp2
          go_round
          case rel => exact ⟨k, xt X, Y / 2, O, xt_lt hX, hYh, hO, by omega, HK', rfl, by congr 1, rfl⟩
          case measure => simp [intOf]; omega
      · have HK' : Hid (T = ((gml k (xt X) (Y / 2) (O ^^^ X) : Nat) : Int)) := by
          have := HK.out; simp only [gml] at this; rw [if_pos hp] at this; exact this
        rw [hp] at par
        have par' : bits .and .i64 (Y : Int) 1 = 1 := par
        clear par HK hp
        by_cases hX5 : X < 512
        · have hlt : decide ((1024 : Int) ≤ (X : Int) * 2) = false := by rw [decide_eq_false_iff_not]; omega
          have ext : Hid (xt X = 2 * X) := by unfold Hid xt; rw [if_pos hX5]
          clear hx512 hX5
          go_wp2
          go_round
          case rel => exact ⟨k, xt X, Y / 2, O ^^^ X, xt_lt hX, hYh, xor_lt hO hX, by omega, HK', by rw [ext.out]; congr 1; omega, by congr 1, rfl⟩
          case measure => simp [intOf]; omega
        · have hge : (1024 : Int) ≤ (X : Int) * 2 := by omega
          have ext : bits .xor .i64 ((X : Int) * 2) 1033 = ((xt X : Nat) : Int) := by
            have e : (X : Int) * 2 = ((2 * X : Nat) : Int) := by omega
            have e2 : xt X = 2 * X ^^^ 1033 := by unfold xt; rw [if_neg hX5]
            rw [e, e2, ← hx512]
            rfl
          clear hx512 hX5
          go_wp2
          go_round
          case rel => exact ⟨k, xt X, Y / 2, O ^^^ X, xt_lt hX, hYh, xor_lt hO hX, by omega, HK', rfl, by congr 1, rfl⟩
          case measure => simp [intOf]; omega
    · have : Y = 0 := by omega
      subst this
      have HK' : Hid ((O : Int) = T) := by
        have := HK.out; rw [gml_out, gml_zero_right, Nat.xor_zero] at this; exact this.symm
      clear HK par hxo hO'
      go_wp2
      go_ret
      exact ⟨by show Ending.returned (Value.int .u16 _) = _; rw [HK'.out], rfl⟩

theorem E_two : (2 : Nat) = E 1 := rfl
theorem mulI_E (i j : Nat) : mulI ((E i : Nat) : Int) ((E j : Nat) : Int) = ((E (i + j) : Nat) : Int) := by
  unfold mulI
  rw [Int.toNat_natCast, Int.toNat_natCast, Nat.mod_eq_of_lt (E_lt i), Nat.mod_eq_of_lt (E_lt j), gm_E]
/-- x to the n, for any n -/
def expI (n : Int) : Int := ((E (n % 1023).toNat : Nat) : Int)

theorem mod1023 (n : Int) : (wrap64 (n.tmod 1023 + 1023)).tmod 1023 = (((n % 1023).toNat : Nat) : Int) := by
  have h1 : n.tmod 1023 = n % 1023 ∨ n.tmod 1023 = n % 1023 - 1023 := by
    rw [Int.tmod_eq_emod]; split <;> simp
  have h2 := Int.emod_nonneg n (b := 1023) (by omega)
  have h3 := Int.emod_lt_of_pos n (b := 1023) (by omega)
  rcases h1 with h | h
  · rw [h, IntWalk.wrap64_in _ (by omega), Int.tmod_eq_emod_of_nonneg (by omega)]; omega
  · have h4 : n.tmod 1023 = n % 1023 - 1023 := h
    rw [h4, IntWalk.wrap64_in _ (by omega), Int.tmod_eq_emod_of_nonneg (by omega)]; omega

set_option maxHeartbeats 1000000 in
theorem refexp_any (n : Int) (w : World) :
    Calls Try.prog 33 #[.int .i64 n] w fun e w' => e = .returned (.int .u16 (expI n)) ∧ w = w' := by
  have hN := mod1023 n
  have HT : Hid (expI n = ((E (n % 1023).toNat : Nat) : Int)) := rfl
  have hN1 : (n % 1023).toNat < 1023 := by omega
  generalize expI n = T at HT
  generalize (n % 1023).toNat = N at hN HT hN1
  go_enter Try.func33, Try.ntmps33
  go_wp2
  go_loop [3, 4] (fun x i => ∃ k : Nat, k ≤ N ∧ i = .int .i64 k ∧ x = .int .u16 ((E k : Nat) : Int)) (fun _ i => N - (intOf i).toNat)
  case atStart => exact ⟨0, Nat.zero_le _, rfl, rfl⟩
  case round =>
    obtain ⟨k, hk, rfl, rfl⟩ := hrel
    clear hN
    by_cases hlt : k < N
    · have hE := E_lt k
      have hm := Lib.hid (mulI_E k 1)
      go_wp2_with (go_at_call 28; refine (refmul_any _ _ _ (by omega) (by omega) (by omega) (by omega)).mono ?_; rintro e w' ⟨rfl, rfl⟩)
      go_round
      case rel => exact ⟨k + 1, by omega, by go_num, by first | (congr 1; done) | (congr 1; exact hm.out)⟩
      case measure => simp [intOf]; omega
    · obtain rfl : k = N := by omega
      have HT' := HT.out
      clear HT
      go_wp2
      go_ret
      exact ⟨rfl, rfl⟩

/-- a power of a number of the field: square by square -/
def powL (a x : Nat) : Nat → Nat := fun n => gm x (gpow a n)
theorem gpow_sq (a n : Nat) (ha : a < 1024) : gpow (gm a a) n = gpow a (2 * n) := by
  rcases cases_E ha with rfl | ⟨i, _, rfl⟩
  · rw [gm_zero_left]
    rcases Nat.eq_zero_or_pos n with rfl | h
    · rfl
    · rw [gpow_zero (by omega), gpow_zero (by omega)]
  · rw [gm_E, gpow_E, gpow_E]; congr 1; rw [Nat.add_mul, Nat.mul_left_comm]; omega
theorem gm_lt' {a b : Nat} (ha : a < 1024) : gm a b < 1024 := gm_lt b ha
theorem mulI_nat {a b : Nat} (ha : a < 1024) (hb : b < 1024) : mulI (a : Int) (b : Int) = ((gm a b : Nat) : Int) := by
  unfold mulI
  rw [Int.toNat_natCast, Int.toNat_natCast, Nat.mod_eq_of_lt ha, Nat.mod_eq_of_lt hb]
theorem pow_even {a x n : Nat} (ha : a < 1024) (h : n % 2 = 0) : gm x (gpow a n) = gm x (gpow (gm a a) (n / 2)) := by
  rw [gpow_sq a (n / 2) ha, show 2 * (n / 2) = n by omega]
theorem pow_odd {a x n : Nat} (ha : a < 1024) (hx : x < 1024) (h : n % 2 = 1) : gm x (gpow a n) = gm (gm x a) (gpow (gm a a) (n / 2)) := by
  rw [gpow_sq a (n / 2) ha, gm_assoc hx ha (gpow_lt _)]
  obtain ⟨k, rfl⟩ : ∃ k, n = k + 1 := ⟨n - 1, by omega⟩
  rw [show 2 * ((k + 1) / 2) = k by omega]
  show gm x (gm (gpow a k) a) = _
  rw [gm_comm (gpow_lt k) ha]

set_option maxHeartbeats 1000000 in
theorem refpower_any (a n : Nat) (w : World) (a1 : a < 1024) (n1 : n < 9223372036854775808) :
    Calls Try.prog 60 #[.int .u16 a, .int .i64 n] w fun e w' => e = .returned (.int .u16 ((gpow a n : Nat) : Int)) ∧ w = w' := by
  have HT : Hid (((gpow a n : Nat) : Int) = ((gm 1 (gpow a n) : Nat) : Int)) := by unfold Hid; rw [gm_one_left (gpow_lt n)]
  have n1' := Lib.hid n1
  clear n1
  generalize ((gpow a n : Nat) : Int) = T at HT
  go_enter Try.func60, Try.ntmps60
  go_wp2
  go_loop [0, 1, 5] (fun u v x => ∃ A N X : Nat, A < 1024 ∧ Hid (N < 9223372036854775808) ∧ X < 1024 ∧ Hid (T = ((gm X (gpow A N) : Nat) : Int)) ∧ u = .int .u16 A ∧ v = .int .i64 N ∧ x = .int .u16 X) (fun _ v _ => (intOf v).toNat)
  case atStart => exact ⟨a, n, 1, a1, n1', by omega, HT, rfl, rfl, rfl⟩
  case round =>
    obtain ⟨A, N, X, hA, hN, hX, HK, rfl, rfl, rfl⟩ := hrel
    clear HT n1'
    have par := i64_odd N hN.out
    by_cases h0 : 0 < N
    · have h0' : (0 : Int) < (N : Int) := by omega
      have hNh : Hid (N / 2 < 9223372036854775808) := by have := hN.out; unfold Hid; omega
      have mA := Lib.hid (mulI_nat hA hA)
      have mX := Lib.hid (mulI_nat hX hA)
      rcases Nat.mod_two_eq_zero_or_one N with hp | hp
      · have HK' : Hid (T = ((gm X (gpow (gm A A) (N / 2)) : Nat) : Int)) := by unfold Hid; rw [← pow_even hA hp]; exact HK.out
        rw [hp] at par
        have par' : bits .and .i64 (N : Int) 1 = 0 := par
        clear par HK hp
        go_wp2_with (go_at_call 28; refine (refmul_any _ _ _ (by omega) (by omega) (by omega) (by omega)).mono ?_; rintro e w' ⟨rfl, rfl⟩)
        go_round
        case rel => exact ⟨gm A A, N / 2, X, gm_lt' hA, hNh, hX, HK', by rw [mA.out], by congr 1, rfl⟩
        case measure => simp [intOf]; omega
      · have HK' : Hid (T = ((gm (gm X A) (gpow (gm A A) (N / 2)) : Nat) : Int)) := by unfold Hid; rw [← pow_odd hA hX hp]; exact HK.out
        rw [hp] at par
        have par' : bits .and .i64 (N : Int) 1 = 1 := par
        clear par HK hp
        go_wp2_with (go_at_call 28; refine (refmul_any _ _ _ (by omega) (by omega) (by omega) (by omega)).mono ?_; rintro e w' ⟨rfl, rfl⟩)
        go_round
        case rel => exact ⟨gm A A, N / 2, gm X A, gm_lt' hA, hNh, gm_lt' hX, HK', by rw [mA.out], by congr 1, by rw [mX.out]⟩
        case measure => simp [intOf]; omega
    · obtain rfl : N = 0 := by omega
      have HK' : Hid ((X : Int) = T) := by
        have := HK.out; rw [show gpow A 0 = 1 from rfl, gm_one_right] at this; exact this.symm
      clear HK par
      go_wp2
      go_ret
      exact ⟨by show Ending.returned (Value.int .u16 _) = _; rw [HK'.out], rfl⟩

/-- what a number is 1 with -/
def invI (a : Int) : Int := ((ginv (a.toNat % 1024) : Nat) : Int)
theorem gpow_1022 {a : Nat} (ha : a < 1024) (h0 : a ≠ 0) : gpow a 1022 = ginv a := by
  obtain ⟨e, hl⟩ := E_lg ha h0
  have : gpow (E (lg a)) 1022 = ginv (E (lg a)) := by
    rw [gpow_E, ginv_E]
    rw [E_inj]; omega
  rw [e] at this; exact this

set_option maxHeartbeats 1000000 in
theorem refinv_any (a : Int) (w : World) (a0 : 0 ≤ a) (a1 : a < 65536) :
    Calls Try.prog 44 #[.int .u16 a] w fun e w' => e = .returned (.tuple #[.int .u16 (invI a), .bool (a % 1024 != 0)]) ∧ w = w' := by
  have hA := u16_mask a a0 a1
  have HT : Hid (invI a = ((ginv (a.toNat % 1024) : Nat) : Int)) := rfl
  generalize invI a = T at HT
  obtain ⟨A, hAe⟩ : ∃ A : Nat, a % 1024 = A := ⟨(a % 1024).toNat, by omega⟩
  have hA1 : A < 1024 := by omega
  rw [show a.toNat % 1024 = A by omega] at HT
  rw [hAe] at hA ⊢
  clear hAe
  by_cases h0 : A = 0
  · subst h0
    have HT' : Hid (T = 0) := HT.out
    go_enter Try.func44, Try.ntmps44
    go_wp2
    go_ret2
    exact ⟨by rw [HT'.out]; rfl, rfl⟩
  · have h0' : ((A : Int) == 0) = false := by simp; omega
    have HT' : Hid (T = ((gpow A 1022 : Nat) : Int)) := by unfold Hid; rw [gpow_1022 hA1 h0]; exact HT.out
    go_enter Try.func44, Try.ntmps44
    go_wp2_with (go_at_call 60; refine (refpower_any A 1022 _ hA1 (by decide)).mono ?_; rintro e w' ⟨rfl, rfl⟩)
    go_ret2
    exact ⟨by rw [HT'.out]; simp [bne, h0], rfl⟩

/-- a number multiplied n times, n below 0: what it is 1 with, so often -/
def powI (a n : Int) : Int := if n = 0 then 1 else if a % 1024 = 0 then 0 else ((gpow (a.toNat % 1024) (n % 1023).toNat : Nat) : Int)

end Go.Proofs.Ytciafkobnlfpbaa
