/- The reference's products, powers and inverses: what they answer, said of the values. · What the program's Of and Slice answer, said of the values. · The reference's Of and Slice, of symbols and of whole points. -/
import Derived.Test.YtjhoecfhmndcgaaGreatProg
import Derived.Test.YtjhoecfhmndcgaaGreatV11
import Derived.WalkKit
import Derived.WalkSpells
import Derived.WalkLawsBesides
import Derived.Laws.BitsAllLaws
import Derived.Lib.Hide
import Derived.IntWalk
import Derived.Test.YtjhoecfhmndcgaaGreatV12
namespace Go.Proofs.YtjhoecfhmndcgaaGreat
open Go.RowKit Go.Gf

theorem i64_xor_nat (a b : Nat) (ha : a < 9223372036854775808) (hb : b < 9223372036854775808) : bits .xor .i64 (a : Int) (b : Int) = ((a ^^^ b : Nat) : Int) := by
  have hx : a ^^^ b < 2 ^ 63 := Nat.xor_lt_two_pow (by omega) (by omega)
  show IntKind.i64.wrap ((BitVec.ofInt 64 (a : Int) ^^^ BitVec.ofInt 64 (b : Int)).toNat : Int) = _
  rw [BitVec.toNat_xor, ofInt_u64 a (by omega), ofInt_u64 b (by omega), IntWalk.i64_in _ (by omega)]
theorem i64_and_nat (a b : Nat) (ha : a < 9223372036854775808) (hb : b < 9223372036854775808) : bits .and .i64 (a : Int) (b : Int) = ((a &&& b : Nat) : Int) := by
  have hx : a &&& b < 2 ^ 63 := Nat.and_lt_two_pow _ (by omega)
  show IntKind.i64.wrap ((BitVec.ofInt 64 (a : Int) &&& BitVec.ofInt 64 (b : Int)).toNat : Int) = _
  rw [BitVec.toNat_and, ofInt_u64 a (by omega), ofInt_u64 b (by omega), IntWalk.i64_in _ (by omega)]
theorem i64_odd (a : Nat) (ha : a < 9223372036854775808) : bits .and .i64 (a : Int) 1 = ((a % 2 : Nat) : Int) := by
  have := i64_and_nat a 1 ha (by decide)
  rw [nat_mask1] at this; exact this
theorem u16_mask (n : Int) (h0 : 0 ≤ n) (h1 : n < 65536) : bits .and .u16 n 1023 = n % 1024 := by
  rw [u16_and n 1023 h0 h1 (by omega) (by omega), show (1023 : Int).toNat = 1023 from rfl, nat_mask10]; omega

/-- the product of two numbers, each modulo 1024 -/
def mulI (a b : Int) : Int := ((gm (a.toNat % 1024) (b.toNat % 1024) : Nat) : Int)
set_option maxHeartbeats 1000000 in
theorem refmul_any (a b : Int) (w : World) (a0 : 0 ≤ a) (a1 : a < 65536) (b0 : 0 ≤ b) (b1 : b < 65536) :
    Calls Tryz.prog 57 #[.int .u16 a, .int .u16 b] w fun e w' => e = .returned (.int .u16 (mulI a b)) ∧ w = w' := by
  have hA := u16_mask a a0 a1
  have hB := u16_mask b b0 b1
  have HT : Hid (mulI a b = ((gml 10 (a.toNat % 1024) (b.toNat % 1024) 0 : Nat) : Int)) := rfl
  generalize mulI a b = T at HT
  obtain ⟨A, hAe⟩ : ∃ A : Nat, a % 1024 = A := ⟨(a % 1024).toNat, by omega⟩
  obtain ⟨B, hBe⟩ : ∃ B : Nat, b % 1024 = B := ⟨(b % 1024).toNat, by omega⟩
  have hA1 : A < 1024 := by omega
  have hB1 : B < 1024 := by omega
  rw [show a.toNat % 1024 = A by omega, show b.toNat % 1024 = B by omega] at HT
  rw [hAe] at hA
  rw [hBe] at hB
  clear hAe hBe
  go_enter Tryz.func57, Tryz.ntmps57
  go_wp2
  go_loop [5, 6, 7] (fun x y o => ∃ k X Y O : Nat, X < 1024 ∧ Y < 2 ^ k ∧ O < 1024 ∧ k ≤ 10 ∧ Hid (T = ((gml k X Y O : Nat) : Int)) ∧ x = .int .i64 X ∧ y = .int .i64 Y ∧ o = .int .i64 O) (fun _ y _ => (intOf y).toNat)
  case atStart => exact ⟨10, A, B, 0, hA1, hB1, by omega, by omega, HT, rfl, rfl, rfl⟩
  case round =>
    obtain ⟨k, X, Y, O, hX, hY, hO, hk, HK, rfl, rfl, rfl⟩ := hrel
    clear hA hB HT
    have hO' : O < 9223372036854775808 := by omega
    have par := i64_odd Y (by have : (2 : Nat) ^ k ≤ 2 ^ 10 := Nat.pow_le_pow_right (by omega) hk; omega)
    have hxo := i64_xor_nat O X hO' (by omega)
    by_cases hy0 : 0 < Y
    · obtain ⟨k, rfl⟩ : ∃ k', k = k' + 1 := ⟨k - 1, by rcases k with _ | k; · simp at hY; omega
                                                       · omega⟩
      have hYh : Y / 2 < 2 ^ k := by rw [Nat.pow_succ] at hY; omega
      have hy0' : (0 : Int) < (Y : Int) := by omega
      have hx512 := i64_xor_nat (2 * X) 1033 (by omega) (by decide)
      clear hO'
      rcases Nat.mod_two_eq_zero_or_one Y with hp | hp
      · have HK' : Hid (T = ((gml k (xt X) (Y / 2) O : Nat) : Int)) := by
          have := HK.out; simp only [gml] at this; rw [if_neg (by omega)] at this; exact this
        rw [hp] at par
        have par' : bits .and .i64 (Y : Int) 1 = 0 := par
        clear par hxo HK hp
        by_cases hX5 : X < 512
        · have hlt : decide ((1024 : Int) ≤ (X : Int) * 2) = false := by rw [decide_eq_false_iff_not]; omega
          have ext : Hid (xt X = 2 * X) := by unfold Hid xt; rw [if_pos hX5]
          clear hx512 hX5
          go_wp2
          go_round
          case rel => exact ⟨k, xt X, Y / 2, O, xt_lt hX, hYh, hO, by omega, HK', by rw [ext.out]; congr 1; omega, by congr 1, rfl⟩
          case measure => simp [intOf]; omega
        · have hge : (1024 : Int) ≤ (X : Int) * 2 := by omega
          have ext : bits .xor .i64 ((X : Int) * 2) 1033 = ((xt X : Nat) : Int) := by
            have e : (X : Int) * 2 = ((2 * X : Nat) : Int) := by omega
            have e2 : xt X = 2 * X ^^^ 1033 := by unfold xt; rw [if_neg hX5]
            rw [e, e2, ← hx512]
            rfl
          clear hx512 hX5
          go_wp2
          go_round
          case rel => exact ⟨k, xt X, Y / 2, O, xt_lt hX, hYh, hO, by omega, HK', rfl, by congr 1, rfl⟩
          case measure => simp [intOf]; omega
      · have HK' : Hid (T = ((gml k (xt X) (Y / 2) (O ^^^ X) : Nat) : Int)) := by
          have := HK.out; simp only [gml] at this; rw [if_pos hp] at this; exact this
        rw [hp] at par
        have par' : bits .and .i64 (Y : Int) 1 = 1 := par
        clear par HK hp
        by_cases hX5 : X < 512
        · have hlt : decide ((1024 : Int) ≤ (X : Int) * 2) = false := by rw [decide_eq_false_iff_not]; omega
          have ext : Hid (xt X = 2 * X) := by unfold Hid xt; rw [if_pos hX5]
          clear hx512 hX5
          go_wp2
          go_round
          case rel => exact ⟨k, xt X, Y / 2, O ^^^ X, xt_lt hX, hYh, xor_lt hO hX, by omega, HK', by rw [ext.out]; congr 1; omega, by congr 1, rfl⟩
          case measure => simp [intOf]; omega
        · have hge : (1024 : Int) ≤ (X : Int) * 2 := by omega
          have ext : bits .xor .i64 ((X : Int) * 2) 1033 = ((xt X : Nat) : Int) := by
            have e : (X : Int) * 2 = ((2 * X : Nat) : Int) := by omega
            have e2 : xt X = 2 * X ^^^ 1033 := by unfold xt; rw [if_neg hX5]
            rw [e, e2, ← hx512]
            rfl
          clear hx512 hX5
          go_wp2
          go_round
          case rel => exact ⟨k, xt X, Y / 2, O ^^^ X, xt_lt hX, hYh, xor_lt hO hX, by omega, HK', rfl, by congr 1, rfl⟩
          case measure => simp [intOf]; omega
    · have : Y = 0 := by omega
      subst this
      have HK' : Hid ((O : Int) = T) := by
        have := HK.out; rw [gml_out, gml_zero_right, Nat.xor_zero] at this; exact this.symm
      clear HK par hxo hO'
      go_wp2
      go_ret
      exact ⟨by show Ending.returned (Value.int .u16 _) = _; rw [HK'.out], rfl⟩

theorem mulI_E (i j : Nat) : mulI ((E i : Nat) : Int) ((E j : Nat) : Int) = ((E (i + j) : Nat) : Int) := by
  unfold mulI
  rw [Int.toNat_natCast, Int.toNat_natCast, Nat.mod_eq_of_lt (E_lt i), Nat.mod_eq_of_lt (E_lt j), gm_E]
/-- x to the n, for any n -/
def expI (n : Int) : Int := ((E (n % 1023).toNat : Nat) : Int)

theorem mod1023 (n : Int) : (wrap64 (n.tmod 1023 + 1023)).tmod 1023 = (((n % 1023).toNat : Nat) : Int) := by
  have h1 : n.tmod 1023 = n % 1023 ∨ n.tmod 1023 = n % 1023 - 1023 := by
    rw [Int.tmod_eq_emod]; split <;> simp
  have h2 := Int.emod_nonneg n (b := 1023) (by omega)
  have h3 := Int.emod_lt_of_pos n (b := 1023) (by omega)
  rcases h1 with h | h
  · rw [h, IntWalk.wrap64_in _ (by omega), Int.tmod_eq_emod_of_nonneg (by omega)]; omega
  · have h4 : n.tmod 1023 = n % 1023 - 1023 := h
    rw [h4, IntWalk.wrap64_in _ (by omega), Int.tmod_eq_emod_of_nonneg (by omega)]; omega

set_option maxHeartbeats 1000000 in
theorem refexp_any (n : Int) (w : World) :
    Calls Tryz.prog 75 #[.int .i64 n] w fun e w' => e = .returned (.int .u16 (expI n)) ∧ w = w' := by
  have hN := mod1023 n
  have HT : Hid (expI n = ((E (n % 1023).toNat : Nat) : Int)) := rfl
  have hN1 : (n % 1023).toNat < 1023 := by omega
  generalize expI n = T at HT
  generalize (n % 1023).toNat = N at hN HT hN1
  go_enter Tryz.func75, Tryz.ntmps75
  go_wp2
  go_loop [3, 4] (fun x i => ∃ k : Nat, k ≤ N ∧ i = .int .i64 k ∧ x = .int .u16 ((E k : Nat) : Int)) (fun _ i => N - (intOf i).toNat)
  case atStart => exact ⟨0, Nat.zero_le _, rfl, rfl⟩
  case round =>
    obtain ⟨k, hk, rfl, rfl⟩ := hrel
    clear hN
    by_cases hlt : k < N
    · have hE := E_lt k
      have hm := Lib.hid (mulI_E k 1)
      go_wp2_with (go_at_call 57; refine (refmul_any _ _ _ (by omega) (by omega) (by omega) (by omega)).mono ?_; rintro e w' ⟨rfl, rfl⟩)
      go_round
      case rel => exact ⟨k + 1, by omega, by go_num, by first | (congr 1; done) | (congr 1; exact hm.out)⟩
      case measure => simp [intOf]; omega
    · obtain rfl : k = N := by omega
      have HT' := HT.out
      clear HT
      go_wp2
      go_ret
      exact ⟨rfl, rfl⟩

theorem mulI_nat {a b : Nat} (ha : a < 1024) (hb : b < 1024) : mulI (a : Int) (b : Int) = ((gm a b : Nat) : Int) := by
  unfold mulI
  rw [Int.toNat_natCast, Int.toNat_natCast, Nat.mod_eq_of_lt ha, Nat.mod_eq_of_lt hb]
/-- what a number is 1 with -/
def invI (a : Int) : Int := ((ginv (a.toNat % 1024) : Nat) : Int)
end Go.Proofs.YtjhoecfhmndcgaaGreat
namespace Go.Proofs.YtjhoecfhmndcgaaGreat
open Go.RowKit Go.Fl

theorem and31 (n : Int) (h0 : 0 ≤ n) (h1 : n < 65536) : bits .and .u16 n 31 = n % 32 := by
  rw [u16_and n 31 h0 h1 (by omega) (by omega), show (31 : Int).toNat = 31 from rfl, nat_mask5]; omega
/-- the float of a level: the lowest five bits of n -/
def L (n : Int) : Nat := floatOfInt .f64 (2 * (n % 32) - 31)

set_option maxHeartbeats 400000 in
theorem level_any (n : Int) (w : World) (h0 : 0 ≤ n) (h1 : n < 65536) :
    Calls Tryz.prog 151 #[.int .u16 n] w fun e w' => e = .returned (.float .f64 (L n)) ∧ w = w' := by
  have ha := Lib.hid (and31 n h0 h1)
  go_enter Tryz.func151, Tryz.ntmps151
  go_wp2
  go_ret
  refine ⟨?_, rfl⟩
  rw [ha.out, IntWalk.wrap64_in (n % 32) (by omega), IntWalk.wrap64_in (2 * (n % 32)) (by omega), IntWalk.wrap64_in (2 * (n % 32) - 31) (by omega)]
  rfl

theorem L_is (n : Int) : Is (L n) ((2 * (n % 32) - 31 : Int) : Rat) := ofInt_is _ (by omega)

set_option maxHeartbeats 400000 in
theorem of_any (n : Int) (w : World) (h0 : 0 ≤ n) (h1 : n < 65536) :
    Calls Tryz.prog 135 #[.int .u16 n] w fun e w' => e = .returned (.complex .f64 (L (n / 32)) (L n)) ∧ w = w' := by
  go_enter Tryz.func135, Tryz.ntmps135
  go_wp2_with (first | (go_at_call 151; refine (level_any _ _ (by omega) (by omega)).mono ?_; rintro e w' ⟨rfl, rfl⟩))
  go_ret
  exact ⟨rfl, rfl⟩

/-! slicing -/
theorem is_two : Is 4611686018427387904 2 := by
  refine ⟨false, 4503599627370496, -51, by decide +kernel, by decide +kernel⟩
theorem is_sixteen : Is 4625196817309499392 16 := by
  refine ⟨false, 4503599627370496, -48, by decide +kernel, by decide +kernel⟩
theorem is_top : Is 4629418941960159232 31 := by
  refine ⟨false, 8725724278030336, -48, by decide +kernel, by decide +kernel⟩
theorem is_zero : Is 0 0 := by
  refine ⟨false, 0, -1074, by decide +kernel, by decide +kernel⟩

set_option maxHeartbeats 400000 in
theorem nearest_top (x q n : Nat) (w : World) (hq : floatBits .quo .f64 x 4611686018427387904 = some q) (hn : floatBits .add .f64 4625196817309499392 q = some n) (v : Rat) (hv : Is n v) (h : 31 ≤ v) :
    Calls Tryz.prog 138 #[.float .f64 x] w fun e w' => e = .returned (.int .u16 31) ∧ w = w' := by
  have hop := fun t w => run_float_arith (P := Tryz.prog) w .quo t .f64 x _ q hq
  have hop2 := fun t w => run_float_arith (P := Tryz.prog) w .add t .f64 _ q n hn
  have ho : (FloatKind.f64.format.order n 4629418941960159232 == some .gt || FloatKind.f64.format.order n 4629418941960159232 == some .eq) = true := by
    have := @order_gt n _ v _ hv is_top
    have h2 := @order_eq n _ v _ hv is_top
    rcases Rat.le_iff_lt_or_eq.1 h with h' | h'
    · rw [show FloatKind.f64.format = Ieee.double from rfl, this h']; rfl
    · rw [show FloatKind.f64.format = Ieee.double from rfl, h2 h'.symm]; rfl
  clear hq hn h
  go_enter Tryz.func138, Tryz.ntmps138
  go_wp2_with (first | simp only [hop] | simp only [hop2])
  go_ret
  exact ⟨rfl, rfl⟩

theorem f64f : FloatKind.f64.format = Ieee.double := rfl
theorem ord_lt_b {n t : Nat} {a b : Rat} (ha : Is n a) (hb : Is t b) (h : a < b) : (FloatKind.f64.format.order n t == some .gt || FloatKind.f64.format.order n t == some .eq) = false := by
  rw [f64f, order_lt ha hb h]; rfl
theorem ord_gt_b {n t : Nat} {a b : Rat} (ha : Is n a) (hb : Is t b) (h : b < a) : (FloatKind.f64.format.order n t == some .gt) = true := by
  rw [f64f, order_gt ha hb h]; rfl
theorem ord_le_b {n t : Nat} {a b : Rat} (ha : Is n a) (hb : Is t b) (h : a ≤ b) : (FloatKind.f64.format.order n t == some .gt) = false := by
  rcases Rat.le_iff_lt_or_eq.1 h with h' | h'
  · rw [f64f, order_lt ha hb h']; rfl
  · rw [f64f, order_eq ha hb h']; rfl
set_option maxHeartbeats 400000 in
theorem nearest_mid (x q n k : Nat) (w : World) (hq : floatBits .quo .f64 x 4611686018427387904 = some q) (hn : floatBits .add .f64 4625196817309499392 q = some n) (v : Rat) (hv : Is n v) (h0 : 0 < v) (h31 : v < 31) (hk : (k : Rat) ≤ v) (hk1 : v < ((k + 1 : Nat) : Rat)) (hk2 : k ≤ 31) :
    Calls Tryz.prog 138 #[.float .f64 x] w fun e w' => e = .returned (.int .u16 k) ∧ w = w' := by
  have hop := fun t w => run_float_arith (P := Tryz.prog) w .quo t .f64 x _ q hq
  have hop2 := fun t w => run_float_arith (P := Tryz.prog) w .add t .f64 _ q n hn
  have ho1 := ord_lt_b hv is_top h31
  have ho2 := ord_gt_b hv is_zero h0
  have hc := fun w => run_convert_float_int (P := Tryz.prog) w 206 46 .f64 .u16 n k (by rw [Tryz.underlying206]; rfl) Tryz.underlying46 (by
    unfold floatToIntVal; rw [toInt_is hv hk hk1]
    have e1 : IntKind.u16.min = 0 := rfl
    have e2 : IntKind.u16.max = 65535 := rfl
    simp only [e1, e2]; rw [if_pos (by omega)])
  clear hq hn hk hk1 h0 h31
  go_enter Tryz.func138, Tryz.ntmps138
  go_wp2_with (first | simp only [hop] | simp only [hop2] | simp only [hc])
  go_ret
  exact ⟨rfl, rfl⟩

set_option maxHeartbeats 400000 in
theorem nearest_low (x q n : Nat) (w : World) (hq : floatBits .quo .f64 x 4611686018427387904 = some q) (hn : floatBits .add .f64 4625196817309499392 q = some n) (v : Rat) (hv : Is n v) (h0 : v ≤ 0) :
    Calls Tryz.prog 138 #[.float .f64 x] w fun e w' => e = .returned (.int .u16 0) ∧ w = w' := by
  have hop := fun t w => run_float_arith (P := Tryz.prog) w .quo t .f64 x _ q hq
  have hop2 := fun t w => run_float_arith (P := Tryz.prog) w .add t .f64 _ q n hn
  have ho1 := ord_lt_b hv is_top (by grind)
  have ho2 := ord_le_b hv is_zero h0
  clear hq hn h0
  go_enter Tryz.func138, Tryz.ntmps138
  go_wp2_with (first | simp only [hop] | simp only [hop2])
  go_ret
  exact ⟨rfl, rfl⟩

/-- the bits that x is nearest to are k, whatever the world -/
def NearP (x k : Nat) : Prop := k ≤ 31 ∧ ∀ w, Calls Tryz.prog 138 #[.float .f64 x] w fun e w' => e = .returned (.int .u16 k) ∧ w = w'

theorem near_is {x : Nat} {q : Rat} (k : Nat) (hx : Is x q) (lo hi : Int) (b1 : -1099511627776 ≤ lo) (b2 : hi ≤ 1099511627776) (h1 : (lo : Rat) * pw (-4) ≤ q) (h2 : q ≤ (hi : Rat) * pw (-4))
    (hk : k ≤ 31) (k1 : k = 0 ∨ 32 * (k : Int) ≤ 512 + lo) (k2 : k = 31 ∨ 512 + hi < 32 * (k + 1 : Int)) : NearP x k := by
  refine ⟨hk, fun w => ?_⟩
  have hlh : lo ≤ hi := by
    have := Rat.le_of_mul_le_mul_right (Rat.le_trans h1 h2) (pw_pos _)
    exact Rat.intCast_le_intCast.1 this
  have p45 : pw (-4) = 2 * pw (-5) := by rw [show (-4 : Int) = 1 + -5 by omega, pw_add, pw_one]
  have p5 : pw (-5) = 1 / 32 := by decide +kernel
  obtain ⟨r, v, e1, iv, v1, v2⟩ := div_within hx is_two (by decide) (rep_units lo (-5) (by omega) (by decide) (by decide)) (rep_units hi (-5) (by omega) (by decide) (by decide)) (by rw [p45] at h1; grind) (by rw [p45] at h2; grind)
  have c1 : ((512 + lo : Int) : Rat) * pw (-5) = 16 + (lo : Rat) * pw (-5) := by rw [Rat.intCast_add, p5]; grind
  have c2 : ((512 + hi : Int) : Rat) * pw (-5) = 16 + (hi : Rat) * pw (-5) := by rw [Rat.intCast_add, p5]; grind
  obtain ⟨r2, v', e2, iv2, v3, v4⟩ := add_within is_sixteen iv (rep_units (512 + lo) (-5) (by omega) (by decide) (by decide)) (rep_units (512 + hi) (-5) (by omega) (by decide) (by decide)) (by rw [c1]; grind) (by rw [c2]; grind)
  have kk : ∀ z : Int, ((32 * z : Int) : Rat) * pw (-5) = (z : Rat) := by intro z; rw [Rat.intCast_mul, p5]; grind
  have up : k = 0 ∨ (k : Rat) ≤ v' := by
    rcases k1 with h | h
    · exact Or.inl h
    · right
      have := Rat.mul_le_mul_of_nonneg_right (Rat.intCast_le_intCast.2 h) (Rat.le_of_lt (pw_pos (-5)))
      rw [kk] at this
      exact Rat.le_trans this v3
  have dn : k = 31 ∨ v' < ((k + 1 : Nat) : Rat) := by
    rcases k2 with h | h
    · exact Or.inl h
    · right
      have := (Rat.mul_lt_mul_right (pw_pos (-5))).2 (Rat.intCast_lt_intCast.2 h)
      rw [kk] at this
      exact lt_of_le_of_lt' v4 this
  have ck : ∀ j : Nat, ((j : Nat) : Rat) < 31 ↔ j < 31 := fun j => cast_lt (b := 31)
  rcases Rat.le_total (a := 31) (b := v') with h | h
  · have : k = 31 := by
      rcases dn with hd | hd
      · exact hd
      · have : ((31 : Nat) : Rat) < ((k + 1 : Nat) : Rat) := lt_of_le_of_lt' h hd
        have := cast_lt.1 this; omega
    subst this
    exact nearest_top x r r2 w e1 e2 v' iv2 h
  · by_cases he : v' = 31
    · have : k = 31 := by
        rcases dn with hd | hd
        · exact hd
        · have : ((31 : Nat) : Rat) < ((k + 1 : Nat) : Rat) := by rw [he] at hd; exact hd
          have := cast_lt.1 this; omega
      subst this
      exact nearest_top x r r2 w e1 e2 v' iv2 (by rw [he]; exact Rat.le_refl)
    · have h31 : v' < 31 := Rat.lt_of_le_of_ne h he
      have hk31 : k ≠ 31 := by
        rintro rfl
        rcases up with hu | hu
        · omega
        · exact Rat.lt_irrefl (lt_of_lt_of_le' h31 hu)
      have dn' : v' < ((k + 1 : Nat) : Rat) := dn.resolve_left hk31
      by_cases h0 : 0 < v'
      · have up' : (k : Rat) ≤ v' := by
          rcases up with hu | hu
          · subst hu; exact Rat.le_of_lt h0
          · exact hu
        exact nearest_mid x r r2 k w e1 e2 v' iv2 h0 h31 up' dn' hk
      · have h0' : v' ≤ 0 := Rat.not_lt.1 h0
        have : k = 0 := by
          rcases up with hu | hu
          · exact hu
          · have : (k : Rat) ≤ ((0 : Nat) : Rat) := Rat.le_trans hu h0'
            have := cast_le.1 this; omega
        subst this
        exact nearest_low x r r2 w e1 e2 v' iv2 h0'
theorem or_join (a b : Nat) (ha : a ≤ 31) (hb : b ≤ 31) : bits .or .u16 ((a : Int) * 32) b = 32 * (a : Int) + (b : Int) := by
  have := u16_or_nat (32 * a) b (by omega) (by omega)
  rw [nat_join 5 (32 * a) b (by omega) (by omega)] at this
  rw [show 32 * (a : Int) + (b : Int) = ((32 * a + b : Nat) : Int) by omega, ← this]; congr 1; omega

set_option maxHeartbeats 400000 in
theorem slice_any (x y a b : Nat) (w : World) (hx : NearP x a) (hy : NearP y b) :
    Calls Tryz.prog 117 #[.complex .f64 x y] w fun e w' => e = .returned (.int .u16 (32 * (a : Int) + (b : Int))) ∧ w = w' := by
  obtain ⟨ha, hx⟩ := hx
  obtain ⟨hb, hy⟩ := hy
  have oj := Lib.hid (or_join a b ha hb)
  go_enter Tryz.func117, Tryz.ntmps117
  go_wp2_with (first | (go_at_call 138; (with_reducible refine (hx _).mono ?_); rintro e w' ⟨rfl, rfl⟩) | (go_at_call 138; (with_reducible refine (hy _).mono ?_); rintro e w' ⟨rfl, rfl⟩))
  go_ret
  exact ⟨by rw [oj.out]; rfl, rfl⟩

theorem near_ofP (x : Nat) (n : Int) (k : Nat) (hx : Is x (n : Rat)) (hk : k ≤ 31) (b1 : -1099511627776 ≤ 16 * n) (b2 : 16 * n ≤ 1099511627776) (k1 : k = 0 ∨ 2 * (k : Int) ≤ 32 + n) (k2 : k = 31 ∨ 32 + n < 2 * (k + 1 : Int)) : NearP x k := by
  have e : ((16 * n : Int) : Rat) * pw (-4) = (n : Rat) := by
    rw [Rat.intCast_mul, show pw (-4) = 1 / 16 by decide +kernel]; grind
  exact near_is k hx (16 * n) (16 * n) b1 b2 (by rw [e]; exact Rat.le_refl) (by rw [e]; exact Rat.le_refl) hk (by omega) (by omega)
end Go.Proofs.YtjhoecfhmndcgaaGreat
namespace Go.Proofs.YtjhoecfhmndcgaaGreat
open Go.RowKit Go.Fl
set_option linter.unusedVariables false
set_option linter.unusedSimpArgs false

/-- the five bits that a whole part is nearest to -/
def lev (n : Int) : Int := max 0 (min 31 ((32 + n) / 2))
theorem lev_le (n : Int) : 0 ≤ lev n ∧ lev n ≤ 31 := by unfold lev; omega
/-- the symbol that a whole point is nearest to -/
def slc (a b : Int) : Int := 32 * lev a + lev b

end Go.Proofs.YtjhoecfhmndcgaaGreat
