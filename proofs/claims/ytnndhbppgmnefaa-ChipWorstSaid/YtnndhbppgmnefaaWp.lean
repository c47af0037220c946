/- What the program's Of and Slice answer, said of the values. -/
import Derived.Test.YtnndhbppgmnefaaProg
import Derived.Test.YtnndhbppgmnefaaFl
import Derived.WalkKit
import Derived.WalkSpells
import Derived.WalkLawsBesides
import Derived.Laws.BitsAllLaws
import Derived.Lib.Hide
import Derived.IntWalk
namespace Go.Proofs.Ytnndhbppgmnefaa
open Go.RowKit Go.Fl

theorem and31 (n : Int) (h0 : 0 ≤ n) (h1 : n < 65536) : bits .and .u16 n 31 = n % 32 := by
  rw [u16_and n 31 h0 h1 (by omega) (by omega), show (31 : Int).toNat = 31 from rfl, nat_mask5]; omega
theorem and1023 (n : Int) (h0 : 0 ≤ n) (h1 : n < 65536) : bits .and .u16 n 1023 = n % 1024 := by
  rw [u16_and n 1023 h0 h1 (by omega) (by omega), show (1023 : Int).toNat = 1023 from rfl, nat_mask10]; omega

/-- the float of a level: the lowest five bits of n -/
def L (n : Int) : Nat := floatOfInt .f64 (2 * (n % 32) - 31)

set_option maxHeartbeats 400000 in
theorem level_any (n : Int) (w : World) (h0 : 0 ≤ n) (h1 : n < 65536) :
    Calls Try.prog 101 #[.int .u16 n] w fun e w' => e = .returned (.float .f64 (L n)) ∧ w = w' := by
  have ha := Lib.hid (and31 n h0 h1)
  go_enter Try.func101, Try.ntmps101
  go_wp2
  go_ret
  refine ⟨?_, rfl⟩
  rw [ha.out, IntWalk.wrap64_in (n % 32) (by omega), IntWalk.wrap64_in (2 * (n % 32)) (by omega), IntWalk.wrap64_in (2 * (n % 32) - 31) (by omega)]
  rfl

theorem L_eq {a b : Int} (h : a % 32 = b % 32) : L a = L b := by unfold L; rw [h]
theorem L_is (n : Int) : Is (L n) ((2 * (n % 32) - 31 : Int) : Rat) := ofInt_is _ (by omega)

set_option maxHeartbeats 400000 in
theorem of_any (n : Int) (w : World) (h0 : 0 ≤ n) (h1 : n < 65536) :
    Calls Try.prog 96 #[.int .u16 n] w fun e w' => e = .returned (.complex .f64 (L (n / 32)) (L n)) ∧ w = w' := by
  go_enter Try.func96, Try.ntmps96
  go_wp2_with (first | (go_at_call 101; refine (level_any _ _ (by omega) (by omega)).mono ?_; rintro e w' ⟨rfl, rfl⟩))
  go_ret
  exact ⟨rfl, rfl⟩

/-! slicing -/
theorem is_two : Is 4611686018427387904 2 := by
  refine ⟨false, 4503599627370496, -51, by decide +kernel, by decide +kernel⟩
theorem is_sixteen : Is 4625196817309499392 16 := by
  refine ⟨false, 4503599627370496, -48, by decide +kernel, by decide +kernel⟩
theorem is_top : Is 4629418941960159232 31 := by
  refine ⟨false, 8725724278030336, -48, by decide +kernel, by decide +kernel⟩
theorem is_zero : Is 0 0 := by
  refine ⟨false, 0, -1074, by decide +kernel, by decide +kernel⟩

set_option maxHeartbeats 400000 in
theorem nearest_top (x q n : Nat) (w : World) (hq : floatBits .quo .f64 x 4611686018427387904 = some q) (hn : floatBits .add .f64 4625196817309499392 q = some n) (v : Rat) (hv : Is n v) (h : 31 ≤ v) :
    Calls Try.prog 65 #[.float .f64 x] w fun e w' => e = .returned (.int .u16 31) ∧ w = w' := by
  have hop := fun t w => run_float_arith (P := Try.prog) w .quo t .f64 x _ q hq
  have hop2 := fun t w => run_float_arith (P := Try.prog) w .add t .f64 _ q n hn
  have ho : (FloatKind.f64.format.order n 4629418941960159232 == some .gt || FloatKind.f64.format.order n 4629418941960159232 == some .eq) = true := by
    have := @order_gt n _ v _ hv is_top
    have h2 := @order_eq n _ v _ hv is_top
    rcases Rat.le_iff_lt_or_eq.1 h with h' | h'
    · rw [show FloatKind.f64.format = Ieee.double from rfl, this h']; rfl
    · rw [show FloatKind.f64.format = Ieee.double from rfl, h2 h'.symm]; rfl
  clear hq hn h
  go_enter Try.func65, Try.ntmps65
  go_wp2_with (first | simp only [hop] | simp only [hop2])
  go_ret
  exact ⟨rfl, rfl⟩

theorem f64f : FloatKind.f64.format = Ieee.double := rfl
theorem ord_lt_b {n t : Nat} {a b : Rat} (ha : Is n a) (hb : Is t b) (h : a < b) : (FloatKind.f64.format.order n t == some .gt || FloatKind.f64.format.order n t == some .eq) = false := by
  rw [f64f, order_lt ha hb h]; rfl
theorem ord_gt_b {n t : Nat} {a b : Rat} (ha : Is n a) (hb : Is t b) (h : b < a) : (FloatKind.f64.format.order n t == some .gt) = true := by
  rw [f64f, order_gt ha hb h]; rfl
theorem ord_le_b {n t : Nat} {a b : Rat} (ha : Is n a) (hb : Is t b) (h : a ≤ b) : (FloatKind.f64.format.order n t == some .gt) = false := by
  rcases Rat.le_iff_lt_or_eq.1 h with h' | h'
  · rw [f64f, order_lt ha hb h']; rfl
  · rw [f64f, order_eq ha hb h']; rfl
theorem ord_eq_b {n t : Nat} {a b : Rat} (ha : Is n a) (hb : Is t b) : (FloatKind.f64.format.order n t == some .eq) = decide (a = b) := by
  by_cases h : a = b
  · rw [f64f, order_eq ha hb h]; simp [h]
  · rcases Rat.le_total (a := a) (b := b) with h' | h'
    · rw [f64f, order_lt ha hb (Rat.lt_of_le_of_ne h' h)]; simp [h]
    · rw [f64f, order_gt ha hb (Rat.lt_of_le_of_ne h' (fun e => h e.symm))]; simp [h]

set_option maxHeartbeats 400000 in
theorem nearest_mid (x q n k : Nat) (w : World) (hq : floatBits .quo .f64 x 4611686018427387904 = some q) (hn : floatBits .add .f64 4625196817309499392 q = some n) (v : Rat) (hv : Is n v) (h0 : 0 < v) (h31 : v < 31) (hk : (k : Rat) ≤ v) (hk1 : v < ((k + 1 : Nat) : Rat)) (hk2 : k ≤ 31) :
    Calls Try.prog 65 #[.float .f64 x] w fun e w' => e = .returned (.int .u16 k) ∧ w = w' := by
  have hop := fun t w => run_float_arith (P := Try.prog) w .quo t .f64 x _ q hq
  have hop2 := fun t w => run_float_arith (P := Try.prog) w .add t .f64 _ q n hn
  have ho1 := ord_lt_b hv is_top h31
  have ho2 := ord_gt_b hv is_zero h0
  have hc := fun w => run_convert_float_int (P := Try.prog) w 83 54 .f64 .u16 n k (by rw [Try.underlying83]; rfl) Try.underlying54 (by
    unfold floatToIntVal; rw [toInt_is hv hk hk1]
    have e1 : IntKind.u16.min = 0 := rfl
    have e2 : IntKind.u16.max = 65535 := rfl
    simp only [e1, e2]; rw [if_pos (by omega)])
  clear hq hn hk hk1 h0 h31
  go_enter Try.func65, Try.ntmps65
  go_wp2_with (first | simp only [hop] | simp only [hop2] | simp only [hc])
  go_ret
  exact ⟨rfl, rfl⟩

set_option maxHeartbeats 400000 in
theorem nearest_low (x q n : Nat) (w : World) (hq : floatBits .quo .f64 x 4611686018427387904 = some q) (hn : floatBits .add .f64 4625196817309499392 q = some n) (v : Rat) (hv : Is n v) (h0 : v ≤ 0) :
    Calls Try.prog 65 #[.float .f64 x] w fun e w' => e = .returned (.int .u16 0) ∧ w = w' := by
  have hop := fun t w => run_float_arith (P := Try.prog) w .quo t .f64 x _ q hq
  have hop2 := fun t w => run_float_arith (P := Try.prog) w .add t .f64 _ q n hn
  have ho1 := ord_lt_b hv is_top (by grind)
  have ho2 := ord_le_b hv is_zero h0
  clear hq hn h0
  go_enter Try.func65, Try.ntmps65
  go_wp2_with (first | simp only [hop] | simp only [hop2])
  go_ret
  exact ⟨rfl, rfl⟩

/-- the bits that x is nearest to are k, whatever the world -/
def Near (x k : Nat) : Prop := k ≤ 31 ∧ ∀ w, Calls Try.prog 65 #[.float .f64 x] w fun e w' => e = .returned (.int .u16 k) ∧ w = w'

theorem near_is {x : Nat} {q : Rat} (k : Nat) (hx : Is x q) (lo hi : Int) (b1 : -1099511627776 ≤ lo) (b2 : hi ≤ 1099511627776) (h1 : (lo : Rat) * pw (-4) ≤ q) (h2 : q ≤ (hi : Rat) * pw (-4))
    (hk : k ≤ 31) (k1 : k = 0 ∨ 32 * (k : Int) ≤ 512 + lo) (k2 : k = 31 ∨ 512 + hi < 32 * (k + 1 : Int)) : Near x k := by
  refine ⟨hk, fun w => ?_⟩
  have hlh : lo ≤ hi := by
    have := Rat.le_of_mul_le_mul_right (Rat.le_trans h1 h2) (pw_pos _)
    exact Rat.intCast_le_intCast.1 this
  have p45 : pw (-4) = 2 * pw (-5) := by rw [show (-4 : Int) = 1 + -5 by omega, pw_add, pw_one]
  have p5 : pw (-5) = 1 / 32 := by decide +kernel
  obtain ⟨r, v, e1, iv, v1, v2⟩ := div_within hx is_two (by decide) (rep_units lo (-5) (by omega) (by decide) (by decide)) (rep_units hi (-5) (by omega) (by decide) (by decide)) (by rw [p45] at h1; grind) (by rw [p45] at h2; grind)
  have c1 : ((512 + lo : Int) : Rat) * pw (-5) = 16 + (lo : Rat) * pw (-5) := by rw [Rat.intCast_add, p5]; grind
  have c2 : ((512 + hi : Int) : Rat) * pw (-5) = 16 + (hi : Rat) * pw (-5) := by rw [Rat.intCast_add, p5]; grind
  obtain ⟨r2, v', e2, iv2, v3, v4⟩ := add_within is_sixteen iv (rep_units (512 + lo) (-5) (by omega) (by decide) (by decide)) (rep_units (512 + hi) (-5) (by omega) (by decide) (by decide)) (by rw [c1]; grind) (by rw [c2]; grind)
  have kk : ∀ z : Int, ((32 * z : Int) : Rat) * pw (-5) = (z : Rat) := by intro z; rw [Rat.intCast_mul, p5]; grind
  have up : k = 0 ∨ (k : Rat) ≤ v' := by
    rcases k1 with h | h
    · exact Or.inl h
    · right
      have := Rat.mul_le_mul_of_nonneg_right (Rat.intCast_le_intCast.2 h) (Rat.le_of_lt (pw_pos (-5)))
      rw [kk] at this
      exact Rat.le_trans this v3
  have dn : k = 31 ∨ v' < ((k + 1 : Nat) : Rat) := by
    rcases k2 with h | h
    · exact Or.inl h
    · right
      have := (Rat.mul_lt_mul_right (pw_pos (-5))).2 (Rat.intCast_lt_intCast.2 h)
      rw [kk] at this
      exact lt_of_le_of_lt' v4 this
  have ck : ∀ j : Nat, ((j : Nat) : Rat) < 31 ↔ j < 31 := fun j => cast_lt (b := 31)
  rcases Rat.le_total (a := 31) (b := v') with h | h
  · have : k = 31 := by
      rcases dn with hd | hd
      · exact hd
      · have : ((31 : Nat) : Rat) < ((k + 1 : Nat) : Rat) := lt_of_le_of_lt' h hd
        have := cast_lt.1 this; omega
    subst this
    exact nearest_top x r r2 w e1 e2 v' iv2 h
  · by_cases he : v' = 31
    · have : k = 31 := by
        rcases dn with hd | hd
        · exact hd
        · have : ((31 : Nat) : Rat) < ((k + 1 : Nat) : Rat) := by rw [he] at hd; exact hd
          have := cast_lt.1 this; omega
      subst this
      exact nearest_top x r r2 w e1 e2 v' iv2 (by rw [he]; exact Rat.le_refl)
    · have h31 : v' < 31 := Rat.lt_of_le_of_ne h he
      have hk31 : k ≠ 31 := by
        rintro rfl
        rcases up with hu | hu
        · omega
        · exact Rat.lt_irrefl (lt_of_lt_of_le' h31 hu)
      have dn' : v' < ((k + 1 : Nat) : Rat) := dn.resolve_left hk31
      by_cases h0 : 0 < v'
      · have up' : (k : Rat) ≤ v' := by
          rcases up with hu | hu
          · subst hu; exact Rat.le_of_lt h0
          · exact hu
        exact nearest_mid x r r2 k w e1 e2 v' iv2 h0 h31 up' dn' hk
      · have h0' : v' ≤ 0 := Rat.not_lt.1 h0
        have : k = 0 := by
          rcases up with hu | hu
          · exact hu
          · have : (k : Rat) ≤ ((0 : Nat) : Rat) := Rat.le_trans hu h0'
            have := cast_le.1 this; omega
        subst this
        exact nearest_low x r r2 w e1 e2 v' iv2 h0'
theorem or_join (a b : Nat) (ha : a ≤ 31) (hb : b ≤ 31) : bits .or .u16 ((a : Int) * 32) b = 32 * (a : Int) + (b : Int) := by
  have := u16_or_nat (32 * a) b (by omega) (by omega)
  rw [nat_join 5 (32 * a) b (by omega) (by omega)] at this
  rw [show 32 * (a : Int) + (b : Int) = ((32 * a + b : Nat) : Int) by omega, ← this]; congr 1; omega

set_option maxHeartbeats 400000 in
theorem slice_any (x y a b : Nat) (w : World) (hx : Near x a) (hy : Near y b) :
    Calls Try.prog 52 #[.complex .f64 x y] w fun e w' => e = .returned (.int .u16 (32 * (a : Int) + (b : Int))) ∧ w = w' := by
  obtain ⟨ha, hx⟩ := hx
  obtain ⟨hb, hy⟩ := hy
  have oj := Lib.hid (or_join a b ha hb)
  go_enter Try.func52, Try.ntmps52
  go_wp2_with (first | (go_at_call 65; (with_reducible refine (hx _).mono ?_); rintro e w' ⟨rfl, rfl⟩) | (go_at_call 65; (with_reducible refine (hy _).mono ?_); rintro e w' ⟨rfl, rfl⟩))
  go_ret
  exact ⟨by rw [oj.out]; rfl, rfl⟩

theorem of_pair (a b : Nat) (w : World) (ha : a ≤ 31) (hb : b ≤ 31) :
    Calls Try.prog 96 #[.int .u16 (32 * (a : Int) + (b : Int))] w fun e w' => e = .returned (.complex .f64 (L a) (L b)) ∧ w = w' := by
  refine (of_any _ w (by omega) (by omega)).mono ?_
  rintro e w' ⟨rfl, rfl⟩
  refine ⟨?_, rfl⟩
  rw [L_eq (a := (32 * (a : Int) + b) / 32) (b := a) (by omega), L_eq (a := 32 * (a : Int) + b) (b := b) (by omega)]

theorem near_of (x : Nat) (n : Int) (k : Nat) (hx : Is x (n : Rat)) (hk : k ≤ 31) (b1 : -1099511627776 ≤ 16 * n) (b2 : 16 * n ≤ 1099511627776) (k1 : k = 0 ∨ 2 * (k : Int) ≤ 32 + n) (k2 : k = 31 ∨ 32 + n < 2 * (k + 1 : Int)) : Near x k := by
  have e : ((16 * n : Int) : Rat) * pw (-4) = (n : Rat) := by
    rw [Rat.intCast_mul, show pw (-4) = 1 / 16 by decide +kernel]; grind
  exact near_is k hx (16 * n) (16 * n) b1 b2 (by rw [e]; exact Rat.le_refl) (by rw [e]; exact Rat.le_refl) hk (by omega) (by omega)
/-- a level is nearest to its own bits -/
theorem near_L (k : Nat) (hk : k ≤ 31) : Near (L k) k := by
  have := L_is k
  exact near_of _ _ k this hk (by omega) (by omega) (by omega) (by omega)
end Go.Proofs.Ytnndhbppgmnefaa
