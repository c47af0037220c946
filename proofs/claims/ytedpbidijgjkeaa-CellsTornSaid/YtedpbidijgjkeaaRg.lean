/- The reference's Of and Slice, of symbols and of whole points. -/
import Derived.Test.YtedpbidijgjkeaaWp
import Derived.Test.YtedpbidijgjkeaaFq
namespace Go.Proofs.Ytedpbidijgjkeaa
open Go.RowKit Go.Fl
set_option linter.unusedVariables false
set_option linter.unusedSimpArgs false

/-- the five bits that a whole part is nearest to -/
def lev (n : Int) : Int := max 0 (min 31 ((32 + n) / 2))
theorem lev_le (n : Int) : 0 ≤ lev n ∧ lev n ≤ 31 := by unfold lev; omega
theorem ord_lt_b' {n t : Nat} {a b : Rat} (ha : Is n a) (hb : Is t b) : (FloatKind.f64.format.order n t == some .lt) = decide (a < b) := by
  by_cases h : a < b
  · rw [f64f, order_lt ha hb h]; simp [h]
  · rcases Rat.le_iff_lt_or_eq.1 (Rat.not_lt.1 h) with h' | h'
    · rw [f64f, order_gt ha hb h']; simp [h]
    · rw [f64f, order_eq ha hb h'.symm]; simp [h]
theorem ord_gt_b' {n t : Nat} {a b : Rat} (ha : Is n a) (hb : Is t b) : (FloatKind.f64.format.order n t == some .gt) = decide (b < a) := by
  by_cases h : b < a
  · rw [f64f, order_gt ha hb h]; simp [h]
  · rcases Rat.le_iff_lt_or_eq.1 (Rat.not_lt.1 h) with h' | h'
    · rw [f64f, order_lt ha hb h']; simp [h]
    · rw [f64f, order_eq ha hb h']; simp [h]
/-- 16 and half of a whole number -/
theorem half_up {x : Nat} {n : Int} (hx : Is x (n : Rat)) (b1 : -1099511627776 ≤ n) (b2 : n ≤ 1099511627776) :
    ∃ q v, floatBits .quo .f64 x 4611686018427387904 = some q ∧ floatBits .add .f64 4625196817309499392 q = some v ∧ Is v (((32 + n : Int) : Rat) * pw (-1)) := by
  have e1 : pw (-1) = 1 / 2 := by decide +kernel
  obtain ⟨q, hq, iq⟩ := div_exact (c := (n : Rat) * pw (-1)) hx is_two (by decide +kernel) (by rw [e1]; grind) (rep_units n (-1) (by omega) (by omega) (by omega))
  obtain ⟨v, hv, iv⟩ := add_exact (c := ((32 + n : Int) : Rat) * pw (-1)) is_sixteen iq (by
    rw [e1, Rat.intCast_add]
    have : ((32 : Int) : Rat) = 32 := rfl
    rw [this]; grind) (rep_units (32 + n) (-1) (by omega) (by omega) (by omega))
  exact ⟨q, v, hq, hv, iv⟩
theorem half_floor (n : Int) : (((32 + n) / 2 : Int) : Rat) ≤ ((32 + n : Int) : Rat) * pw (-1) ∧ ((32 + n : Int) : Rat) * pw (-1) < (((32 + n) / 2 + 1 : Int) : Rat) := by
  have e1 : pw (-1) = 1 / 2 := by decide +kernel
  generalize 32 + n = m
  have h1 : 2 * (m / 2) ≤ m := by omega
  have h2 : m < 2 * (m / 2 + 1) := by omega
  generalize m / 2 = k at *
  have c1 := Rat.intCast_le_intCast.2 h1
  have c2 := Rat.intCast_lt_intCast.2 h2
  rw [Rat.intCast_mul] at c1 c2
  have : ((2 : Int) : Rat) = 2 := rfl
  rw [this] at c1 c2
  rw [e1]
  constructor <;> grind
theorem floor_run {x : Nat} {q : Rat} {k : Int} (hx : Is x q) (h1 : (k : Rat) ≤ q) (h2 : q < ((k + 1 : Int) : Rat)) (hk : k.natAbs < 2 ^ 53) :
    ∃ r, Is r (k : Rat) ∧ ∀ w, (callFunc 36 #[.float .f64 x]).run Try.prog w = .ok (.value (.float .f64 r)) w := by
  obtain ⟨s, m, p, r, hd, he, hr⟩ := floor_is hx h1 h2 hk
  refine ⟨r, hr, fun w => ?_⟩
  rw [run_callFunc_extern (fn := Try.f36) (e := Extern.MathFloor.toIntegral "math.archFloor" .down) Try.func36 (by decide +kernel) (by kernel_rfl) (by kernel_rfl) (by kernel_rfl)]
  rw [run_integral hd, he]
  rfl
theorem floor_any {x : Nat} {q : Rat} {k : Int} (hx : Is x q) (h1 : (k : Rat) ≤ q) (h2 : q < ((k + 1 : Int) : Rat)) (hk : k.natAbs < 2 ^ 53) :
    ∃ r, Is r (k : Rat) ∧ ∀ w, Calls Try.prog 31 #[.float .f64 x] w fun e w' => e = .returned (.float .f64 r) ∧ w = w' := by
  obtain ⟨r, hr, h⟩ := floor_run hx h1 h2 hk
  refine ⟨r, hr, fun w => ?_⟩
  go_enter Try.func31, Try.ntmps31
  go_wp2_with (simp only [h])
  go_ret
  exact ⟨rfl, rfl⟩
set_option maxHeartbeats 1000000 in
theorem refpart_any {x : Nat} {n : Int} (hx : Is x (n : Rat)) (b1 : -1099511627776 ≤ n) (b2 : n ≤ 1099511627776) (w : World) :
    Calls Try.prog 25 #[.float .f64 x] w fun e w' => e = .returned (.int .u16 (lev n)) ∧ w = w' := by
  obtain ⟨q, v, hq, hv, iv⟩ := half_up hx b1 b2
  obtain ⟨k1, k2⟩ := half_floor n
  obtain ⟨r, hr, hf⟩ := floor_any iv k1 k2 (by omega)
  have hop := fun t w => run_float_arith (P := Try.prog) w .quo t .f64 x _ q hq
  have hop2 := fun t w => run_float_arith (P := Try.prog) w .add t .f64 _ q v hv
  have hxx : (FloatKind.f64.format.order x x != some .eq) = false := by
    have := ord_eq_b hx hx
    rw [bne, this]; simp
  have z0 : ((0 : Int) : Rat) = 0 := rfl
  have z31 : ((31 : Int) : Rat) = 31 := rfl
  have l1 : (FloatKind.f64.format.order r 0 == some .lt) = decide ((32 + n) / 2 < 0) := by
    rw [ord_lt_b' hr is_zero, decide_eq_decide, ← z0]
    exact Rat.intCast_lt_intCast
  have l2 : (FloatKind.f64.format.order r 4629418941960159232 == some .gt) = decide (31 < (32 + n) / 2) := by
    rw [ord_gt_b' hr is_top, decide_eq_decide, ← z31]
    exact Rat.intCast_lt_intCast
  have hlev : lev n = max 0 (min 31 ((32 + n) / 2)) := rfl
  have hk : ∀ k : Nat, (32 + n) / 2 = (k : Int) → k ≤ 31 → ∀ w, (convert 38 27 (.float .f64 r)).run Try.prog w = Result.ok (.int .u16 (k : Int)) w := fun k e hk w => by
    have i1 : (k : Rat) ≤ (((32 + n) / 2 : Int) : Rat) := by rw [e]; exact Rat.le_refl
    have i2 : (((32 + n) / 2 : Int) : Rat) < ((k + 1 : Nat) : Rat) := by rw [e]; exact cast_lt.2 (Nat.lt_succ_self k)
    exact run_convert_float_int (P := Try.prog) w 38 27 .f64 .u16 r k (by rw [Try.underlying38]; rfl) Try.underlying27 (by
      unfold floatToIntVal; rw [toInt_is hr i1 i2]
      have e1 : IntKind.u16.min = 0 := rfl
      have e2 : IntKind.u16.max = 65535 := rfl
      simp only [e1, e2]; rw [if_pos (by omega)])
  generalize (32 + n) / 2 = j at *
  rw [hlev]
  clear hq hv hlev iv k1 k2 hx hr z0 z31
  replace hf := Lib.hid hf
  rcases Int.lt_or_le j 0 with h0 | h0
  · rw [decide_eq_true h0] at l1
    rw [decide_eq_false (by omega)] at l2
    replace hk := Lib.hid hk
    rw [show max 0 (min 31 j) = 0 by omega]
    go_enter Try.func25, Try.ntmps25
    go_wp2_with (first | (go_at_call 31; (with_reducible refine (hf.out _).mono ?_); rintro e w' ⟨rfl, rfl⟩) | simp only [hop, hop2])
    go_ret
    exact ⟨rfl, rfl⟩
  · rw [decide_eq_false (by omega)] at l1
    rcases Int.lt_or_le 31 j with h3 | h3
    · rw [decide_eq_true h3] at l2
      replace hk := Lib.hid hk
      rw [show max 0 (min 31 j) = 31 by omega]
      go_enter Try.func25, Try.ntmps25
      go_wp2_with (first | (go_at_call 31; (with_reducible refine (hf.out _).mono ?_); rintro e w' ⟨rfl, rfl⟩) | simp only [hop, hop2])
      go_ret
      exact ⟨rfl, rfl⟩
    · rw [decide_eq_false (by omega)] at l2
      obtain ⟨k, rfl⟩ : ∃ k : Nat, j = (k : Int) := ⟨j.toNat, by omega⟩
      have hc := hk k rfl (by omega)
      rw [show max 0 (min 31 (k : Int)) = (k : Int) by omega]
      clear hk
      go_enter Try.func25, Try.ntmps25
      go_wp2_with (first | (go_at_call 31; (with_reducible refine (hf.out _).mono ?_); rintro e w' ⟨rfl, rfl⟩) | simp only [hop, hop2] | simp only [hc])
      go_ret
      exact ⟨rfl, rfl⟩
theorem or_join_int (a b : Int) (ha : 0 ≤ a ∧ a ≤ 31) (hb : 0 ≤ b ∧ b ≤ 31) : bits .or .u16 (a * 32) b = 32 * a + b := by
  obtain ⟨a, rfl⟩ : ∃ k : Nat, a = (k : Int) := ⟨a.toNat, by omega⟩
  obtain ⟨b, rfl⟩ : ∃ k : Nat, b = (k : Int) := ⟨b.toNat, by omega⟩
  exact or_join a b (by omega) (by omega)
/-- the symbol that a whole point is nearest to -/
def slc (a b : Int) : Int := 32 * lev a + lev b
set_option maxHeartbeats 1000000 in
theorem refslice_any {x y : Nat} {a b : Int} (hx : Is x (a : Rat)) (hy : Is y (b : Rat)) (ha : -1099511627776 ≤ a ∧ a ≤ 1099511627776) (hb : -1099511627776 ≤ b ∧ b ≤ 1099511627776) (w : World) :
    Calls Try.prog 15 #[.complex .f64 x y] w fun e w' => e = .returned (.int .u16 (slc a b)) ∧ w = w' := by
  have h1 := Lib.hid (refpart_any hx ha.1 ha.2)
  have h2 := Lib.hid (refpart_any hy hb.1 hb.2)
  have oj := Lib.hid (or_join_int (lev a) (lev b) (lev_le a) (lev_le b))
  have l1 := lev_le a
  have l2 := lev_le b
  unfold slc
  generalize lev a = A at *
  generalize lev b = B at *
  clear hx hy
  go_enter Try.func15, Try.ntmps15
  go_wp2_with (go_at_call 25; (first | (with_reducible refine (h1.out _).mono ?_) | (with_reducible refine (h2.out _).mono ?_)); rintro e w' ⟨rfl, rfl⟩)
  go_ret
  exact ⟨by rw [← oj.out]; rfl, rfl⟩
theorem refof_any (n : Int) (w : World) (h0 : 0 ≤ n) (h1 : n < 65536) :
    Calls Try.prog 16 #[.int .u16 n] w fun e w' => e = .returned (.complex .f64 (L (n / 32)) (L n)) ∧ w = w' := by
  have ha := Lib.hid (and1023 n h0 h1)
  have hb := Lib.hid (and31 (n % 1024) (by omega) (by omega))
  go_enter Try.func16, Try.ntmps16
  go_wp2_with fail
  go_ret
  have w3 : ∀ m : Int, 0 ≤ m → m ≤ 31 → wrap64 (wrap64 (2 * wrap64 m) - 31) = 2 * m - 31 := fun m m0 m1 => by
    rw [IntWalk.wrap64_in m (by omega), IntWalk.wrap64_in (2 * m) (by omega), IntWalk.wrap64_in (2 * m - 31) (by omega)]
  refine ⟨congrArg Ending.returned ?_, rfl⟩
  show Value.complex FloatKind.f64 (floatOfInt .f64 (wrap64 (wrap64 (2 * wrap64 (bits .and .u16 n 1023 / 32)) - 31))) (floatOfInt .f64 (wrap64 (wrap64 (2 * wrap64 (bits .and .u16 (bits .and .u16 n 1023) 31)) - 31))) = _
  rw [ha.out, hb.out, w3 _ (by omega) (by omega), w3 _ (by omega) (by omega)]
  unfold L
  rw [show n % 1024 / 32 = n / 32 % 32 by omega, show n % 1024 % 32 = n % 32 by omega]
end Go.Proofs.Ytedpbidijgjkeaa
