/- The reference's Of and Slice, of symbols and of whole points. -/
import Derived.Test.YtnndhbppgmnefaaWp
import Derived.Test.YtnndhbppgmnefaaFq
namespace Go.Proofs.Ytnndhbppgmnefaa
open Go.RowKit Go.Fl
set_option linter.unusedVariables false
set_option linter.unusedSimpArgs false

/-- the five bits that a whole part is nearest to -/
def lev (n : Int) : Int := max 0 (min 31 ((32 + n) / 2))
theorem lev_le (n : Int) : 0 ≤ lev n ∧ lev n ≤ 31 := by unfold lev; omega
theorem ord_lt_b' {n t : Nat} {a b : Rat} (ha : Is n a) (hb : Is t b) : (FloatKind.f64.format.order n t == some .lt) = decide (a < b) := by
  by_cases h : a < b
  · rw [f64f, order_lt ha hb h]; simp [h]
  · rcases Rat.le_iff_lt_or_eq.1 (Rat.not_lt.1 h) with h' | h'
    · rw [f64f, order_gt ha hb h']; simp [h]
    · rw [f64f, order_eq ha hb h'.symm]; simp [h]
theorem ord_gt_b' {n t : Nat} {a b : Rat} (ha : Is n a) (hb : Is t b) : (FloatKind.f64.format.order n t == some .gt) = decide (b < a) := by
  by_cases h : b < a
  · rw [f64f, order_gt ha hb h]; simp [h]
  · rcases Rat.le_iff_lt_or_eq.1 (Rat.not_lt.1 h) with h' | h'
    · rw [f64f, order_lt ha hb h']; simp [h]
    · rw [f64f, order_eq ha hb h']; simp [h]
/-- 16 and half of a whole number -/
theorem half_up {x : Nat} {n : Int} (hx : Is x (n : Rat)) (b1 : -1099511627776 ≤ n) (b2 : n ≤ 1099511627776) :
    ∃ q v, floatBits .quo .f64 x 4611686018427387904 = some q ∧ floatBits .add .f64 4625196817309499392 q = some v ∧ Is v (((32 + n : Int) : Rat) * pw (-1)) := by
  have e1 : pw (-1) = 1 / 2 := by decide +kernel
  obtain ⟨q, hq, iq⟩ := div_exact (c := (n : Rat) * pw (-1)) hx is_two (by decide +kernel) (by rw [e1]; grind) (rep_units n (-1) (by omega) (by omega) (by omega))
  obtain ⟨v, hv, iv⟩ := add_exact (c := ((32 + n : Int) : Rat) * pw (-1)) is_sixteen iq (by
    rw [e1, Rat.intCast_add]
    have : ((32 : Int) : Rat) = 32 := rfl
    rw [this]; grind) (rep_units (32 + n) (-1) (by omega) (by omega) (by omega))
  exact ⟨q, v, hq, hv, iv⟩
theorem half_floor (n : Int) : (((32 + n) / 2 : Int) : Rat) ≤ ((32 + n : Int) : Rat) * pw (-1) ∧ ((32 + n : Int) : Rat) * pw (-1) < (((32 + n) / 2 + 1 : Int) : Rat) := by
  have e1 : pw (-1) = 1 / 2 := by decide +kernel
  generalize 32 + n = m
  have h1 : 2 * (m / 2) ≤ m := by omega
  have h2 : m < 2 * (m / 2 + 1) := by omega
  generalize m / 2 = k at *
  have c1 := Rat.intCast_le_intCast.2 h1
  have c2 := Rat.intCast_lt_intCast.2 h2
  rw [Rat.intCast_mul] at c1 c2
  have : ((2 : Int) : Rat) = 2 := rfl
  rw [this] at c1 c2
  rw [e1]
  constructor <;> grind
theorem or_join_int (a b : Int) (ha : 0 ≤ a ∧ a ≤ 31) (hb : 0 ≤ b ∧ b ≤ 31) : bits .or .u16 (a * 32) b = 32 * a + b := by
  obtain ⟨a, rfl⟩ : ∃ k : Nat, a = (k : Int) := ⟨a.toNat, by omega⟩
  obtain ⟨b, rfl⟩ : ∃ k : Nat, b = (k : Int) := ⟨b.toNat, by omega⟩
  exact or_join a b (by omega) (by omega)
/-- the symbol that a whole point is nearest to -/
def slc (a b : Int) : Int := 32 * lev a + lev b
theorem refof_any (n : Int) (w : World) (h0 : 0 ≤ n) (h1 : n < 65536) :
    Calls Try.prog 25 #[.int .u16 n] w fun e w' => e = .returned (.complex .f64 (L (n / 32)) (L n)) ∧ w = w' := by
  have ha := Lib.hid (and1023 n h0 h1)
  have hb := Lib.hid (and31 (n % 1024) (by omega) (by omega))
  go_enter Try.func25, Try.ntmps25
  go_wp2_with fail
  go_ret
  have w3 : ∀ m : Int, 0 ≤ m → m ≤ 31 → wrap64 (wrap64 (2 * wrap64 m) - 31) = 2 * m - 31 := fun m m0 m1 => by
    rw [IntWalk.wrap64_in m (by omega), IntWalk.wrap64_in (2 * m) (by omega), IntWalk.wrap64_in (2 * m - 31) (by omega)]
  refine ⟨congrArg Ending.returned ?_, rfl⟩
  show Value.complex FloatKind.f64 (floatOfInt .f64 (wrap64 (wrap64 (2 * wrap64 (bits .and .u16 n 1023 / 32)) - 31))) (floatOfInt .f64 (wrap64 (wrap64 (2 * wrap64 (bits .and .u16 (bits .and .u16 n 1023) 31)) - 31))) = _
  rw [ha.out, hb.out, w3 _ (by omega) (by omega), w3 _ (by omega) (by omega)]
  unfold L
  rw [show n % 1024 / 32 = n / 32 % 32 by omega, show n % 1024 % 32 = n % 32 by omega]
end Go.Proofs.Ytnndhbppgmnefaa
