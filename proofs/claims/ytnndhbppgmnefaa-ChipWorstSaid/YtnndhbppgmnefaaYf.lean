/- What a part of a move may be, and a part of a point. -/
import Derived.Test.YtnndhbppgmnefaaYe
import Derived.Test.YtnndhbppgmnefaaFr
namespace Go.Proofs.Ytnndhbppgmnefaa
open Go.RowKit Go.Gf Go.Fl
set_option linter.unusedVariables false
set_option linter.unusedSimpArgs false
theorem trunc_any {x : Nat} {q : Rat} (hx : Is x q) (b1 : -4503599627370496 ≤ q) (b2 : q ≤ 4503599627370496) :
    ∃ (r : Nat) (t : Int), Is r (t : Rat) ∧ (∀ a : Int, q = (a : Rat) → t = a) ∧ ∀ w, Calls Try.prog 63 #[.float .f64 x] w fun e w' => e = .returned (.float .f64 r) ∧ w = w' := by
  obtain ⟨s, m, p, r, t, hd, he, hr, ht⟩ := trunc_is hx b1 b2
  have h : ∀ w, (callFunc 84 #[.float .f64 x]).run Try.prog w = .ok (.value (.float .f64 r)) w := fun w => by
    rw [run_callFunc_extern (fn := Try.f84) (e := Extern.MathFloor.toIntegral "math.archTrunc" .zero) Try.func84 (by decide +kernel) (by kernel_rfl) (by kernel_rfl) (by kernel_rfl)]
    rw [run_integral hd, he]
    rfl
  refine ⟨r, t, hr, ht, fun w => ?_⟩
  clear hd he hr ht hx b1 b2
  go_enter Try.func63, Try.ntmps63
  go_wp2_with (simp only [h])
  go_ret
  exact ⟨rfl, rfl⟩
theorem abs_any {x : Nat} {q : Rat} (hx : Is x q) : ∃ (r : Nat) (v : Rat), Is r v ∧ 0 ≤ v ∧ (q = v ∨ q = -v) ∧ ∀ w, Calls Try.prog 64 #[.float .f64 x] w fun e w' => e = .returned (.float .f64 r) ∧ w = w' := by
  obtain ⟨v, hv, h0, hq⟩ := abs_is hx
  refine ⟨_, v, hv, h0, hq, fun w => ?_⟩
  have hb := abs_bits x
  have h1 : ∀ w, (callFunc 87 #[.float .f64 x]).run Try.prog w = .ok (.value (.int .u64 x)) w := fun w => by
    rw [run_callFunc_extern (fn := Try.f87) (e := Extern.MathFloatBits.float64bits) Try.func87 (by decide +kernel) (by kernel_rfl) (by kernel_rfl) (by kernel_rfl)]
    rfl
  have h2 : ∀ (n : Nat) w, (callFunc 86 #[.int .u64 (n : Int)]).run Try.prog w = .ok (.value (.float .f64 n)) w := fun n w => by
    rw [run_callFunc_extern (fn := Try.f86) (e := Extern.MathFloatBits.float64frombits) Try.func86 (by decide +kernel) (by kernel_rfl) (by kernel_rfl) (by kernel_rfl)]
    rfl
  clear hx hv h0 hq
  generalize x % 9223372036854775808 = y at *
  go_enter Try.func64, Try.ntmps64
  go_wp2_with (first | simp only [h1] | simp only [h2])
  go_ret
  exact ⟨rfl, rfl⟩
theorem is_62 : Is 4633922541587529728 (((62 : Int) : Int) : Rat) := ⟨false, 8725724278030336, -47, by decide +kernel, by decide +kernel⟩
theorem is_1000 : Is 4652007308841189376 (((1000 : Int) : Int) : Rat) := ⟨false, 8796093022208000, -43, by decide +kernel, by decide +kernel⟩
theorem ord_le {n t : Nat} {a b : Rat} (ha : Is n a) (hb : Is t b) : (FloatKind.f64.format.order n t == some .lt || FloatKind.f64.format.order n t == some .eq) = decide (a ≤ b) := by
  by_cases h : a ≤ b
  · rcases Rat.le_iff_lt_or_eq.1 h with h' | h'
    · rw [f64f, order_lt ha hb h']; simp [h]
    · rw [f64f, order_eq ha hb h']; simp [h]
  · rw [f64f, order_gt ha hb (Rat.not_le.1 h)]; simp [h]
/-- at most so far from nought -/
theorem abs_le_iff {q v : Rat} {a c : Int} (h0 : 0 ≤ v) (hq : q = v ∨ q = -v) (ha : q = (a : Rat)) : v ≤ (c : Rat) ↔ -c ≤ a ∧ a ≤ c := by
  have e1 : a ≤ c ↔ q ≤ (c : Rat) := by rw [ha]; exact Rat.intCast_le_intCast.symm
  have e2 : -c ≤ a ↔ -(c : Rat) ≤ q := by rw [ha, ← Rat.intCast_neg]; exact Rat.intCast_le_intCast.symm
  rw [e1, e2]
  constructor
  · intro h
    rcases hq with hq | hq <;> constructor <;> grind
  · rintro ⟨h1, h2⟩
    rcases hq with hq | hq <;> grind
theorem near_any {x : Nat} {a : Int} (hx : Is x (a : Rat)) (w : World) : Calls Try.prog 50 #[.float .f64 x] w fun e w' => e = .returned (.bool (decide (-1000 ≤ a ∧ a ≤ 1000))) ∧ w = w' := by
  obtain ⟨r, v, hr, h0, hq, hc⟩ := abs_any hx
  have o := ord_le hr is_1000
  have e : decide (v ≤ ((1000 : Int) : Rat)) = decide (-1000 ≤ a ∧ a ≤ 1000) := by rw [decide_eq_decide]; exact abs_le_iff h0 hq rfl
  rw [e] at o
  replace hc := Lib.hid hc
  clear hr h0 hq hx e
  generalize decide (-1000 ≤ a ∧ a ≤ 1000) = B at *
  go_enter Try.func50, Try.ntmps50
  go_wp2_with (go_at_call 64; (with_reducible refine (hc.out _).mono ?_); rintro e w1 ⟨rfl, rfl⟩)
  go_ret
  exact ⟨rfl, rfl⟩
theorem move_any {x : Nat} {q : Rat} (hx : Is x q) (b1 : -4503599627370496 ≤ q) (b2 : q ≤ 4503599627370496) (B : Bool) (hB : B = true ↔ ∃ a : Int, q = (a : Rat) ∧ -62 ≤ a ∧ a ≤ 62) (w : World) :
    Calls Try.prog 49 #[.float .f64 x] w fun e w' => e = .returned (.bool B) ∧ w = w' := by
  obtain ⟨r, t, hr, ht, hc1⟩ := trunc_any hx b1 b2
  obtain ⟨y, v, hy, h0, hq, hc2⟩ := abs_any hx
  have o1 := ord_eq_b hx hr
  have o2 := ord_le hy is_62
  replace hc1 := Lib.hid hc1
  replace hc2 := Lib.hid hc2
  by_cases hw : q = (t : Rat)
  · rw [decide_eq_true hw] at o1
    have e : decide (v ≤ ((62 : Int) : Rat)) = B := by
      rw [Bool.eq_iff_iff, hB, decide_eq_true_eq, abs_le_iff h0 hq hw]
      constructor
      · exact fun h => ⟨t, hw, h⟩
      · rintro ⟨a, ha, h⟩
        rw [ht a ha]; exact h
    rw [e] at o2
    clear hB e hw ht hr hy h0 hq b1 b2 hx
    go_enter Try.func49, Try.ntmps49
    go_wp2_with (first | (go_at_call 63; (with_reducible refine (hc1.out _).mono ?_); rintro e w1 ⟨rfl, rfl⟩) | (go_at_call 64; (with_reducible refine (hc2.out _).mono ?_); rintro e w1 ⟨rfl, rfl⟩))
    go_ret
    exact ⟨rfl, rfl⟩
  · rw [decide_eq_false hw] at o1
    obtain rfl : B = false := by
      rw [Bool.eq_false_iff]
      intro e
      obtain ⟨a, ha, _⟩ := hB.1 e
      exact hw (by rw [ht a ha]; exact ha)
    clear hB o2 hw ht hr hy h0 hq b1 b2 hx
    go_enter Try.func49, Try.ntmps49
    go_wp2_with (first | (go_at_call 63; (with_reducible refine (hc1.out _).mono ?_); rintro e w1 ⟨rfl, rfl⟩) | (go_at_call 64; (with_reducible refine (hc2.out _).mono ?_); rintro e w1 ⟨rfl, rfl⟩))
    go_ret
    exact ⟨rfl, rfl⟩
/-- both parts hold -/
theorem each_any {x y : Nat} {f : Nat} {B1 B2 : Bool} (hx : ∀ w, Calls Try.prog f #[.float .f64 x] w fun e w' => e = .returned (.bool B1) ∧ w = w') (hy : B1 = true → ∀ w, Calls Try.prog f #[.float .f64 y] w fun e w' => e = .returned (.bool B2) ∧ w = w') (hf : f = 49 ∨ f = 50) (w : World) :
    Calls Try.prog 48 #[.complex .f64 x y, .func (.func f) #[] #[]] w fun e w' => e = .returned (.bool (B1 && B2)) ∧ w = w' := by
  replace hx := Lib.hid hx
  rcases hf with rfl | rfl
  · cases B1
    · clear hy
      go_enter Try.func48, Try.ntmps48
      go_wp2_with (go_at_call 49; (with_reducible refine (hx.out _).mono ?_); rintro e w1 ⟨rfl, rfl⟩)
      go_ret
      exact ⟨rfl, rfl⟩
    · replace hy := Lib.hid (hy rfl)
      go_enter Try.func48, Try.ntmps48
      go_wp2_with (first | (go_at_call 49; (with_reducible refine (hx.out _).mono ?_); rintro e w1 ⟨rfl, rfl⟩) | (go_at_call 49; (with_reducible refine (hy.out _).mono ?_); rintro e w1 ⟨rfl, rfl⟩))
      go_ret
      exact ⟨rfl, rfl⟩
  · cases B1
    · clear hy
      go_enter Try.func48, Try.ntmps48
      go_wp2_with (go_at_call 50; (with_reducible refine (hx.out _).mono ?_); rintro e w1 ⟨rfl, rfl⟩)
      go_ret
      exact ⟨rfl, rfl⟩
    · replace hy := Lib.hid (hy rfl)
      go_enter Try.func48, Try.ntmps48
      go_wp2_with (first | (go_at_call 50; (with_reducible refine (hx.out _).mono ?_); rintro e w1 ⟨rfl, rfl⟩) | (go_at_call 50; (with_reducible refine (hy.out _).mono ?_); rintro e w1 ⟨rfl, rfl⟩))
      go_ret
      exact ⟨rfl, rfl⟩
end Go.Proofs.Ytnndhbppgmnefaa
