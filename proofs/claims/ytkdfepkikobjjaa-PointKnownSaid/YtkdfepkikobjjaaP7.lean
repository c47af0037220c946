/- Statement PointKnown: the law returns true. -/
import Derived.Test.YtkdfepkikobjjaaP6
namespace Go.Proofs.Ytkdfepkikobjjaa
open Go.RowKit Go.Fl

theorem run_frombits (n : Int) (w : World) : (callFunc 22 #[.int .u64 n]).run Try.prog w = .ok (.value (.float .f64 n.toNat)) w := by
  rw [run_callFunc_extern (fn := Try.f22) (e := Extern.MathFloatBits.float64frombits) Try.func22 (by decide +kernel) (by kernel_rfl) (by kernel_rfl) (by kernel_rfl)]
  rfl
theorem nan_call (w : World) : Calls Try.prog 16 #[] w fun e w' => e = .returned (.float .f64 9221120237041090561) ∧ w = w' := by
  have h := run_frombits
  go_enter Try.func16, Try.ntmps16
  go_wp2_with (simp only [h])
  go_ret
  exact ⟨rfl, rfl⟩
theorem inf_call (w : World) : Calls Try.prog 17 #[.int .i64 1] w fun e w' => e = .returned (.float .f64 9218868437227405312) ∧ w = w' := by
  have h := run_frombits
  go_enter Try.func17, Try.ntmps17
  go_wp2_with (simp only [h])
  go_ret
  exact ⟨rfl, rfl⟩

/-- no number -/
def IsNaN (x : Nat) : Prop := ∃ s f, Ieee.double.read x = .nan s f
def nanOf (w : World) (x y : Nat) : Nat := (Question.nanBits .f64 x y).cut (w.tape w.drawn (.nanBits .f64 x y))
theorem nanOf_is (w : World) (x y : Nat) : IsNaN (nanOf w x y) := by
  unfold nanOf Question.cut
  simp only
  generalize w.tape w.drawn (.nanBits .f64 x y) = t
  have h1 : (t / 2) % (2 ^ 52 - 1) < 2 ^ 52 - 1 := Nat.mod_lt _ (by decide)
  generalize (t / 2) % (2 ^ 52 - 1) = r at h1
  have h2 : (2 : Nat) ^ 63 = 9223372036854775808 := rfl
  have h3 : (2 : Nat) ^ 52 = 4503599627370496 := rfl
  unfold IsNaN Ieee.Format.read
  rw [dbl_sign, dbl_binade, dbl_inf]
  have e : (t % 2 * 2 ^ 63 + 9218868437227405312 + 1 + r) % 9223372036854775808 = 9218868437227405312 + 1 + r := by omega
  dsimp only
  rw [e, if_neg (by omega), if_neg (by omega), if_neg (by omega)]
  exact ⟨_, _, rfl⟩
theorem run_float_nan {P : Program} (w : World) (op : BinOp) (hop : op = .add ∨ op = .quo) (t : TypeId) (x y : Nat) (h : floatBits op .f64 x y = none) :
    (binOp op t (.float .f64 x) (.float .f64 y)).run P w = .ok (.float .f64 (nanOf w x y)) w.drew := by
  unfold floatBits at h
  rcases hop with rfl | rfl <;> simp only at h <;> simp [binOp, Op.floatArith, h, nanOf, Question.forced]
theorem nan_quo {x : Nat} (h : IsNaN x) (y : Nat) : floatBits .quo .f64 x y = none := by
  obtain ⟨s, f, h⟩ := h
  show ((Ieee.double.read x).quotient _ (Ieee.double.read y)).map _ = none
  rw [h]; rfl
theorem nan_add {x : Nat} (h : IsNaN x) {y s : Nat} {b : Bool} {p : Int} (hy : Ieee.double.read y = .number b s p) : floatBits .add .f64 y x = none := by
  obtain ⟨s, f, h⟩ := h
  show ((Ieee.double.read y).sum (Ieee.double.read x)).map _ = none
  rw [h, hy]; rfl
theorem nan_order {x : Nat} (h : IsNaN x) (y : Nat) : FloatKind.f64.format.order x y = none := by
  obtain ⟨s, f, h⟩ := h
  show (Ieee.double.read x).order (Ieee.double.read y) = none
  rw [h]; rfl

set_option maxHeartbeats 400000 in
theorem nearest_nan (x : Nat) (hx : IsNaN x) (w : World) :
    Calls Try.prog 20 #[.float .f64 x] w fun e w' => e = .returned (.int .u16 0) ∧ w.drew.drew = w' := by
  have hop := fun t => run_float_nan (P := Try.prog) w .quo (Or.inr rfl) t x 4611686018427387904 (nan_quo hx _)
  have i1 := nanOf_is w x 4611686018427387904
  generalize nanOf w x 4611686018427387904 = n1 at hop i1
  have hop2 := fun t => run_float_nan (P := Try.prog) w.drew .add (Or.inl rfl) t 4625196817309499392 n1 (nan_add i1 (y := 4625196817309499392) (b := false) (s := 4503599627370496) (p := -48) (by decide +kernel))
  have i2 := nanOf_is w.drew 4625196817309499392 n1
  generalize nanOf w.drew 4625196817309499392 n1 = n2 at hop2 i2
  have o1 : (FloatKind.f64.format.order n2 4629418941960159232 == some .gt || FloatKind.f64.format.order n2 4629418941960159232 == some .eq) = false := by rw [nan_order i2]; rfl
  have o2 : (FloatKind.f64.format.order n2 0 == some .gt) = false := by rw [nan_order i2]; rfl
  go_enter Try.func20, Try.ntmps20
  go_wp2_with (first | simp only [hop] | simp only [hop2])
  go_ret
  exact ⟨rfl, rfl⟩

set_option maxHeartbeats 400000 in
theorem nearest_inf (w : World) : Calls Try.prog 20 #[.float .f64 9218868437227405312] w fun e w' => e = .returned (.int .u16 31) ∧ w = w' := by
  have hop := fun t w => run_float_arith (P := Try.prog) w .quo t .f64 9218868437227405312 4611686018427387904 9218868437227405312 (by decide +kernel)
  have hop2 := fun t w => run_float_arith (P := Try.prog) w .add t .f64 4625196817309499392 9218868437227405312 9218868437227405312 (by decide +kernel)
  have o1 : (FloatKind.f64.format.order 9218868437227405312 4629418941960159232 == some .gt || FloatKind.f64.format.order 9218868437227405312 4629418941960159232 == some .eq) = true := by decide +kernel
  go_enter Try.func20, Try.ntmps20
  go_wp2_with (first | simp only [hop] | simp only [hop2])
  go_ret
  exact ⟨rfl, rfl⟩
set_option maxHeartbeats 400000 in
theorem nearest_minf (w : World) : Calls Try.prog 20 #[.float .f64 18442240474082181120] w fun e w' => e = .returned (.int .u16 0) ∧ w = w' := by
  have hop := fun t w => run_float_arith (P := Try.prog) w .quo t .f64 18442240474082181120 4611686018427387904 18442240474082181120 (by decide +kernel)
  have hop2 := fun t w => run_float_arith (P := Try.prog) w .add t .f64 4625196817309499392 18442240474082181120 18442240474082181120 (by decide +kernel)
  have o1 : (FloatKind.f64.format.order 18442240474082181120 4629418941960159232 == some .gt || FloatKind.f64.format.order 18442240474082181120 4629418941960159232 == some .eq) = false := by decide +kernel
  have o2 : (FloatKind.f64.format.order 18442240474082181120 0 == some .gt) = false := by decide +kernel
  go_enter Try.func20, Try.ntmps20
  go_wp2_with (first | simp only [hop] | simp only [hop2])
  go_ret
  exact ⟨rfl, rfl⟩
theorem is_nan1 : IsNaN 9221120237041090561 := ⟨false, 2251799813685249, by decide +kernel⟩

set_option maxHeartbeats 400000 in
theorem slice_naninf (w : World) : Calls Try.prog 12 #[.complex .f64 9221120237041090561 9218868437227405312] w fun e w' => e = .returned (.int .u16 31) ∧ w.drew.drew = w' := by
  have oj := Lib.hid (or_join 0 31 (by omega) (by omega))
  go_enter Try.func12, Try.ntmps12
  go_wp2_with (first | (go_at_call 20; (with_reducible refine (nearest_nan 9221120237041090561 is_nan1 _).mono ?_); rintro e w' ⟨rfl, rfl⟩) | (go_at_call 20; (with_reducible refine (nearest_inf _).mono ?_); rintro e w' ⟨rfl, rfl⟩))
  go_ret
  exact ⟨by show Ending.returned (Value.int .u16 _) = _; rw [show bits .or .u16 0 31 = 31 by decide +kernel], rfl⟩
set_option maxHeartbeats 400000 in
theorem slice_minfnan (w : World) : Calls Try.prog 12 #[.complex .f64 18442240474082181120 9221120237041090561] w fun e w' => e = .returned (.int .u16 0) ∧ w.drew.drew = w' := by
  have oj := Lib.hid (or_join 0 31 (by omega) (by omega))
  go_enter Try.func12, Try.ntmps12
  go_wp2_with (first | (go_at_call 20; (with_reducible refine (nearest_nan 9221120237041090561 is_nan1 _).mono ?_); rintro e w' ⟨rfl, rfl⟩) | (go_at_call 20; (with_reducible refine (nearest_minf _).mono ?_); rintro e w' ⟨rfl, rfl⟩))
  go_ret
  exact ⟨by show Ending.returned (Value.int .u16 _) = _; rw [show bits .or .u16 0 0 = 0 by decide +kernel], rfl⟩

theorem near_eps : Near 13785518459381088256 15 := by
  refine ⟨by omega, fun w => ?_⟩
  have i : Is 13785518459381088256 (-1 / 1024) := ⟨true, 4503599627370496, -62, by decide +kernel, by decide +kernel⟩
  have p11 : pw (-11) = 1 / 2048 := by decide +kernel
  obtain ⟨q, e1, i1⟩ := div_exact i is_two (c := ((-1 : Int) : Rat) * pw (-11)) (by decide) (by decide +kernel) (rep_units (-1) (-11) (by decide) (by decide) (by decide))
  obtain ⟨n, e2, i2⟩ := add_exact is_sixteen i1 (c := ((32767 : Int) : Rat) * pw (-11)) (by decide +kernel) (rep_units 32767 (-11) (by decide) (by decide) (by decide))
  exact nearest_mid 13785518459381088256 q n 15 w e1 e2 _ i2 (by decide +kernel) (by decide +kernel) (by decide +kernel) (by decide +kernel) (by omega)
theorem near_k : Near 4652007308841189376 31 := near_of _ 1000 31 ⟨false, 8796093022208000, -43, by decide +kernel, by decide +kernel⟩ (by omega) (by omega) (by omega) (by omega) (by omega)
theorem near_mk : Near 13875379345695965184 0 := near_of _ (-1000) 0 ⟨true, 8796093022208000, -43, by decide +kernel, by decide +kernel⟩ (by omega) (by omega) (by omega) (by omega) (by omega)
theorem near_2 : Near 4611686018427387904 17 := near_of _ 2 17 is_two (by omega) (by omega) (by omega) (by omega) (by omega)
theorem near_m2 : Near 13835058055282163712 15 := near_of _ (-2) 15 is_m2 (by omega) (by omega) (by omega) (by omega) (by omega)
theorem near_33 : Near 4629841154425225216 31 := near_of _ 33 31 ⟨false, 4644337115725824, -47, by decide +kernel, by decide +kernel⟩ (by omega) (by omega) (by omega) (by omega) (by omega)
theorem near_m31 : Near 13852790978814935040 0 := near_of _ (-31) 0 ⟨true, 8725724278030336, -48, by decide +kernel, by decide +kernel⟩ (by omega) (by omega) (by omega) (by omega) (by omega)
theorem near_31 : Near 4629418941960159232 31 := near_of _ 31 31 is_top (by omega) (by omega) (by omega) (by omega) (by omega)

theorem ans_of (n : Int) (n0 : 0 ≤ n) (n1 : n < 65536) (a b : Nat) (ha : L (n / 32) = a) (hb : L n = b) : ∀ w, Calls Try.prog 11 #[.int .u16 n] w fun e w' => e = .returned (.complex .f64 a b) ∧ w = w' := fun w => by subst ha; subst hb; exact of_any n w n0 n1
theorem ans_slice (x y a b : Nat) (v : Int) (hx : Near x a) (hy : Near y b) (hv : v = 32 * (a : Int) + b) : ∀ w, Calls Try.prog 12 #[.complex .f64 x y] w fun e w' => e = .returned (.int .u16 v) ∧ w = w' := fun w => by subst hv; exact slice_any x y a b w hx hy
theorem ans_grid (x y a b : Nat) (v : Bool) (hx : Near x a) (hy : Near y b) (hv : (FloatKind.f64.format.order x (L a) == some .eq && FloatKind.f64.format.order y (L b) == some .eq) = v) : ∀ w, Calls Try.prog 13 #[.complex .f64 x y] w fun e w' => e = .returned (.bool v) ∧ w = w' := fun w => by subst hv; exact grid_any x y a b w hx hy
theorem ans_gray (n v : Int) (n0 : 0 ≤ n) (n1 : n < 65536) (hv : 32 * gI (n / 32 % 32) + gI (n % 32) = v) : ∀ w, Calls Try.prog 15 #[.int .u16 n] w fun e w' => e = .returned (.int .u16 v) ∧ w = w' := fun w => by subst hv; exact Gray_any n w n0 n1

set_option maxHeartbeats 8000000 in
theorem known_any (w : World) : Calls Try.prog 5 #[] w fun e w' => e = .returned (.bool true) ∧ Grown w w' := by
  have a1 := Lib.hid (ans_of 1024 (by omega) (by omega) 13852790978814935040 13852790978814935040 (by decide +kernel) (by decide +kernel))
  have a2 := Lib.hid (ans_of 0 (by omega) (by omega) 13852790978814935040 13852790978814935040 (by decide +kernel) (by decide +kernel))
  have a3 := Lib.hid (ans_of 33 (by omega) (by omega) 13852228028861513728 13852228028861513728 (by decide +kernel) (by decide +kernel))
  have b1 := Lib.hid (ans_slice 0 0 16 16 528 near_zero near_zero (by decide))
  have b2 := Lib.hid (ans_slice _ _ 15 15 495 near_eps near_eps (by decide))
  have b3 := Lib.hid (ans_slice _ _ 31 0 992 near_k near_mk (by decide))
  have b4 := Lib.hid (ans_slice _ _ 17 15 559 near_2 near_m2 (by decide))
  have c1 := Lib.hid (ans_grid _ _ 31 16 false near_33 near_one (by decide +kernel))
  have c2 := Lib.hid (ans_grid _ _ 16 17 false near_one near_2 (by decide +kernel))
  have c3 := Lib.hid (ans_grid _ _ 0 31 true near_m31 near_31 (by decide +kernel))
  have d1 := Lib.hid (ans_gray 0 0 (by omega) (by omega) (by decide +kernel))
  have d2 := Lib.hid (ans_gray 1 1 (by omega) (by omega) (by decide +kernel))
  have d3 := Lib.hid (ans_gray 2 3 (by omega) (by omega) (by decide +kernel))
  have d4 := Lib.hid (ans_gray 31 16 (by omega) (by omega) (by decide +kernel))
  have d5 := Lib.hid (ans_gray 1023 528 (by omega) (by omega) (by decide +kernel))
  have o1 : Hid (∀ w, Calls Try.prog 14 #[.int .u16 0, .complex .f64 0 0] w fun e w' => e = .returned (.complex .f64 4629418941960159232 4629418941960159232) ∧ w = w') := fun w => off_any 0 0 0 _ _ w (by omega) (by omega) (by decide +kernel)
  have q1 : (FloatKind.f64.format.order 13852790978814935040 13852790978814935040 == some .eq) = true := by decide +kernel
  have q2 : (FloatKind.f64.format.order 13852228028861513728 13852228028861513728 == some .eq) = true := by decide +kernel
  have q3 : (FloatKind.f64.format.order 4629418941960159232 4629418941960159232 == some .eq) = true := by decide +kernel
  have hneg : ∀ w, (Op.unary .neg (.float .f64 9218868437227405312)).run Try.prog w = .ok (.float .f64 18442240474082181120) w := fun w => by kernel_rfl
  go_enter Try.func5, Try.ntmps5
  go_wp2_with (first | (go_at_call 10; (with_reducible refine (awake_true _).mono ?_); rintro e w' ⟨rfl, rfl⟩) | (go_at_call 16; (with_reducible refine (nan_call _).mono ?_); rintro e w' ⟨rfl, rfl⟩) | (go_at_call 17; (with_reducible refine (inf_call _).mono ?_); rintro e w' ⟨rfl, rfl⟩) | (go_at_call 12; (with_reducible refine (slice_naninf _).mono ?_); rintro e w' ⟨rfl, rfl⟩) | (go_at_call 12; (with_reducible refine (slice_minfnan _).mono ?_); rintro e w' ⟨rfl, rfl⟩) | (go_at_call 11; (with_reducible refine (a1.out _).mono ?_); rintro e w' ⟨rfl, rfl⟩) | (go_at_call 11; (with_reducible refine (a2.out _).mono ?_); rintro e w' ⟨rfl, rfl⟩) | (go_at_call 11; (with_reducible refine (a3.out _).mono ?_); rintro e w' ⟨rfl, rfl⟩) | (go_at_call 12; (with_reducible refine (b1.out _).mono ?_); rintro e w' ⟨rfl, rfl⟩) | (go_at_call 12; (with_reducible refine (b2.out _).mono ?_); rintro e w' ⟨rfl, rfl⟩) | (go_at_call 12; (with_reducible refine (b3.out _).mono ?_); rintro e w' ⟨rfl, rfl⟩) | (go_at_call 12; (with_reducible refine (b4.out _).mono ?_); rintro e w' ⟨rfl, rfl⟩) | (go_at_call 13; (with_reducible refine (c1.out _).mono ?_); rintro e w' ⟨rfl, rfl⟩) | (go_at_call 13; (with_reducible refine (c2.out _).mono ?_); rintro e w' ⟨rfl, rfl⟩) | (go_at_call 13; (with_reducible refine (c3.out _).mono ?_); rintro e w' ⟨rfl, rfl⟩) | (go_at_call 15; (with_reducible refine (d1.out _).mono ?_); rintro e w' ⟨rfl, rfl⟩) | (go_at_call 15; (with_reducible refine (d2.out _).mono ?_); rintro e w' ⟨rfl, rfl⟩) | (go_at_call 15; (with_reducible refine (d3.out _).mono ?_); rintro e w' ⟨rfl, rfl⟩) | (go_at_call 15; (with_reducible refine (d4.out _).mono ?_); rintro e w' ⟨rfl, rfl⟩) | (go_at_call 15; (with_reducible refine (d5.out _).mono ?_); rintro e w' ⟨rfl, rfl⟩) | (go_at_call 14; (with_reducible refine (o1.out _).mono ?_); rintro e w' ⟨rfl, rfl⟩))
  go_ret
  exact ⟨rfl, (((Grown.refl _).drew).drew).drew.drew⟩
end Go.Proofs.Ytkdfepkikobjjaa
namespace Go.Proofs.Ytkdfepkikobjjaa.pointKnown
open Go.ChangeShapes Go.WideShapes Go.ChangeAt Go.RowKit
set_option linter.unusedVariables false

theorem own : ownKnob Try.prog.godebug = none := by kernel_rfl

theorem walk  (w : World) :
    Calls Try.prog 5 #[] w fun e w' => e = .returned (.bool true) ∧ Grown w w' := known_any  w

set_option maxRecDepth 100000 in
theorem lifted (os : Os) (started : os.Started) (H : Type) (enc : TypeId × Value → H) :
    ReturnsInHanded {} Try.checked os 5 .any (Rows.pointKnownSpec.pre6 enc Try.prog Try.f5 Rows.pointKnownRow.domain false) (Rows.pointKnownSpec.post enc Try.prog Try.f5 false true false false) := by
  refine returnsInHanded_of_change (C := Try.checked) own started (by kernel_rfl) Try.func5
    (ChangeSpec.witness6 (enc := enc) (C := Try.checked) false ⟨#[], #[], []⟩ 8 (by kernel_rfl) (by kernel_rfl) (by kernel_rfl) (by kernel_rfl)) ?_
  intro W base args ds gs before hval0 hW hcnd _
  have hval : ∀ (j : Nat) t v, Try.f5.params[j]? = some t → args[j]? = some v → Value.okWide Try.prog W .any base t v := hval0
  have hW' := hW
  obtain ⟨p, q, hA0, hV, rfl, hfz, hnd⟩ := hW
  have hA : DataW.TrodAll enc Try.prog W 0 (fun _ => true) true Try.f5.params.toList args.toList ds p := hA0
  rw [Try.params5] at hA hval
  obtain ⟨hargs, rfl, rfl⟩ := trodAll_nil hA
  obtain rfl : args = #[] := by cases args; simp_all
  obtain ⟨rfl, rfl⟩ := trodVars_none hV
  clear hA0 hval0
  simp only [List.append_nil] at hW'
  refine (walk  W).mono fun e W' ⟨he, hg⟩ => ?_
  subst he
  exact ⟨_, rfl, post_of_same (pa := []) (pv := []) hW' (fun _ _ _ => (trodAll_cons_mk (shut_bool Try.underlying4 _) trodAll_mk0)) (fun sp _ => rfl) (fun _ _ => rfl) rfl
    (hg.frame _) hg.2.1 (ok_one (by kernel_rfl) rfl (okWide_bool_mk Try.underlying4 _))⟩

theorem over : Rows.pointKnownRow.holds Try.pinned (OpenSpec.ofChange Rows.pointKnownSpec) :=
  OpenClaim.holds_of_wide 5 Try.f5 rfl rfl rfl rfl rfl rfl rfl ⟨rfl, rfl, rfl, rfl, rfl⟩ rfl rfl rfl rfl rfl (by kernel_rfl) Try.func5 (by kernel_rfl)
    (of_decide_eq_true (by kernel_rfl)) (by unfold Func.isWrapper; first | (rw [if_pos (by decide +kernel)]; kernel_rfl) | (rw [if_neg (by decide +kernel)]; exact ⟨rfl, rfl⟩))
    (fun os started H enc _ => lifted os started H enc)

/-- THE STATEMENT -/
theorem proved : Rows.PointKnownSaid := over
end Go.Proofs.Ytkdfepkikobjjaa.pointKnown
