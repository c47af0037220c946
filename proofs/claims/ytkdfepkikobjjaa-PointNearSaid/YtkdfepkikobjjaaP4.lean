/- Statement PointOffs: for every number and every pair of whole numbers the law returns true. -/
import Derived.Test.YtkdfepkikobjjaaP1
import Derived.Test.YtkdfepkikobjjaaArr
namespace Go.Proofs.Ytkdfepkikobjjaa
open Go.RowKit Go.Fl

theorem i16_bd {a : Int} (h : (Lit.int .i16 a).wf = true) : -32768 ≤ a ∧ a ≤ 32767 := by
  simp [Lit.wf, IntKind.min, IntKind.max, IntKind.signed, IntKind.bits] at h; omega

set_option maxHeartbeats 4000000 in
theorem offs_core (s S x y : Int) (re im re2 im2 z1 z2 : Nat) (b1 b2 : Bool) (w : World)
    (hS : bits .and .u16 s 1023 = S) (s0 : 0 ≤ s) (s1 : s < 65536) (S0 : 0 ≤ S) (S1 : S < 1024) (_x0 : -32768 ≤ x) (_x1 : x ≤ 32767) (_y0 : -32768 ≤ y) (_y1 : y ≤ 32767)
    (h1 : cSumBits .sub .f64 (floatOfInt .f64 x) (floatOfInt .f64 y) (L (s / 32)) (L s) = some (re, im))
    (h2 : cSumBits .add .f64 re im (L (s / 32)) (L s) = some (re2, im2))
    (h3 : cSumBits .sub .f64 (L (s / 32)) (L s) (L (s / 32)) (L s) = some (z1, z2))
    (e1 : (FloatKind.f64.format.order re2 (floatOfInt .f64 x) == some .eq) = true) (e2 : (FloatKind.f64.format.order im2 (floatOfInt .f64 y) == some .eq) = true)
    (e3 : (FloatKind.f64.format.order z1 0 == some .eq) = true) (e4 : (FloatKind.f64.format.order z2 0 == some .eq) = true)
    (e5 : (FloatKind.f64.format.order re 0 == some .eq) = b1) (e6 : (FloatKind.f64.format.order im 0 == some .eq) = b2)
    (e7 : (FloatKind.f64.format.order (floatOfInt .f64 x) (L (s / 32)) == some .eq) = b1) (e8 : (FloatKind.f64.format.order (floatOfInt .f64 y) (L s) == some .eq) = b2)
    (e9 : (FloatKind.f64.format.order (L (s / 32)) (L (S / 32)) == some .eq) = true) (e10 : (FloatKind.f64.format.order (L s) (L S) == some .eq) = true) :
    Calls Try.prog 8 #[.int .u16 s, .agg #[.int .i16 x, .int .i16 y]] w fun e w' => e = .returned (.bool true) ∧ Grown w w' := by
  have hop := fun t w => run_complex_sum (P := Try.prog) w .add (Or.inl rfl) t .f64 _ _ _ _ re2 im2 h2
  have c1 := fun w => off_any s _ _ _ _ w s0 s1 h1
  have c2 := fun w => off_any s _ _ _ _ w s0 s1 h3
  clear h1 h2 h3
  go_enter Try.func8, Try.ntmps8
  go_wp2_with (first | (go_at_call 10; (with_reducible refine (awake_true _).mono ?_); rintro e w' ⟨rfl, rfl⟩) | (go_at_call 11; (with_reducible refine (of_any s _ s0 s1).mono ?_); rintro e w' ⟨rfl, rfl⟩) | (go_at_call 11; (with_reducible refine (of_any S _ (by omega) (by omega)).mono ?_); rintro e w' ⟨rfl, rfl⟩) | (go_at_call 14; (with_reducible refine (c1 _).mono ?_); rintro e w' ⟨rfl, rfl⟩) | (go_at_call 14; (with_reducible refine (c2 _).mono ?_); rintro e w' ⟨rfl, rfl⟩))
  go_ret
  exact ⟨rfl, (Grown.refl _).alloc _ _⟩

theorem offs_any (s : Int) (ws : (Lit.int .u16 s).wf = true) (x y : Int) (wx : (Lit.int .i16 x).wf = true) (wy : (Lit.int .i16 y).wf = true) (w : World) :
    Calls Try.prog 8 #[.int .u16 s, .agg #[.int .i16 x, .int .i16 y]] w fun e w' => e = .returned (.bool true) ∧ Grown w w' := by
  obtain ⟨s0, s1⟩ := u16_bd ws
  obtain ⟨x0, x1⟩ := i16_bd wx
  obtain ⟨y0, y1⟩ := i16_bd wy
  have hS := and1023 s s0 s1
  have ix : Is (floatOfInt .f64 x) (x : Rat) := ofInt_is _ (by omega)
  have iy : Is (floatOfInt .f64 y) (y : Rat) := ofInt_is _ (by omega)
  have l1 := L_is (s / 32)
  have l2 := L_is s
  obtain ⟨re, im, h1, i1, i2⟩ := csub_exact ix iy l1 l2 (by omega) (by omega)
  obtain ⟨re2, im2, h2, i3, i4⟩ := cadd_exact i1 i2 l1 l2 (by omega) (by omega)
  obtain ⟨z1, z2, h3, i5, i6⟩ := csub_exact l1 l2 l1 l2 (by omega) (by omega)
  have hz : Is 0 ((0 : Int) : Rat) := is_zero
  refine offs_core s (s % 1024) x y re im re2 im2 z1 z2 _ _ w hS s0 s1 (by omega) (by omega) x0 x1 y0 y1 h1 h2 h3 ?_ ?_ ?_ ?_ (f64_eq i1 hz) (f64_eq i2 hz) ?_ ?_ ?_ ?_
  · rw [f64_eq i3 ix, decide_eq_true_eq]; omega
  · rw [f64_eq i4 iy, decide_eq_true_eq]; omega
  · rw [f64_eq i5 hz, decide_eq_true_eq]; omega
  · rw [f64_eq i6 hz, decide_eq_true_eq]; omega
  · rw [f64_eq ix l1]; congr 1; apply propext; omega
  · rw [f64_eq iy l2]; congr 1; apply propext; omega
  · rw [f64_eq l1 (L_is _), decide_eq_true_eq]; omega
  · rw [f64_eq l2 (L_is _), decide_eq_true_eq]; omega
end Go.Proofs.Ytkdfepkikobjjaa
namespace Go.Proofs.Ytkdfepkikobjjaa.pointOffs
open Go.ChangeShapes Go.WideShapes Go.ChangeAt Go.RowKit
set_option linter.unusedVariables false

theorem own : ownKnob Try.prog.godebug = none := by kernel_rfl

theorem walk (a0 : Int) (w0 : (Lit.int .u16 a0).wf = true) (a1 b1 : Int) (w1 : (Lit.int .i16 a1).wf = true) (x1 : (Lit.int .i16 b1).wf = true) (w : World) :
    Calls Try.prog 8 #[.int .u16 a0, .agg #[.int .i16 a1, .int .i16 b1]] w fun e w' => e = .returned (.bool true) ∧ Grown w w' := offs_any a0 w0 a1 b1 w1 x1 w

set_option maxRecDepth 100000 in
theorem lifted (os : Os) (started : os.Started) (H : Type) (enc : TypeId × Value → H) :
    ReturnsInHanded {} Try.checked os 8 .any (Rows.pointOffsSpec.pre6 enc Try.prog Try.f8 Rows.pointOffsRow.domain false) (Rows.pointOffsSpec.post enc Try.prog Try.f8 false true false false) := by
  refine returnsInHanded_of_change (C := Try.checked) own started (by kernel_rfl) Try.func8
    (ChangeSpec.witness6 (enc := enc) (C := Try.checked) false ⟨#[], #[.int .u16 0, .agg #[.int .i16 0, .int .i16 0]], []⟩ 8 (by kernel_rfl) (by kernel_rfl) (by kernel_rfl) (by kernel_rfl)) ?_
  intro W base args ds gs before hval0 hW hcnd _
  have hval : ∀ (j : Nat) t v, Try.f8.params[j]? = some t → args[j]? = some v → Value.okWide Try.prog W .any base t v := hval0
  have hW' := hW
  obtain ⟨p, q, hA0, hV, rfl, hfz, hnd⟩ := hW
  have hA : DataW.TrodAll enc Try.prog W 0 (fun _ => true) true Try.f8.params.toList args.toList ds p := hA0
  rw [Try.params8] at hA hval
  obtain ⟨v0, vs0, d0, ds0, p0, q0, hargs, rfl, rfl, h0, r0⟩ := trodAll_cons hA
  obtain ⟨v1, vs1, d1, ds1, p1, q1, rfl, rfl, rfl, h1, r1⟩ := trodAll_cons r0
  obtain ⟨rfl, rfl, rfl⟩ := trodAll_nil r1
  obtain rfl : args = #[v0, v1] := by cases args; simp_all
  obtain ⟨rfl, rfl⟩ := trodVars_none hV
  obtain ⟨a0, rfl, rfl, rfl, w0⟩ := open_int Try.underlying22 (hval 0 22 v0 rfl rfl) h0
  obtain ⟨a1, b1, rfl, rfl, rfl, w1, x1⟩ := open_arr2 Try.underlying24 Try.underlying23 (by kernel_rfl : Try.prog.cellsOf 24 = 2) (by kernel_rfl : Try.prog.cellsOf 23 = 1) (hval 1 24 v1 rfl rfl) h1
  clear hA0 hval0
  simp only [List.append_nil] at hW'
  refine (walk a0 w0 a1 b1 w1 x1 W).mono fun e W' ⟨he, hg⟩ => ?_
  subst he
  exact ⟨_, rfl, post_of_same (pa := []) (pv := []) hW' (fun _ _ _ => (trodAll_cons_mk (shut_bool Try.underlying4 _) trodAll_mk0)) (fun sp _ => (trodAll_cons_mk (shut_int Try.underlying22 w0) (trodAll_cons_mk (shut_arr2 Try.underlying24 Try.underlying23 (by kernel_rfl : Try.prog.cellsOf 24 = 2) (by kernel_rfl : Try.prog.cellsOf 23 = 1) w1 x1) trodAll_mk0))) (fun _ _ => rfl) rfl
    (hg.frame _) hg.2.1 (ok_one (by kernel_rfl) rfl (okWide_bool_mk Try.underlying4 _))⟩

theorem over : Rows.pointOffsRow.holds Try.pinned (OpenSpec.ofChange Rows.pointOffsSpec) :=
  OpenClaim.holds_of_wide 8 Try.f8 rfl rfl rfl rfl rfl rfl rfl ⟨rfl, rfl, rfl, rfl, rfl⟩ rfl rfl rfl rfl rfl (by kernel_rfl) Try.func8 (by kernel_rfl)
    (of_decide_eq_true (by kernel_rfl)) (by unfold Func.isWrapper; first | (rw [if_pos (by decide +kernel)]; kernel_rfl) | (rw [if_neg (by decide +kernel)]; exact ⟨rfl, rfl⟩))
    (fun os started H enc _ => lifted os started H enc)

/-- THE STATEMENT -/
theorem proved : Rows.PointOffsSaid := over
end Go.Proofs.Ytkdfepkikobjjaa.pointOffs
