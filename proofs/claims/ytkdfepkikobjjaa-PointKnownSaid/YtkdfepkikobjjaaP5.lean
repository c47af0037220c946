/- Statement PointNear: for every pair of whole numbers and every symbol the law returns true. -/
import Derived.Test.YtkdfepkikobjjaaP3
import Derived.Test.YtkdfepkikobjjaaP4
namespace Go.Proofs.Ytkdfepkikobjjaa
open Go.RowKit Go.Fl

theorem sq_le {U V : Int} (h : U.natAbs ≤ V.natAbs) : U * U ≤ V * V := by
  rw [← Int.natAbs_mul_self (a := U), ← Int.natAbs_mul_self (a := V)]
  exact Int.ofNat_le.2 (Nat.mul_le_mul h h)

theorem sq_bd {U : Int} (h : U.natAbs ≤ 4096) : (U * U).natAbs < 2 ^ 53 := by
  rw [Int.natAbs_mul]
  have := Nat.mul_le_mul h h
  omega

set_option maxHeartbeats 400000 in
theorem nearfn_any (u v : Nat) (U V : Int) (hu : Is u (U : Rat)) (hv : Is v (V : Rat)) (b1 : U.natAbs ≤ 4096) (b2 : V.natAbs ≤ 4096) (h : U.natAbs ≤ V.natAbs) (w : World) :
    Calls Try.prog 18 #[.float .f64 u, .float .f64 v] w fun e w' => e = .returned (.bool true) ∧ w = w' := by
  obtain ⟨uu, e1, i1⟩ := mul_exact hu hu (Rat.intCast_mul U U).symm (rep_int _ (sq_bd b1))
  obtain ⟨vv, e2, i2⟩ := mul_exact hv hv (Rat.intCast_mul V V).symm (rep_int _ (sq_bd b2))
  have hop := fun t w => run_float_arith (P := Try.prog) w .mul t .f64 u u uu e1
  have hop2 := fun t w => run_float_arith (P := Try.prog) w .mul t .f64 v v vv e2
  have hle : (FloatKind.f64.format.order uu vv == some .lt || FloatKind.f64.format.order uu vv == some .eq) = true := by
    rw [f64_le i1 i2, decide_eq_true_eq]; exact sq_le h
  clear e1 e2
  go_enter Try.func18, Try.ntmps18
  go_wp2_with (first | simp only [hop] | simp only [hop2])
  go_ret
  exact ⟨rfl, rfl⟩

theorem near_L_any (n : Int) : Near (L n) (n % 32).toNat := by
  have h := near_L (n % 32).toNat (by omega)
  rw [L_eq (a := (((n % 32).toNat : Nat) : Int)) (b := n) (by omega)] at h
  exact h
theorem L_self (n : Int) : (FloatKind.f64.format.order (L n) (L n) == some .eq) = true := by
  rw [f64_eq (L_is n) (L_is n)]; simp
theorem grid_L (m n : Int) (w : World) : Calls Try.prog 13 #[.complex .f64 (L m) (L n)] w fun e w' => e = .returned (.bool true) ∧ w = w' := by
  refine (grid_any _ _ _ _ w (near_L_any m) (near_L_any n)).mono ?_
  rintro e w' ⟨rfl, rfl⟩
  refine ⟨?_, rfl⟩
  rw [L_eq (a := (((m % 32).toNat : Nat) : Int)) (b := m) (by omega), L_eq (a := (((n % 32).toNat : Nat) : Int)) (b := n) (by omega), L_self, L_self]; rfl

set_option maxHeartbeats 4000000 in
theorem near_core (s x y : Int) (ka kb : Nat) (r1 i1 r2 i2 : Nat) (w : World)
    (s0 : 0 ≤ s) (s1 : s < 65536) (_x0 : -128 ≤ x) (_x1 : x ≤ 127) (_y0 : -128 ≤ y) (_y1 : y ≤ 127)
    (nx : Near (floatOfInt .f64 x) ka) (ny : Near (floatOfInt .f64 y) kb)
    (h1 : cSumBits .sub .f64 (floatOfInt .f64 x) (floatOfInt .f64 y) (L ka) (L kb) = some (r1, i1))
    (h2 : cSumBits .sub .f64 (floatOfInt .f64 x) (floatOfInt .f64 y) (L (s / 32)) (L s) = some (r2, i2))
    (c1 : ∀ w, Calls Try.prog 18 #[.float .f64 r1, .float .f64 r2] w fun e w' => e = .returned (.bool true) ∧ w = w')
    (c2 : ∀ w, Calls Try.prog 18 #[.float .f64 i1, .float .f64 i2] w fun e w' => e = .returned (.bool true) ∧ w = w') :
    Calls Try.prog 6 #[.agg #[.int .i8 x, .int .i8 y], .int .u16 s] w fun e w' => e = .returned (.bool true) ∧ Grown w w' := by
  have hop1 := fun t w => run_complex_sum (P := Try.prog) w .sub (Or.inr rfl) t .f64 _ _ _ _ r1 i1 h1
  have hop2 := fun t w => run_complex_sum (P := Try.prog) w .sub (Or.inr rfl) t .f64 _ _ _ _ r2 i2 h2
  clear h1 h2
  have hka := nx.1
  have hkb := ny.1
  go_enter Try.func6, Try.ntmps6
  go_wp2_with (first | (go_at_call 10; (with_reducible refine (awake_true _).mono ?_); rintro e w' ⟨rfl, rfl⟩) | (go_at_call 12; (with_reducible refine (slice_any _ _ ka kb _ nx ny).mono ?_); rintro e w' ⟨rfl, rfl⟩) | (go_at_call 11; (with_reducible refine (of_pair ka kb _ hka hkb).mono ?_); rintro e w' ⟨rfl, rfl⟩) | (go_at_call 11; (with_reducible refine (of_any s _ s0 s1).mono ?_); rintro e w' ⟨rfl, rfl⟩) | (go_at_call 18; (with_reducible refine (c1 _).mono ?_); rintro e w' ⟨rfl, rfl⟩) | (go_at_call 18; (with_reducible refine (c2 _).mono ?_); rintro e w' ⟨rfl, rfl⟩) | (go_at_call 13; (with_reducible refine (grid_L _ _ _).mono ?_); rintro e w' ⟨rfl, rfl⟩))
  go_ret
  exact ⟨rfl, (Grown.refl _).alloc _ _⟩

/-- the bits that a whole number is nearest to -/
theorem near_int (x : Int) (x0 : -4096 ≤ x) (x1 : x ≤ 4096) : Near (floatOfInt .f64 x) (clampI ((x + 32) / 2)).toNat := by
  have c := clampI_bd ((x + 32) / 2)
  refine near_of _ x _ (ofInt_is x (by omega)) (by omega) (by omega) (by omega) ?_ ?_
  · unfold clampI; split <;> (try split) <;> omega
  · unfold clampI; split <;> (try split) <;> omega
theorem nearest_abs (x m : Int) (m0 : 0 ≤ m) (m1 : m ≤ 31) : (x - (2 * (clampI ((x + 32) / 2) % 32) - 31)).natAbs ≤ (x - (2 * m - 31)).natAbs := by
  unfold clampI; split <;> (try split) <;> omega

theorem near_law (x y : Int) (wx : (Lit.int .i8 x).wf = true) (wy : (Lit.int .i8 y).wf = true) (s : Int) (ws : (Lit.int .u16 s).wf = true) (w : World) :
    Calls Try.prog 6 #[.agg #[.int .i8 x, .int .i8 y], .int .u16 s] w fun e w' => e = .returned (.bool true) ∧ Grown w w' := by
  obtain ⟨s0, s1⟩ := u16_bd ws
  obtain ⟨x0, x1⟩ := i8_bd wx
  obtain ⟨y0, y1⟩ := i8_bd wy
  have ix : Is (floatOfInt .f64 x) (x : Rat) := ofInt_is _ (by omega)
  have iy : Is (floatOfInt .f64 y) (y : Rat) := ofInt_is _ (by omega)
  have cx := clampI_bd ((x + 32) / 2)
  have cy := clampI_bd ((y + 32) / 2)
  have nax := nearest_abs x (s / 32 % 32) (by omega) (by omega)
  have nay := nearest_abs y (s % 32) (by omega) (by omega)
  have tx : (((clampI ((x + 32) / 2)).toNat : Nat) : Int) = clampI ((x + 32) / 2) := by omega
  have ty : (((clampI ((y + 32) / 2)).toNat : Nat) : Int) = clampI ((y + 32) / 2) := by omega
  have lx := L_is (((clampI ((x + 32) / 2)).toNat : Nat) : Int)
  have ly := L_is (((clampI ((y + 32) / 2)).toNat : Nat) : Int)
  rw [tx] at lx
  rw [ty] at ly
  obtain ⟨r1, i1, h1, j1, j2⟩ := csub_exact ix iy lx ly (by omega) (by omega)
  obtain ⟨r2, i2, h2, j3, j4⟩ := csub_exact ix iy (L_is (s / 32)) (L_is s) (by omega) (by omega)
  refine near_core s x y (clampI ((x + 32) / 2)).toNat (clampI ((y + 32) / 2)).toNat r1 i1 r2 i2 w s0 s1 x0 x1 y0 y1 (near_int x (by omega) (by omega)) (near_int y (by omega) (by omega)) (by rw [tx, ty]; exact h1) h2
    (fun w => nearfn_any r1 r2 _ _ j1 j3 (by omega) (by omega) nax w) (fun w => nearfn_any i1 i2 _ _ j2 j4 (by omega) (by omega) nay w)
end Go.Proofs.Ytkdfepkikobjjaa
namespace Go.Proofs.Ytkdfepkikobjjaa.pointNear
open Go.ChangeShapes Go.WideShapes Go.ChangeAt Go.RowKit
set_option linter.unusedVariables false

theorem own : ownKnob Try.prog.godebug = none := by kernel_rfl

theorem walk (a0 b0 : Int) (w0 : (Lit.int .i8 a0).wf = true) (x0 : (Lit.int .i8 b0).wf = true) (a1 : Int) (w1 : (Lit.int .u16 a1).wf = true) (w : World) :
    Calls Try.prog 6 #[.agg #[.int .i8 a0, .int .i8 b0], .int .u16 a1] w fun e w' => e = .returned (.bool true) ∧ Grown w w' := near_law a0 b0 w0 x0 a1 w1 w

set_option maxRecDepth 100000 in
theorem lifted (os : Os) (started : os.Started) (H : Type) (enc : TypeId × Value → H) :
    ReturnsInHanded {} Try.checked os 6 .any (Rows.pointNearSpec.pre6 enc Try.prog Try.f6 Rows.pointNearRow.domain false) (Rows.pointNearSpec.post enc Try.prog Try.f6 false true false false) := by
  refine returnsInHanded_of_change (C := Try.checked) own started (by kernel_rfl) Try.func6
    (ChangeSpec.witness6 (enc := enc) (C := Try.checked) false ⟨#[], #[.agg #[.int .i8 0, .int .i8 0], .int .u16 0], []⟩ 8 (by kernel_rfl) (by kernel_rfl) (by kernel_rfl) (by kernel_rfl)) ?_
  intro W base args ds gs before hval0 hW hcnd _
  have hval : ∀ (j : Nat) t v, Try.f6.params[j]? = some t → args[j]? = some v → Value.okWide Try.prog W .any base t v := hval0
  have hW' := hW
  obtain ⟨p, q, hA0, hV, rfl, hfz, hnd⟩ := hW
  have hA : DataW.TrodAll enc Try.prog W 0 (fun _ => true) true Try.f6.params.toList args.toList ds p := hA0
  rw [Try.params6] at hA hval
  obtain ⟨v0, vs0, d0, ds0, p0, q0, hargs, rfl, rfl, h0, r0⟩ := trodAll_cons hA
  obtain ⟨v1, vs1, d1, ds1, p1, q1, rfl, rfl, rfl, h1, r1⟩ := trodAll_cons r0
  obtain ⟨rfl, rfl, rfl⟩ := trodAll_nil r1
  obtain rfl : args = #[v0, v1] := by cases args; simp_all
  obtain ⟨rfl, rfl⟩ := trodVars_none hV
  obtain ⟨a0, b0, rfl, rfl, rfl, w0, x0⟩ := open_arr2 Try.underlying38 Try.underlying37 (by kernel_rfl : Try.prog.cellsOf 38 = 2) (by kernel_rfl : Try.prog.cellsOf 37 = 1) (hval 0 38 v0 rfl rfl) h0
  obtain ⟨a1, rfl, rfl, rfl, w1⟩ := open_int Try.underlying22 (hval 1 22 v1 rfl rfl) h1
  clear hA0 hval0
  simp only [List.append_nil] at hW'
  refine (walk a0 b0 w0 x0 a1 w1 W).mono fun e W' ⟨he, hg⟩ => ?_
  subst he
  exact ⟨_, rfl, post_of_same (pa := []) (pv := []) hW' (fun _ _ _ => (trodAll_cons_mk (shut_bool Try.underlying4 _) trodAll_mk0)) (fun sp _ => (trodAll_cons_mk (shut_arr2 Try.underlying38 Try.underlying37 (by kernel_rfl : Try.prog.cellsOf 38 = 2) (by kernel_rfl : Try.prog.cellsOf 37 = 1) w0 x0) (trodAll_cons_mk (shut_int Try.underlying22 w1) trodAll_mk0))) (fun _ _ => rfl) rfl
    (hg.frame _) hg.2.1 (ok_one (by kernel_rfl) rfl (okWide_bool_mk Try.underlying4 _))⟩

theorem over : Rows.pointNearRow.holds Try.pinned (OpenSpec.ofChange Rows.pointNearSpec) :=
  OpenClaim.holds_of_wide 6 Try.f6 rfl rfl rfl rfl rfl rfl rfl ⟨rfl, rfl, rfl, rfl, rfl⟩ rfl rfl rfl rfl rfl (by kernel_rfl) Try.func6 (by kernel_rfl)
    (of_decide_eq_true (by kernel_rfl)) (by unfold Func.isWrapper; first | (rw [if_pos (by decide +kernel)]; kernel_rfl) | (rw [if_neg (by decide +kernel)]; exact ⟨rfl, rfl⟩))
    (fun os started H enc _ => lifted os started H enc)

/-- THE STATEMENT -/
theorem proved : Rows.PointNearSaid := over
end Go.Proofs.Ytkdfepkikobjjaa.pointNear
