/- Statement PointBack: for every symbol and every pair of whole numbers the law returns true. -/
import Derived.Test.YtkdfepkikobjjaaP5
import Derived.Deep.QuietTactic
import Derived.BigQuiet
namespace Go.Proofs.Ytkdfepkikobjjaa
open Go.RowKit Go.Fl

theorem sameL {f : Nat} {args : Array Value} {v : Value} {w : World} (h : Calls Try.prog f args w fun e w' => e = .returned v ∧ w = w') : Calls Try.prog f args w fun e w' => e = .returned v ∧ w' = w :=
  h.mono fun _ _ ⟨a, b⟩ => ⟨a, b.symm⟩

theorem grown_drewN {w w' : World} (n : Nat) (h : Grown w w') : Grown w (w'.drewN n) := by
  induction n with
  | zero => exact h
  | succ n ih => exact ih.drew

set_option maxHeartbeats 4000000 in
theorem back_core (s S x y : Int) (dx dy qx qy z1 z2 : Nat) (b1 b2 : Bool) (w : World)
    (hS : bits .and .u16 s 1023 = S) (S0 : 0 ≤ S) (S1 : S < 1024)
    (hx : floatBits .quo .f64 (floatOfInt .f64 x) 4675730371722084352 = some dx) (hy : floatBits .quo .f64 (floatOfInt .f64 y) 4675730371722084352 = some dy)
    (hq : cSumBits .add .f64 (L (S / 32)) (L S) dx dy = some (qx, qy))
    (c1 : ∀ w, Calls Try.prog 12 #[.complex .f64 (L (S / 32)) (L S)] w fun e w' => e = .returned (.int .u16 S) ∧ w' = w)
    (c2 : ∀ w, Calls Try.prog 12 #[.complex .f64 qx qy] w fun e w' => e = .returned (.int .u16 S) ∧ w' = w)
    (c3 : ∀ w, Calls Try.prog 13 #[.complex .f64 (L (S / 32)) (L S)] w fun e w' => e = .returned (.bool true) ∧ w' = w)
    (c4 : ∀ w, Calls Try.prog 13 #[.complex .f64 qx qy] w fun e w' => e = .returned (.bool (b1 && b2)) ∧ w' = w)
    (c5 : ∀ w, Calls Try.prog 14 #[.int .u16 S, .complex .f64 (L (S / 32)) (L S)] w fun e w' => e = .returned (.complex .f64 z1 z2) ∧ w' = w)
    (e1 : (FloatKind.f64.format.order z1 0 == some .eq) = true) (e2 : (FloatKind.f64.format.order z2 0 == some .eq) = true)
    (n1 : (x == 0) = b1) (n2 : (y == 0) = b2) :
    Calls Try.prog 3 #[.int .u16 s, .agg #[.int .i16 x, .int .i16 y]] w fun e w' => e = .returned (.bool true) ∧ Grown w w' := by
  have hop := fun t w => run_complex_sum (P := Try.prog) w .add (Or.inl rfl) t .f64 _ _ _ _ qx qy hq
  have hop1 := fun t w => run_float_arith (P := Try.prog) w .quo t .f64 _ _ dx hx
  have hop2 := fun t w => run_float_arith (P := Try.prog) w .quo t .f64 _ _ dy hy
  clear hq hx hy
  cases b1 <;> cases b2
  all_goals
    go_enter Try.func3, Try.ntmps3
    go_wp2_with (first | (go_at_call 10; (with_reducible refine (awake_true _).mono ?_); rintro e w' ⟨rfl, rfl⟩) | (go_at_call 11; (with_reducible refine (of_any S _ (by omega) (by omega)).mono ?_); rintro e w' ⟨rfl, rfl⟩))
    go_quiet (first | (go_at_call 12; with_reducible exact Calls.quiet_of_same (c1 _)) | (go_at_call 12; with_reducible exact Calls.quiet_of_same (c2 _)) | (go_at_call 13; with_reducible exact Calls.quiet_of_same (c3 _)) | (go_at_call 13; with_reducible exact Calls.quiet_of_same (c4 _)) | (go_at_call 14; with_reducible exact Calls.quiet_of_same (c5 _)))
    go_wp2
    go_ret
    exact ⟨rfl, grown_drewN _ ((Grown.refl _).alloc _ _)⟩

theorem is_forty : Is 4675730371722084352 40000 := ⟨false, 5497558138880000, -37, by decide +kernel, by decide +kernel⟩
/-- a whole number's share of 40000: less than seven eighths, and not less than a unit of two to the -16 -/
theorem share (x : Int) (x0 : -32768 ≤ x) (x1 : x ≤ 32767) : ∃ d v, floatBits .quo .f64 (floatOfInt .f64 x) 4675730371722084352 = some d ∧ Is d v ∧ (-7 : Int) * pw (-3) ≤ v ∧ v ≤ (7 : Int) * pw (-3) ∧ (x = 0 → v = 0) ∧ (0 < x → (1 : Int) * pw (-16) ≤ v) ∧ (x < 0 → v ≤ (-1 : Int) * pw (-16)) := by
  have ix : Is (floatOfInt .f64 x) (x : Rat) := ofInt_is _ (by omega)
  have p3 : pw (-3) = 1 / 8 := by decide +kernel
  have p16 : pw (-16) = 1 / 65536 := by decide +kernel
  have hr : ∀ k : Int, (k : Rat) * pw (-3) * 40000 = ((k * 5000 : Int) : Rat) := by intro k; rw [p3, Rat.intCast_mul]; grind
  have hx : ∀ k : Int, k * 5000 ≤ x → (k : Rat) * pw (-3) * 40000 ≤ (x : Rat) := by intro k hk; rw [hr]; exact Rat.intCast_le_intCast.2 hk
  have hx' : ∀ k : Int, x ≤ k * 5000 → (x : Rat) ≤ (k : Rat) * pw (-3) * 40000 := by intro k hk; rw [hr]; exact Rat.intCast_le_intCast.2 hk
  have rp3 : ∀ k : Int, -7 ≤ k → k ≤ 7 → Rep ((k : Rat) * pw (-3)) := fun k h1 h2 => rep_units k (-3) (by omega) (by decide) (by decide)
  have rp16 : ∀ k : Int, -1 ≤ k → k ≤ 1 → Rep ((k : Rat) * pw (-16)) := fun k h1 h2 => rep_units k (-16) (by omega) (by decide) (by decide)
  rcases Int.lt_trichotomy x 0 with h | h | h
  · obtain ⟨d, v, e, i, g1, g2⟩ := div_within ix is_forty (by decide) (rp3 (-7) (by omega) (by omega)) (rp16 (-1) (by omega) (by omega)) (hx (-7) (by omega)) (by
      have : (x : Rat) ≤ ((-1 : Int) : Rat) := Rat.intCast_le_intCast.2 (by omega)
      rw [p16]; grind)
    refine ⟨d, v, e, i, g1, ?_, by omega, by omega, fun _ => g2⟩
    refine Rat.le_trans g2 (by decide +kernel)
  · subst h
    obtain ⟨d, e, i⟩ := div_exact ix is_forty (c := ((0 : Int) : Rat)) (by decide) (by decide +kernel) (rep_int 0 (by decide))
    exact ⟨d, _, e, i, by decide +kernel, by decide +kernel, fun _ => rfl, by omega, by omega⟩
  · obtain ⟨d, v, e, i, g1, g2⟩ := div_within ix is_forty (by decide) (rp16 1 (by omega) (by omega)) (rp3 7 (by omega) (by omega)) (by
      have : ((1 : Int) : Rat) ≤ (x : Rat) := Rat.intCast_le_intCast.2 (by omega)
      rw [p16]; grind) (hx' 7 (by omega))
    refine ⟨d, v, e, i, ?_, g2, by omega, fun _ => g1, by omega⟩
    refine Rat.le_trans (by decide +kernel) g1

/-- a level, moved by a share: nearest to its own bits; on the level just where the share is nought -/
theorem moved (n x : Int) (d : Nat) (v : Rat) (i : Is d v) (g1 : (-7 : Int) * pw (-3) ≤ v) (g2 : v ≤ (7 : Int) * pw (-3)) (z : x = 0 → v = 0) (p : 0 < x → (1 : Int) * pw (-16) ≤ v) (m : x < 0 → v ≤ (-1 : Int) * pw (-16)) :
    ∃ q, floatBits .add .f64 (L n) d = some q ∧ Near q (n % 32).toNat ∧ (FloatKind.f64.format.order q (L n) == some .eq) = (x == 0) := by
  have il := L_is n
  generalize hl : 2 * (n % 32) - 31 = l at il
  have l0 : -31 ≤ l := by omega
  have l1 : l ≤ 31 := by omega
  have p3 : pw (-3) = 1 / 8 := by decide +kernel
  have p4 : pw (-4) = 1 / 16 := by decide +kernel
  have p16 : pw (-16) = 1 / 65536 := by decide +kernel
  have r3 : ∀ k : Int, -7 ≤ k → k ≤ 7 → Rep (((8 * l + k : Int) : Rat) * pw (-3)) := fun k h1 h2 => rep_units (8 * l + k) (-3) (by omega) (by decide) (by decide)
  have r16 : ∀ k : Int, -1 ≤ k → k ≤ 1 → Rep (((65536 * l + k : Int) : Rat) * pw (-16)) := fun k h1 h2 => rep_units (65536 * l + k) (-16) (by omega) (by decide) (by decide)
  have e3 : ∀ k : Int, ((8 * l + k : Int) : Rat) * pw (-3) = (l : Rat) + (k : Rat) * pw (-3) := by intro k; rw [Rat.intCast_add, Rat.intCast_mul, p3]; grind
  have e16 : ∀ k : Int, ((65536 * l + k : Int) : Rat) * pw (-16) = (l : Rat) + (k : Rat) * pw (-16) := by intro k; rw [Rat.intCast_add, Rat.intCast_mul, p16]; grind
  have e4 : ∀ k : Int, ((16 * l + 2 * k : Int) : Rat) * pw (-4) = (l : Rat) + (k : Rat) * pw (-3) := by intro k; rw [Rat.intCast_add, Rat.intCast_mul, Rat.intCast_mul, p4, p3]; grind
  have near : ∀ q u, Is q u → (l : Rat) + ((-7 : Int) : Rat) * pw (-3) ≤ u → u ≤ (l : Rat) + ((7 : Int) : Rat) * pw (-3) → Near q (n % 32).toNat := by
    intro q u iq h1 h2
    exact near_is _ iq (16 * l + 2 * (-7)) (16 * l + 2 * 7) (by omega) (by omega) (by rw [e4]; exact h1) (by rw [e4]; exact h2) (by omega) (by omega) (by omega)
  rcases Int.lt_trichotomy x 0 with h | h | h
  · obtain ⟨q, u, e, iq, h1, h2⟩ := add_within il i (r3 (-7) (by omega) (by omega)) (r16 (-1) (by omega) (by omega)) (by rw [e3]; exact Rat.add_le_add_left.2 g1) (by rw [e16]; exact Rat.add_le_add_left.2 (m h))
    rw [e3] at h1
    rw [e16] at h2
    have hlt : u < (l : Rat) := by rw [p16] at h2; grind
    refine ⟨q, e, near q u iq h1 ?_, ?_⟩
    · rw [p3]; grind
    · rw [f64f, order_lt iq il hlt]; symm; simp; omega
  · have hv := z h
    subst hv
    have es : (l : Rat) + 0 = (l : Rat) := Rat.add_zero _
    obtain ⟨q, e, iq⟩ := add_exact il i es (rep_int l (by omega))
    refine ⟨q, e, near q l iq ?_ ?_, ?_⟩
    · rw [p3]; grind
    · rw [p3]; grind
    · rw [f64f, order_eq iq il rfl]; symm; simp [h]
  · obtain ⟨q, u, e, iq, h1, h2⟩ := add_within il i (r16 1 (by omega) (by omega)) (r3 7 (by omega) (by omega)) (by rw [e16]; exact Rat.add_le_add_left.2 (p h)) (by rw [e3]; exact Rat.add_le_add_left.2 g2)
    rw [e16] at h1
    rw [e3] at h2
    have hlt : (l : Rat) < u := by rw [p16] at h1; grind
    refine ⟨q, e, near q u iq ?_ h2, ?_⟩
    · rw [p3]; grind
    · rw [f64f, order_gt iq il hlt]; symm; simp; omega

theorem slice_pair (q1 q2 : Nat) (S : Int) (S0 : 0 ≤ S) (S1 : S < 1024) (h1 : Near q1 (S / 32 % 32).toNat) (h2 : Near q2 (S % 32).toNat) (w : World) : Calls Try.prog 12 #[.complex .f64 q1 q2] w fun e w' => e = .returned (.int .u16 S) ∧ w' = w := by
  refine (slice_any _ _ _ _ w h1 h2).mono ?_
  rintro e w' ⟨rfl, rfl⟩
  exact ⟨by congr 2; omega, rfl⟩

theorem back_any (s : Int) (ws : (Lit.int .u16 s).wf = true) (x y : Int) (wx : (Lit.int .i16 x).wf = true) (wy : (Lit.int .i16 y).wf = true) (w : World) :
    Calls Try.prog 3 #[.int .u16 s, .agg #[.int .i16 x, .int .i16 y]] w fun e w' => e = .returned (.bool true) ∧ Grown w w' := by
  obtain ⟨s0, s1⟩ := u16_bd ws
  obtain ⟨x0, x1⟩ := i16_bd wx
  obtain ⟨y0, y1⟩ := i16_bd wy
  have hS := and1023 s s0 s1
  generalize hSd : s % 1024 = S at hS
  have S0 : 0 ≤ S := by omega
  have S1 : S < 1024 := by omega
  obtain ⟨dx, vx, ex, ivx, gx1, gx2, gx3, gx4, gx5⟩ := share x x0 x1
  obtain ⟨dy, vy, ey, ivy, gy1, gy2, gy3, gy4, gy5⟩ := share y y0 y1
  obtain ⟨qx, aqx, nqx, oqx⟩ := moved (S / 32) x dx vx ivx gx1 gx2 gx3 gx4 gx5
  obtain ⟨qy, aqy, nqy, oqy⟩ := moved S y dy vy ivy gy1 gy2 gy3 gy4 gy5
  obtain ⟨z1, z2, h3, i5, i6⟩ := csub_exact (L_is (S / 32)) (L_is S) (L_is (S / 32)) (L_is S) (by omega) (by omega)
  have hz : Is 0 ((0 : Int) : Rat) := is_zero
  refine back_core s S x y dx dy qx qy z1 z2 (x == 0) (y == 0) w hS S0 S1 ex ey (by simp [cSumBits, aqx, aqy])
    (slice_pair _ _ S S0 S1 (near_L_any _) (near_L_any _)) (slice_pair _ _ S S0 S1 nqx nqy) (fun w => sameL (grid_L _ _ w)) (fun w => ?_) (fun w => sameL (off_any S _ _ _ _ w S0 (by omega) h3)) ?_ ?_ rfl rfl
  · refine (grid_any _ _ _ _ w nqx nqy).mono ?_
    rintro e w' ⟨rfl, rfl⟩
    refine ⟨?_, rfl⟩
    rw [L_eq (a := (((S / 32 % 32).toNat : Nat) : Int)) (b := S / 32) (by omega), L_eq (a := (((S % 32).toNat : Nat) : Int)) (b := S) (by omega), oqx, oqy]
  · rw [f64_eq i5 hz, decide_eq_true_eq]; omega
  · rw [f64_eq i6 hz, decide_eq_true_eq]; omega
end Go.Proofs.Ytkdfepkikobjjaa
namespace Go.Proofs.Ytkdfepkikobjjaa.pointBack
open Go.ChangeShapes Go.WideShapes Go.ChangeAt Go.RowKit
set_option linter.unusedVariables false

theorem own : ownKnob Try.prog.godebug = none := by kernel_rfl

theorem walk (a0 : Int) (w0 : (Lit.int .u16 a0).wf = true) (a1 b1 : Int) (w1 : (Lit.int .i16 a1).wf = true) (x1 : (Lit.int .i16 b1).wf = true) (w : World) :
    Calls Try.prog 3 #[.int .u16 a0, .agg #[.int .i16 a1, .int .i16 b1]] w fun e w' => e = .returned (.bool true) ∧ Grown w w' := back_any a0 w0 a1 b1 w1 x1 w

set_option maxRecDepth 100000 in
theorem lifted (os : Os) (started : os.Started) (H : Type) (enc : TypeId × Value → H) :
    ReturnsInHanded {} Try.checked os 3 .any (Rows.pointBackSpec.pre6 enc Try.prog Try.f3 Rows.pointBackRow.domain false) (Rows.pointBackSpec.post enc Try.prog Try.f3 false true false false) := by
  refine returnsInHanded_of_change (C := Try.checked) own started (by kernel_rfl) Try.func3
    (ChangeSpec.witness6 (enc := enc) (C := Try.checked) false ⟨#[], #[.int .u16 0, .agg #[.int .i16 0, .int .i16 0]], []⟩ 8 (by kernel_rfl) (by kernel_rfl) (by kernel_rfl) (by kernel_rfl)) ?_
  intro W base args ds gs before hval0 hW hcnd _
  have hval : ∀ (j : Nat) t v, Try.f3.params[j]? = some t → args[j]? = some v → Value.okWide Try.prog W .any base t v := hval0
  have hW' := hW
  obtain ⟨p, q, hA0, hV, rfl, hfz, hnd⟩ := hW
  have hA : DataW.TrodAll enc Try.prog W 0 (fun _ => true) true Try.f3.params.toList args.toList ds p := hA0
  rw [Try.params3] at hA hval
  obtain ⟨v0, vs0, d0, ds0, p0, q0, hargs, rfl, rfl, h0, r0⟩ := trodAll_cons hA
  obtain ⟨v1, vs1, d1, ds1, p1, q1, rfl, rfl, rfl, h1, r1⟩ := trodAll_cons r0
  obtain ⟨rfl, rfl, rfl⟩ := trodAll_nil r1
  obtain rfl : args = #[v0, v1] := by cases args; simp_all
  obtain ⟨rfl, rfl⟩ := trodVars_none hV
  obtain ⟨a0, rfl, rfl, rfl, w0⟩ := open_int Try.underlying22 (hval 0 22 v0 rfl rfl) h0
  obtain ⟨a1, b1, rfl, rfl, rfl, w1, x1⟩ := open_arr2 Try.underlying24 Try.underlying23 (by kernel_rfl : Try.prog.cellsOf 24 = 2) (by kernel_rfl : Try.prog.cellsOf 23 = 1) (hval 1 24 v1 rfl rfl) h1
  clear hA0 hval0
  simp only [List.append_nil] at hW'
  refine (walk a0 w0 a1 b1 w1 x1 W).mono fun e W' ⟨he, hg⟩ => ?_
  subst he
  exact ⟨_, rfl, post_of_same (pa := []) (pv := []) hW' (fun _ _ _ => (trodAll_cons_mk (shut_bool Try.underlying4 _) trodAll_mk0)) (fun sp _ => (trodAll_cons_mk (shut_int Try.underlying22 w0) (trodAll_cons_mk (shut_arr2 Try.underlying24 Try.underlying23 (by kernel_rfl : Try.prog.cellsOf 24 = 2) (by kernel_rfl : Try.prog.cellsOf 23 = 1) w1 x1) trodAll_mk0))) (fun _ _ => rfl) rfl
    (hg.frame _) hg.2.1 (ok_one (by kernel_rfl) rfl (okWide_bool_mk Try.underlying4 _))⟩

theorem over : Rows.pointBackRow.holds Try.pinned (OpenSpec.ofChange Rows.pointBackSpec) :=
  OpenClaim.holds_of_wide 3 Try.f3 rfl rfl rfl rfl rfl rfl rfl ⟨rfl, rfl, rfl, rfl, rfl⟩ rfl rfl rfl rfl rfl (by kernel_rfl) Try.func3 (by kernel_rfl)
    (of_decide_eq_true (by kernel_rfl)) (by unfold Func.isWrapper; first | (rw [if_pos (by decide +kernel)]; kernel_rfl) | (rw [if_neg (by decide +kernel)]; exact ⟨rfl, rfl⟩))
    (fun os started H enc _ => lifted os started H enc)

/-- THE STATEMENT -/
theorem proved : Rows.PointBackSaid := over
end Go.Proofs.Ytkdfepkikobjjaa.pointBack
