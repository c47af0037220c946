/- Statement PointRound: for every number, every count of steps and either part the law returns true. -/
import Derived.Test.YtkdfepkikobjjaaP1
namespace Go.Proofs.Ytkdfepkikobjjaa
open Go.RowKit Go.Fl

theorem i8_bd {a : Int} (h : (Lit.int .i8 a).wf = true) : -128 ≤ a ∧ a ≤ 127 := by
  simp [Lit.wf, IntKind.min, IntKind.max, IntKind.signed, IntKind.bits] at h; omega

theorem or64_nat (a b : Nat) (ha : a ≤ 31) (hb : b ≤ 31) : bits .or .i64 ((a * 32 : Nat) : Int) (b : Int) = ((32 * a + b : Nat) : Int) := by
  show IntKind.i64.wrap ((BitVec.ofInt 64 ((a * 32 : Nat) : Int) ||| BitVec.ofInt 64 (b : Int)).toNat : Int) = _
  rw [BitVec.toNat_or, ofInt_u64 (a * 32) (by omega), ofInt_u64 b (by omega), nat_join 5 (a * 32) b (by omega) (by omega)]
  rw [IntWalk.i64_in _ (by omega)]; omega
theorem or64_join (a b : Int) (ha : 0 ≤ a ∧ a ≤ 31) (hb : 0 ≤ b ∧ b ≤ 31) : bits .or .i64 (a * 32) b = 32 * a + b := by
  have := or64_nat a.toNat b.toNat (by omega) (by omega)
  rw [show ((a.toNat * 32 : Nat) : Int) = a * 32 by omega, show ((b.toNat : Nat) : Int) = b by omega] at this
  rw [this]; omega

/-- a place, moved, and kept from 0 to 31 -/
def clampI (p : Int) : Int := if p < 0 then 0 else if 31 < p then 31 else p
theorem clampI_bd (p : Int) : 0 ≤ clampI p ∧ clampI p ≤ 31 := by unfold clampI; split <;> (try split) <;> omega

set_option maxHeartbeats 4000000 in
theorem round_up (s A B n : Int) (re im ka kb : Nat) (w : World)
    (hA : bits .and .u16 s 1023 = A) (A0 : 0 ≤ A) (A1 : A < 1024) (hB : bits .and .u16 A 31 = B) (B0 : 0 ≤ B) (B1 : B ≤ 31) (n0 : -128 ≤ n) (n1 : n ≤ 127)
    (hs : cSumBits .add .f64 (L (A / 32)) (L A) (floatOfInt .f64 (2 * n)) 0 = some (re, im)) (nr : Near re ka) (ni : Near im kb)
    (ek : Hid ((ka : Int) = clampI (A / 32 + n))) (eb : Hid ((kb : Int) = B)) :
    Calls Try.prog 7 #[.int .u16 s, .int .i8 n, .bool true] w fun e w' => e = .returned (.bool true) ∧ w = w' := by
  have hop := fun t w => run_complex_sum (P := Try.prog) w .add (Or.inl rfl) t .f64 _ _ _ _ re im hs
  clear hs
  have fin : ∀ K : Int, 0 ≤ K → K ≤ 31 → K = clampI (A / 32 + n) → (32 * (ka : Int) + (kb : Int) == IntKind.u16.wrap (bits .or .i64 (K * 32) B)) = true := by
    intro K k0 k1 hK
    rw [or64_join K B ⟨k0, k1⟩ ⟨B0, B1⟩, IntKind.wrap_u16, ek.out, eb.out, ← hK, beq_iff_eq]; omega
  by_cases h1 : A / 32 + n < 0
  · have f1 := Lib.hid (fin 0 (by omega) (by omega) (by unfold clampI; rw [if_pos h1]))
    clear fin
    go_enter Try.func7, Try.ntmps7
    go_wp2_with (first | (go_at_call 10; (with_reducible refine (awake_true _).mono ?_); rintro e w' ⟨rfl, rfl⟩) | (go_at_call 11; (with_reducible refine (of_any A _ (by omega) (by omega)).mono ?_); rintro e w' ⟨rfl, rfl⟩) | (go_at_call 12; (with_reducible refine (slice_any re im ka kb _ nr ni).mono ?_); rintro e w' ⟨rfl, rfl⟩))
    go_ret
    exact ⟨by show Ending.returned (Value.bool _) = _; rw [show (0 : Int) = 0 * 32 by rfl, f1.out], rfl⟩
  · by_cases h2 : 31 < A / 32 + n
    · have f1 := Lib.hid (fin 31 (by omega) (by omega) (by unfold clampI; rw [if_neg h1, if_pos h2]))
      clear fin
      go_enter Try.func7, Try.ntmps7
      go_wp2_with (first | (go_at_call 10; (with_reducible refine (awake_true _).mono ?_); rintro e w' ⟨rfl, rfl⟩) | (go_at_call 11; (with_reducible refine (of_any A _ (by omega) (by omega)).mono ?_); rintro e w' ⟨rfl, rfl⟩) | (go_at_call 12; (with_reducible refine (slice_any re im ka kb _ nr ni).mono ?_); rintro e w' ⟨rfl, rfl⟩))
      go_ret
      exact ⟨by show Ending.returned (Value.bool _) = _; rw [show (992 : Int) = 31 * 32 by rfl, f1.out], rfl⟩
    · have f1 := Lib.hid (fin (A / 32 + n) (by omega) (by omega) (by unfold clampI; rw [if_neg h1, if_neg h2]))
      clear fin
      have h1' : 0 ≤ A / 32 + n := by omega
      have h2' : A / 32 + n ≤ 31 := by omega
      go_enter Try.func7, Try.ntmps7
      go_wp2_with (first | (go_at_call 10; (with_reducible refine (awake_true _).mono ?_); rintro e w' ⟨rfl, rfl⟩) | (go_at_call 11; (with_reducible refine (of_any A _ (by omega) (by omega)).mono ?_); rintro e w' ⟨rfl, rfl⟩) | (go_at_call 12; (with_reducible refine (slice_any re im ka kb _ nr ni).mono ?_); rintro e w' ⟨rfl, rfl⟩))
      go_ret
      exact ⟨by show Ending.returned (Value.bool _) = _; rw [f1.out], rfl⟩

set_option maxHeartbeats 4000000 in
theorem round_down (s A B n : Int) (re im ka kb : Nat) (w : World)
    (hA : bits .and .u16 s 1023 = A) (A0 : 0 ≤ A) (A1 : A < 1024) (hB : bits .and .u16 A 31 = B) (B0 : 0 ≤ B) (B1 : B ≤ 31) (n0 : -128 ≤ n) (n1 : n ≤ 127)
    (hs : cSumBits .add .f64 (L (A / 32)) (L A) 0 (floatOfInt .f64 (2 * n)) = some (re, im)) (nr : Near re ka) (ni : Near im kb)
    (ek : Hid ((ka : Int) = A / 32)) (eb : Hid ((kb : Int) = clampI (B + n))) :
    Calls Try.prog 7 #[.int .u16 s, .int .i8 n, .bool false] w fun e w' => e = .returned (.bool true) ∧ w = w' := by
  have hop := fun t w => run_complex_sum (P := Try.prog) w .add (Or.inl rfl) t .f64 _ _ _ _ re im hs
  clear hs
  have fin : ∀ K : Int, 0 ≤ K → K ≤ 31 → K = clampI (B + n) → (32 * (ka : Int) + (kb : Int) == IntKind.u16.wrap (bits .or .i64 (A / 32 * 32) K)) = true := by
    intro K k0 k1 hK
    rw [or64_join (A / 32) K ⟨by omega, by omega⟩ ⟨k0, k1⟩, IntKind.wrap_u16, ek.out, eb.out, ← hK, beq_iff_eq]; omega
  by_cases h1 : B + n < 0
  · have f1 := Lib.hid (fin 0 (by omega) (by omega) (by unfold clampI; rw [if_pos h1]))
    clear fin
    go_enter Try.func7, Try.ntmps7
    go_wp2_with (first | (go_at_call 10; (with_reducible refine (awake_true _).mono ?_); rintro e w' ⟨rfl, rfl⟩) | (go_at_call 11; (with_reducible refine (of_any A _ (by omega) (by omega)).mono ?_); rintro e w' ⟨rfl, rfl⟩) | (go_at_call 12; (with_reducible refine (slice_any re im ka kb _ nr ni).mono ?_); rintro e w' ⟨rfl, rfl⟩))
    go_ret
    exact ⟨by show Ending.returned (Value.bool _) = _; rw [f1.out], rfl⟩
  · by_cases h2 : 31 < B + n
    · have f1 := Lib.hid (fin 31 (by omega) (by omega) (by unfold clampI; rw [if_neg h1, if_pos h2]))
      clear fin
      go_enter Try.func7, Try.ntmps7
      go_wp2_with (first | (go_at_call 10; (with_reducible refine (awake_true _).mono ?_); rintro e w' ⟨rfl, rfl⟩) | (go_at_call 11; (with_reducible refine (of_any A _ (by omega) (by omega)).mono ?_); rintro e w' ⟨rfl, rfl⟩) | (go_at_call 12; (with_reducible refine (slice_any re im ka kb _ nr ni).mono ?_); rintro e w' ⟨rfl, rfl⟩))
      go_ret
      exact ⟨by show Ending.returned (Value.bool _) = _; rw [f1.out], rfl⟩
    · have f1 := Lib.hid (fin (B + n) (by omega) (by omega) (by unfold clampI; rw [if_neg h1, if_neg h2]))
      clear fin
      have h1' : 0 ≤ B + n := by omega
      have h2' : B + n ≤ 31 := by omega
      go_enter Try.func7, Try.ntmps7
      go_wp2_with (first | (go_at_call 10; (with_reducible refine (awake_true _).mono ?_); rintro e w' ⟨rfl, rfl⟩) | (go_at_call 11; (with_reducible refine (of_any A _ (by omega) (by omega)).mono ?_); rintro e w' ⟨rfl, rfl⟩) | (go_at_call 12; (with_reducible refine (slice_any re im ka kb _ nr ni).mono ?_); rintro e w' ⟨rfl, rfl⟩))
      go_ret
      exact ⟨by show Ending.returned (Value.bool _) = _; rw [f1.out], rfl⟩

theorem round_any (s n : Int) (up : Bool) (ws : (Lit.int .u16 s).wf = true) (wn : (Lit.int .i8 n).wf = true) (w : World) :
    Calls Try.prog 7 #[.int .u16 s, .int .i8 n, .bool up] w fun e w' => e = .returned (.bool true) ∧ w = w' := by
  obtain ⟨s0, s1⟩ := u16_bd ws
  obtain ⟨n0, n1⟩ := i8_bd wn
  have hA := and1023 s s0 s1
  generalize hAd : s % 1024 = A at hA
  have A0 : 0 ≤ A := by omega
  have A1 : A < 1024 := by omega
  have hB := and31 A A0 (by omega)
  have is2 : Is (floatOfInt .f64 (2 * n)) ((2 * n : Int) : Rat) := ofInt_is _ (by omega)
  have is0 : Is 0 ((0 : Int) : Rat) := is_zero
  have c1 := clampI_bd (A / 32 + n)
  have c2 := clampI_bd (A % 32 + n)
  cases up
  · obtain ⟨re, im, hs, i1, i2⟩ := cadd_exact (L_is (A / 32)) (L_is A) is0 is2 (by omega) (by omega)
    refine round_down s A (A % 32) n re im (A / 32).toNat (clampI (A % 32 + n)).toNat w hA A0 A1 hB (by omega) (by omega) n0 n1 hs (near_of _ _ _ i1 (by omega) (by omega) (by omega) (by omega) (by omega)) (near_of _ _ _ i2 (by omega) (by omega) (by omega) ?_ ?_) (by unfold Hid; omega) (by unfold Hid; omega)
    · unfold clampI; split <;> (try split) <;> omega
    · unfold clampI; split <;> (try split) <;> omega
  · obtain ⟨re, im, hs, i1, i2⟩ := cadd_exact (L_is (A / 32)) (L_is A) is2 is0 (by omega) (by omega)
    refine round_up s A (A % 32) n re im (clampI (A / 32 + n)).toNat (A % 32).toNat w hA A0 A1 hB (by omega) (by omega) n0 n1 hs (near_of _ _ _ i1 (by omega) (by omega) (by omega) ?_ ?_) (near_of _ _ _ i2 (by omega) (by omega) (by omega) (by omega) (by omega)) (by unfold Hid; omega) (by unfold Hid; omega)
    · unfold clampI; split <;> (try split) <;> omega
    · unfold clampI; split <;> (try split) <;> omega
end Go.Proofs.Ytkdfepkikobjjaa
namespace Go.Proofs.Ytkdfepkikobjjaa.pointRound
open Go.ChangeShapes Go.WideShapes Go.ChangeAt Go.RowKit
set_option linter.unusedVariables false
theorem own : ownKnob Try.prog.godebug = none := by kernel_rfl

theorem walk (a0 : Int) (a1 : Int) (a2 : Bool) (w0 : (Lit.int .u16 a0).wf = true) (w1 : (Lit.int .i8 a1).wf = true) (w : World) :
    Calls Try.prog 7 #[.int .u16 a0, .int .i8 a1, .bool a2] w fun e w' => e = .returned (.bool true) ∧ Grown w w' := by
  refine (round_any a0 a1 a2 w0 w1 w).mono ?_
  rintro e w' ⟨rfl, rfl⟩
  exact ⟨rfl, Grown.refl _⟩

/-! ### THE ROW's STEP: WRITTEN OUT: LEAVE IT -/
set_option maxRecDepth 100000 in
theorem lifted (os : Os) (started : os.Started) (H : Type) (enc : TypeId × Value → H) :
    ReturnsInHanded {} Try.checked os 7 .any (Rows.pointRoundSpec.pre6 enc Try.prog Try.f7 Rows.pointRoundRow.domain false) (Rows.pointRoundSpec.post enc Try.prog Try.f7 false true false false) := by
  refine returnsInHanded_of_change (C := Try.checked) own started (by kernel_rfl) Try.func7
    (ChangeSpec.witness6 (enc := enc) (C := Try.checked) false ⟨#[], #[.int .u16 0, .int .i8 0, .bool false], []⟩ 8 (by kernel_rfl) (by kernel_rfl) (by kernel_rfl) (by kernel_rfl)) ?_
  intro W base args ds gs before hval0 hW hcnd _
  have hval : ∀ (j : Nat) t v, Try.f7.params[j]? = some t → args[j]? = some v → Value.okWide Try.prog W .any base t v := hval0
  have hW' := hW
  obtain ⟨p, q, hA0, hV, rfl, hfz, hnd⟩ := hW
  have hA : DataW.TrodAll enc Try.prog W 0 (fun _ => true) true Try.f7.params.toList args.toList ds p := hA0
  rw [Try.params7] at hA hval
  obtain ⟨v0, vs0, d0, ds0, p0, q0, hargs, rfl, rfl, h0, r0⟩ := trodAll_cons hA
  obtain ⟨v1, vs1, d1, ds1, p1, q1, rfl, rfl, rfl, h1, r1⟩ := trodAll_cons r0
  obtain ⟨v2, vs2, d2, ds2, p2, q2, rfl, rfl, rfl, h2, r2⟩ := trodAll_cons r1
  obtain ⟨rfl, rfl, rfl⟩ := trodAll_nil r2
  obtain rfl : args = #[v0, v1, v2] := by cases args; simp_all
  obtain ⟨rfl, rfl⟩ := trodVars_none hV
  obtain ⟨a0, rfl, rfl, rfl, w0⟩ := open_int Try.underlying22 (hval 0 22 v0 rfl rfl) h0
  obtain ⟨a1, rfl, rfl, rfl, w1⟩ := open_int Try.underlying37 (hval 1 37 v1 rfl rfl) h1
  obtain ⟨a2, rfl, rfl, rfl⟩ := open_bool Try.underlying4 (hval 2 4 v2 rfl rfl) h2
  clear hA0 hval0
  simp only [List.append_nil] at hW'
  refine (walk a0 a1 a2 w0 w1 W).mono fun e W' ⟨he, hg⟩ => ?_
  subst he
  exact ⟨_, rfl, post_of_same (pa := []) (pv := []) hW' (fun _ _ _ => (trodAll_cons_mk (shut_bool Try.underlying4 _) trodAll_mk0)) (fun sp _ => (trodAll_cons_mk (shut_int Try.underlying22 w0) (trodAll_cons_mk (shut_int Try.underlying37 w1) (trodAll_cons_mk (shut_bool Try.underlying4 _) trodAll_mk0)))) (fun _ _ => rfl) rfl
    (hg.frame _) hg.2.1 (ok_one (by kernel_rfl) rfl (okWide_bool_mk Try.underlying4 _))⟩

theorem over : Rows.pointRoundRow.holds Try.pinned (OpenSpec.ofChange Rows.pointRoundSpec) :=
  OpenClaim.holds_of_wide 7 Try.f7 rfl rfl rfl rfl rfl rfl rfl ⟨rfl, rfl, rfl, rfl, rfl⟩ rfl rfl rfl rfl rfl (by kernel_rfl) Try.func7 (by kernel_rfl)
    (of_decide_eq_true (by kernel_rfl)) (by unfold Func.isWrapper; first | (rw [if_pos (by decide +kernel)]; kernel_rfl) | (rw [if_neg (by decide +kernel)]; exact ⟨rfl, rfl⟩))
    (fun os started H enc _ => lifted os started H enc)

/-- ████ THE STATEMENT ████ -/
theorem proved : Rows.PointRoundSaid :=
  over
end Go.Proofs.Ytkdfepkikobjjaa.pointRound
