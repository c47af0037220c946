/- Statement PointApart: for every two numbers the law returns true. -/
import Derived.Test.YtkdfepkikobjjaaA
import Derived.ProofKit
import Derived.OpenShut
namespace Go.Proofs.Ytkdfepkikobjjaa
open Go.RowKit Go.Fl

theorem is_m2 : Is 13835058055282163712 (-2) := ⟨true, 4503599627370496, -51, by decide +kernel, by decide +kernel⟩
theorem f64_ge {x y : Nat} {a b : Int} (ha : Is x a) (hb : Is y b) : (FloatKind.f64.format.order x y == some .gt || FloatKind.f64.format.order x y == some .eq) = decide (b ≤ a) := by
  rcases Int.lt_trichotomy a b with h | h | h
  · rw [f64f, order_lt ha hb (Rat.intCast_lt_intCast.2 h)]; simp; omega
  · rw [f64f, order_eq ha hb (by rw [h])]; simp; omega
  · rw [f64f, order_gt ha hb (Rat.intCast_lt_intCast.2 h)]; simp; omega
theorem f64_le {x y : Nat} {a b : Int} (ha : Is x a) (hb : Is y b) : (FloatKind.f64.format.order x y == some .lt || FloatKind.f64.format.order x y == some .eq) = decide (a ≤ b) := by
  rcases Int.lt_trichotomy a b with h | h | h
  · rw [f64f, order_lt ha hb (Rat.intCast_lt_intCast.2 h)]; simp; omega
  · rw [f64f, order_eq ha hb (by rw [h])]; simp; omega
  · rw [f64f, order_gt ha hb (Rat.intCast_lt_intCast.2 h)]; simp; omega
theorem f64_eq {x y : Nat} {a b : Int} (ha : Is x a) (hb : Is y b) : (FloatKind.f64.format.order x y == some .eq) = decide (a = b) := by
  rw [ord_eq_b ha hb]; by_cases h : a = b
  · simp [h]
  · simp [h]
theorem f64_ne {x y : Nat} {a b : Int} (ha : Is x a) (hb : Is y b) : (FloatKind.f64.format.order x y != some .eq) = !decide (a = b) := by
  rw [← f64_eq ha hb]; rfl
theorem csub_exact {a b c d : Nat} {p q r s : Int} (ha : Is a p) (hb : Is b q) (hc : Is c r) (hd : Is d s) (h1 : (p - r).natAbs < 2 ^ 53) (h2 : (q - s).natAbs < 2 ^ 53) :
    ∃ re im, cSumBits .sub .f64 a b c d = some (re, im) ∧ Is re ((p - r : Int) : Rat) ∧ Is im ((q - s : Int) : Rat) := by
  obtain ⟨x, e1, i1⟩ := sub_exact ha hc (Rat.intCast_sub p r).symm (rep_int _ h1)
  obtain ⟨y, e2, i2⟩ := sub_exact hb hd (Rat.intCast_sub q s).symm (rep_int _ h2)
  exact ⟨x, y, by simp [cSumBits, e1, e2], i1, i2⟩
theorem cadd_exact {a b c d : Nat} {p q r s : Int} (ha : Is a p) (hb : Is b q) (hc : Is c r) (hd : Is d s) (h1 : (p + r).natAbs < 2 ^ 53) (h2 : (q + s).natAbs < 2 ^ 53) :
    ∃ re im, cSumBits .add .f64 a b c d = some (re, im) ∧ Is re ((p + r : Int) : Rat) ∧ Is im ((q + s : Int) : Rat) := by
  obtain ⟨x, e1, i1⟩ := add_exact ha hc (Rat.intCast_add p r).symm (rep_int _ h1)
  obtain ⟨y, e2, i2⟩ := add_exact hb hd (Rat.intCast_add q s).symm (rep_int _ h2)
  exact ⟨x, y, by simp [cSumBits, e1, e2], i1, i2⟩

set_option maxHeartbeats 4000000 in
theorem apart_core (a b A B : Int) (re im : Nat) (b1 b2 b3 b4 n : Bool) (w : World)
    (hA : bits .and .u16 a 1023 = A) (hB : bits .and .u16 b 1023 = B) (A0 : 0 ≤ A) (A1 : A < 1024) (B0 : 0 ≤ B) (B1 : B < 1024)
    (hs : cSumBits .sub .f64 (L (A / 32)) (L A) (L (B / 32)) (L B) = some (re, im))
    (c1 : (FloatKind.f64.format.order re 4611686018427387904 == some .gt || FloatKind.f64.format.order re 4611686018427387904 == some .eq) = b1)
    (c2 : (FloatKind.f64.format.order re 13835058055282163712 == some .lt || FloatKind.f64.format.order re 13835058055282163712 == some .eq) = b2)
    (c3 : (FloatKind.f64.format.order im 4611686018427387904 == some .gt || FloatKind.f64.format.order im 4611686018427387904 == some .eq) = b3)
    (c4 : (FloatKind.f64.format.order im 13835058055282163712 == some .lt || FloatKind.f64.format.order im 13835058055282163712 == some .eq) = b4)
    (n1 : (A == B) = !n) (n2 : (A != B) = n) (hn : n = (b1 || b2 || b3 || b4))
    (z1 : (FloatKind.f64.format.order (L (A / 32)) 0 == some .eq) = false) (z2 : (FloatKind.f64.format.order (L A) 0 == some .eq) = false)
    (z3 : (FloatKind.f64.format.order (L (A / 32)) 0 != some .eq) = true) (z4 : (FloatKind.f64.format.order (L A) 0 != some .eq) = true) :
    Calls Try.prog 9 #[.int .u16 a, .int .u16 b] w fun e w' => e = .returned (.bool true) ∧ w = w' := by
  have hop := fun t w => run_complex_sum (P := Try.prog) w .sub (Or.inr rfl) t .f64 _ _ _ _ re im hs
  clear hs
  subst hn
  cases b1 <;> cases b2 <;> cases b3 <;> cases b4 <;> simp only [Bool.or_true, Bool.or_false, Bool.not_true, Bool.not_false] at n1 n2 <;>
  · go_enter Try.func9, Try.ntmps9
    go_wp2_with (first | (go_at_call 10; (with_reducible refine (awake_true _).mono ?_); rintro e w' ⟨rfl, rfl⟩) | (go_at_call 11; (with_reducible refine (of_any A _ (by omega) (by omega)).mono ?_); rintro e w' ⟨rfl, rfl⟩) | (go_at_call 11; (with_reducible refine (of_any B _ (by omega) (by omega)).mono ?_); rintro e w' ⟨rfl, rfl⟩))
    go_ret
    exact ⟨rfl, rfl⟩

theorem u16_bd {a : Int} (h : (Lit.int .u16 a).wf = true) : 0 ≤ a ∧ a < 65536 := by
  simp [Lit.wf, IntKind.min, IntKind.max, IntKind.signed, IntKind.bits] at h; omega
theorem L_ne_zero (n : Int) : (FloatKind.f64.format.order (L n) 0 == some .eq) = false := by
  have h := f64_eq (L_is n) (b := 0) is_zero
  rw [h]; simp; omega
theorem L_ne_zero' (n : Int) : (FloatKind.f64.format.order (L n) 0 != some .eq) = true := by
  unfold bne; rw [L_ne_zero]; rfl

theorem apart_any (a b : Int) (wa : (Lit.int .u16 a).wf = true) (wb : (Lit.int .u16 b).wf = true) (w : World) :
    Calls Try.prog 9 #[.int .u16 a, .int .u16 b] w fun e w' => e = .returned (.bool true) ∧ w = w' := by
  obtain ⟨a0, a1⟩ := u16_bd wa
  obtain ⟨b0, b1⟩ := u16_bd wb
  have hA := and1023 a a0 a1
  have hB := and1023 b b0 b1
  generalize hAd : a % 1024 = A at hA
  generalize hBd : b % 1024 = B at hB
  have A0 : 0 ≤ A := by omega
  have A1 : A < 1024 := by omega
  have B0 : 0 ≤ B := by omega
  have B1 : B < 1024 := by omega
  obtain ⟨re, im, hs, i1, i2⟩ := csub_exact (L_is (A / 32)) (L_is A) (L_is (B / 32)) (L_is B) (by omega) (by omega)
  refine apart_core a b A B re im _ _ _ _ (A != B) w hA hB A0 A1 B0 B1 hs (f64_ge i1 (b := 2) is_two) (f64_le i1 (b := -2) is_m2) (f64_ge i2 (b := 2) is_two) (f64_le i2 (b := -2) is_m2) (by simp [bne]) rfl ?_
    (L_ne_zero _) (L_ne_zero _) (L_ne_zero' _) (L_ne_zero' _)
  by_cases h : A = B
  · subst h; simp
  · have e : (A != B) = true := by simpa using h
    rw [e]
    symm
    simp only [Bool.or_eq_true, decide_eq_true_eq]
    omega
end Go.Proofs.Ytkdfepkikobjjaa
namespace Go.Proofs.Ytkdfepkikobjjaa.pointApart
open Go.ChangeShapes Go.WideShapes Go.ChangeAt Go.RowKit
theorem own : ownKnob Try.prog.godebug = none := by kernel_rfl

theorem walk (a0 : Int) (a1 : Int) (w0 : (Lit.int .u16 a0).wf = true) (w1 : (Lit.int .u16 a1).wf = true) (w : World) :
    Calls Try.prog 9 #[.int .u16 a0, .int .u16 a1] w fun e w' => e = .returned (.bool true) ∧ Grown w w' := by
  refine (apart_any a0 a1 w0 w1 w).mono ?_
  rintro e w' ⟨rfl, rfl⟩
  exact ⟨rfl, Grown.refl _⟩

/-! ### THE ROW's STEP: WRITTEN OUT: LEAVE IT -/
set_option maxRecDepth 100000 in
theorem lifted (os : Os) (started : os.Started) (H : Type) (enc : TypeId × Value → H) :
    ReturnsInHanded {} Try.checked os 9 .any (Rows.pointApartSpec.pre6 enc Try.prog Try.f9 Rows.pointApartRow.domain false) (Rows.pointApartSpec.post enc Try.prog Try.f9 false true false false) := by
  refine returnsInHanded_of_change (C := Try.checked) own started (by kernel_rfl) Try.func9
    (ChangeSpec.witness6 (enc := enc) (C := Try.checked) false ⟨#[], #[.int .u16 0, .int .u16 0], []⟩ 8 (by kernel_rfl) (by kernel_rfl) (by kernel_rfl) (by kernel_rfl)) ?_
  intro W base args ds gs before hval0 hW hcnd _
  have hval : ∀ (j : Nat) t v, Try.f9.params[j]? = some t → args[j]? = some v → Value.okWide Try.prog W .any base t v := hval0
  have hW' := hW
  obtain ⟨p, q, hA0, hV, rfl, hfz, hnd⟩ := hW
  have hA : DataW.TrodAll enc Try.prog W 0 (fun _ => true) true Try.f9.params.toList args.toList ds p := hA0
  rw [Try.params9] at hA hval
  obtain ⟨v0, vs0, d0, ds0, p0, q0, hargs, rfl, rfl, h0, r0⟩ := trodAll_cons hA
  obtain ⟨v1, vs1, d1, ds1, p1, q1, rfl, rfl, rfl, h1, r1⟩ := trodAll_cons r0
  obtain ⟨rfl, rfl, rfl⟩ := trodAll_nil r1
  obtain rfl : args = #[v0, v1] := by cases args; simp_all
  obtain ⟨rfl, rfl⟩ := trodVars_none hV
  obtain ⟨a0, rfl, rfl, rfl, w0⟩ := open_int Try.underlying22 (hval 0 22 v0 rfl rfl) h0
  obtain ⟨a1, rfl, rfl, rfl, w1⟩ := open_int Try.underlying22 (hval 1 22 v1 rfl rfl) h1
  clear hA0 hval0
  simp only [List.append_nil] at hW'
  refine (walk a0 a1 w0 w1 W).mono fun e W' ⟨he, hg⟩ => ?_
  subst he
  exact ⟨_, rfl, post_of_same (pa := []) (pv := []) hW' (fun _ _ _ => (trodAll_cons_mk (shut_bool Try.underlying4 _) trodAll_mk0)) (fun sp _ => (trodAll_cons_mk (shut_int Try.underlying22 w0) (trodAll_cons_mk (shut_int Try.underlying22 w1) trodAll_mk0))) (fun _ _ => rfl) rfl
    (hg.frame _) hg.2.1 (ok_one (by kernel_rfl) rfl (okWide_bool_mk Try.underlying4 _))⟩

theorem over : Rows.pointApartRow.holds Try.pinned (OpenSpec.ofChange Rows.pointApartSpec) :=
  OpenClaim.holds_of_wide 9 Try.f9 rfl rfl rfl rfl rfl rfl rfl ⟨rfl, rfl, rfl, rfl, rfl⟩ rfl rfl rfl rfl rfl (by kernel_rfl) Try.func9 (by kernel_rfl)
    (of_decide_eq_true (by kernel_rfl)) (by unfold Func.isWrapper; first | (rw [if_pos (by decide +kernel)]; kernel_rfl) | (rw [if_neg (by decide +kernel)]; exact ⟨rfl, rfl⟩))
    (fun os started H enc _ => lifted os started H enc)

/-- ████ THE STATEMENT ████ -/
theorem proved : Rows.PointApartSaid :=
  over
end Go.Proofs.Ytkdfepkikobjjaa.pointApart
