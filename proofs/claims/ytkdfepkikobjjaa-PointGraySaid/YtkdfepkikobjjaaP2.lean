/- Statement PointGray: for every two numbers the law returns true. -/
import Derived.Test.YtkdfepkikobjjaaP1
namespace Go.Proofs.Ytkdfepkikobjjaa
open Go.RowKit Go.Fl

def GN (n : Nat) : Nat := 32 * (n / 32 ^^^ n / 32 / 2) + (n % 32 ^^^ n % 32 / 2)
def U5 (m : Nat) : Nat := m ^^^ m / 2 ^^^ m / 4 ^^^ m / 8 ^^^ m / 16
def UN (m : Nat) : Nat := 32 * U5 (m / 32) + U5 (m % 32)
theorem UN_GN : ∀ n : Fin 1024, UN (GN n) = n := by decide +kernel
theorem GN_lt : ∀ n : Fin 1024, GN n < 1024 := by decide +kernel
theorem GN_one : ∀ n : Fin 1024, n.val % 32 < 31 → (GN n ^^^ GN (n + 1 : Nat)) ≠ 0 ∧ (GN n ^^^ GN (n + 1 : Nat)) &&& ((GN n ^^^ GN (n + 1 : Nat)) - 1) = 0 := by decide +kernel
theorem GN_32 : ∀ n : Fin 1024, n.val / 32 < 31 → (GN n ^^^ GN (n + 32 : Nat)) ≠ 0 ∧ (GN n ^^^ GN (n + 32 : Nat)) &&& ((GN n ^^^ GN (n + 32 : Nat)) - 1) = 0 := by decide +kernel
theorem GN_is (n : Nat) (h : n < 1024) : 32 * gI ((n : Int) / 32 % 32) + gI ((n : Int) % 32) = (GN n : Int) := by
  unfold gI GN
  rw [show ((n : Int) / 32 % 32).toNat = n / 32 by omega, show ((n : Int) % 32).toNat = n % 32 by omega]
  omega
theorem GN_inj {a b : Nat} (ha : a < 1024) (hb : b < 1024) (h : GN a = GN b) : a = b := by
  have h1 : UN (GN a) = a := UN_GN ⟨a, ha⟩
  have h2 : UN (GN b) = b := UN_GN ⟨b, hb⟩
  rw [← h1, ← h2, h]
theorem xor_zero {a b : Nat} : a ^^^ b = 0 ↔ a = b := by
  constructor
  · intro h
    have : (a ^^^ b) ^^^ b = 0 ^^^ b := by rw [h]
    rwa [Nat.xor_assoc, Nat.xor_self, Nat.xor_zero, Nat.zero_xor] at this
  · rintro rfl; exact Nat.xor_self _

set_option maxHeartbeats 4000000 in
theorem gray_core (a b A B GA GB X Y : Int) (re im : Nat) (b1 b2 b3 b4 n : Bool) (w : World)
    (hA : bits .and .u16 a 1023 = A) (hB : bits .and .u16 b 1023 = B) (A0 : 0 ≤ A) (A1 : A < 1024) (B0 : 0 ≤ B) (B1 : B < 1024)
    (gA : 32 * gI (A / 32 % 32) + gI (A % 32) = GA) (gB : 32 * gI (B / 32 % 32) + gI (B % 32) = GB) (hX : bits .xor .u16 GA GB = X) (hY : bits .and .u16 X (X - 1) = Y)
    (X0 : 0 ≤ X) (X1 : X < 65536)
    (hs : cSumBits .sub .f64 (L (A / 32)) (L A) (L (B / 32)) (L B) = some (re, im))
    (c1 : (FloatKind.f64.format.order re 4611686018427387904 == some .eq && FloatKind.f64.format.order im 0 == some .eq) = b1)
    (c2 : (FloatKind.f64.format.order re 13835058055282163712 == some .eq && FloatKind.f64.format.order im 0 == some .eq) = b2)
    (c3 : (FloatKind.f64.format.order re 0 == some .eq && FloatKind.f64.format.order im 4611686018427387904 == some .eq) = b3)
    (c4 : (FloatKind.f64.format.order re 0 == some .eq && FloatKind.f64.format.order im 13835058055282163712 == some .eq) = b4)
    (n1 : (A == B) = n) (x1 : (X == 0) = n) (x2 : (X != 0) = !n) (hn : (b1 || b2 || b3 || b4) = true → n = false ∧ (Y == 0) = true) (lt : decide (GA < 1024) = true) :
    Calls Try.prog 4 #[.int .u16 a, .int .u16 b] w fun e w' => e = .returned (.bool true) ∧ w = w' := by
  have hop := fun t w => run_complex_sum (P := Try.prog) w .sub (Or.inr rfl) t .f64 _ _ _ _ re im hs
  clear hs
  have g1 : ∀ w, Calls Try.prog 15 #[.int .u16 A] w fun e w' => e = .returned (.int .u16 GA) ∧ w = w' := fun w => gA ▸ Gray_any A w (by omega) (by omega)
  have g2 : ∀ w, Calls Try.prog 15 #[.int .u16 B] w fun e w' => e = .returned (.int .u16 GB) ∧ w = w' := fun w => gB ▸ Gray_any B w (by omega) (by omega)
  clear gA gB
  have X2 : n = false → 1 ≤ X := by rintro rfl; have := x2; simp at this; omega
  have goal : ∀ (hn' : n = false → (b1 || b2 || b3 || b4) = true → (Y == 0) = true), Calls Try.prog 4 #[.int .u16 a, .int .u16 b] w fun e w' => e = .returned (.bool true) ∧ w = w' := by
    intro hn'
    cases n
    · have X3 := X2 rfl
      clear X2 hn
      have x2' : (X != 0) = true := x2
      clear x2
      by_cases hb : (b1 || b2 || b3 || b4) = true
      · have hy := hn' rfl hb
        clear hn'
        cases b1 <;> cases b2 <;> cases b3 <;> cases b4 <;> (try (exact absurd hb (by decide))) <;> clear hb <;>
        · go_enter Try.func4, Try.ntmps4
          go_wp2_with (first | (go_at_call 10; (with_reducible refine (awake_true _).mono ?_); rintro e w' ⟨rfl, rfl⟩) | (go_at_call 11; (with_reducible refine (of_any A _ (by omega) (by omega)).mono ?_); rintro e w' ⟨rfl, rfl⟩) | (go_at_call 11; (with_reducible refine (of_any B _ (by omega) (by omega)).mono ?_); rintro e w' ⟨rfl, rfl⟩) | (go_at_call 15; (with_reducible refine (g1 _).mono ?_); rintro e w' ⟨rfl, rfl⟩) | (go_at_call 15; (with_reducible refine (g2 _).mono ?_); rintro e w' ⟨rfl, rfl⟩))
          go_ret
          exact ⟨rfl, rfl⟩
      · clear hn'
        cases b1 <;> cases b2 <;> cases b3 <;> cases b4 <;> (try (exact absurd rfl hb)) <;> clear hb <;>
        · go_enter Try.func4, Try.ntmps4
          go_wp2_with (first | (go_at_call 10; (with_reducible refine (awake_true _).mono ?_); rintro e w' ⟨rfl, rfl⟩) | (go_at_call 11; (with_reducible refine (of_any A _ (by omega) (by omega)).mono ?_); rintro e w' ⟨rfl, rfl⟩) | (go_at_call 11; (with_reducible refine (of_any B _ (by omega) (by omega)).mono ?_); rintro e w' ⟨rfl, rfl⟩) | (go_at_call 15; (with_reducible refine (g1 _).mono ?_); rintro e w' ⟨rfl, rfl⟩) | (go_at_call 15; (with_reducible refine (g2 _).mono ?_); rintro e w' ⟨rfl, rfl⟩))
          go_ret
          exact ⟨rfl, rfl⟩
    · have hb : (b1 || b2 || b3 || b4) = false := by
        cases hh : (b1 || b2 || b3 || b4) with
        | false => rfl
        | true => exact absurd (hn hh).1 (by decide)
      have x2' : (X != 0) = false := x2
      clear hn hn' X2 x2
      cases b1 <;> cases b2 <;> cases b3 <;> cases b4 <;> (try (exact absurd hb (by decide))) <;> clear hb <;>
      · go_enter Try.func4, Try.ntmps4
        go_wp2_with (first | (go_at_call 10; (with_reducible refine (awake_true _).mono ?_); rintro e w' ⟨rfl, rfl⟩) | (go_at_call 11; (with_reducible refine (of_any A _ (by omega) (by omega)).mono ?_); rintro e w' ⟨rfl, rfl⟩) | (go_at_call 11; (with_reducible refine (of_any B _ (by omega) (by omega)).mono ?_); rintro e w' ⟨rfl, rfl⟩) | (go_at_call 15; (with_reducible refine (g1 _).mono ?_); rintro e w' ⟨rfl, rfl⟩) | (go_at_call 15; (with_reducible refine (g2 _).mono ?_); rintro e w' ⟨rfl, rfl⟩))
        go_ret
        exact ⟨rfl, rfl⟩
  exact goal (fun _ h => (hn h).2)

theorem gray_law (a b : Int) (wa : (Lit.int .u16 a).wf = true) (wb : (Lit.int .u16 b).wf = true) (w : World) :
    Calls Try.prog 4 #[.int .u16 a, .int .u16 b] w fun e w' => e = .returned (.bool true) ∧ w = w' := by
  obtain ⟨a0, a1⟩ := u16_bd wa
  obtain ⟨b0, b1⟩ := u16_bd wb
  have hA := and1023 a a0 a1
  have hB := and1023 b b0 b1
  obtain ⟨A, hAd⟩ : ∃ A : Nat, a % 1024 = A := ⟨(a % 1024).toNat, by omega⟩
  obtain ⟨B, hBd⟩ : ∃ B : Nat, b % 1024 = B := ⟨(b % 1024).toNat, by omega⟩
  rw [hAd] at hA
  rw [hBd] at hB
  have A1 : A < 1024 := by omega
  have B1 : B < 1024 := by omega
  have gA1 : GN A < 1024 := GN_lt ⟨A, A1⟩
  have gB1 : GN B < 1024 := GN_lt ⟨B, B1⟩
  obtain ⟨re, im, hs, i1, i2⟩ := csub_exact (L_is ((A : Int) / 32)) (L_is A) (L_is ((B : Int) / 32)) (L_is B) (by omega) (by omega)
  have hX := u16_xor_nat (GN A) (GN B) (by omega) (by omega)
  have hXl : GN A ^^^ GN B < 2 ^ 10 := Nat.xor_lt_two_pow gA1 gB1
  have hX0 : GN A ^^^ GN B = 0 ↔ A = B := ⟨fun h => GN_inj A1 B1 (xor_zero.1 h), fun h => by rw [h]; exact Nat.xor_self _⟩
  refine gray_core a b A B (GN A) (GN B) ((GN A ^^^ GN B : Nat) : Int) _ re im _ _ _ _ (decide (A = B)) w hA hB (by omega) (by omega) (by omega) (by omega) (GN_is A A1) (GN_is B B1) hX rfl (by omega) (by omega) hs rfl rfl rfl rfl
    (by by_cases h : A = B <;> simp [h] <;> omega) ?_ ?_ ?_ (by simp; omega)
  · by_cases h : A = B
    · simp [h]
    · have := mt hX0.1 h
      simp [h, this]
  · by_cases h : A = B
    · simp [h]
    · have := mt hX0.1 h
      simp [h, this]
  · rw [f64_eq i1 (b := 2) is_two, f64_eq i2 (b := 0) is_zero, f64_eq i1 (b := -2) is_m2, f64_eq i1 (b := 0) is_zero, f64_eq i2 (b := 2) is_two, f64_eq i2 (b := -2) is_m2]
    simp only [Bool.or_eq_true, Bool.and_eq_true, decide_eq_true_eq]
    intro hbes
    have key : (GN A ^^^ GN B) ≠ 0 ∧ (GN A ^^^ GN B) &&& ((GN A ^^^ GN B) - 1) = 0 := by
      have cases4 : (B = A + 1 ∧ A % 32 < 31) ∨ (A = B + 1 ∧ B % 32 < 31) ∨ (B = A + 32 ∧ A / 32 < 31) ∨ (A = B + 32 ∧ B / 32 < 31) := by omega
      rcases cases4 with ⟨h, h'⟩ | ⟨h, h'⟩ | ⟨h, h'⟩ | ⟨h, h'⟩
      · subst h; exact GN_one ⟨A, A1⟩ h'
      · subst h; rw [Nat.xor_comm]; exact GN_one ⟨B, B1⟩ h'
      · subst h; exact GN_32 ⟨A, A1⟩ h'
      · subst h; rw [Nat.xor_comm]; exact GN_32 ⟨B, B1⟩ h'
    generalize GN A ^^^ GN B = x at key hX0 hXl
    refine ⟨?_, ?_⟩
    · have : A ≠ B := fun h => key.1 (hX0.2 h)
      simp [this]
    · have e : bits .and .u16 (x : Int) ((x : Int) - 1) = ((x &&& (x - 1) : Nat) : Int) := by
        have := u16_and_nat x (x - 1) (by omega) (by omega)
        rw [← this]; congr 1; omega
      rw [e, key.2]; rfl
end Go.Proofs.Ytkdfepkikobjjaa
namespace Go.Proofs.Ytkdfepkikobjjaa.pointGray
open Go.ChangeShapes Go.WideShapes Go.ChangeAt Go.RowKit
set_option linter.unusedVariables false
theorem own : ownKnob Try.prog.godebug = none := by kernel_rfl

theorem walk (a0 : Int) (a1 : Int) (w0 : (Lit.int .u16 a0).wf = true) (w1 : (Lit.int .u16 a1).wf = true) (w : World) :
    Calls Try.prog 4 #[.int .u16 a0, .int .u16 a1] w fun e w' => e = .returned (.bool true) ∧ Grown w w' := by
  refine (gray_law a0 a1 w0 w1 w).mono ?_
  rintro e w' ⟨rfl, rfl⟩
  exact ⟨rfl, Grown.refl _⟩

/-! ### THE ROW's STEP: WRITTEN OUT: LEAVE IT -/
set_option maxRecDepth 100000 in
theorem lifted (os : Os) (started : os.Started) (H : Type) (enc : TypeId × Value → H) :
    ReturnsInHanded {} Try.checked os 4 .any (Rows.pointGraySpec.pre6 enc Try.prog Try.f4 Rows.pointGrayRow.domain false) (Rows.pointGraySpec.post enc Try.prog Try.f4 false true false false) := by
  refine returnsInHanded_of_change (C := Try.checked) own started (by kernel_rfl) Try.func4
    (ChangeSpec.witness6 (enc := enc) (C := Try.checked) false ⟨#[], #[.int .u16 0, .int .u16 0], []⟩ 8 (by kernel_rfl) (by kernel_rfl) (by kernel_rfl) (by kernel_rfl)) ?_
  intro W base args ds gs before hval0 hW hcnd _
  have hval : ∀ (j : Nat) t v, Try.f4.params[j]? = some t → args[j]? = some v → Value.okWide Try.prog W .any base t v := hval0
  have hW' := hW
  obtain ⟨p, q, hA0, hV, rfl, hfz, hnd⟩ := hW
  have hA : DataW.TrodAll enc Try.prog W 0 (fun _ => true) true Try.f4.params.toList args.toList ds p := hA0
  rw [Try.params4] at hA hval
  obtain ⟨v0, vs0, d0, ds0, p0, q0, hargs, rfl, rfl, h0, r0⟩ := trodAll_cons hA
  obtain ⟨v1, vs1, d1, ds1, p1, q1, rfl, rfl, rfl, h1, r1⟩ := trodAll_cons r0
  obtain ⟨rfl, rfl, rfl⟩ := trodAll_nil r1
  obtain rfl : args = #[v0, v1] := by cases args; simp_all
  obtain ⟨rfl, rfl⟩ := trodVars_none hV
  obtain ⟨a0, rfl, rfl, rfl, w0⟩ := open_int Try.underlying22 (hval 0 22 v0 rfl rfl) h0
  obtain ⟨a1, rfl, rfl, rfl, w1⟩ := open_int Try.underlying22 (hval 1 22 v1 rfl rfl) h1
  clear hA0 hval0
  simp only [List.append_nil] at hW'
  refine (walk a0 a1 w0 w1 W).mono fun e W' ⟨he, hg⟩ => ?_
  subst he
  exact ⟨_, rfl, post_of_same (pa := []) (pv := []) hW' (fun _ _ _ => (trodAll_cons_mk (shut_bool Try.underlying4 _) trodAll_mk0)) (fun sp _ => (trodAll_cons_mk (shut_int Try.underlying22 w0) (trodAll_cons_mk (shut_int Try.underlying22 w1) trodAll_mk0))) (fun _ _ => rfl) rfl
    (hg.frame _) hg.2.1 (ok_one (by kernel_rfl) rfl (okWide_bool_mk Try.underlying4 _))⟩

theorem over : Rows.pointGrayRow.holds Try.pinned (OpenSpec.ofChange Rows.pointGraySpec) :=
  OpenClaim.holds_of_wide 4 Try.f4 rfl rfl rfl rfl rfl rfl rfl ⟨rfl, rfl, rfl, rfl, rfl⟩ rfl rfl rfl rfl rfl (by kernel_rfl) Try.func4 (by kernel_rfl)
    (of_decide_eq_true (by kernel_rfl)) (by unfold Func.isWrapper; first | (rw [if_pos (by decide +kernel)]; kernel_rfl) | (rw [if_neg (by decide +kernel)]; exact ⟨rfl, rfl⟩))
    (fun os started H enc _ => lifted os started H enc)

/-- ████ THE STATEMENT ████ -/
theorem proved : Rows.PointGraySaid :=
  over
end Go.Proofs.Ytkdfepkikobjjaa.pointGray
