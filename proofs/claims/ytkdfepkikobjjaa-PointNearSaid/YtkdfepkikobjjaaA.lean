/- The document's example of chapter 1, as the statements ask for it first: it holds. -/
import Derived.Test.YtkdfepkikobjjaaW
namespace Go.Proofs.Ytkdfepkikobjjaa
open Go.RowKit Go.Fl

theorem is_half : Is 4602678819172646912 (1 / 2) := ⟨false, 4503599627370496, -53, by decide +kernel, by decide +kernel⟩
theorem is_one : Is 4607182418800017408 1 := ⟨false, 4503599627370496, -52, by decide +kernel, by decide +kernel⟩
theorem is_m3 : Is 13837309855095848960 (-3) := ⟨true, 6755399441055744, -51, by decide +kernel, by decide +kernel⟩
theorem near_half : Near 4602678819172646912 16 := near_is 16 is_half 8 8 (by omega) (by omega) (by decide +kernel) (by decide +kernel) (by omega) (by omega) (by omega)
theorem near_one : Near 4607182418800017408 16 := near_of _ 1 16 is_one (by omega) (by omega) (by omega) (by omega) (by omega)
theorem near_m3 : Near 13837309855095848960 14 := near_of _ (-3) 14 is_m3 (by omega) (by omega) (by omega) (by omega) (by omega)
theorem near_zero : Near 0 16 := near_of _ 0 16 is_zero (by omega) (by omega) (by omega) (by omega) (by omega)
theorem of_lo (w : World) : Calls Try.prog 11 #[.int .u16 0] w fun e w' => e = .returned (.complex .f64 13852790978814935040 13852790978814935040) ∧ w = w' := by
  refine (of_any 0 w (by omega) (by omega)).mono ?_
  rintro e w' ⟨rfl, rfl⟩
  exact ⟨by rw [show L (0 / 32) = 13852790978814935040 by decide +kernel, show L 0 = 13852790978814935040 by decide +kernel], rfl⟩
theorem of_hi (w : World) : Calls Try.prog 11 #[.int .u16 1023] w fun e w' => e = .returned (.complex .f64 4629418941960159232 4629418941960159232) ∧ w = w' := by
  refine (of_any 1023 w (by omega) (by omega)).mono ?_
  rintro e w' ⟨rfl, rfl⟩
  exact ⟨by rw [show L (1023 / 32) = 4629418941960159232 by decide +kernel, show L 1023 = 4629418941960159232 by decide +kernel], rfl⟩
theorem slice_ex (w : World) : Calls Try.prog 12 #[.complex .f64 4602678819172646912 4607182418800017408] w fun e w' => e = .returned (.int .u16 528) ∧ w = w' :=
  slice_any _ _ 16 16 w near_half near_one
theorem grid_ex (w : World) : Calls Try.prog 13 #[.complex .f64 4607182418800017408 13837309855095848960] w fun e w' => e = .returned (.bool true) ∧ w = w' := by
  refine (grid_any _ _ 16 14 w near_one near_m3).mono ?_
  rintro e w' ⟨rfl, rfl⟩
  exact ⟨by rw [show (FloatKind.f64.format.order 4607182418800017408 (L (16 : Nat)) == some .eq && FloatKind.f64.format.order 13837309855095848960 (L (14 : Nat)) == some .eq) = true by decide +kernel], rfl⟩
theorem grid_no (w : World) : Calls Try.prog 13 #[.complex .f64 0 0] w fun e w' => e = .returned (.bool false) ∧ w = w' := by
  refine (grid_any _ _ 16 16 w near_zero near_zero).mono ?_
  rintro e w' ⟨rfl, rfl⟩
  exact ⟨by rw [show (FloatKind.f64.format.order 0 (L (16 : Nat)) == some .eq && FloatKind.f64.format.order 0 (L (16 : Nat)) == some .eq) = false by decide +kernel], rfl⟩

set_option maxHeartbeats 1000000 in
theorem awake_true (w : World) : Calls Try.prog 10 #[] w fun e w' => e = .returned (.bool true) ∧ w = w' := by
  have q1 : (FloatKind.f64.format.order 13852790978814935040 13852790978814935040 == some .eq) = true := by decide +kernel
  have q2 : (FloatKind.f64.format.order 4629418941960159232 4629418941960159232 == some .eq) = true := by decide +kernel
  go_enter Try.func10, Try.ntmps10
  go_wp2_with (first | (go_at_call 11; (with_reducible refine (of_lo _).mono ?_); rintro e w' ⟨rfl, rfl⟩) | (go_at_call 11; (with_reducible refine (of_hi _).mono ?_); rintro e w' ⟨rfl, rfl⟩) | (go_at_call 12; (with_reducible refine (slice_ex _).mono ?_); rintro e w' ⟨rfl, rfl⟩) | (go_at_call 13; (with_reducible refine (grid_ex _).mono ?_); rintro e w' ⟨rfl, rfl⟩) | (go_at_call 13; (with_reducible refine (grid_no _).mono ?_); rintro e w' ⟨rfl, rfl⟩))
  go_ret
  exact ⟨rfl, rfl⟩
end Go.Proofs.Ytkdfepkikobjjaa
