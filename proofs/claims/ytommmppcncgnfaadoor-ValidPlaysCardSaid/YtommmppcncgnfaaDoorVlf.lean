/- Next walked. -/
import Derived.Test.YtommmppcncgnfaaDoorVle
namespace Go.Proofs.YtommmppcncgnfaaDoor.Vl
open Go.RowKit Go.Bw
set_option linter.unusedVariables false
set_option linter.unusedSimpArgs false
theorem Tb.below {w w' : World} (h : Tb w) (hb : Below w.heap.size w w') : Tb w' := fun t ht => (hb.cell (World.block_lt_of_cell? w _ (h t ht))).trans (h t ht)
/-- set, from a on -/
def frm (β : Nat → Bool) (a : Int) (j : Nat) : Bool := β j && decide (a ≤ (j : Int))
/-- what Next answers -/
def nxV (o : Option Nat) : Value := .tuple #[.int .i64 ((o.getD 0 : Nat) : Int), .bool o.isSome]
theorem rest_tb (β : Nat → Bool) (a : Int) (F : Nat) (hF : (F : Int) = max a 0) (i j : Nat) :
    (wd β i &&& up ((F : Int) - (i : Int) * 64).toNat).testBit j = (decide (j < 64) && frm β a (64 * i + j)) := by
  rw [Nat.testBit_and, tb_up, tb_wd]
  unfold frm
  by_cases hj : j < 64
  · have e0 : decide (j < 64) = true := decide_eq_true hj
    have e1 : decide (((F : Int) - (i : Int) * 64).toNat ≤ j) = decide (a ≤ ((64 * i + j : Nat) : Int)) := by
      congr 1; exact propext ⟨fun h => by omega, fun h => by omega⟩
    rw [e0, e1]; simp
  · have e0 : decide (j < 64) = false := decide_eq_false hj
    rw [e0]; simp
set_option maxHeartbeats 1000000 in
theorem next_any {g h n : Nat} {β : Nat → Bool} (w : World) (b : Bt w g h n β) (A : Int) (hA : A ≤ 9223372036854775807) (hTb : Tb w) :
    Calls Tryd.prog 12 #[.pointer (some ⟨g, 0, none⟩), .int .i64 A] w (We.Ans w (nxV (nx (frm β A) n))) := by
  obtain ⟨F, hF⟩ : ∃ F : Nat, (F : Int) = max A 0 := ⟨(max A 0).toNat, by omega⟩
  have f1 : (if 0 ≤ A then A else 0) = (F : Int) := by omega
  have f0 : (if A < 0 then 0 else A) = (F : Int) := by omega
  have hF2 : F ≤ 9223372036854775807 := by omega
  have hle := b.le
  have hd : IntKind.i64.wrap ((F : Int) / 64) = ((F / 64 : Nat) : Int) := by
    simp only [IntKind.wrap, IntKind.signed, IntKind.bits]; simp; omega
  have hs := Lib.hid (rest_tb β A F hF)
  have h0 : ∀ j, j < 64 * (F / 64) → frm β A j = false := fun j hj => by
    unfold frm
    rw [decide_eq_false (show ¬ A ≤ (j : Int) by omega)]; simp
  have hbe : ∀ j, n ≤ j → frm β A j = false := fun j hj => by unfold frm; rw [b.out j hj]; rfl
  obtain ⟨d, hd0⟩ : ∃ d, F / 64 = d := ⟨_, rfl⟩
  rw [hd0] at hd h0
  have hdl : d ≤ 144115188075855871 := by omega
  have hb := Lib.hid b
  replace hF := Lib.hid hF
  replace hd0 := Lib.hid hd0
  replace h0 := Lib.hid h0
  replace hbe := Lib.hid hbe
  replace hTb := Lib.hid hTb
  clear b
  go_enter Tryd.func12, Tryd.ntmps12
  go_wp2_with fail
  go_loopw [6] (fun q wr => ∃ i : Nat, q = .int .i64 (i : Int) ∧ d ≤ i ∧ (i = d ∨ i ≤ 16384) ∧ Hid (∀ j, j < 64 * i → frm β A j = false) ∧ Hid (Below w.heap.size w wr)) (fun q _ => n - 64 * (intOf q).toNat)
  case atStart => exact ⟨d, rfl, Nat.le_refl _, Or.inl rfl, h0, Lib.hid (Below.refl _ _)⟩
  case round =>
    obtain ⟨i, rfl, hi0, hi1, hno, hB⟩ := hrel
    have hi2 : i ≤ 144115188075855871 := by omega
    have hbr := Lib.hid (hb.out.below hB.out)
    have hl := Lib.hid (len_any wr hbr.out)
    by_cases hT2 : (i : Int) * 64 < (n : Int)
    · have hi3 : i < wn n := by unfold wn; omega
      have hi4 : i ≤ 16384 := by omega
      have hiI : (i : Int) < ((wn n : Nat) : Int) := by omega
      have c0 := hbr.out.c0
      have cw := hbr.out.w_ hi3
      have hW := wd_lt β i
      have hu1 := Lib.hid fun m => upper_any ((F : Int) - (i : Int) * 64) (wr.drewN m)
      have hz := Nat.and_le_left (n := wd β i) (m := up ((F : Int) - (i : Int) * 64).toNat)
      have hzt := hs.out i
      have hal := up_lt ((F : Int) - (i : Int) * 64).toNat
      generalize up ((F : Int) - (i : Int) * 64).toNat = U at *
      generalize wd β i = W at *
      have ha2 := u64_and_nat W U hW hal
      obtain ⟨Z, hZ⟩ : ∃ Z, W &&& U = Z := ⟨_, rfl⟩
      rw [hZ] at ha2 hzt hz
      have hZl : Z < 18446744073709551616 := by omega
      replace hZ := Lib.hid hZ
      clear hz hal hW
      have d1 : decide ((i : Int) * 64 < (n : Int)) = true := decide_eq_true hT2
      by_cases hZ0 : Z = 0
      · subst hZ0
        have hno2 := Lib.hid (show ∀ j, j < 64 * (i + 1) → frm β A j = false from fun j hj => by
          rcases Nat.lt_or_ge j (64 * i) with h1 | h1
          · exact hno.out j h1
          · have := hzt (j - 64 * i)
            rw [decide_eq_true (show j - 64 * i < 64 by omega), show 64 * i + (j - 64 * i) = j by omega, Nat.zero_testBit] at this
            simpa using this.symm)
        clear hzt
        go_wp2_with (go_at_call 13; (with_reducible refine hl.out.mono ?_); rintro e w2 ⟨rfl, rfl⟩)
        go_quiet ((go_at_call 16; with_reducible exact quiet_same (hu1.out _)))
        go_wp2_with fail
        go_roundw
        case rel => exact ⟨i + 1, by go_num, by omega, Or.inr (by omega), hno2, Lib.hid (We.below_trans hB.out (We.below_drewN _ _))⟩
        case measure => simp [intOf]; omega
      · obtain ⟨t, ht, ht1, ht2⟩ := low_of hZ0 hZl
        have hres : nx (frm β A) n = some (64 * i + t) := by
          have h1 : frm β A (64 * i + t) = true := by
            have := hzt t
            rw [ht1, decide_eq_true ht] at this
            simpa using this.symm
          refine nx_some.2 ⟨?_, h1, fun j hj => ?_⟩
          · rcases Nat.lt_or_ge (64 * i + t) n with h2 | h2
            · exact h2
            · rw [hbe.out _ h2] at h1; cases h1
          · rcases Nat.lt_or_ge j (64 * i) with h2 | h2
            · exact hno.out j h2
            · have := hzt (j - 64 * i)
              rw [ht2 _ (by omega), decide_eq_true (show j - 64 * i < 64 by omega), show 64 * i + (j - 64 * i) = j by omega] at this
              simpa using this.symm
        have hz2 : ((Z : Int) != 0) = true := by
          have : (Z : Int) ≠ 0 := by omega
          simpa using this
        have htz := Lib.hid fun m => trail_any Z t hZl ht1 ht2 (wr.drewN m) (hTb.out.below (We.below_trans hB.out (We.below_drewN wr m)))
        replace hres := Lib.hid hres
        clear hzt ht1 ht2 hZ0 hno
        go_wp2_with (go_at_call 13; (with_reducible refine hl.out.mono ?_); rintro e w2 ⟨rfl, rfl⟩)
        go_quiet ((go_at_call 16; with_reducible exact quiet_same (hu1.out _)))
        go_wp2_with (go_at_call 18; (with_reducible refine (htz.out _).mono ?_); rintro e w2 ⟨rfl, rfl⟩)
        go_ret2
        exact ⟨by rw [hres.out]; unfold nxV; simp; omega, We.below_trans hB.out (We.below_drewN _ _)⟩
    · have d1 : decide ((i : Int) * 64 < (n : Int)) = false := decide_eq_false hT2
      have hres : nx (frm β A) n = none := nx_none.2 fun j hj => hno.out j (by omega)
      replace hres := Lib.hid hres
      go_wp2_with (go_at_call 13; (with_reducible refine hl.out.mono ?_); rintro e w2 ⟨rfl, rfl⟩)
      go_ret2
      exact ⟨by rw [hres.out]; rfl, hB.out⟩
end Go.Proofs.YtommmppcncgnfaaDoor.Vl
