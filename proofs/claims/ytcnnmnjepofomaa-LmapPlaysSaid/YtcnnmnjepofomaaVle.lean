/- Count walked. -/
import Derived.Test.YtcnnmnjepofomaaVld
namespace Go.Proofs.Ytcnnmnjepofomaa.Vl
open Go.RowKit Go.Bw
set_option linter.unusedVariables false
set_option linter.unusedSimpArgs false
/-- set, from a on, below b -/
def sel (β : Nat → Bool) (a b : Int) (j : Nat) : Bool := β j && decide (a ≤ (j : Int)) && decide ((j : Int) < b)
/-- one word more is counted -/
theorem cnt_step (β : Nat → Bool) (n : Nat) (hβ : ∀ j, n ≤ j → β j = false) (a b : Int) (F : Nat) (T : Int) (hF : (F : Int) = max a 0) (hT : T = min b n) (i : Nat) (hi : 64 * (i : Int) < T) :
    pc (sel β a b) (64 * i) + pc (wd β i &&& an (up ((F : Int) - (i : Int) * 64).toNat) (up (T - (i : Int) * 64).toNat)).testBit 64 = pc (sel β a b) (64 * (i + 1)) := by
  rw [Nat.mul_add, pc_add]
  congr 1
  refine pc_congr fun j hj => ?_
  rw [Nat.testBit_and, tb_an, tb_up, tb_up, tb_wd]
  unfold sel
  have e0 : decide (j < 64) = true := decide_eq_true hj
  rw [e0]
  simp only [Bool.true_and]
  cases hb : β (64 * i + j)
  · simp
  · have hn : 64 * i + j < n := by
      rcases Nat.lt_or_ge (64 * i + j) n with h | h
      · exact h
      · rw [hβ _ h] at hb; cases hb
    have e1 : decide (((F : Int) - (i : Int) * 64).toNat ≤ j) = decide (a ≤ ((64 * i + j : Nat) : Int)) := by
      congr 1; exact propext ⟨fun h => by omega, fun h => by omega⟩
    have e2 : (!decide ((T - (i : Int) * 64).toNat ≤ j)) = decide (((64 * i + j : Nat) : Int) < b) := by
      rw [← decide_not]; congr 1; exact propext ⟨fun h => by omega, fun h => by omega⟩
    rw [e1, e2]; simp
theorem cnt_start (β : Nat → Bool) (a b : Int) (F : Nat) (hF : (F : Int) = max a 0) : pc (sel β a b) (64 * (F / 64)) = 0 := pc_zero fun j hj => by
  unfold sel
  rw [decide_eq_false (show ¬ a ≤ (j : Int) by omega)]; simp
theorem cnt_end (β : Nat → Bool) (n : Nat) (hβ : ∀ j, n ≤ j → β j = false) (a b : Int) (T : Int) (hT : T = min b n) (i : Nat) (hi : ¬ 64 * (i : Int) < T) : pc (sel β a b) (64 * i) = pc (sel β a b) n := by
  rcases Nat.lt_or_ge (64 * i) n with h | h
  · exact (pc_end (by omega) fun j hj => by
      unfold sel
      rw [decide_eq_false (show ¬ (j : Int) < b by omega)]; simp).symm
  · exact pc_end h fun j hj => by unfold sel; rw [hβ j hj]; rfl
set_option maxHeartbeats 1000000 in
theorem count_any {g h n : Nat} {β : Nat → Bool} (w : World) (b : Bt w g h n β) (A B : Int) (hA : A ≤ 9223372036854775807) :
    Calls Try.prog 26 #[.pointer (some ⟨g, 0, none⟩), .int .i64 A, .int .i64 B] w (Same w (.int .i64 ((pc (sel β A B) n : Nat) : Int))) := by
  have hl := Lib.hid (len_any w b)
  obtain ⟨F, hF⟩ : ∃ F : Nat, (F : Int) = max A 0 := ⟨(max A 0).toNat, by omega⟩
  obtain ⟨T, hT⟩ : ∃ T : Int, T = min B n := ⟨_, rfl⟩
  have f1 : (if 0 ≤ A then A else 0) = (F : Int) := by omega
  have f0 : (if A < 0 then 0 else A) = (F : Int) := by omega
  have f2 : (if (n : Int) < B then (n : Int) else B) = T := by omega
  have f3 : (if B < (n : Int) then B else (n : Int)) = T := by omega
  have f4 : (if B ≤ (n : Int) then B else (n : Int)) = T := by omega
  have hF2 : F ≤ 9223372036854775807 := by omega
  have hTn : T ≤ (n : Int) := by omega
  have hle := b.le
  have hd : IntKind.i64.wrap ((F : Int) / 64) = ((F / 64 : Nat) : Int) := by
    simp only [IntKind.wrap, IntKind.signed, IntKind.bits]; simp; omega
  have hs := Lib.hid (cnt_step β n b.out A B F T hF hT)
  have h0 := Lib.hid (cnt_start β A B F hF)
  have hend := Lib.hid (cnt_end β n b.out A B T hT)
  obtain ⟨d, hd0⟩ : ∃ d, F / 64 = d := ⟨_, rfl⟩
  rw [hd0] at hd h0
  have hdl : d ≤ 144115188075855871 := by omega
  have hb := Lib.hid b
  replace hF := Lib.hid hF
  replace hT := Lib.hid hT
  replace hd0 := Lib.hid hd0
  clear b
  go_enter Try.func26, Try.ntmps26
  go_wp2_with (go_at_call 31; (with_reducible refine hl.out.mono ?_); rintro e w2 ⟨rfl, rfl⟩)
  go_loopw [7, 8] (fun p q wr => ∃ i : Nat, p = .int .i64 ((pc (sel β A B) (64 * i) : Nat) : Int) ∧ q = .int .i64 (i : Int) ∧ d ≤ i ∧ (i = d ∨ i ≤ 16384) ∧ w = wr) (fun _ q _ => (T - 64 * (intOf q)).toNat)
  case atStart => exact ⟨d, by rw [h0.out]; rfl, rfl, Nat.le_refl _, Or.inl rfl, rfl⟩
  case round =>
    obtain ⟨i, rfl, rfl, hi0, hi1, rfl⟩ := hrel
    have hi2 : i ≤ 144115188075855871 := by omega
    by_cases hT2 : (i : Int) * 64 < T
    · have hst := hs.out i (by omega)
      have hi3 : i < wn n := by unfold wn; omega
      have hi4 : i ≤ 16384 := by omega
      have hiI : (i : Int) < ((wn n : Nat) : Int) := by omega
      have c0 := hb.out.c0
      have cw := hb.out.w_ hi3
      have hW := wd_lt β i
      have hu1 := Lib.hid (upper_any ((F : Int) - (i : Int) * 64) w)
      have hu2 := Lib.hid (upper_any (T - (i : Int) * 64) w)
      have hpl := pc_le (sel β A B) (64 * i)
      have hz := Nat.and_le_left (n := wd β i) (m := an (up ((F : Int) - (i : Int) * 64).toNat) (up (T - (i : Int) * 64).toNat))
      have hal := an_lt (up ((F : Int) - (i : Int) * 64).toNat) (up (T - (i : Int) * 64).toNat)
      have ha1 := bw_andNot (up ((F : Int) - (i : Int) * 64).toNat) (up (T - (i : Int) * 64).toNat)
      generalize up ((F : Int) - (i : Int) * 64).toNat = U1 at *
      generalize up (T - (i : Int) * 64).toNat = U2 at *
      generalize an U1 U2 = U at *
      generalize wd β i = W at *
      have ha2 := u64_and_nat W U hW hal
      generalize W &&& U = Z at *
      have ho := Lib.hid (ones_any Z (by omega) w)
      have hp64 := pc_le Z.testBit 64
      generalize pc Z.testBit 64 = R at *
      generalize pc (sel β A B) (64 * i) = S at *
      have hSR : (S : Int) + (R : Int) = ((pc (sel β A B) (64 * (i + 1)) : Nat) : Int) := by rw [← hst]; rfl
      obtain ⟨S2, hS2⟩ : ∃ S2, pc (sel β A B) (64 * (i + 1)) = S2 := ⟨_, rfl⟩
      rw [hS2] at hSR
      replace hS2 := Lib.hid hS2
      replace hst := Lib.hid hst
      clear hz hal hW
      have d1 : decide ((i : Int) * 64 < T) = true := decide_eq_true hT2
      go_wp2_with (first | (go_at_call 32; (with_reducible refine hu1.out.mono ?_); rintro e w2 ⟨rfl, rfl⟩) | (go_at_call 32; (with_reducible refine hu2.out.mono ?_); rintro e w2 ⟨rfl, rfl⟩) | (go_at_call 33; (with_reducible refine ho.out.mono ?_); rintro e w2 ⟨rfl, rfl⟩))
      go_roundw
      case rel => exact ⟨i + 1, by rw [hS2.out], by go_num, by omega, Or.inr (by omega), trivial⟩
      case measure => simp [intOf]; omega
    · have d1 : decide ((i : Int) * 64 < T) = false := decide_eq_false hT2
      have he := hend.out i (by omega)
      go_wp2_with fail
      go_ret
      exact ⟨rfl, rfl⟩
end Go.Proofs.Ytcnnmnjepofomaa.Vl
