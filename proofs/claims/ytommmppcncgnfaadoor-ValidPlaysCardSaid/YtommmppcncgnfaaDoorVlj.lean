/- ValidWalks walked. -/
import Derived.Test.YtommmppcncgnfaaDoorVli
namespace Go.Proofs.YtommmppcncgnfaaDoor.Vl
open Go.RowKit Go.Bw
set_option linter.unusedVariables false
set_option linter.unusedSimpArgs false
theorem cnt_all (β : Nat → Bool) (k : Nat) : pc (sel β 0 k) k = pc β k := pc_congr fun j hj => by
  unfold sel
  rw [decide_eq_true (show (0 : Int) ≤ (j : Int) by omega), decide_eq_true (show (j : Int) < (k : Int) by omega)]
  simp
theorem pc_one {β : Nat → Bool} {a t : Nat} (hat : a ≤ t) (h : ∀ j, j < t → frm β a j = false) (ht : β t = true) : pc β (t + 1) = pc β a + 1 := by
  have e : pc β t = pc β a := by
    obtain ⟨d, rfl⟩ := Nat.exists_eq_add_of_le hat
    rw [pc_add, pc_zero (k := d) fun j hj => ?_]; rfl
    have := h (a + j) (by omega)
    unfold frm at this
    rw [decide_eq_true (show (a : Int) ≤ ((a + j : Nat) : Int) by omega)] at this
    simpa using this
  rw [pc, ht, e]; rfl
theorem pc_none {β : Nat → Bool} {a k : Nat} (hak : a ≤ k) (h : ∀ j, j < k → frm β a j = false) : pc β k = pc β a := by
  obtain ⟨d, rfl⟩ := Nat.exists_eq_add_of_le hak
  rw [pc_add, pc_zero (k := d) fun j hj => ?_]; rfl
  have := h (a + j) (by omega)
  unfold frm at this
  rw [decide_eq_true (show (a : Int) ≤ ((a + j : Nat) : Int) by omega)] at this
  simpa using this
theorem cnt_none {β : Nat → Bool} {a t k : Nat} (h : ∀ j, j < t → frm β a j = false) : pc (sel β a t) k = 0 := pc_zero fun j hj => by
  unfold sel
  by_cases h1 : j < t
  · have := h j h1
    unfold frm at this
    rw [this]; rfl
  · rw [decide_eq_false (show ¬ (j : Int) < (t : Int) by omega)]; simp
set_option maxHeartbeats 4000000 in
set_option maxRecDepth 20000 in
theorem walks_law (A : Option Addr) (n c : Nat) (x : Nat → Nat) (hx : ∀ j, x j < 65536) (N : Nat) (hN : N < 65536) (w : World) (hTb : Tb w) (hs : We.SF w w.heap.size A n (uF x)) :
    Calls Tryd.prog 4 #[.slice A n c, .int .u16 (N : Int)] w (We.Ans w (.bool true)) := by
  have ha := Lib.hid (awake_any w hTb)
  replace hTb := Lib.hid hTb
  have H := Lib.hid hs
  clear hs
  by_cases h300 : (300 : Int) < (n : Int)
  · go_enter Tryd.func4, Tryd.ntmps4
    go_wp2_with (go_at_call 7; (with_reducible refine ha.out.mono ?_); rintro e w1 ⟨rfl, hB1⟩; replace hB1 := Lib.hid hB1)
    go_ret
    exact ⟨rfl, hB1.out⟩
  obtain ⟨k, hk⟩ : ∃ k, 1 + N % 1000 = k := ⟨_, rfl⟩
  have f1 : 1 + (N : Int) % 1000 = (k : Int) := by omega
  have hkl : k ≤ 1000 := by omega
  have hk1 : 1 ≤ k := by omega
  have hk0 : ¬ (k : Int) = 0 := by omega
  clear hk
  have hnew := Lib.hid fun w => new_any (k : Int) k (by omega) w
  go_enter Tryd.func4, Tryd.ntmps4
  go_wp2_with (first
    | (go_at_call 7; (with_reducible refine ha.out.mono ?_); rintro e w1 ⟨rfl, hB1⟩; replace hB1 := Lib.hid hB1)
    | (go_at_call 8; (with_reducible refine (hnew.out w1).mono ?_); rintro e w2 ⟨g, h, rfl, hB2, hg, hh, b2⟩; replace hh := Lib.hid (Nat.le_trans hB1.out.size hh); replace b2 := Lib.hid b2; replace hB2 := Lib.hid (We.below_trans hB1.out hB2); clear hg))
  clear ha hB1 hnew
  go_loopw [7, 8] (fun p q wr => ∃ (i : Nat) (β : Nat → Bool), p = .int .i64 ((pc β k : Nat) : Int) ∧ q = .int .i64 (i : Int) ∧ i ≤ n ∧ Hid (Bt wr g h k β) ∧ Hid (Below w.heap.size w wr)) (fun _ q _ => n - (intOf q).toNat)
  case atStart => exact ⟨0, _, by rw [pc_zero fun _ _ => rfl]; rfl, rfl, Nat.zero_le _, b2, hB2⟩
  case round =>
    obtain ⟨i, β, rfl, rfl, hi, b, hB⟩ := hrel
    clear b2 hB2
    have hpl : pc β k ≤ k := pc_le β k
    by_cases hin : i < n
    · obtain ⟨a, rfl, hab, c0⟩ := (H.out.below hB.out).at_ hin
      have hinI : (i : Int) < (n : Int) := by omega
      have d1 : decide ((i : Int) < (n : Int)) = true := decide_eq_true hinI
      obtain ⟨X, hX⟩ : ∃ X, x i = X := ⟨_, rfl⟩
      have hXl := hx i
      unfold uF at c0
      rw [hX] at hXl c0
      obtain ⟨r, hr⟩ : ∃ r, X % k = r := ⟨_, rfl⟩
      have hrk : r < k := by rw [← hr]; exact Nat.mod_lt _ (by omega)
      have f3 : (X : Int) % (k : Int) = (r : Int) := by rw [← hr]; exact (Int.natCast_emod X k).symm
      obtain ⟨v, hv⟩ : ∃ v, (β r != true) = v := ⟨_, rfl⟩
      have hset := Lib.hid (set_p wr hB.out hh.out b.out hrk (r : Int) rfl true v hv)
      have hpp := pc_put (β := β) (p := r) (on := true) hrk
      clear hX hr
      have hvv : (β r).toNat + v.toNat = 1 := by rw [← hv]; cases β r <;> rfl
      obtain ⟨S, hS⟩ : ∃ S, Hid (pc β k = S) := ⟨_, Lib.hid rfl⟩
      have hS2 : pc (put β r true) k = S + v.toNat := by rw [← hS.out]; simp only [Bool.toNat_true] at hpp; omega
      rw [hS.out] at hpl ⊢
      replace hS2 := Lib.hid hS2
      clear hpp hvv hv
      go_wp2_with (go_at_call 9; (with_reducible refine hset.out.mono ?_); clear hset; rintro e w4 ⟨rfl, hB4, hK, b4⟩; replace hB4 := Lib.hid hB4; replace b4 := Lib.hid b4; clear hK)
      · rename_i hvt
        subst hvt
        go_roundw
        case rel => exact ⟨i + 1, put β r true, by rw [hS2.out]; rfl, by go_num, by omega, b4, hB4⟩
        case measure => simp [intOf]; omega
      · rename_i hvt
        subst hvt
        go_roundw
        case rel => exact ⟨i + 1, put β r true, by rw [hS2.out]; rfl, by go_num, by omega, b4, hB4⟩
        case measure => simp [intOf]; omega
    · obtain rfl : i = n := by omega
      have d1 : decide ((i : Int) < (i : Int)) = false := decide_eq_false (by omega)
      obtain ⟨R, hR⟩ : ∃ R, Hid (pc β k = R) := ⟨_, Lib.hid rfl⟩
      rw [hR.out] at hpl ⊢
      have c0 := Lib.hid (count_lit wr b.out 0 k (by decide) (R : Int) (by rw [cnt_all, hR.out]))
      go_wp2_with (go_at_call 11; (with_reducible refine c0.out.mono ?_); rintro e w4 ⟨rfl, rfl⟩)
      have b0 := b
      have hB0 := hB
      clear b hB c0
      go_loopw [9, 10] (fun p q wq => ∃ a : Nat, p = .int .i64 (a : Int) ∧ q = .int .i64 ((pc β a : Nat) : Int) ∧ a ≤ k ∧ Hid (Bt wq g h k β) ∧ Hid (Below w.heap.size w wq)) (fun p _ _ => k - (intOf p).toNat)
      case atStart => exact ⟨0, rfl, rfl, Nat.zero_le _, b0, hB0⟩
      case round =>
        obtain ⟨a, rfl, rfl, hak, b, hB⟩ := hrel
        clear b0 hB0
        have hnx := fun (x : Int) ok => next_lit wr b.out (a : Int) (by omega) (hTb.out.below hB.out) x ok
        have hpa := pc_mono β hak
        rw [hR.out] at hpa
        obtain ⟨S, hS⟩ : ∃ S, Hid (pc β a = S) := ⟨_, Lib.hid rfl⟩
        rw [hS.out] at hpa ⊢
        cases hn : nx (frm β (a : Int)) k with
        | none =>
          have hno := nx_none.1 hn
          have hRS : R = S := by rw [← hR.out, ← hS.out]; exact pc_none hak hno
          replace hnx := Lib.hid (hnx 0 false (by rw [hn]; rfl))
          clear hn
          replace hno := Lib.hid hno
          have hcg : chg k β (k : Int) true = false := by unfold chg inB; simp
          go_wp2_with (go_at_call 12; (with_reducible refine hnx.out.mono ?_); rintro e w5 ⟨rfl, hb⟩; have b5 := Lib.hid (b.out.below hb); have hB5 := Lib.hid (We.below_trans hB.out hb); clear hb b hB hnx)
          subst hRS
          go_wp2_with (go_at_call 9; (have hc := Lib.hid (set_no w5 hB5.out hh.out b5.out (k : Int) true hcg)); (with_reducible refine hc.out.mono ?_); clear hc; rintro e w6 ⟨rfl, hB6, hK, b6⟩; replace hB6 := Lib.hid hB6; replace b6 := Lib.hid b6; clear hK b5 hB5)
          go_wp2_with (go_at_call 10; (have hc := Lib.hid (has_lit w6 b6.out (-1) false rfl)); (with_reducible refine hc.out.mono ?_); clear hc; rintro e w7 ⟨rfl, hb⟩; have hB7 := Lib.hid (We.below_trans hB6.out hb); clear hb b6 hB6)
          go_ret
          exact ⟨rfl, hB7.out⟩
        | some t =>
          obtain ⟨htk, htt, hno⟩ := nx_some.1 hn
          replace hnx := Lib.hid (hnx (t : Int) true (by rw [hn]; rfl))
          clear hn
          have hat : a ≤ t := by
            have h1 : decide ((a : Int) ≤ (t : Int)) = true := by
              have := htt
              unfold frm at this
              rw [Bool.and_eq_true] at this
              exact this.2
            have := of_decide_eq_true h1
            omega
          have hbt : β t = true := by
            have := htt
            unfold frm at this
            rw [Bool.and_eq_true] at this
            exact this.1
          have hS1 := Lib.hid (pc_one hat hno hbt)
          have hc0 := Lib.hid (cnt_none (k := k) hno)
          replace hno := Lib.hid hno
          replace htt := Lib.hid htt
          replace hbt := Lib.hid hbt
          have d2 : decide ((t : Int) < (a : Int)) = false := decide_eq_false (by omega)
          have d3 : decide ((R : Int) < (S : Int)) = false := decide_eq_false (by omega)
          go_wp2_with (go_at_call 12; (with_reducible refine hnx.out.mono ?_); rintro e w5 ⟨rfl, hb⟩; have b5 := Lib.hid (b.out.below hb); have hB5 := Lib.hid (We.below_trans hB.out hb); clear hb b hB hnx)
          go_wp2_with (go_at_call 10; (have hc := Lib.hid (has_p w5 b5.out htk (t : Int) rfl true hbt.out)); (with_reducible refine hc.out.mono ?_); clear hc; rintro e w6 ⟨rfl, hb⟩; have b6 := Lib.hid (b5.out.below hb); have hB6 := Lib.hid (We.below_trans hB5.out hb); clear hb b5 hB5)
          go_wp2_with (go_at_call 11; (have hc := Lib.hid (count_lit w6 b6.out (a : Int) (t : Int) (by omega) 0 (by rw [hc0.out]; rfl))); (with_reducible refine hc.out.mono ?_); clear hc; rintro e w7 ⟨rfl, rfl⟩)
          go_roundw
          case rel => exact ⟨t + 1, by go_num, by rw [hS1.out, hS.out]; go_num, by omega, b6, hB6⟩
          case measure => simp [intOf]; omega
theorem walks_row (A0 : Option Addr) (n0 : Nat) (x0 : Nat → Int) (c0 : Nat) (l0 : n0 ≤ c0) (m0 : c0 ≤ maxLen) (f0 : ∀ j, (Lit.int .u16 (x0 j)).wf = true) (a1 : Int) (w1 : (Lit.int .u16 a1).wf = true) (w : World) (hTb : Tb w) (s0 : We.SF w w.heap.size A0 n0 (fun j => .int .u16 (x0 j))) :
    Calls Tryd.prog 4 #[.slice A0 n0 c0, .int .u16 a1] w (We.Ans w (.bool true)) := by
  obtain ⟨x, hx, e⟩ := uF_of f0
  rw [e] at s0
  obtain ⟨N, hN, rfl⟩ := u16_nat w1
  exact walks_law A0 n0 c0 x hx N hN w hTb s0
end Go.Proofs.YtommmppcncgnfaaDoor.Vl
