/- FrontShuts walked, for whatever is a frontier. -/
import Derived.Test.YtoofhldfgfndkaaFoc
namespace Go.Proofs.Ytoofhldfgfndkaa.Fo
open Go.RowKit Go.Proofs.Ytoofhldfgfndkaa.Ge
set_option linter.unusedVariables false
set_option linter.unusedSimpArgs false
attribute [local go_sem ↓] Cl.quiet_since
theorem opn_shut {b y k : Nat} (h : k < y) : blI (opn b y k) = (b : Int) := by
  unfold opn blI
  rw [if_pos h]; rfl
theorem opn_next {b y k : Nat} (h : k < y) : nxV (opn b y k) = .tuple #[.int .i64 (b : Int), .int .i64 (k : Int), .bool true] := (opn_take h).1
set_option maxRecDepth 20000 in
set_option maxHeartbeats 8000000 in
theorem shuts_law {F : World → Nat → Nat → Nat → Int → Int → Int → Int → Option (Nat × Nat) → Prop} (C : FC F) (B P W K : Int) (N : Nat) (hN : N < 256) (L : Option Addr) (n c : Nat) (μ : Nat → Bool) (w : World) (hs : We.SF w w.heap.size L n (We.bF μ)) :
    Calls Try.prog 6 #[.agg #[.int .i64 B, .int .i64 P, .int .i64 W, .int .i64 K], .int .u8 (N : Int), .slice L n c] w (We.Ans w (.bool true)) := by
  have bx := Lib.hid (G4.new w B P W K)
  have hb := Lib.hid (We.below_alloc w (.cells #[.int .i64 B, .int .i64 P, .int .i64 W, .int .i64 K] 23))
  have ha := Lib.hid (awake_any C (w.alloc (.cells #[.int .i64 B, .int .i64 P, .int .i64 W, .int .i64 K] 23)))
  have hr := fun w => refmay_any B P W K w
  have hn := Lib.hid (fun w => new_lit C w B P W K)
  have C' := Lib.hid C
  have H := Lib.hid hs
  clear C hs
  cases hm : mayG B P W K
  · rw [hm] at hr
    replace hr := Lib.hid hr
    go_enter Try.func6, Try.ntmps6
    go_wp2_with (go_at_call 7; (with_reducible refine ha.out.mono ?_); clear ha; rintro e w1 ⟨rfl, hb1⟩; have b1 := Lib.hid (bx.out.below hb1); obtain ⟨c0, c1, c2, c3⟩ := b1.out.cells; replace hb1 := Lib.hid (We.below_trans hb.out hb1))
    go_wp2_with (go_at_call 9; (with_reducible refine (hr.out _).mono ?_); clear hr; rintro e w2 ⟨rfl, hb2⟩; replace hb2 := Lib.hid (We.below_trans hb1.out hb2); clear c0 c1 c2 c3)
    go_ret
    exact ⟨rfl, hb2.out⟩
  rw [hm] at hr
  replace hr := Lib.hid hr
  by_cases h100 : (100 : Int) < (n : Int)
  · go_enter Try.func6, Try.ntmps6
    go_wp2_with (go_at_call 7; (with_reducible refine ha.out.mono ?_); clear ha; rintro e w1 ⟨rfl, hb1⟩; have b1 := Lib.hid (bx.out.below hb1); obtain ⟨c0, c1, c2, c3⟩ := b1.out.cells; replace hb1 := Lib.hid (We.below_trans hb.out hb1))
    go_wp2_with (go_at_call 9; (with_reducible refine (hr.out _).mono ?_); clear hr; rintro e w2 ⟨rfl, hb2⟩; replace hb2 := Lib.hid (We.below_trans hb1.out hb2); clear c0 c1 c2 c3)
    go_ret
    exact ⟨rfl, hb2.out⟩
  obtain ⟨x, y, rfl, rfl, hx1, hx2, hy1, hy2⟩ := may_nat hm
  have hax : N % x < x := Nat.mod_lt _ (by omega)
  have f1 : (N : Int).tmod (x : Int) = ((N % x : Nat) : Int) := rfl
  have f3 : (N : Int) % (x : Int) = ((N % x : Nat) : Int) := (Int.natCast_emod _ _).symm
  have n1 : ¬ x = 0 := by omega
  have n3 : ((x : Int) == 0) = false := by simp; omega
  have n5 : ¬ (x : Int) = 0 := by omega
  obtain ⟨a, ha'⟩ : ∃ a, N % x = a := ⟨_, rfl⟩
  rw [ha'] at hax f1 f3
  clear ha'
  have hm' := Lib.hid hm
  clear hm
  replace hx1 := Lib.hid hx1
  replace hx2 := Lib.hid hx2
  replace hy1 := Lib.hid hy1
  replace hy2 := Lib.hid hy2
  replace hax := Lib.hid hax
  go_enter Try.func6, Try.ntmps6
  go_wp2_with (go_at_call 7; (with_reducible refine ha.out.mono ?_); clear ha; rintro e w1 ⟨rfl, hb1⟩; have b1 := Lib.hid (bx.out.below hb1); obtain ⟨c0, c1, c2, c3⟩ := b1.out.cells; replace hb1 := Lib.hid (We.below_trans hb.out hb1); clear bx hb)
  go_wp2_with (go_at_call 9; (with_reducible refine (hr.out _).mono ?_); clear hr; rintro e w2 ⟨rfl, hb2⟩; have b2 := Lib.hid (b1.out.below hb2); clear c0 c1 c2 c3; obtain ⟨c0, c1, c2, c3⟩ := b2.out.cells; replace hb2 := Lib.hid (We.below_trans hb1.out hb2); clear b1 hb1)
  go_wp2_with (go_at_call 8; (with_reducible refine (hn.out _).mono ?_); clear hn; rintro e w3 ⟨G, rfl, hb3, f4⟩; have b3 := Lib.hid (b2.out.below hb3); have hgl := Lib.hid b2.out.lt; have hlo := Lib.hid hb2.out.size; have hsz := Lib.hid hb3.size; replace hb3 := Lib.hid (We.below_trans hb2.out hb3); replace f4 := Lib.hid f4; clear c0 c1 c2 c3; obtain ⟨c0, c1, c2, c3⟩ := b3.out.cells; clear b2 hb2)
  clear f1 f3 n1 n3 n5
  generalize w2.heap.size = lo at *
  generalize w3.heap.size = hi at *
  have hc := Lib.hid (open_lit C'.out hb3.out hlo.out f4.out (a : Int) 0 true (opn a y 0) (opn_open (b := 0) rfl rfl hm'.out hax.out (by have := hy1.out; omega)))
  go_wp2_with (go_at_call 10; (with_reducible refine hc.out.mono ?_); clear hc; rintro e w5 ⟨rfl, B5, F5, k5⟩; have b5 := Lib.hid (b3.out.out k5 hgl.out); replace B5 := Lib.hid B5; replace F5 := Lib.hid F5; clear b3 hb3 f4 k5 c0 c1 c2 c3)
  go_loopw [9] (fun q wr => ∃ k : Nat, q = .int .i64 (k : Int) ∧ k ≤ y ∧ Hid (F wr lo hi G (x : Int) (y : Int) W K (opn a y k)) ∧ Hid (G4 wr w.heap.size (x : Int) (y : Int) W K) ∧ Hid (Below w.heap.size w wr)) (fun q _ => y - (intOf q).toNat)
  case atStart => exact ⟨0, rfl, Nat.zero_le _, F5, b5, B5⟩
  case round =>
    obtain ⟨k, rfl, hky, fr, br, Br⟩ := hrel
    clear F5 b5 B5
    obtain ⟨c0, c1, c2, c3⟩ := br.out.cells
    by_cases hk : k < y
    · have d1 : decide ((k : Int) < (y : Int)) = true := decide_eq_true (by omega)
      have hkI : (k : Int) < (y : Int) := by omega
      have hk1 : wrap64 ((k : Int) + 1) = ((k + 1 : Nat) : Int) := by have := hy2.out; rw [IntWalk.wrap64_in _ (by omega)]; omega
      by_cases hkn : k < n
      · have d2 : decide (k < n) = true := decide_eq_true hkn
        have d3 : decide ((k : Int) < (n : Int)) = true := decide_eq_true (by omega)
        have hknI : (k : Int) < (n : Int) := by omega
        obtain ⟨p, rfl, hpl, cp⟩ := (H.out.below Br.out).at_ hkn
        unfold We.bF at cp
        cases hmu : μ k
        · rw [hmu] at cp
          replace hmu := Lib.hid hmu
          have hc := Lib.hid (take_lit C'.out Br.out hlo.out fr.out (a : Int) (k : Int) true (opn a y (k + 1)) (opn_take hk))
          go_wp2_with (go_at_call 12; (with_reducible refine hc.out.mono ?_); clear hc; rintro e w9 ⟨rfl, B9, F9, k9⟩; have b9 := Lib.hid (br.out.out k9 hgl.out); replace B9 := Lib.hid B9; replace F9 := Lib.hid F9; clear c0 c1 c2 c3 cp fr br Br k9)
          go_roundw
          case rel => exact ⟨k + 1, by first | rw [hk1] | go_num, by omega, F9, b9, B9⟩
          case measure => (try rw [hk1]); simp [intOf]; omega
        · rw [hmu] at cp
          replace hmu := Lib.hid hmu
          have hc := Lib.hid (next_lit C'.out Br.out fr.out (a : Int) (k : Int) true (opn_next hk))
          go_wp2_with (go_at_call 11; (with_reducible refine hc.out.mono ?_); clear hc; rintro e w6 ⟨rfl, B6, F6, k6⟩; have b6 := Lib.hid (br.out.below k6); replace B6 := Lib.hid B6; replace F6 := Lib.hid F6; clear c0 c1 c2 c3 fr br Br k6 cp)
          have hc := Lib.hid (shut_lit C'.out B6.out hlo.out F6.out (a : Int) (opn_shut hk))
          go_wp2_with (go_at_call 13; (with_reducible refine hc.out.mono ?_); clear hc; rintro e w7 ⟨rfl, B7, F7, k7⟩; have b7 := Lib.hid (b6.out.out k7 hgl.out); replace B7 := Lib.hid B7; replace F7 := Lib.hid F7; clear b6 B6 F6 k7)
          have hc := Lib.hid (open_lit C'.out B7.out hlo.out F7.out (a : Int) (k : Int) true (opn a y k) (opn_open rfl rfl hm'.out hax.out hk))
          go_wp2_with (go_at_call 10; (with_reducible refine hc.out.mono ?_); clear hc; rintro e w8 ⟨rfl, Br, fr, k8⟩; have br := Lib.hid (b7.out.out k8 hgl.out); replace Br := Lib.hid Br; replace fr := Lib.hid fr; clear b7 B7 F7 k8)
          have hc := Lib.hid (take_lit C'.out Br.out hlo.out fr.out (a : Int) (k : Int) true (opn a y (k + 1)) (opn_take hk))
          go_wp2_with (go_at_call 12; (with_reducible refine hc.out.mono ?_); clear hc; rintro e w9 ⟨rfl, B9, F9, k9⟩; have b9 := Lib.hid (br.out.out k9 hgl.out); replace B9 := Lib.hid B9; replace F9 := Lib.hid F9; clear fr br Br k9)
          go_roundw
          case rel => exact ⟨k + 1, by first | rw [hk1] | go_num, by omega, F9, b9, B9⟩
          case measure => (try rw [hk1]); simp [intOf]; omega
      · have d2 : decide (k < n) = false := decide_eq_false hkn
        have d3 : decide ((k : Int) < (n : Int)) = false := decide_eq_false (by omega)
        have hc := Lib.hid (take_lit C'.out Br.out hlo.out fr.out (a : Int) (k : Int) true (opn a y (k + 1)) (opn_take hk))
        go_wp2_with (go_at_call 12; (with_reducible refine hc.out.mono ?_); clear hc; rintro e w9 ⟨rfl, B9, F9, k9⟩; have b9 := Lib.hid (br.out.out k9 hgl.out); replace B9 := Lib.hid B9; replace F9 := Lib.hid F9; clear c0 c1 c2 c3 fr br Br k9)
        go_roundw
        case rel => exact ⟨k + 1, by first | rw [hk1] | go_num, by omega, F9, b9, B9⟩
        case measure => (try rw [hk1]); simp [intOf]; omega
    · obtain rfl : k = y := by omega
      have d1 : decide ((k : Int) < (k : Int)) = false := decide_eq_false (by omega)
      have hq : opn a k k = none := by unfold opn; rw [if_neg (by omega)]
      rw [hq] at fr
      clear hq
      have hc := Lib.hid (left_lit C'.out Br.out fr.out 0 rfl)
      go_wp2_with (go_at_call 15; (with_reducible refine hc.out.mono ?_); clear hc; rintro e w7 ⟨rfl, B7, F7, k7⟩; replace B7 := Lib.hid B7; clear c0 c1 c2 c3 fr br Br k7)
      go_ret
      exact ⟨rfl, B7.out⟩
end Go.Proofs.Ytoofhldfgfndkaa.Fo
