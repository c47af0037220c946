/- YardBad walked, for whatever is a yard. -/
import Derived.Test.YtnhkagkgmgpjeaaYdd
import Derived.Test.YtnhkagkgmgpjeaaWro
namespace Go.Proofs.Ytnhkagkgmgpjeaa.Yd
open Go.RowKit
set_option linter.unusedVariables false
set_option linter.unusedSimpArgs false
attribute [local go_sem ↓] Cl.quiet_since
/-- how many are 1, .. , j, all together -/
def sumT (st : Nat → Int) (k : Nat) : Nat → Nat
  | 0 => 0
  | j + 1 => sumT st k j + nb (isS st ((j : Int) + 1)) k
theorem sumT_le (st : Nat → Int) (k : Nat) : ∀ j, sumT st k j ≤ j * k
  | 0 => Nat.zero_le _
  | j + 1 => by
    rw [sumT, Nat.add_mul, Nat.one_mul]
    have h1 := sumT_le st k j
    have h2 := nb_le (isS st ((j : Int) + 1)) k
    omega
theorem sum_all {k : Nat} {st : Nat → Int} (h : AllS k st) : sumT st k 4 = k := by
  have := sum_states h
  show 0 + nb (isS st 1) k + nb (isS st 2) k + nb (isS st 3) k + nb (isS st 4) k = k
  omega
set_option maxRecDepth 4000 in
set_option maxHeartbeats 16000000 in
theorem bad_law {Y : World → Nat → Nat → Nat → Nat → (Nat → Int) → (Nat → Int) → Prop} (C : YC Y) (N : Nat) (hN : N < 256) (A : Option Addr) (n : Nat) (x : Nat → Nat → Int) (c : Nat) (hl : n ≤ c) (hm : c ≤ maxLen) (w : World) (hs : We.RF w w.heap.size A 2 n .u8 x) :
    Calls Try.prog 6 #[.int .u8 (N : Int), .slice A n c] w (We.Ans w (.bool true)) := by
  have ha := Lib.hid (awake_any C w)
  have f1 : 1 + (N : Int) % 20 = ((1 + N % 20 : Nat) : Int) := by omega
  obtain ⟨k, hk⟩ : ∃ k, 1 + N % 20 = k := ⟨_, rfl⟩
  rw [hk] at f1
  have hk2 : 1 ≤ k ∧ k ≤ 20 := by omega
  have H := Lib.hid hs
  clear hs hk hl hm
  by_cases h200 : 200 < n
  · have h200I : (200 : Int) < (n : Int) := by omega
    go_enter Try.func6, Try.ntmps6
    go_wp2_with (go_at_call 8; (with_reducible refine ha.out.mono ?_); rintro e w1 ⟨rfl, hb⟩)
    go_ret
    exact ⟨rfl, hb⟩
  have h200I : ¬ (200 : Int) < (n : Int) := by omega
  have h1 := Lib.hid (fun w => new_lit C w (k : Int) k (by omega))
  have C' := Lib.hid C
  have mk := fun w => We.run_makeF w k (by omega)
  clear C
  go_enter Try.func6, Try.ntmps6
  go_wp2_with (go_at_call 8; (with_reducible refine ha.out.mono ?_); clear ha; rintro e w0 ⟨rfl, hB0⟩; replace hB0 := Lib.hid hB0)
  go_wp2_with (go_at_call 9; (with_reducible refine (h1.out _).mono ?_); clear h1; rintro e w1 ⟨G, rfl, hB, y1⟩; replace hB := Lib.hid (We.below_trans hB0.out hB); replace y1 := Lib.hid y1)
  have hlo := Lib.hid hB0.out.size
  have hwr := Lib.hid hB.out.size
  clear hB0 mk
  have hB2 := Lib.hid (We.below_trans hB.out (We.below_alloc w1 (.cells (We.zF k) 4)))
  have y2 := Lib.hid (YC.below C'.out y1.out (We.below_alloc w1 (.cells (We.zF k) 4)))
  have R2 := Lib.hid (We.PV.bools w1 k)
  clear hB y1
  generalize w1.alloc (.cells (We.zF k) 4) = w2 at *
  generalize w0.heap.size = lo at *
  generalize w1.heap.size = r at *
  go_loopw [8] (fun q wr => ∃ (i : Nat) (st : Nat → Int), q = .int .i64 (i : Int) ∧ i ≤ n ∧ Hid (Y wr lo r G k st (fun _ => 0)) ∧ Hid (We.PV wr 4 r k (We.bF (isS st 4))) ∧ AllS k st ∧ Hid (Below w.heap.size w wr)) (fun q _ => n - (intOf q).toNat)
  case atStart => exact ⟨0, _, rfl, Nat.zero_le _, y2, R2, fun j hj => ⟨Int.le_refl 1, (by decide : (1 : Int) ≤ 4)⟩, hB2⟩
  case round =>
    obtain ⟨i, st, rfl, hi', yr, Rr, hAS, hBr⟩ := hrel
    clear y2 R2 hB2
    by_cases hin : i < n
    · have hinI : (i : Int) < (n : Int) := by omega
      have d1 : decide ((i : Int) < (n : Int)) = true := decide_eq_true hinI
      obtain ⟨a, rfl, hab, g0, g1⟩ := (H.out.below hBr.out).at0 (i := i) hin (by decide)
      have g1' := g1 0 (by decide)
      obtain ⟨X, hXl, hX⟩ := We.u8_nat (H.out.1 i 0)
      obtain ⟨Z8, hZl, hY⟩ := We.u8_nat (H.out.1 i 1)
      rw [hX] at g0
      rw [hY] at g1'
      obtain ⟨b, hb⟩ : ∃ b, X % k = b := ⟨_, rfl⟩
      have hbk : b < k := by rw [← hb]; exact Nat.mod_lt _ (by omega)
      have f2 : (X : Int) % (k : Int) = (b : Int) := by rw [← hb]; exact (Int.natCast_emod X k).symm
      have f3 : (Z8 : Int) % 5 = ((Z8 % 5 : Nat) : Int) := by omega
      have hk0 : ¬ (k : Int) = 0 := by omega
      generalize hs5 : Z8 % 5 = s at *
      have hbkI : (b : Int) < (k : Int) := by omega
      replace hX := Lib.hid hX
      replace hY := Lib.hid hY
      clear g1 hb hab
      go_wp2_with fail
      refine Cl.region_way (fun _ => True) 16 [(0, .r), (1, .r), (2, .r), (3, .r), (4, .r), (5, .r), (6, .r), (7, .r), (8, .r), (9, .r), (10, .r), (11, .r), (12, .r), (13, .r), (14, .r), (15, .r), (16, .z)] (by kernel_rfl) (by kernel_rfl) ?_
      intro w9 hk9
      have Bw := Lib.hid (We.below_trans hBr.out hk9.below)
      have yw := Lib.hid (YC.below C'.out yr.out hk9.below)
      have R := Lib.hid (Rr.out.below hk9.below)
      have t0 : ∀ y : Cl.Since (fun _ => True) w9, y.w.cell? (a.add (i * 2)) = some (.int .u8 (X : Int)) := fun y => (World.cell?_of_block (y.keeps.below.block _ (Nat.lt_of_lt_of_le (World.block_lt_of_cell? _ _ g0) hk9.size))).trans ((World.cell?_of_block (hk9.below.block _ (World.block_lt_of_cell? _ _ g0))).trans g0)
      have t1 : ∀ y : Cl.Since (fun _ => True) w9, y.w.cell? ⟨(a.add (i * 2)).block, (a.add (i * 2)).off + 1, none⟩ = some (.int .u8 (Z8 : Int)) := fun y => (World.cell?_of_block (a := ⟨(a.add (i * 2)).block, (a.add (i * 2)).off + 1, none⟩) (y.keeps.below.block _ (Nat.lt_of_lt_of_le (World.block_lt_of_cell? _ _ g1') hk9.size))).trans ((World.cell?_of_block (hk9.below.block _ (World.block_lt_of_cell? _ _ g1'))).trans g1')
      clear hk9 g0 g1' yr Rr hBr
      iterate 16 (refine Cl.way_r rfl ?_; go_big_quiet_step (fail); refine wpQuiet_nil ?_)
      refine Cl.way_z rfl ?_
      clear t0 t1
      go_wp2_with fail
      refine Cl.Calm.normal ?_
      try rw [f2]
      try rw [f3]
      have hAS2 := Lib.hid (all_turn (s := (s : Int)) hAS hbk)
      have hoth : Hid (∀ j, j ≠ b → isS (turnF k st (b : Int) (s : Int)) 4 j = isS st 4 j) := Lib.hid fun j hj => by
        cases ht : turnB k st (b : Int) (s : Int)
        · rw [turnF_stay ht]
        · rw [turnF_go ht]; unfold isS; rw [lay_ne hj]
      have hc := C'.out.turn yw.out (b : Int) (s : Int)
      cases hB4 : isS st 4 b
      · cases hv : turnB k st (b : Int) (s : Int)
        · have hv4 : isS (turnF k st (b : Int) (s : Int)) 4 b = false := by rw [turnF_stay hv]; exact hB4
          rw [hv] at hc
          replace hc := Lib.hid hc
          replace hv := Lib.hid hv
          generalize turnF k st (b : Int) (s : Int) = s2 at *
          go_wp2_with (go_at_call 12; (with_reducible refine hc.out.mono ?_); clear hc; rintro e w3 ⟨rfl, kk, yy⟩; have R3 := Lib.hid (R.out.keep (kk.block r R.out.lt (by unfold Out; omega))); have B3 := Lib.hid (below_out Bw.out hlo.out kk); have y3 := Lib.hid yy; clear kk yy R yw Bw; have cb := R3.out.cell hbk; (unfold We.bF at cb); (rw [hB4] at cb); have fz := R3.out.frozen b)
          have R4 := Lib.hid ((R3.out.set_ b (.bool false)).congr (f' := We.bF (isS s2 4)) fun j hj => by
            show (if j = b then Value.bool false else We.bF (isS st 4) j) = .bool (isS s2 4 j)
            by_cases e : j = b
            · subst e; rw [if_pos rfl, hv4]
            · rw [if_neg e, hoth.out j e]; rfl)
          have y4 := Lib.hid (C'.out.keep (w' := w3.setCell ⟨r, b, none⟩ (.bool false)) y3.out fun q h1 h2 _ => We.setCell_block w3 _ (by omega))
          have B4 := Lib.hid (We.below_set (i := b) B3.out hwr.out (.bool false))
          clear cb fz R3 B3 y3 hB4 hv4 hoth
          generalize w3.setCell ⟨r, b, none⟩ (.bool false) = w4 at *

          have hS := Lib.hid (sum_all hAS2.out)
          go_loopw [12, 13] (fun q t wq => ∃ j : Nat, q = .int .i64 ((sumT s2 k j : Nat) : Int) ∧ t = .int .i64 ((j : Int) + 1) ∧ j ≤ 4 ∧ Hid (Y wq lo r G k s2 (fun _ => 0)) ∧ Hid (We.PV wq 4 r k (We.bF (isS s2 4))) ∧ Hid (Below w.heap.size w wq)) (fun _ t _ => 5 - (intOf t).toNat)
          case atStart => exact ⟨0, rfl, rfl, Nat.zero_le _, y4, R4, B4⟩
          case round =>
            obtain ⟨j, rfl, rfl, hj4, yq, Rq, Bq⟩ := hrel
            clear y4 R4 B4
            have hsl : sumT s2 k j ≤ 80 := Nat.le_trans (sumT_le s2 k j) (Nat.mul_le_mul hj4 hk2.2)
            obtain ⟨S, hSj⟩ : ∃ S, sumT s2 k j = S := ⟨_, rfl⟩
            have hsu : sumT s2 k (j + 1) = S + nb (isS s2 ((j : Int) + 1)) k := by rw [sumT, hSj]
            obtain ⟨Z, hZ⟩ : ∃ Z, nb (isS s2 ((j : Int) + 1)) k = Z := ⟨_, rfl⟩
            have hZk : Z ≤ k := by rw [← hZ]; exact nb_le _ _
            rw [hZ] at hsu
            rw [hSj] at hsl ⊢
            by_cases hj : j < 4
            · have hjI : (j : Int) + 1 ≤ 4 := by omega
              have d2 : decide ((j : Int) + 1 ≤ 4) = true := decide_eq_true hjI
              have hc := C'.out.count yq.out ((j : Int) + 1)
              rw [hZ] at hc
              replace hc := Lib.hid hc
              replace hsu := Lib.hid hsu
              replace hSj := Lib.hid hSj
              replace hZ := Lib.hid hZ
              go_wp2_with (go_at_call 18; (with_reducible refine hc.out.mono ?_); clear hc; rintro e w5 ⟨rfl, hb⟩; have B5 := Lib.hid (We.below_trans Bq.out hb); have y5 := Lib.hid (YC.below C'.out yq.out hb); have R5 := Lib.hid (Rq.out.below hb); clear hb yq Rq Bq)
              go_roundw
              case rel => exact ⟨j + 1, by rw [hsu.out] <;> first | rfl | go_num, by go_num, by omega, y5, R5, B5⟩
              case measure => simp [intOf]; omega
            · have hje : j = 4 := by omega
              have d2 : decide ((j : Int) + 1 ≤ 4) = false := decide_eq_false (by omega)
              have hSk : S = k := by rw [← hSj, hje]; exact hS.out
              rw [hSk]
              replace hje := Lib.hid hje
              replace hSj := Lib.hid hSj
              replace hSk := Lib.hid hSk
              replace hsu := Lib.hid hsu
              replace hZ := Lib.hid hZ
              cases hpk : pk k s2 (fun _ => 0) with
              | none =>
                have hc := C'.out.pick yq.out
                rw [hpk] at hc
                replace hc := Lib.hid (show Calls _ _ _ _ (We.Ans wr (.tuple #[.int .i64 0, .bool false])) from hc)
                have hn0 := pk_none hpk
                replace hpk := Lib.hid hpk
                go_wp2_with (go_at_call 15; (with_reducible refine hc.out.mono ?_); clear hc; rintro e w5 ⟨rfl, hb⟩; have B5 := Lib.hid (We.below_trans Bq.out hb); have y5 := Lib.hid (YC.below C'.out yq.out hb); have R5 := Lib.hid (Rq.out.below hb); clear hb yq Rq Bq)
                have hc := C'.out.count y5.out 1
                rw [hn0] at hc
                replace hc := Lib.hid (show Calls _ _ _ _ (We.Ans w5 (.int .i64 0)) from hc)
                replace hn0 := Lib.hid hn0
                go_wp2_with (go_at_call 18; (with_reducible refine hc.out.mono ?_); clear hc; rintro e w6 ⟨rfl, hb⟩; have B6 := Lib.hid (We.below_trans B5.out hb); have y6 := Lib.hid (YC.below C'.out y5.out hb); have R6 := Lib.hid (R5.out.below hb); clear hb y5 R5 B5)
                go_roundw
                case rel => exact ⟨i + 1, s2, by go_num, by omega, y6, R6, hAS2.out, B6⟩
                case measure => simp [intOf]; omega
              | some p =>
                have hc := C'.out.pick yq.out
                rw [hpk] at hc
                replace hc := Lib.hid (show Calls _ _ _ _ (We.Ans wr (.tuple #[.int .i64 (p : Int), .bool true])) from hc)
                obtain ⟨hpk2, hps, _⟩ := pk_some hpk
                have hpI : (p : Int) < (k : Int) := by omega
                have hpos := nb_pos (f := isS s2 1) hpk2 (by unfold isS; simpa using hps)
                obtain ⟨M, hM⟩ : ∃ M, nb (isS s2 1) k = M := ⟨_, rfl⟩
                rw [hM] at hpos
                have hMI : decide (0 < (M : Int)) = true := decide_eq_true (by omega)
                have h4 : isS s2 4 p = false := by unfold isS; rw [hps]; rfl
                have hx : at_ k s2 (p : Int) = 1 := (at_yes hpk2).trans hps
                replace hpk := Lib.hid hpk
                replace hps := Lib.hid hps
                replace hx := Lib.hid hx
                go_wp2_with (go_at_call 15; (with_reducible refine hc.out.mono ?_); clear hc; rintro e w5 ⟨rfl, hb⟩; have B5 := Lib.hid (We.below_trans Bq.out hb); have y5 := Lib.hid (YC.below C'.out yq.out hb); have R5 := Lib.hid (Rq.out.below hb); clear hb yq Rq Bq; have cp := R5.out.cell hpk2; (unfold We.bF at cp); (rw [h4] at cp))
                have hc := Lib.hid (state_lit C'.out B5.out y5.out (p : Int) 1 hx.out)
                go_wp2_with (go_at_call 13; (with_reducible refine (C'.out.state y5.out (p : Int)).mono ?_); clear hc; (rw [hx.out]); rintro e w6 ⟨rfl, hb⟩; have B6 := Lib.hid (We.below_trans B5.out hb); have y6 := Lib.hid (YC.below C'.out y5.out hb); have R6 := Lib.hid (R5.out.below hb); clear hb y5 R5 B5 cp)
                have hc := C'.out.count y6.out 1
                rw [hM] at hc
                replace hc := Lib.hid hc
                replace hM := Lib.hid hM
                go_wp2_with (go_at_call 18; (with_reducible refine hc.out.mono ?_); clear hc; rintro e w7 ⟨rfl, hb⟩; have B7 := Lib.hid (We.below_trans B6.out hb); have y7 := Lib.hid (YC.below C'.out y6.out hb); have R7 := Lib.hid (R6.out.below hb); clear hb y6 R6 B6)
                go_roundw
                case rel => exact ⟨i + 1, s2, by go_num, by omega, y7, R7, hAS2.out, B7⟩
                case measure => simp [intOf]; omega

        · have hgo := turnF_go hv
          rw [hv] at hc
          replace hc := Lib.hid hc
          replace hv := Lib.hid hv
          cases hs4 : ((s : Int) == 4)
          · have hv4 : isS (turnF k st (b : Int) (s : Int)) 4 b = false := by rw [hgo]; unfold isS; rw [lay_eq]; simpa using hs4
            generalize turnF k st (b : Int) (s : Int) = s2 at *
            replace hgo := Lib.hid hgo
            go_wp2_with (go_at_call 12; (with_reducible refine hc.out.mono ?_); clear hc; rintro e w3 ⟨rfl, kk, yy⟩; have R3 := Lib.hid (R.out.keep (kk.block r R.out.lt (by unfold Out; omega))); have B3 := Lib.hid (below_out Bw.out hlo.out kk); have y3 := Lib.hid yy; clear kk yy R yw Bw; have cb := R3.out.cell hbk; (unfold We.bF at cb); (rw [hB4] at cb); have fz := R3.out.frozen b)
            have R4 := Lib.hid ((R3.out.set_ b (.bool false)).congr (f' := We.bF (isS s2 4)) fun j hj => by
              show (if j = b then Value.bool false else We.bF (isS st 4) j) = .bool (isS s2 4 j)
              by_cases e : j = b
              · subst e; rw [if_pos rfl, hv4]
              · rw [if_neg e, hoth.out j e]; rfl)
            have y4 := Lib.hid (C'.out.keep (w' := w3.setCell ⟨r, b, none⟩ (.bool false)) y3.out fun q h1 h2 _ => We.setCell_block w3 _ (by omega))
            have B4 := Lib.hid (We.below_set (i := b) B3.out hwr.out (.bool false))
            clear cb fz R3 B3 y3 hB4 hv4 hoth
            generalize w3.setCell ⟨r, b, none⟩ (.bool false) = w4 at *

            have hS := Lib.hid (sum_all hAS2.out)
            go_loopw [12, 13] (fun q t wq => ∃ j : Nat, q = .int .i64 ((sumT s2 k j : Nat) : Int) ∧ t = .int .i64 ((j : Int) + 1) ∧ j ≤ 4 ∧ Hid (Y wq lo r G k s2 (fun _ => 0)) ∧ Hid (We.PV wq 4 r k (We.bF (isS s2 4))) ∧ Hid (Below w.heap.size w wq)) (fun _ t _ => 5 - (intOf t).toNat)
            case atStart => exact ⟨0, rfl, rfl, Nat.zero_le _, y4, R4, B4⟩
            case round =>
              obtain ⟨j, rfl, rfl, hj4, yq, Rq, Bq⟩ := hrel
              clear y4 R4 B4
              have hsl : sumT s2 k j ≤ 80 := Nat.le_trans (sumT_le s2 k j) (Nat.mul_le_mul hj4 hk2.2)
              obtain ⟨S, hSj⟩ : ∃ S, sumT s2 k j = S := ⟨_, rfl⟩
              have hsu : sumT s2 k (j + 1) = S + nb (isS s2 ((j : Int) + 1)) k := by rw [sumT, hSj]
              obtain ⟨Z, hZ⟩ : ∃ Z, nb (isS s2 ((j : Int) + 1)) k = Z := ⟨_, rfl⟩
              have hZk : Z ≤ k := by rw [← hZ]; exact nb_le _ _
              rw [hZ] at hsu
              rw [hSj] at hsl ⊢
              by_cases hj : j < 4
              · have hjI : (j : Int) + 1 ≤ 4 := by omega
                have d2 : decide ((j : Int) + 1 ≤ 4) = true := decide_eq_true hjI
                have hc := C'.out.count yq.out ((j : Int) + 1)
                rw [hZ] at hc
                replace hc := Lib.hid hc
                replace hsu := Lib.hid hsu
                replace hSj := Lib.hid hSj
                replace hZ := Lib.hid hZ
                go_wp2_with (go_at_call 18; (with_reducible refine hc.out.mono ?_); clear hc; rintro e w5 ⟨rfl, hb⟩; have B5 := Lib.hid (We.below_trans Bq.out hb); have y5 := Lib.hid (YC.below C'.out yq.out hb); have R5 := Lib.hid (Rq.out.below hb); clear hb yq Rq Bq)
                go_roundw
                case rel => exact ⟨j + 1, by rw [hsu.out] <;> first | rfl | go_num, by go_num, by omega, y5, R5, B5⟩
                case measure => simp [intOf]; omega
              · have hje : j = 4 := by omega
                have d2 : decide ((j : Int) + 1 ≤ 4) = false := decide_eq_false (by omega)
                have hSk : S = k := by rw [← hSj, hje]; exact hS.out
                rw [hSk]
                replace hje := Lib.hid hje
                replace hSj := Lib.hid hSj
                replace hSk := Lib.hid hSk
                replace hsu := Lib.hid hsu
                replace hZ := Lib.hid hZ
                cases hpk : pk k s2 (fun _ => 0) with
                | none =>
                  have hc := C'.out.pick yq.out
                  rw [hpk] at hc
                  replace hc := Lib.hid (show Calls _ _ _ _ (We.Ans wr (.tuple #[.int .i64 0, .bool false])) from hc)
                  have hn0 := pk_none hpk
                  replace hpk := Lib.hid hpk
                  go_wp2_with (go_at_call 15; (with_reducible refine hc.out.mono ?_); clear hc; rintro e w5 ⟨rfl, hb⟩; have B5 := Lib.hid (We.below_trans Bq.out hb); have y5 := Lib.hid (YC.below C'.out yq.out hb); have R5 := Lib.hid (Rq.out.below hb); clear hb yq Rq Bq)
                  have hc := C'.out.count y5.out 1
                  rw [hn0] at hc
                  replace hc := Lib.hid (show Calls _ _ _ _ (We.Ans w5 (.int .i64 0)) from hc)
                  replace hn0 := Lib.hid hn0
                  go_wp2_with (go_at_call 18; (with_reducible refine hc.out.mono ?_); clear hc; rintro e w6 ⟨rfl, hb⟩; have B6 := Lib.hid (We.below_trans B5.out hb); have y6 := Lib.hid (YC.below C'.out y5.out hb); have R6 := Lib.hid (R5.out.below hb); clear hb y5 R5 B5)
                  go_roundw
                  case rel => exact ⟨i + 1, s2, by go_num, by omega, y6, R6, hAS2.out, B6⟩
                  case measure => simp [intOf]; omega
                | some p =>
                  have hc := C'.out.pick yq.out
                  rw [hpk] at hc
                  replace hc := Lib.hid (show Calls _ _ _ _ (We.Ans wr (.tuple #[.int .i64 (p : Int), .bool true])) from hc)
                  obtain ⟨hpk2, hps, _⟩ := pk_some hpk
                  have hpI : (p : Int) < (k : Int) := by omega
                  have hpos := nb_pos (f := isS s2 1) hpk2 (by unfold isS; simpa using hps)
                  obtain ⟨M, hM⟩ : ∃ M, nb (isS s2 1) k = M := ⟨_, rfl⟩
                  rw [hM] at hpos
                  have hMI : decide (0 < (M : Int)) = true := decide_eq_true (by omega)
                  have h4 : isS s2 4 p = false := by unfold isS; rw [hps]; rfl
                  have hx : at_ k s2 (p : Int) = 1 := (at_yes hpk2).trans hps
                  replace hpk := Lib.hid hpk
                  replace hps := Lib.hid hps
                  replace hx := Lib.hid hx
                  go_wp2_with (go_at_call 15; (with_reducible refine hc.out.mono ?_); clear hc; rintro e w5 ⟨rfl, hb⟩; have B5 := Lib.hid (We.below_trans Bq.out hb); have y5 := Lib.hid (YC.below C'.out yq.out hb); have R5 := Lib.hid (Rq.out.below hb); clear hb yq Rq Bq; have cp := R5.out.cell hpk2; (unfold We.bF at cp); (rw [h4] at cp))
                  have hc := Lib.hid (state_lit C'.out B5.out y5.out (p : Int) 1 hx.out)
                  go_wp2_with (go_at_call 13; (with_reducible refine (C'.out.state y5.out (p : Int)).mono ?_); clear hc; (rw [hx.out]); rintro e w6 ⟨rfl, hb⟩; have B6 := Lib.hid (We.below_trans B5.out hb); have y6 := Lib.hid (YC.below C'.out y5.out hb); have R6 := Lib.hid (R5.out.below hb); clear hb y5 R5 B5 cp)
                  have hc := C'.out.count y6.out 1
                  rw [hM] at hc
                  replace hc := Lib.hid hc
                  replace hM := Lib.hid hM
                  go_wp2_with (go_at_call 18; (with_reducible refine hc.out.mono ?_); clear hc; rintro e w7 ⟨rfl, hb⟩; have B7 := Lib.hid (We.below_trans B6.out hb); have y7 := Lib.hid (YC.below C'.out y6.out hb); have R7 := Lib.hid (R6.out.below hb); clear hb y6 R6 B6)
                  go_roundw
                  case rel => exact ⟨i + 1, s2, by go_num, by omega, y7, R7, hAS2.out, B7⟩
                  case measure => simp [intOf]; omega

          · have hv4 : isS (turnF k st (b : Int) (s : Int)) 4 b = true := by rw [hgo]; unfold isS; rw [lay_eq]; simpa using hs4
            generalize turnF k st (b : Int) (s : Int) = s2 at *
            replace hgo := Lib.hid hgo
            go_wp2_with (go_at_call 12; (with_reducible refine hc.out.mono ?_); clear hc; rintro e w3 ⟨rfl, kk, yy⟩; have R3 := Lib.hid (R.out.keep (kk.block r R.out.lt (by unfold Out; omega))); have B3 := Lib.hid (below_out Bw.out hlo.out kk); have y3 := Lib.hid yy; clear kk yy R yw Bw; have cb := R3.out.cell hbk; (unfold We.bF at cb); (rw [hB4] at cb); have fz := R3.out.frozen b)
            have R4 := Lib.hid ((R3.out.set_ b (.bool true)).congr (f' := We.bF (isS s2 4)) fun j hj => by
              show (if j = b then Value.bool true else We.bF (isS st 4) j) = .bool (isS s2 4 j)
              by_cases e : j = b
              · subst e; rw [if_pos rfl, hv4]
              · rw [if_neg e, hoth.out j e]; rfl)
            have y4 := Lib.hid (C'.out.keep (w' := w3.setCell ⟨r, b, none⟩ (.bool true)) y3.out fun q h1 h2 _ => We.setCell_block w3 _ (by omega))
            have B4 := Lib.hid (We.below_set (i := b) B3.out hwr.out (.bool true))
            clear cb fz R3 B3 y3 hB4 hv4 hoth
            generalize w3.setCell ⟨r, b, none⟩ (.bool true) = w4 at *

            have hS := Lib.hid (sum_all hAS2.out)
            go_loopw [12, 13] (fun q t wq => ∃ j : Nat, q = .int .i64 ((sumT s2 k j : Nat) : Int) ∧ t = .int .i64 ((j : Int) + 1) ∧ j ≤ 4 ∧ Hid (Y wq lo r G k s2 (fun _ => 0)) ∧ Hid (We.PV wq 4 r k (We.bF (isS s2 4))) ∧ Hid (Below w.heap.size w wq)) (fun _ t _ => 5 - (intOf t).toNat)
            case atStart => exact ⟨0, rfl, rfl, Nat.zero_le _, y4, R4, B4⟩
            case round =>
              obtain ⟨j, rfl, rfl, hj4, yq, Rq, Bq⟩ := hrel
              clear y4 R4 B4
              have hsl : sumT s2 k j ≤ 80 := Nat.le_trans (sumT_le s2 k j) (Nat.mul_le_mul hj4 hk2.2)
              obtain ⟨S, hSj⟩ : ∃ S, sumT s2 k j = S := ⟨_, rfl⟩
              have hsu : sumT s2 k (j + 1) = S + nb (isS s2 ((j : Int) + 1)) k := by rw [sumT, hSj]
              obtain ⟨Z, hZ⟩ : ∃ Z, nb (isS s2 ((j : Int) + 1)) k = Z := ⟨_, rfl⟩
              have hZk : Z ≤ k := by rw [← hZ]; exact nb_le _ _
              rw [hZ] at hsu
              rw [hSj] at hsl ⊢
              by_cases hj : j < 4
              · have hjI : (j : Int) + 1 ≤ 4 := by omega
                have d2 : decide ((j : Int) + 1 ≤ 4) = true := decide_eq_true hjI
                have hc := C'.out.count yq.out ((j : Int) + 1)
                rw [hZ] at hc
                replace hc := Lib.hid hc
                replace hsu := Lib.hid hsu
                replace hSj := Lib.hid hSj
                replace hZ := Lib.hid hZ
                go_wp2_with (go_at_call 18; (with_reducible refine hc.out.mono ?_); clear hc; rintro e w5 ⟨rfl, hb⟩; have B5 := Lib.hid (We.below_trans Bq.out hb); have y5 := Lib.hid (YC.below C'.out yq.out hb); have R5 := Lib.hid (Rq.out.below hb); clear hb yq Rq Bq)
                go_roundw
                case rel => exact ⟨j + 1, by rw [hsu.out] <;> first | rfl | go_num, by go_num, by omega, y5, R5, B5⟩
                case measure => simp [intOf]; omega
              · have hje : j = 4 := by omega
                have d2 : decide ((j : Int) + 1 ≤ 4) = false := decide_eq_false (by omega)
                have hSk : S = k := by rw [← hSj, hje]; exact hS.out
                rw [hSk]
                replace hje := Lib.hid hje
                replace hSj := Lib.hid hSj
                replace hSk := Lib.hid hSk
                replace hsu := Lib.hid hsu
                replace hZ := Lib.hid hZ
                cases hpk : pk k s2 (fun _ => 0) with
                | none =>
                  have hc := C'.out.pick yq.out
                  rw [hpk] at hc
                  replace hc := Lib.hid (show Calls _ _ _ _ (We.Ans wr (.tuple #[.int .i64 0, .bool false])) from hc)
                  have hn0 := pk_none hpk
                  replace hpk := Lib.hid hpk
                  go_wp2_with (go_at_call 15; (with_reducible refine hc.out.mono ?_); clear hc; rintro e w5 ⟨rfl, hb⟩; have B5 := Lib.hid (We.below_trans Bq.out hb); have y5 := Lib.hid (YC.below C'.out yq.out hb); have R5 := Lib.hid (Rq.out.below hb); clear hb yq Rq Bq)
                  have hc := C'.out.count y5.out 1
                  rw [hn0] at hc
                  replace hc := Lib.hid (show Calls _ _ _ _ (We.Ans w5 (.int .i64 0)) from hc)
                  replace hn0 := Lib.hid hn0
                  go_wp2_with (go_at_call 18; (with_reducible refine hc.out.mono ?_); clear hc; rintro e w6 ⟨rfl, hb⟩; have B6 := Lib.hid (We.below_trans B5.out hb); have y6 := Lib.hid (YC.below C'.out y5.out hb); have R6 := Lib.hid (R5.out.below hb); clear hb y5 R5 B5)
                  go_roundw
                  case rel => exact ⟨i + 1, s2, by go_num, by omega, y6, R6, hAS2.out, B6⟩
                  case measure => simp [intOf]; omega
                | some p =>
                  have hc := C'.out.pick yq.out
                  rw [hpk] at hc
                  replace hc := Lib.hid (show Calls _ _ _ _ (We.Ans wr (.tuple #[.int .i64 (p : Int), .bool true])) from hc)
                  obtain ⟨hpk2, hps, _⟩ := pk_some hpk
                  have hpI : (p : Int) < (k : Int) := by omega
                  have hpos := nb_pos (f := isS s2 1) hpk2 (by unfold isS; simpa using hps)
                  obtain ⟨M, hM⟩ : ∃ M, nb (isS s2 1) k = M := ⟨_, rfl⟩
                  rw [hM] at hpos
                  have hMI : decide (0 < (M : Int)) = true := decide_eq_true (by omega)
                  have h4 : isS s2 4 p = false := by unfold isS; rw [hps]; rfl
                  have hx : at_ k s2 (p : Int) = 1 := (at_yes hpk2).trans hps
                  replace hpk := Lib.hid hpk
                  replace hps := Lib.hid hps
                  replace hx := Lib.hid hx
                  go_wp2_with (go_at_call 15; (with_reducible refine hc.out.mono ?_); clear hc; rintro e w5 ⟨rfl, hb⟩; have B5 := Lib.hid (We.below_trans Bq.out hb); have y5 := Lib.hid (YC.below C'.out yq.out hb); have R5 := Lib.hid (Rq.out.below hb); clear hb yq Rq Bq; have cp := R5.out.cell hpk2; (unfold We.bF at cp); (rw [h4] at cp))
                  have hc := Lib.hid (state_lit C'.out B5.out y5.out (p : Int) 1 hx.out)
                  go_wp2_with (go_at_call 13; (with_reducible refine (C'.out.state y5.out (p : Int)).mono ?_); clear hc; (rw [hx.out]); rintro e w6 ⟨rfl, hb⟩; have B6 := Lib.hid (We.below_trans B5.out hb); have y6 := Lib.hid (YC.below C'.out y5.out hb); have R6 := Lib.hid (R5.out.below hb); clear hb y5 R5 B5 cp)
                  have hc := C'.out.count y6.out 1
                  rw [hM] at hc
                  replace hc := Lib.hid hc
                  replace hM := Lib.hid hM
                  go_wp2_with (go_at_call 18; (with_reducible refine hc.out.mono ?_); clear hc; rintro e w7 ⟨rfl, hb⟩; have B7 := Lib.hid (We.below_trans B6.out hb); have y7 := Lib.hid (YC.below C'.out y6.out hb); have R7 := Lib.hid (R6.out.below hb); clear hb y6 R6 B6)
                  go_roundw
                  case rel => exact ⟨i + 1, s2, by go_num, by omega, y7, R7, hAS2.out, B7⟩
                  case measure => simp [intOf]; omega

      · have hv : turnB k st (b : Int) (s : Int) = false := by
          rw [turnB_yes hbk]
          have : st b = 4 := by unfold isS at hB4; simpa using hB4
          rw [this]; exact turns_bad
        have hv4 : isS (turnF k st (b : Int) (s : Int)) 4 b = true := by rw [turnF_stay hv]; exact hB4
        rw [hv] at hc
        replace hc := Lib.hid hc
        replace hv := Lib.hid hv
        generalize turnF k st (b : Int) (s : Int) = s2 at *
        go_wp2_with (go_at_call 12; (with_reducible refine hc.out.mono ?_); clear hc; rintro e w3 ⟨rfl, kk, yy⟩; have R3 := Lib.hid (R.out.keep (kk.block r R.out.lt (by unfold Out; omega))); have B3 := Lib.hid (below_out Bw.out hlo.out kk); have y3 := Lib.hid yy; clear kk yy R yw Bw; have cb := R3.out.cell hbk; (unfold We.bF at cb); (rw [hB4] at cb); have fz := R3.out.frozen b)
        have R4 := Lib.hid ((R3.out.set_ b (.bool true)).congr (f' := We.bF (isS s2 4)) fun j hj => by
          show (if j = b then Value.bool true else We.bF (isS st 4) j) = .bool (isS s2 4 j)
          by_cases e : j = b
          · subst e; rw [if_pos rfl, hv4]
          · rw [if_neg e, hoth.out j e]; rfl)
        have y4 := Lib.hid (C'.out.keep (w' := w3.setCell ⟨r, b, none⟩ (.bool true)) y3.out fun q h1 h2 _ => We.setCell_block w3 _ (by omega))
        have B4 := Lib.hid (We.below_set (i := b) B3.out hwr.out (.bool true))
        clear cb fz R3 B3 y3 hB4 hv4 hoth
        generalize w3.setCell ⟨r, b, none⟩ (.bool true) = w4 at *

        have hS := Lib.hid (sum_all hAS2.out)
        go_loopw [12, 13] (fun q t wq => ∃ j : Nat, q = .int .i64 ((sumT s2 k j : Nat) : Int) ∧ t = .int .i64 ((j : Int) + 1) ∧ j ≤ 4 ∧ Hid (Y wq lo r G k s2 (fun _ => 0)) ∧ Hid (We.PV wq 4 r k (We.bF (isS s2 4))) ∧ Hid (Below w.heap.size w wq)) (fun _ t _ => 5 - (intOf t).toNat)
        case atStart => exact ⟨0, rfl, rfl, Nat.zero_le _, y4, R4, B4⟩
        case round =>
          obtain ⟨j, rfl, rfl, hj4, yq, Rq, Bq⟩ := hrel
          clear y4 R4 B4
          have hsl : sumT s2 k j ≤ 80 := Nat.le_trans (sumT_le s2 k j) (Nat.mul_le_mul hj4 hk2.2)
          obtain ⟨S, hSj⟩ : ∃ S, sumT s2 k j = S := ⟨_, rfl⟩
          have hsu : sumT s2 k (j + 1) = S + nb (isS s2 ((j : Int) + 1)) k := by rw [sumT, hSj]
          obtain ⟨Z, hZ⟩ : ∃ Z, nb (isS s2 ((j : Int) + 1)) k = Z := ⟨_, rfl⟩
          have hZk : Z ≤ k := by rw [← hZ]; exact nb_le _ _
          rw [hZ] at hsu
          rw [hSj] at hsl ⊢
          by_cases hj : j < 4
          · have hjI : (j : Int) + 1 ≤ 4 := by omega
            have d2 : decide ((j : Int) + 1 ≤ 4) = true := decide_eq_true hjI
            have hc := C'.out.count yq.out ((j : Int) + 1)
            rw [hZ] at hc
            replace hc := Lib.hid hc
            replace hsu := Lib.hid hsu
            replace hSj := Lib.hid hSj
            replace hZ := Lib.hid hZ
            go_wp2_with (go_at_call 18; (with_reducible refine hc.out.mono ?_); clear hc; rintro e w5 ⟨rfl, hb⟩; have B5 := Lib.hid (We.below_trans Bq.out hb); have y5 := Lib.hid (YC.below C'.out yq.out hb); have R5 := Lib.hid (Rq.out.below hb); clear hb yq Rq Bq)
            go_roundw
            case rel => exact ⟨j + 1, by rw [hsu.out] <;> first | rfl | go_num, by go_num, by omega, y5, R5, B5⟩
            case measure => simp [intOf]; omega
          · have hje : j = 4 := by omega
            have d2 : decide ((j : Int) + 1 ≤ 4) = false := decide_eq_false (by omega)
            have hSk : S = k := by rw [← hSj, hje]; exact hS.out
            rw [hSk]
            replace hje := Lib.hid hje
            replace hSj := Lib.hid hSj
            replace hSk := Lib.hid hSk
            replace hsu := Lib.hid hsu
            replace hZ := Lib.hid hZ
            cases hpk : pk k s2 (fun _ => 0) with
            | none =>
              have hc := C'.out.pick yq.out
              rw [hpk] at hc
              replace hc := Lib.hid (show Calls _ _ _ _ (We.Ans wr (.tuple #[.int .i64 0, .bool false])) from hc)
              have hn0 := pk_none hpk
              replace hpk := Lib.hid hpk
              go_wp2_with (go_at_call 15; (with_reducible refine hc.out.mono ?_); clear hc; rintro e w5 ⟨rfl, hb⟩; have B5 := Lib.hid (We.below_trans Bq.out hb); have y5 := Lib.hid (YC.below C'.out yq.out hb); have R5 := Lib.hid (Rq.out.below hb); clear hb yq Rq Bq)
              have hc := C'.out.count y5.out 1
              rw [hn0] at hc
              replace hc := Lib.hid (show Calls _ _ _ _ (We.Ans w5 (.int .i64 0)) from hc)
              replace hn0 := Lib.hid hn0
              go_wp2_with (go_at_call 18; (with_reducible refine hc.out.mono ?_); clear hc; rintro e w6 ⟨rfl, hb⟩; have B6 := Lib.hid (We.below_trans B5.out hb); have y6 := Lib.hid (YC.below C'.out y5.out hb); have R6 := Lib.hid (R5.out.below hb); clear hb y5 R5 B5)
              go_roundw
              case rel => exact ⟨i + 1, s2, by go_num, by omega, y6, R6, hAS2.out, B6⟩
              case measure => simp [intOf]; omega
            | some p =>
              have hc := C'.out.pick yq.out
              rw [hpk] at hc
              replace hc := Lib.hid (show Calls _ _ _ _ (We.Ans wr (.tuple #[.int .i64 (p : Int), .bool true])) from hc)
              obtain ⟨hpk2, hps, _⟩ := pk_some hpk
              have hpI : (p : Int) < (k : Int) := by omega
              have hpos := nb_pos (f := isS s2 1) hpk2 (by unfold isS; simpa using hps)
              obtain ⟨M, hM⟩ : ∃ M, nb (isS s2 1) k = M := ⟨_, rfl⟩
              rw [hM] at hpos
              have hMI : decide (0 < (M : Int)) = true := decide_eq_true (by omega)
              have h4 : isS s2 4 p = false := by unfold isS; rw [hps]; rfl
              have hx : at_ k s2 (p : Int) = 1 := (at_yes hpk2).trans hps
              replace hpk := Lib.hid hpk
              replace hps := Lib.hid hps
              replace hx := Lib.hid hx
              go_wp2_with (go_at_call 15; (with_reducible refine hc.out.mono ?_); clear hc; rintro e w5 ⟨rfl, hb⟩; have B5 := Lib.hid (We.below_trans Bq.out hb); have y5 := Lib.hid (YC.below C'.out yq.out hb); have R5 := Lib.hid (Rq.out.below hb); clear hb yq Rq Bq; have cp := R5.out.cell hpk2; (unfold We.bF at cp); (rw [h4] at cp))
              have hc := Lib.hid (state_lit C'.out B5.out y5.out (p : Int) 1 hx.out)
              go_wp2_with (go_at_call 13; (with_reducible refine (C'.out.state y5.out (p : Int)).mono ?_); clear hc; (rw [hx.out]); rintro e w6 ⟨rfl, hb⟩; have B6 := Lib.hid (We.below_trans B5.out hb); have y6 := Lib.hid (YC.below C'.out y5.out hb); have R6 := Lib.hid (R5.out.below hb); clear hb y5 R5 B5 cp)
              have hc := C'.out.count y6.out 1
              rw [hM] at hc
              replace hc := Lib.hid hc
              replace hM := Lib.hid hM
              go_wp2_with (go_at_call 18; (with_reducible refine hc.out.mono ?_); clear hc; rintro e w7 ⟨rfl, hb⟩; have B7 := Lib.hid (We.below_trans B6.out hb); have y7 := Lib.hid (YC.below C'.out y6.out hb); have R7 := Lib.hid (R6.out.below hb); clear hb y6 R6 B6)
              go_roundw
              case rel => exact ⟨i + 1, s2, by go_num, by omega, y7, R7, hAS2.out, B7⟩
              case measure => simp [intOf]; omega
    · obtain rfl : i = n := by omega
      have d1 : decide ((i : Int) < (i : Int)) = false := decide_eq_false (by omega)
      go_wp2_with fail
      go_ret
      exact ⟨rfl, hBr.out⟩
end Go.Proofs.Ytnhkagkgmgpjeaa.Yd
