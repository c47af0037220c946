/- PatrolGoes walked, for whatever is a patrol. -/
import Derived.Test.YtmmpcgmhcaianaaPtc
import Derived.Test.YtmmpcgmhcaianaaPtd
import Derived.Test.YtmmpcgmhcaianaaWro
import Derived.Deep.CutRange
namespace Go.Proofs.Ytmmpcgmhcaianaa.Pt
open Go.RowKit Go.Proofs.Ytmmpcgmhcaianaa.Ge
set_option linter.unusedVariables false
set_option linter.unusedSimpArgs false
attribute [local go_sem ↓] Cl.quiet_since
/-- how many pages there are: none, where there may be no such device -/
def cntN (B P W K : Int) : Nat := if mayG B P W K = true then (B * P).toNat else 0
theorem vis_no {B P W K k : Int} (h : mayG B P W K = false ∨ k < 0) : visI B P W K k = (0, 0) := by
  unfold visI
  rw [if_neg]
  rintro ⟨h1, h2⟩
  rcases h with h | h
  · rw [h] at h1; cases h1
  · omega
/-- how many calls are made -/
theorem calls_in (c : Nat) (hc : c ≤ 2048) : ∃ T : Nat, T ≤ 600 ∧ wrap64 (2 * (c : Int)) = 2 * (c : Int) ∧ wrap64 (2 * (c : Int) + 3) = 2 * (c : Int) + 3 ∧ (if (600 : Int) < 2 * (c : Int) + 3 then 600 else 2 * (c : Int) + 3) = (T : Int) ∧ (if 2 * (c : Int) + 3 ≤ 600 then 2 * (c : Int) + 3 else 600) = (T : Int) ∧ (if 2 * (c : Int) + 3 < 600 then 2 * (c : Int) + 3 else 600) = (T : Int) ∧ min (2 * (c : Int) + 3) 600 = (T : Int) := by
  refine ⟨min (2 * c + 3) 600, by omega, IntWalk.wrap64_in _ (by omega), IntWalk.wrap64_in _ (by omega), ?_, ?_, ?_, ?_⟩ <;> omega
/-- is it even? -/
def evB (a : Int) : Bool := bits .and .i64 a 1 == 0
/-- the rows of PatrolGoes -/
def rxF (x : Nat → Nat → Int) (i : Nat) : Int × Bool := (x i 0, evB (x i 1))
theorem rx_next (x : Nat → Nat → Int) (i : Nat) (d g e : Bool) (hd : dueF (rxF x) i = d) (hg : decide (4 ≤ x i 0) = g) (he : evB (x i 1) = e) : dueF (rxF x) (i + 1) = (d || (g && e)) := by
  show (dueF (rxF x) i || (decide (4 ≤ x i 0) && evB (x i 1))) = _
  rw [hd, hg, he]
section
variable {Q : World → Nat → Nat → Nat → Int → Int → Int → Int → Nat → Prop}
set_option maxRecDepth 20000 in
set_option maxHeartbeats 16000000 in
theorem goes_law (C : PC Q) (B P W K k : Int) (hkw : (Lit.int .i64 k).wf = true) (A : Option Addr) (n : Nat) (x : Nat → Nat → Int) (c : Nat) (w : World) (hs : We.RF w w.heap.size A 2 n .i64 x) :
    Calls Try.prog 3 #[.agg #[.int .i64 B, .int .i64 P, .int .i64 W, .int .i64 K], .int .i64 k, .slice A n c] w (We.Ans w (.bool true)) := by
  have bx := Lib.hid (G4.new w B P W K)
  have hb := Lib.hid (We.below_alloc w (.cells #[.int .i64 B, .int .i64 P, .int .i64 W, .int .i64 K] 23))
  have ha := Lib.hid (awake_any C (w.alloc (.cells #[.int .i64 B, .int .i64 P, .int .i64 W, .int .i64 K] 23)))
  have hr := Lib.hid (fun w => refmay_any B P W K w)
  have hn := Lib.hid (fun w => C.new w B P W K)
  have C' := Lib.hid C
  have H := Lib.hid hs
  clear C hs
  by_cases h200 : (200 : Int) < (n : Int)
  · have z1 : decide ((200 : Int) < (n : Int)) = true := decide_eq_true h200
    clear h200
    go_enter Try.func3, Try.ntmps3
    go_wp2_with (go_at_call 7; (with_reducible refine ha.out.mono ?_); clear ha; rintro e w1 ⟨rfl, hb1⟩; replace hb1 := Lib.hid (We.below_trans hb.out hb1))
    go_ret
    exact ⟨rfl, hb1.out⟩
  have z1 : decide ((200 : Int) < (n : Int)) = false := decide_eq_false h200
  have hn2 := Lib.hid (show n ≤ 200 by omega)
  clear h200
  go_enter Try.func3, Try.ntmps3
  go_wp2_with (go_at_call 7; (with_reducible refine ha.out.mono ?_); clear ha; rintro e w1 ⟨rfl, hb1⟩; have b1 := Lib.hid (bx.out.below hb1); obtain ⟨c0, c1, c2, c3⟩ := b1.out.cells; replace hb1 := Lib.hid (We.below_trans hb.out hb1); clear bx hb)
  go_upto_region 8 with (go_at_call 8; (with_reducible refine (hn.out _).mono ?_); clear hn; rintro e w3 ⟨G, rfl, hb3, f3⟩; have b3 := Lib.hid (b1.out.below hb3); have hgl := Lib.hid b1.out.lt; have hlo := Lib.hid hb1.out.size; replace hb3 := Lib.hid (We.below_trans hb1.out hb3); replace f3 := Lib.hid f3; clear c0 c1 c2 c3 b1 hb1 z1; obtain ⟨c0, c1, c2, c3⟩ := b3.out.cells)
  have hr3 := Lib.hid (hr.out w3)
  obtain ⟨M, hM⟩ : ∃ M, mayG B P W K = M := ⟨_, rfl⟩
  rw [hM] at hr3
  replace hM := Lib.hid hM
  go_upto_if 29 with (go_at_call 9; (with_reducible refine hr3.out.mono ?_); clear hr3; rintro e w2 ⟨rfl, hb2⟩; have b4 := Lib.hid (b3.out.below hb2); have F4 := Lib.hid (PC.below C'.out f3.out hb2); clear c0 c1 c2 c3; replace hb2 := Lib.hid (We.below_trans hb3.out hb2); obtain ⟨c0, c1, c2, c3⟩ := b4.out.cells; clear b3 f3 hb3)
  go_cut [8] from 30 to 34 (fun y wx => y = .int .i64 ((cntN B P W K : Nat) : Int) ∧ Hid (G4 wx w.heap.size B P W K) ∧ Hid (Below w.heap.size w wx) ∧ Hid (Q wx w1.heap.size w3.heap.size G B P W K 0))
  case first =>
    cases M
    · have hc : cntN B P W K = 0 := by unfold cntN; rw [hM.out]; rfl
      go_wp2_with fail
      go_meet
      exact ⟨by rw [hc]; rfl, b4, hb2, F4⟩
    · have hc : cntN B P W K = (B * P).toNat := by unfold cntN; rw [hM.out, if_pos rfl]
      obtain ⟨X, Y, rfl, rfl, hx1, hx2, hy1, hy2⟩ := may_nat hM.out
      have g3 : wrap64 ((X : Int) * (Y : Int)) = ((((X : Int) * (Y : Int)).toNat : Nat) : Int) := by
        rw [← Int.natCast_mul, Int.toNat_natCast]
        have := Nat.mul_le_mul hx2 hy2
        generalize X * Y = z at *
        exact IntWalk.wrap64_in _ (by omega)
      rw [← hc] at g3
      replace hc := Lib.hid hc
      clear hx1 hx2 hy1 hy2
      go_wp2_with fail
      go_meet
      exact ⟨by rw [← g3], b4, hb2, F4⟩
  case rest =>
  obtain ⟨rfl, b4', B4', F4'⟩ := hcut
  clear hr b4 F4 hb2 c0 c1 c2 c3
  obtain ⟨cn, hcn⟩ : ∃ cn, cntN B P W K = cn := ⟨_, rfl⟩
  rw [hcn]
  have hcl : cn ≤ 2048 := by
    rw [← hcn]
    unfold cntN
    split
    · obtain ⟨X, Y, rfl, rfl, hx1, hx2, hy1, hy2⟩ := may_nat (by assumption)
      rw [← Int.natCast_mul, Int.toNat_natCast]
      exact Nat.mul_le_mul hx2 hy2
    · exact Nat.zero_le _
  have hlo2 := Lib.hid (show w.heap.size ≤ w1.heap.size from hlo.out)
  generalize w1.heap.size = lo at *
  generalize w3.heap.size = hi at *
  obtain ⟨T, hT, q1, q2, q3, q4, q5, q6⟩ := calls_in cn hcl
  replace hcn := Lib.hid hcn
  replace hcl := Lib.hid hcl
  replace hT := Lib.hid hT
  go_wp2_with fail
  go_loopw [9] (fun q wr => ∃ i : Nat, q = .int .i64 (i : Int) ∧ i ≤ T ∧ Hid (Q wr lo hi G B P W K i) ∧ Hid (G4 wr w.heap.size B P W K) ∧ Hid (Below w.heap.size w wr)) (fun q _ => T - (intOf q).toNat)
  case atStart => exact ⟨0, rfl, Nat.zero_le _, F4', b4', B4'⟩
  case round =>
    clear F4' b4' B4'
    obtain ⟨i, rfl, hin, fr, br, Br⟩ := hrel
    by_cases hi' : i < T
    · have d1 : decide (i < T) = true := decide_eq_true hi'
      have d2 : decide ((i : Int) < (T : Int)) = true := decide_eq_true (Int.ofNat_lt.mpr hi')
      obtain ⟨j, hj⟩ : ∃ j, i + 1 = j := ⟨_, rfl⟩
      have hk1 : wrap64 ((i : Int) + 1) = (j : Int) := by have := hT.out; rw [IntWalk.wrap64_in _ (by omega)]; omega
      have hji := Lib.hid (show j ≤ T by omega)
      have hjl := Lib.hid (show i < j by omega)
      have hki : i ≤ 1000000 := by have := hT.out; omega
      have hkf : (Lit.int .i64 (i : Int)).wf = true := by simp [Lit.wf, IntKind.min, IntKind.max, IntKind.signed, IntKind.bits]; omega
      obtain ⟨X0, Y0, hXY⟩ : ∃ X0 Y0, visI B P W K (i : Int) = (X0, Y0) := ⟨_, _, rfl⟩
      have hc := Lib.hid (next_lit C'.out Br.out hlo.out fr.out hki X0 Y0 hXY)
      have hv := Lib.hid (fun w => visit_lit C'.out w B P W K (i : Int) hkf X0 Y0 hXY)
      replace hXY := Lib.hid hXY
      clear hki hkf
      obtain ⟨c0, c1, c2, c3⟩ := br.out.cells
      go_wp2_with (go_at_call 10; (with_reducible refine hc.out.mono ?_); clear hc; rintro e w7 ⟨rfl, B7, F7, k7⟩; have b7 := Lib.hid (br.out.out k7 hgl.out); replace B7 := Lib.hid B7; replace F7 := Lib.hid F7; clear c0 c1 c2 c3 fr br Br k7; obtain ⟨c0, c1, c2, c3⟩ := b7.out.cells)
      go_wp2_with (go_at_call 11; (with_reducible refine (hv.out _).mono ?_); clear hv; rintro e w8 ⟨rfl, hb8⟩; have b8 := Lib.hid (b7.out.below hb8); have B8 := Lib.hid (We.below_trans B7.out hb8); have F8 := Lib.hid (PC.below C'.out F7.out hb8); (rw [hj] at F8); clear c0 c1 c2 c3 b7 B7 F7 hb8)
      replace hi' := Lib.hid hi'
      clear hj d1 d2 hin q1 q2 q3 q4 q5 q6
      cases M
      · have hv0 := vis_no (k := (i : Int)) (Or.inl hM.out)
        obtain rfl : cn = 0 := by rw [← hcn.out]; unfold cntN; rw [hM.out]; rfl
        obtain ⟨rfl, rfl⟩ := Prod.mk.inj (hXY.out.symm.trans hv0)
        clear hv0 hXY
        refine Cl.region_way (fun _ => True) 48 [(0, .r), (1, .r), (2, .r), (3, .r), (4, .r), (5, .r), (6, .r), (7, .r), (8, .r), (9, .r), (10, .r), (11, .r), (12, .r), (13, .r), (14, .r), (15, .r), (16, .r), (17, .r), (18, .r), (19, .r), (20, .r), (21, .r), (22, .r), (23, .r), (24, .r), (25, .r), (26, .r), (27, .r), (28, .r), (29, .r), (30, .r), (31, .r), (32, .r), (33, .r), (34, .r), (35, .r), (36, .r), (37, .r), (38, .r), (39, .r), (40, .r), (42, .r), (43, .r), (44, .r), (45, .r), (41, .c), (46, .r), (47, .r), (48, .z)] (by kernel_rfl) (by kernel_rfl) ?_
        intro w9 hk9
        have b9 := Lib.hid (b8.out.below hk9.below)
        have B9 := Lib.hid (We.below_trans B8.out hk9.below)
        have F9 := Lib.hid (PC.below C'.out F8.out hk9.below)
        clear hk9 b8 B8 F8
        iterate 45 (with_reducible refine (no_implicit_lambda% (Cl.way_r rfl ?_)); go_big_quiet_step (fail); with_reducible refine (no_implicit_lambda% (wpQuiet_nil ?_)))
        refine Cl.way_c rfl ?_
        go_wp2_with fail
        refine Cl.way_on (Cl.Keeps.refl _ _) ?_
        iterate 2 (with_reducible refine (no_implicit_lambda% (Cl.way_r rfl ?_)); go_big_quiet_step (fail); with_reducible refine (no_implicit_lambda% (wpQuiet_nil ?_)))
        refine Cl.way_z rfl ?_
        go_wp2_with fail
        refine Cl.Calm.normal ?_
        go_wp2_with fail
        go_roundw
        case rel => exact ⟨j, by first | rfl | rw [hk1], hji.out, F9, b9, B9⟩
        case measure => first | (rw [hk1]; simp only [intOf, Int.toNat_natCast]; exact Nat.sub_lt_sub_left hi'.out hjl.out) | (simp only [intOf]; exact Nat.sub_lt_sub_left hi'.out hjl.out)
      · obtain ⟨X, Y, rfl, rfl, hx1, hx2, hy1, hy2⟩ := may_nat hM.out
        have hxy : X * Y = cn := by rw [← hcn.out]; unfold cntN; rw [hM.out, if_pos rfl, ← Int.natCast_mul, Int.toNat_natCast]
        have hn0 : 0 < cn := by rw [← hxy]; exact Nat.mul_pos (by omega) (by omega)
        obtain ⟨q, b, r, m, hq, hqh, hv, e3, e4, t1, t2, t3, t4, t5, t6, hqI⟩ := vis_at (k := i) hM.out hy1 hx2 hy2 hxy hn0
        have hrd := Lib.hid (rdN hM.out hxy j)
        have f1 : (i : Int).tmod (cn : Int) = (q : Int) := by rw [← hq.out]; rfl
        have f2 : (i : Int) % (cn : Int) = (q : Int) := by rw [← hq.out]; exact (Int.natCast_emod _ _).symm
        have z1 : decide (0 < cn) = true := decide_eq_true hn0
        have z2 : decide ((0 : Int) < (cn : Int)) = true := decide_eq_true (Int.ofNat_lt.mpr hn0)
        have z3 : ((cn : Int) == 0) = false := by simp; omega
        have z4 : ¬ (cn : Int) = 0 := by omega
        have z5 : ¬ cn = 0 := by omega
        obtain ⟨R, hR⟩ : ∃ R, j / cn = R := ⟨_, rfl⟩
        have hRl : R ≤ 1000 := by rw [← hR]; exact Nat.le_trans (Nat.div_le_self _ _) (by have := hT.out; have := hji.out; omega)
        have f3 : (j : Int).tdiv (cn : Int) = (R : Int) := by rw [← hR]; rfl
        have f4 : (j : Int) / (cn : Int) = (R : Int) := by rw [← hR]; exact (Int.natCast_ediv _ _).symm
        have f5 : wrap64 (R : Int) = (R : Int) := IntWalk.wrap64_in _ (by omega)
        rw [hR] at hrd
        have hj6 := Lib.hid (show j ≤ 1000000 by have := hT.out; have := hji.out; omega)
        obtain ⟨rfl, rfl⟩ := Prod.mk.inj (hXY.out.symm.trans hv.out)
        clear hXY hx1 hx2 hy1 hy2 hxy hn0 hq hqh hv t1 t2 t3 t4 t5 t6 hqI hR hRl
        refine Cl.region_way (fun _ => True) 48 [(0, .r), (1, .r), (2, .r), (3, .r), (4, .r), (5, .r), (6, .r), (7, .r), (8, .r), (9, .r), (10, .r), (11, .r), (12, .r), (13, .r), (14, .r), (15, .r), (16, .r), (17, .r), (18, .r), (19, .r), (20, .r), (21, .r), (22, .r), (23, .r), (24, .r), (25, .r), (26, .r), (27, .r), (28, .r), (29, .r), (30, .r), (31, .r), (32, .r), (33, .r), (34, .r), (35, .r), (36, .r), (37, .r), (38, .r), (39, .r), (40, .r), (42, .r), (43, .r), (44, .r), (45, .r), (41, .c), (46, .r), (47, .r), (48, .z)] (by kernel_rfl) (by kernel_rfl) ?_
        intro w9 hk9
        have b9 := Lib.hid (b8.out.below hk9.below)
        have B9 := Lib.hid (We.below_trans B8.out hk9.below)
        have F9 := Lib.hid (PC.below C'.out F8.out hk9.below)
        clear hk9 b8 B8 F8
        have t1 : ∀ z : Cl.Since (fun _ => True) w9, z.w.cell? ⟨w.heap.size, 1, none⟩ = some (.int .i64 (Y : Int)) := fun z => (b9.out.below z.keeps.below).cells.2.1
        iterate 45 (with_reducible refine (no_implicit_lambda% (Cl.way_r rfl ?_)); go_big_quiet_step (fail); with_reducible refine (no_implicit_lambda% (wpQuiet_nil ?_)))
        clear t1
        refine Cl.way_c rfl ?_
        have hc := Lib.hid (rounds_lit C'.out B9.out F9.out hj6.out _ hrd.out)
        go_wp2_with (go_at_call 12; (with_reducible refine hc.out.mono ?_); clear hc; rintro e w10 ⟨rfl, B10, F10, k10⟩; have b10 := Lib.hid (b9.out.below k10); replace B10 := Lib.hid B10; replace F10 := Lib.hid F10; replace k10 := Lib.hid k10; clear b9 B9 F9)
        refine Cl.way_on (Cl.Keeps.of_below k10.out) ?_
        clear k10
        iterate 2 (with_reducible refine (no_implicit_lambda% (Cl.way_r rfl ?_)); go_big_quiet_step (fail); with_reducible refine (no_implicit_lambda% (wpQuiet_nil ?_)))
        refine Cl.way_z rfl ?_
        go_wp2_with fail
        refine Cl.Calm.normal ?_
        go_wp2_with fail
        go_roundw
        case rel => exact ⟨j, by first | rfl | rw [hk1], hji.out, F10, b10, B10⟩
        case measure => first | (rw [hk1]; simp only [intOf, Int.toNat_natCast]; exact Nat.sub_lt_sub_left hi'.out hjl.out) | (simp only [intOf]; exact Nat.sub_lt_sub_left hi'.out hjl.out)
    · obtain rfl : i = T := Nat.le_antisymm hin (Nat.le_of_not_lt hi')
      have d1 : decide (i < i) = false := decide_eq_false (Nat.lt_irrefl i)
      have d2 : decide ((i : Int) < (i : Int)) = false := decide_eq_false (Int.lt_irrefl _)
      obtain ⟨X0, Y0, hXY⟩ : ∃ X0 Y0, visI B P W K k = (X0, Y0) := ⟨_, _, rfl⟩
      have hv := Lib.hid (fun w => visit_lit C'.out w B P W K k hkw X0 Y0 hXY)
      replace hXY := Lib.hid hXY
      obtain ⟨c0, c1, c2, c3⟩ := br.out.cells
      go_wp2_with (go_at_call 11; (with_reducible refine (hv.out _).mono ?_); clear hv; rintro e w8 ⟨rfl, hb8⟩; have b8 := Lib.hid (br.out.below hb8); have B8 := Lib.hid (We.below_trans Br.out hb8); clear c0 c1 c2 c3 fr br Br hb8)
      clear d1 d2 q1 q2 q3 q4 q5 q6 hin hi'
      go_cut [142] from 109 to 142 (fun y wx => y = .bool false ∧ Hid (G4 wx w.heap.size B P W K) ∧ Hid (Below w.heap.size w wx))
      case first =>
        by_cases hk0 : k < 0
        · obtain ⟨rfl, rfl⟩ := Prod.mk.inj (hXY.out.symm.trans (vis_no (Or.inr hk0)))
          have z1 : decide (k < 0) = true := decide_eq_true hk0
          have z2 : decide (0 ≤ k) = false := decide_eq_false (by omega)
          clear hXY hk0
          refine Cl.region_way (fun _ => True) 33 [(0, .r), (1, .r), (2, .r), (3, .r), (4, .r), (5, .r), (6, .r), (7, .r), (8, .r), (9, .r), (10, .r), (11, .r), (12, .r), (13, .r), (14, .r), (15, .r), (16, .r), (17, .r), (18, .r), (19, .r), (20, .r), (21, .r), (22, .r), (23, .r), (24, .r), (25, .r), (26, .r), (27, .r), (28, .r), (29, .r), (30, .r), (31, .r), (32, .r), (33, .z)] (by kernel_rfl) (by kernel_rfl) ?_
          intro w9 hk9
          have b9 := Lib.hid (b8.out.below hk9.below)
          have B9 := Lib.hid (We.below_trans B8.out hk9.below)
          clear hk9 b8 B8
          iterate 33 (with_reducible refine (no_implicit_lambda% (Cl.way_r rfl ?_)); go_big_quiet_step (fail); with_reducible refine (no_implicit_lambda% (wpQuiet_nil ?_)))
          refine Cl.way_z rfl ?_
          go_wp2_with fail
          refine Cl.Calm.normal ?_
          go_wp2_with fail
          go_meet
          exact ⟨rfl, b9, B9⟩
        · have z1 : decide (k < 0) = false := decide_eq_false hk0
          have z2 : decide (0 ≤ k) = true := decide_eq_true (by omega)
          cases M
          · obtain ⟨rfl, rfl⟩ := Prod.mk.inj (hXY.out.symm.trans (vis_no (Or.inl hM.out)))
            obtain rfl : cn = 0 := by rw [← hcn.out]; unfold cntN; rw [hM.out]; rfl
            clear hXY hk0
            refine Cl.region_way (fun _ => True) 33 [(0, .r), (1, .r), (2, .r), (3, .r), (4, .r), (5, .r), (6, .r), (7, .r), (8, .r), (9, .r), (10, .r), (11, .r), (12, .r), (13, .r), (14, .r), (15, .r), (16, .r), (17, .r), (18, .r), (19, .r), (20, .r), (21, .r), (22, .r), (23, .r), (24, .r), (25, .r), (26, .r), (27, .r), (28, .r), (29, .r), (30, .r), (31, .r), (32, .r), (33, .z)] (by kernel_rfl) (by kernel_rfl) ?_
            intro w9 hk9
            have b9 := Lib.hid (b8.out.below hk9.below)
            have B9 := Lib.hid (We.below_trans B8.out hk9.below)
            clear hk9 b8 B8
            iterate 33 (with_reducible refine (no_implicit_lambda% (Cl.way_r rfl ?_)); go_big_quiet_step (fail); with_reducible refine (no_implicit_lambda% (wpQuiet_nil ?_)))
            refine Cl.way_z rfl ?_
            go_wp2_with fail
            refine Cl.Calm.normal ?_
            go_wp2_with fail
            go_meet
            exact ⟨rfl, b9, B9⟩
          · obtain ⟨X, Y, rfl, rfl, hx1, hx2, hy1, hy2⟩ := may_nat hM.out
            obtain ⟨kn, rfl⟩ : ∃ kn : Nat, k = (kn : Int) := ⟨k.toNat, by omega⟩
            have hxy : X * Y = cn := by rw [← hcn.out]; unfold cntN; rw [hM.out, if_pos rfl, ← Int.natCast_mul, Int.toNat_natCast]
            have hn0 : 0 < cn := by rw [← hxy]; exact Nat.mul_pos (by omega) (by omega)
            obtain ⟨q, b, r, m, hq, hqh, hv, e3, e4, t1, t2, t3, t4, t5, t6, hqI⟩ := vis_at (k := kn) hM.out hy1 hx2 hy2 hxy hn0
            have f1 : (kn : Int).tmod (cn : Int) = (q : Int) := by rw [← hq.out]; rfl
            have f2 : (kn : Int) % (cn : Int) = (q : Int) := by rw [← hq.out]; exact (Int.natCast_emod _ _).symm
            have z3 : decide (0 < cn) = true := decide_eq_true hn0
            have z4 : decide ((0 : Int) < (cn : Int)) = true := decide_eq_true (Int.ofNat_lt.mpr hn0)
            have z5 : ((cn : Int) == 0) = false := by simp; omega
            have z6 : ¬ (cn : Int) = 0 := by omega
            have z7 : ¬ cn = 0 := by omega
            obtain ⟨rfl, rfl⟩ := Prod.mk.inj (hXY.out.symm.trans hv.out)
            clear hXY hx1 hx2 hy1 hy2 hxy hn0 hq hqh hv t1 t2 t3 t4 t5 t6 hqI hk0
            refine Cl.region_way (fun _ => True) 33 [(0, .r), (1, .r), (2, .r), (3, .r), (4, .r), (5, .r), (6, .r), (7, .r), (8, .r), (9, .r), (10, .r), (11, .r), (12, .r), (13, .r), (14, .r), (15, .r), (16, .r), (17, .r), (18, .r), (19, .r), (20, .r), (21, .r), (22, .r), (23, .r), (24, .r), (25, .r), (26, .r), (27, .r), (28, .r), (29, .r), (30, .r), (31, .r), (32, .r), (33, .z)] (by kernel_rfl) (by kernel_rfl) ?_
            intro w9 hk9
            have b9 := Lib.hid (b8.out.below hk9.below)
            have B9 := Lib.hid (We.below_trans B8.out hk9.below)
            clear hk9 b8 B8
            have t1 : ∀ z : Cl.Since (fun _ => True) w9, z.w.cell? ⟨w.heap.size, 1, none⟩ = some (.int .i64 (Y : Int)) := fun z => (b9.out.below z.keeps.below).cells.2.1
            iterate 33 (with_reducible refine (no_implicit_lambda% (Cl.way_r rfl ?_)); go_big_quiet_step (fail); with_reducible refine (no_implicit_lambda% (wpQuiet_nil ?_)))
            clear t1
            refine Cl.way_z rfl ?_
            go_wp2_with fail
            refine Cl.Calm.normal ?_
            go_wp2_with fail
            go_meet
            exact ⟨rfl, b9, B9⟩
      case rest =>
        obtain ⟨rfl, b9, B9⟩ := hcut
        clear hXY b8 B8 hM hcn hcl hT
        go_wp2_with fail
        have H1 := Lib.hid (H.out.far B9.out)
        clear H
        go_loopw [16, 17, 18] (fun v d q wr => ∃ (i c : Nat) (A : Option Addr), v = .slice A i c ∧ d = .bool (dueF (rxF x) i) ∧ q = .int .i64 (i : Int) ∧ i ≤ n ∧ Hid (OwnD wc wr A i c (rowsL (rxF x) i)) ∧ Hid (Below wc.heap.size wc wr)) (fun _ _ q _ => n - (intOf q).toNat)
        case atStart => exact ⟨0, 0, none, rfl, rfl, rfl, Nat.zero_le _, Lib.hid (OwnD.nil wc wc _), Lib.hid (Below.refl _ _)⟩
        case round =>
          obtain ⟨i, c', A', rfl, rfl, rfl, hi', hO, hB1⟩ := hrel
          by_cases hin : i < n
          · obtain ⟨a, rfl, hab, _⟩ := (H1.out.below hB1.out).at0 hin (by decide)
            have d1 : decide ((i : Int) < (n : Int)) = true := decide_eq_true (Int.ofNat_lt.mpr hin)
            have d2 : decide (i < n) = true := decide_eq_true hin
            have hinI : (i : Int) < (n : Int) := Int.ofNat_lt.mpr hin
            have hi1 : wrap64 ((i : Int) + 1) = ((i + 1 : Nat) : Int) := by have := hn2.out; rw [IntWalk.wrap64_in _ (by omega)]; omega
            have hi6 : i ≤ 1000000 := by have := hn2.out; omega
            go_wp2_with fail
            refine Cl.region_tree (fun b => b < wc.heap.size) 17 (.r 0 <| .r 1 <| .r 2 <| .r 3 <| .r 4 <| .r 5 <| .r 6 <| .r 7 <| .r 8 <| .r 9 <| .r 10 <| .r 11 <| .r 12 <| .r 13 <| .c 14 <| .c 15 <| .r 16 <| .e) (by kernel_rfl) (by kernel_rfl) ?_
            intro w2 hk2
            have O2 := Lib.hid (hO.out.keep fun g _ hl => hk2.block g hl trivial)
            have B2 := Lib.hid (hB1.out.trans (hk2.below.mono hB1.out.size))
            obtain ⟨a', e', _, c0, cj⟩ := (H1.out.below B2.out).at0 hin (by decide)
            cases e'
            have c1 := cj 0 (by decide)
            have hpb : (a.add (i * 2)).block < w2.heap.size ∧ (a.add (i * 2)).block < wc.heap.size := by rw [We.add_block]; exact ⟨Nat.lt_of_lt_of_le hab B2.out.size, hab⟩
            have t0 : ∀ z : Cl.Since (fun b => b < wc.heap.size) w2, z.w.cell? (a.add (i * 2)) = some (.int .i64 (x i 0)) := fun z => (z.cell (p := a.add (i * 2)) hpb.1 hpb.2).trans c0
            have t1 : ∀ z : Cl.Since (fun b => b < wc.heap.size) w2, z.w.cell? ⟨(a.add (i * 2)).block, (a.add (i * 2)).off + 1, none⟩ = some (.int .i64 (x i 1)) := fun z => (z.cell (p := ⟨(a.add (i * 2)).block, (a.add (i * 2)).off + 1, none⟩) hpb.1 hpb.2).trans c1
            clear c0 c1 cj hk2 hO hB1 hpb
            obtain ⟨X0, h0⟩ : ∃ X, x i 0 = X := ⟨_, rfl⟩
            obtain ⟨X1, h1⟩ : ∃ X, x i 1 = X := ⟨_, rfl⟩
            have hrow := Lib.hid (show rxF x i = (X0, evB X1) by unfold rxF; rw [h0, h1])
            rw [h0] at t0; rw [h1] at t1
            obtain ⟨D, hD⟩ : ∃ D, dueF (rxF x) i = D := ⟨_, rfl⟩
            obtain ⟨g, hg⟩ : ∃ g, decide (4 ≤ X0) = g := ⟨_, rfl⟩
            obtain ⟨E, hE⟩ : ∃ E, (bits .and .i64 X1 1 == 0) = E := ⟨_, rfl⟩
            have hnx := Lib.hid (rx_next x i D g E hD (by rw [h0]; exact hg) (by rw [h1]; exact hE))
            replace hrow := Lib.hid (show rxF x i = (X0, E) by rw [hrow.out, ← hE]; rfl)
            have hrs := Lib.hid (rowsL_succ (rxF x) i)
            rw [hD]
            replace h1 := Lib.hid h1
            clear h0 hD
            iterate 14 (refine Cl.tree_r rfl ?_; go_big_quiet_step (fail); refine wpQuiet_nil ?_)
            clear t0 t1
            refine Cl.tree_c rfl ?_
            go_wp2_with fail
            refine Cl.way_on (Cl.Keeps.of_below (We.below_alloc _ _)) ?_
            refine Cl.tree_c rfl ?_
            go_wp2_with (refine app_row (w0 := wc) rfl (.tmp 149) (.tmp 163) rfl A' i c' (rowsL (rxF x) i) rfl (O2.out.grow _) (by rw [World.size_alloc]; exact Nat.le_succ_of_le B2.out.size) w2.heap.size rfl (X0, E) (We.cell_new w2 _ _ 0) (We.cell_new w2 _ _ 1) hi6 ?_)
            intro A3 c3 w3 hO3 hb3
            rw [← hrow.out, hrs.out] at hO3
            have B3 := Lib.hid ((B2.out.trans ((We.below_alloc w2 (.cells #[.int .i64 X0, .bool E] 36)).mono B2.out.size)).trans hb3)
            replace hO3 := Lib.hid hO3
            go_wp2_with fail
            refine Cl.way_on ⟨hb3.os, hb3.tape, hb3.output, hb3.size, fun b _ hb => hb3.block b hb⟩ ?_
            clear hb3 O2 B2 hrs
            refine Cl.tree_r rfl ?_
            go_big_quiet_step (fail)
            refine wpQuiet_nil ?_
            refine Cl.tree_e ?_
            obtain ⟨a', e', _, c0, cj⟩ := (H1.out.below B3.out).at0 hin (by decide)
            cases e'
            have c1 := cj 0 (by decide)
            have e0 : x i 0 = X0 := congrArg Prod.fst hrow.out
            rw [e0] at c0
            rw [h1.out] at c1
            clear hrow e0 cj
            cases D
            · cases g
              · have hz := Lib.hid hnx.out
                go_wp2_with fail
                go_roundw
                case rel => exact ⟨i + 1, c3, A3, rfl, by rw [hz.out]; rfl, by first | rfl | rw [hi1], hin, hO3, B3⟩
                case measure => first | (rw [hi1]; simp only [intOf, Int.toNat_natCast]; exact Nat.sub_lt_sub_left hin (Nat.lt_succ_self i)) | (simp only [intOf]; exact Nat.sub_lt_sub_left hin (Nat.lt_succ_self i))
              · have hz := Lib.hid hnx.out
                go_wp2_with fail
                go_roundw
                case rel => exact ⟨i + 1, c3, A3, rfl, by rw [hz.out]; simp, by first | rfl | rw [hi1], hin, hO3, B3⟩
                case measure => first | (rw [hi1]; simp only [intOf, Int.toNat_natCast]; exact Nat.sub_lt_sub_left hin (Nat.lt_succ_self i)) | (simp only [intOf]; exact Nat.sub_lt_sub_left hin (Nat.lt_succ_self i))
            · have hz := Lib.hid hnx.out
              go_wp2_with fail
              go_roundw
              case rel => exact ⟨i + 1, c3, A3, rfl, by rw [hz.out]; rfl, by first | rfl | rw [hi1], hin, hO3, B3⟩
              case measure => first | (rw [hi1]; simp only [intOf, Int.toNat_natCast]; exact Nat.sub_lt_sub_left hin (Nat.lt_succ_self i)) | (simp only [intOf]; exact Nat.sub_lt_sub_left hin (Nat.lt_succ_self i))
          · obtain rfl : i = n := Nat.le_antisymm hi' (Nat.le_of_not_lt hin)
            have d1 : decide ((i : Int) < (i : Int)) = false := decide_eq_false (Int.lt_irrefl _)
            have d2 : decide (i < i) = false := decide_eq_false (Nat.lt_irrefl i)
            obtain ⟨D, hD⟩ : ∃ D, dueF (rxF x) i = D := ⟨_, rfl⟩
            have hdue := Lib.hid (due_lit C'.out (c := c') hO.out.db (by have := hn2.out; omega) D hD)
            rw [hD]
            have z1 : (D == D) = true := by cases D <;> rfl
            have B10 := Lib.hid (We.below_trans B9.out (hB1.out.mono (Nat.le_refl _)))
            go_wp2_with (go_at_call 13; (with_reducible refine hdue.out.mono ?_); clear hdue; rintro e w5 ⟨rfl, hb5⟩; have B11 := Lib.hid (We.below_trans B10.out hb5); clear hb5)
            go_ret
            exact ⟨rfl, B11.out⟩
end
end Go.Proofs.Ytmmpcgmhcaianaa.Pt
