/- A census of a page with one cell moved, as the laws of chapter 12 begin. -/
import Derived.Test.YtmchelbmeajcnaaJh
import Derived.Test.YtmchelbmeajcnaaMo
namespace Go.Proofs.Ytmchelbmeajcnaa
open Go.RowKit Go.Gf Go.Fl
set_option linter.unusedVariables false
set_option linter.unusedSimpArgs false
set_option maxRecDepth 20000
attribute [local go_sem ↓] exec_load_tb Cl.quiet_since
attribute [local go_sem] tbAt_ptr tbIn_ptr run_store_cpx

theorem qt_three : Qt 4613937818241073152 12 := by
  have := Qt.whole (x := 4613937818241073152) (n := 3) ⟨false, 6755399441055744, -51, by decide +kernel, by decide +kernel⟩
  exact this
/-- a page with noughts for data -/
def pg0 (q : Nat) : List Nat := sayL 24 1 0 q (List.replicate 20 0)
theorem pg0_v (q : Nat) (h : q < 1099511627776) : sayV 24 1 0 q (List.replicate 20 0) := by
  refine ⟨by decide, by decide, by decide, h, by decide, fun x hx => ?_⟩
  rw [(List.mem_replicate.1 hx).2]; decide
theorem pg0_len (q : Nat) (h : q < 1099511627776) : (pg0 q).length = 2 * 12 := say_len (pg0_v q h).2.2.2.2.1 (by decide)
theorem pg0_bd (q : Nat) (h : q < 1099511627776) : ∀ y ∈ pg0 q, y < 1024 := say_bd (by decide) (by decide) h
theorem pg0_0 : at_ (pageL 2 (pg0 0)) 0 = 1 := by decide +kernel
def wkZ (S : List Nat) (j : Nat) : Int × Int := if j = 0 then (-112, -116) else ownZ S j
theorem wk_off {S : List Nat} (hS : ∀ y ∈ S, y < 1024) (h0 : at_ S 0 = 1) (j : Nat) : offZ S (wkZ S) j = decide (j = 0) := by
  by_cases h : j = 0
  · subst h
    unfold offZ wkZ
    rw [if_pos rfl, h0]
    decide +kernel
  · have e : offZ S (wkZ S) j = offZ S (ownZ S) j := by unfold offZ wkZ; rw [if_neg h]
    rw [e, offZ_own hS, decide_eq_false h]
theorem wk_cnt {S : List Nat} (hS : ∀ y ∈ S, y < 1024) (h0 : at_ S 0 = 1) : cntZ S (wkZ S) 2 28 0 = 1 ∧ cntZ S (wkZ S) 2 28 1 = 0 := by
  unfold cntZ
  constructor
  · rw [bc_congr (b' := fun t => decide (t * 2 + 0 = 0)) fun t _ => wk_off hS h0 _]
    decide +kernel
  · rw [bc_congr (b' := fun t => decide (t * 2 + 1 = 0)) fun t _ => wk_off hS h0 _]
    decide +kernel
theorem wk_sum {S : List Nat} (h0 : at_ S 0 = 1) : smI (sfR S (wkZ S)) 56 = 12 ∧ smI (sfI S (wkZ S)) 56 = 0 := by
  constructor
  · rw [smI_congr (g := fun i => if i = 0 then 12 else 0) fun i _ => ?_]
    · decide +kernel
    · unfold sfR wkZ
      by_cases h : i = 0
      · rw [if_pos h, if_pos h, h, h0]; decide
      · rw [if_neg h, if_neg h]
        show ofQ (at_ S i / 32) - _ = 0
        omega
  · rw [smI_congr (g := fun _ => 0) fun i _ => ?_, smI_const]
    · simp
    · unfold sfI wkZ
      by_cases h : i = 0
      · rw [if_pos h, h, h0]; decide
      · rw [if_neg h]
        show ofQ (at_ S i) - _ = 0
        omega
set_option maxHeartbeats 16000000 in
theorem cawake_any (w : World) : Calls Try.prog 25 #[] w (Ge.Ans w (.bool true)) := by
  have hz := zero27
  have hmE : mkE 4 2 2 12 1 0 0 20 = 0 := by decide +kernel
  have hmW : mkW 4 2 2 12 1 0 0 (List.replicate 20 0) = pageL 2 (pg0 0) := by
    unfold mkW
    rw [show mkE 4 2 2 12 1 0 0 (List.replicate 20 0).length = 0 from hmE, if_pos rfl]
    rfl
  have h24 := pg0_len 0 (by decide)
  have hb24 := pg0_bd 0 (by decide)
  have hpl : (pageL 2 (pg0 0)).length = 56 := pageL_len h24 (by decide)
  have hpb : ∀ y ∈ pageL 2 (pg0 0), y < 1024 := pageL_bd h24 (by decide) hb24
  have hp0 := pg0_0
  have hM : Ge.mayG 4 2 2 12 = true := by decide +kernel
  obtain ⟨hc0, hc1⟩ := wk_cnt hpb hp0
  obtain ⟨hs0, hs1⟩ := wk_sum hp0
  have hof : ∀ (cs : List Nat) (hcs : Tab cs) (A : Option Addr) (c : Nat) (xs : List (Nat × Nat)) (w : World), xs.length = 56 → Quart xs 2000 (wkZ (pageL 2 (pg0 0))) → Cx w w.heap.size A xs → Hid (Calls Try.prog 28 #[.agg (cells cs), .agg #[.int .i64 4, .int .i64 2, .int .i64 2, .int .i64 12], .slice A 56 c] w
      fun e w' => ∃ g f, e = .returned (.tuple #[.slice (some ⟨g, 0, none⟩) 2 2, .int .i64 0]) ∧ w.heap.size ≤ g ∧ RowsR w' g 2 f (cntZ (pageL 2 (pg0 0)) (wkZ (pageL 2 (pg0 0))) 2 28) (fun _ => true) 2 ∧ Below w.heap.size w w') := fun cs hcs A c xs w hx hq hs =>
    of_Z (B := 4) (P := 2) (W := 2) (K := 12) (S := pg0 0) hcs hM (by decide) (by decide) h24 hb24 rfl hx hq hs (fun j hj => by
      rcases (by omega : j = 0 ∨ j = 1) with rfl | rfl
      · rw [hc0]; decide
      · rw [hc1]; decide)
  have hsh : ∀ (cs : List Nat) (hcs : Tab cs) (A : Option Addr) (c : Nat) (xs : List (Nat × Nat)) (w : World), xs.length = 56 → Quart xs 2000 (wkZ (pageL 2 (pg0 0))) → Cx w w.heap.size A xs → Hid (Calls Try.prog 27 #[.agg (cells cs), .agg #[.int .i64 4, .int .i64 2, .int .i64 2, .int .i64 12], .slice A 56 c] w
      fun e w' => (∃ rx ry, e = .returned (.tuple #[.complex .f64 rx ry, .int .i64 0]) ∧ Qt rx 12 ∧ Qt ry 0) ∧ Below w.heap.size w w') := fun cs hcs A c xs w hx hq hs => by
    have := shift_Z (B := 4) (P := 2) (W := 2) (K := 12) (S := pg0 0) (n := 56) (c := c) hcs hM (by decide) (by decide) h24 hb24 rfl hx hq hs (fun j hj => by
      rcases (by omega : j = 0 ∨ j = 1) with rfl | rfl
      · rw [hc0]; decide
      · rw [hc1]; decide)
    rw [hs0, hs1] at this
    exact this
  have HOF := Lib.hid hof
  have HSH := Lib.hid hsh
  clear hof hsh
  generalize cntZ (pageL 2 (pg0 0)) (wkZ (pageL 2 (pg0 0))) 2 28 = CN at *
  generalize pageL 2 (pg0 0) = S at *
  clear h24 hb24 hs0 hs1
  go_enter Try.func25, Try.ntmps25
  go_wp2_with fail
  obtain ⟨wa, hwa⟩ : ∃ wa, wa = w.alloc (.cells #[.int .i64 4, .int .i64 2, .int .i64 2, .int .i64 12] 23) := ⟨_, rfl⟩
  rw [← hwa]
  have hba : Below w.heap.size w wa := by rw [hwa]; exact Ge.below_alloc w _
  have hXa : Ge.Box wa w.heap.size 4 2 2 12 := by rw [hwa]; exact Ge.Box.new w 4 2 2 12
  clear hwa
  refine (make_any _).mono ?_
  rintro e w1 ⟨cs, rfl, hl, hb1⟩
  have hX1 := hXa.keep hb1
  have hb01 := hba.trans (hb1.mono hba.size)
  go_wp2_with (refine wpList_store_row rfl 33 _ _ rfl w1.heap.size (cells cs) rfl rfl 33 (cells ZT) (heap_alloc_new w1 _) (rsize hl) (zsize hl) (cells_one cs) ?_)
  have hS := St.start (cs := cs) hb01 (cells ZT)
  have hb : Below w1.heap.size w1 ((w1.alloc (Obj.cells (cells ZT) 33)).setRow w1.heap.size (cells cs)) := below_setRow ((Below.refl _ _).alloc (Nat.le_refl _) _) (Nat.le_refl _) _
  have hX2 := hX1.keep hb
  have hbw2 := hb01.trans (hb.mono hb01.size)
  clear hb hb01 hX1 hb1 hba hXa
  generalize hg : w1.heap.size = g1 at hS hX2 hbw2 ⊢
  generalize (w1.alloc (Obj.cells (cells ZT) 33)).setRow g1 (cells cs) = w2 at *
  clear hg hz
  have hT2 := hS.tb
  clear hS
  have hX2' := Lib.hid hX2
  dsimp only [Act.put]
  have hmk20 : ∀ w' : World, (Instr.makeSlice 26 (.int .i64 20) (.int .i64 20)).run Try.prog w' = .ok (.slice (some ⟨w'.heap.size, 0, none⟩) 20 20) (w'.alloc (.cells (madeCells #[.int .u8 0] 20) 5)) :=
    run_make_row' (P := Try.prog) 26 5 (.int .u8 0) 1 Try.underlying26 info5 rfl .i64 .i64 20 (by omega) (by omega)
  refine Cl.region_way (fun _ => True) 11 [(0, .r), (1, .r), (2, .r), (3, .c), (4, .c), (5, .c), (6, .r), (7, .r), (8, .r), (9, .r), (10, .r)] (by kernel_rfl) (by kernel_rfl) ?_
  intro v0 hk0
  have hbk := Cl.Keeps.below hk0
  have hX0 := Lib.hid (hX2'.out.keep hbk)
  have hT0 := Lib.hid (hT2.keep hbk)
  have hb0 := Lib.hid (hbw2.trans (hbk.mono hbw2.size))
  have x0 : ∀ y : Cl.Since (fun _ => True) v0, y.w.cell? ⟨w.heap.size, 0, none⟩ = some (.int .i64 4) := fun y => (hX0.out.keep (Cl.Keeps.below y.keeps)).c0
  have x1 : ∀ y : Cl.Since (fun _ => True) v0, y.w.cell? ⟨w.heap.size, 1, none⟩ = some (.int .i64 2) := fun y => (hX0.out.keep (Cl.Keeps.below y.keeps)).c1
  have x2 : ∀ y : Cl.Since (fun _ => True) v0, y.w.cell? ⟨w.heap.size, 2, none⟩ = some (.int .i64 2) := fun y => (hX0.out.keep (Cl.Keeps.below y.keeps)).c2
  have x3 : ∀ y : Cl.Since (fun _ => True) v0, y.w.cell? ⟨w.heap.size, 3, none⟩ = some (.int .i64 12) := fun y => (hX0.out.keep (Cl.Keeps.below y.keeps)).c3
  iterate 3 (refine Cl.way_r rfl ?_; go_big_quiet_step (fail); refine wpQuiet_nil ?_)
  have hsz := Lib.hid (Ge.refsize_any 4 2 2 12 v0)
  rw [show Ge.sizG 4 2 2 12 = 20 by decide +kernel] at hsz
  clear x0 x1 x2 x3 hk0 hbk hX2 hX2' hT2 hbw2
  refine Cl.way_c rfl ?_
  go_wp2_with (go_at_call 22; (with_reducible refine hsz.out.mono ?_); rintro e v1 ⟨rfl, hb1⟩)
  refine Cl.way_on (Cl.Keeps.of_below hb1) ?_
  have hX1 := Lib.hid (hX0.out.keep hb1)
  have hT1 := Lib.hid (hT0.out.keep hb1)
  have hbw1 := Lib.hid (hb0.out.trans (hb1.mono hb0.out.size))
  clear hX0 hT0 hb0 hb1 hsz
  refine Cl.way_c rfl ?_
  go_wp2_with fail
  refine Cl.way_on (Cl.Keeps.of_below (Ge.below_alloc _ _)) ?_
  have hA2 := ab_new v1 20
  have hO := Ge.below_alloc v1 (.cells (madeCells #[.int .u8 0] 20) 5)
  have hX2 := Lib.hid (hX1.out.keep hO)
  have hT2 := Lib.hid (hT1.out.keep hO)
  have hbw2 := Lib.hid (hbw1.out.trans (hO.mono hbw1.out.size))
  generalize v1.alloc (.cells (madeCells #[.int .u8 0] 20) 5) = v2 at *
  have hmk := make_rf (B := 4) (P := 2) (W := 2) (K := 12) (k := 1) (l := 0) (q := 0) (c := 20) (hA2.sb (fun x hx => by rw [(List.mem_replicate.1 hx).2]; decide)) (by decide)
  rw [show (List.replicate 20 0).length = 20 from rfl, hmE, hmW] at hmk
  replace hmk := Lib.hid hmk
  clear hX1 hT1 hbw1 hO hA2 hmk20
  refine Cl.way_c rfl ?_
  go_wp2_with (go_at_call 17; (with_reducible refine hmk.out.mono ?_); rintro e w3 ⟨v3, rfl, ho3, hb3⟩)
  refine Cl.way_on (Cl.Keeps.of_below hb3) ?_
  iterate 5 (refine Cl.way_r rfl ?_; go_big_quiet_step (fail); refine wpQuiet_nil ?_)
  refine Cl.way_end ?_
  obtain ⟨A2, c2, rfl, hc2, hs3⟩ := ho3.sl
  rw [hpl] at hc2 ⊢
  have hX3 := Lib.hid (hX2.out.keep hb3)
  have hT3 := Lib.hid (hT2.out.keep hb3)
  have hbw3 := Lib.hid (hbw2.out.trans (hb3.mono hbw2.out.size))
  have hS3 := Lib.hid hs3
  have hpc := lawpts_any (c := c2) hs3 (by rw [hpl]; decide)
  rw [hpl] at hpc
  replace hpc := Lib.hid hpc
  have hPL := Lib.hid hpl
  have hPB := Lib.hid hpb
  have hP0 := Lib.hid hp0
  have hC0 := Lib.hid hc0
  have hC1 := Lib.hid hc1
  have hL := Lib.hid hl.tab
  clear hX2 hT2 hbw2 hb3 ho3 hs3 hmk hmE hmW hl hpl hpb hp0 hc0 hc1
  obtain ⟨x, y, hxy, qx, qy⟩ : ∃ x y, ptB 1 = (x, y) ∧ Qt x (-124) ∧ Qt y (-116) := ⟨_, _, rfl, by have := (qt_of 1).1; rwa [show ofQ (1 / 32) = -124 by decide] at this, by have := (qt_of 1).2; rwa [show ofQ 1 = -116 by decide] at this⟩
  obtain ⟨fx, hfx, qfx⟩ := qt_add qx qt_three (by decide)
  obtain ⟨fy, hfy, qfy⟩ := qt_add qy qt_zero (by decide)
  have hcs' : cSumBits .add .f64 x y 4613937818241073152 0 = some (fx, fy) := by unfold cSumBits; rw [hfx, hfy]; rfl
  have hop := fun (w : World) t => run_complex_sum (P := Try.prog) w .add (Or.inl rfl) t .f64 _ _ _ _ _ _ hcs'
  have QX := Lib.hid qfx
  have QY := Lib.hid qfy
  have HXY := Lib.hid hxy
  clear qx qy hfx hfy hcs' qfx qfy hxy
  go_upto_region 8 with (first
    | (go_at_call 20; (with_reducible refine hpc.out.mono ?_); rintro e w4 ⟨v4, rfl, hop4, hb4⟩; obtain ⟨gp, cp, rfl, hcp, hgp, hPv⟩ := hop4.pre (by intro e; have := congrArg List.length e; rw [List.length_map, hPL.out] at this; cases this); have hj0 : w4.cell? ⟨gp, 0, none⟩ = some (.complex .f64 x y) := (by have := hPv.cell (i := 0) (by rw [List.length_map, hPL.out]; decide); rw [this, pts_at (by rw [hPL.out]; decide), hP0.out, HXY.out]; rfl); have hjf := hPv.frozen; rw [List.length_map, hPL.out] at hcp ⊢)
    | simp only [hop])
  have hP5 := hPv.set_ 0 (.complex .f64 fx fy)
  rw [List.length_map, hPL.out] at hP5
  have hB5 := hb4.setCell (show w3.heap.size ≤ gp from hgp) (p := ⟨gp, 0, none⟩) (.complex .f64 fx fy)
  generalize w4.setCell ⟨gp, 0, none⟩ (.complex .f64 fx fy) = w5 at *
  have hP6 := hP5.congr (f' := fun j => cpx (if j = 0 then (fx, fy) else ptB (at_ S j))) (fun j hj => by
    show (if j = 0 then Value.complex .f64 fx fy else cpx (xA (S.map ptB) j)) = cpx (if j = 0 then (fx, fy) else ptB (at_ S j))
    by_cases h : j = 0
    · rw [if_pos h, if_pos h]; rfl
    · rw [if_neg h, if_neg h, pts_at (by rw [hPL.out]; exact hj)])
  have hcx := Lib.hid (PreV.cx (X := fun j => if j = 0 then (fx, fy) else ptB (at_ S j)) hP6)
  have hxl : ((List.range 56).map fun j => if j = 0 then (fx, fy) else ptB (at_ S j)).length = 56 := by simp
  have hq : Quart ((List.range 56).map fun j => if j = 0 then (fx, fy) else ptB (at_ S j)) 2000 (wkZ S) := fun i hi => by
    rw [hxl] at hi
    rw [range_at hi]
    unfold wkZ
    by_cases h : i = 0
    · simp only [if_pos h]
      exact ⟨QX.out, QY.out, by decide, by decide⟩
    · simp only [if_neg h]
      obtain ⟨h1, h2, h3, h4⟩ := quart_own S i (by rw [List.length_map, hPL.out]; exact hi)
      rw [pts_at (by rw [hPL.out]; exact hi)] at h1 h2
      exact ⟨h1, h2, h3, h4⟩
  generalize ((List.range 56).map fun j => if j = 0 then (fx, fy) else ptB (at_ S j)) = xs at *
  have hX5 := hX3.out.keep hB5
  have hT5 := hT3.out.keep hB5
  have hbw5 := Lib.hid (hbw3.out.trans (hB5.mono hbw3.out.size))
  have hS5 := Lib.hid (hS3.out.far hB5)
  have hof := HOF.out cs hL.out (some ⟨gp, 0, none⟩) cp xs w5 hxl hq hcx.out
  have hi1 := hT5.is hL.out.1
  have hi2 := hT5.of
  obtain ⟨n1, n2, n3, n4, n5⟩ := id hX5
  have hQ := Lib.hid hq
  have hXL := Lib.hid hxl
  clear hP5 hP6 hB5 hb4 hPv hop4 hj0 hjf hX3 hT3 hbw3 hS3 hpc hop hq hxl
  go_wp2_with (first
    | (go_at_call 28; (with_reducible refine hof.out.mono ?_); rintro e w6 ⟨g6, f6, rfl, hg6, hR6, hb6⟩; have hX6 := hX5.keep hb6; have hT6 := hT5.keep hb6; obtain ⟨m1, m2, m3, m4, m5⟩ := id hX6; have hi3 := hT6.is hL.out.1; have hi4 := hT6.of; have hsh := HSH.out cs hL.out (some ⟨gp, 0, none⟩) cp xs w6 hXL.out hQ.out (hcx.out.far hb6); have hS6 := Lib.hid (hS5.out.far hb6); have hbw6 := Lib.hid (hbw5.out.trans (hb6.mono hbw5.out.size)))
    | (go_at_call 27; (with_reducible refine hsh.out.mono ?_); rintro e w7 ⟨⟨rx, ry, rfl, q7, q8⟩, hb7⟩; have hR7 := hR6.keep hb7; have r0 : w7.cell? ⟨g6, 0, none⟩ = some (.int .i64 1) := (by have := hR7.c0 (j := 0) (by decide); rw [hC0.out] at this; exact this); have r1 : w7.cell? ⟨g6, 1, none⟩ = some (.bool true) := hR7.c1 (j := 0) (by decide); have r2 : w7.cell? ⟨g6, 2, none⟩ = some (.int .i64 0) := (by have := hR7.c0 (j := 1) (by decide); rw [hC1.out] at this; exact this); have r3 : w7.cell? ⟨g6, 3, none⟩ = some (.bool true) := hR7.c1 (j := 1) (by decide); have e1 : (FloatKind.f64.format.order rx 4613937818241073152 == some .eq) = true := (by rw [qt_eqb q7 qt_three]; rfl); have e2 : (FloatKind.f64.format.order ry 0 == some .eq) = true := (by rw [qt_eqb q8 qt_zero]; rfl); have hS7 := hS6.out.far hb7; have hpc := lawpts_any (c := c2) hS7 (by rw [hPL.out]; decide); rw [hPL.out] at hpc; have hbw7 := Lib.hid (hbw6.out.trans (hb7.mono hbw6.out.size)))
    | (go_at_call 20; (with_reducible refine hpc.mono ?_); rintro e w8 ⟨v8, rfl, ho8, hb8⟩; obtain ⟨A8, c8, rfl, hc8, hx8⟩ := ho8.cx; have hmg := margin_any (c := c8) (ownZ S) hx8 (by rw [List.length_map, hPL.out]; decide) (quart_own S); rw [mxF_congr (h := fun _ => 0) (fun j _ => dQ_own S j), mxF_zero] at hmg; have hl8 : (S.map ptB).length = 56 := (by rw [List.length_map, hPL.out]); rw [hl8] at hmg ⊢; have hbw8 := Lib.hid (hbw7.out.trans (hb8.mono hbw7.out.size)))
    | (go_at_call 26; (with_reducible refine hmg.mono ?_); rintro e w9 ⟨⟨r9, rfl, q9⟩, hb9⟩; have e3 : (FloatKind.f64.format.order r9 4607182418800017408 == some .eq) = true := (by rw [qt_eqb q9 qt_one]; rfl); have hbw9 := Lib.hid (hbw8.out.trans (hb9.mono hbw8.out.size))))
  go_ret
  exact ⟨rfl, hbw9.out⟩
end Go.Proofs.Ytmchelbmeajcnaa
