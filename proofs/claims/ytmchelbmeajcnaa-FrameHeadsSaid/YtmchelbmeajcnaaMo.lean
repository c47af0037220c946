/- The document's example of chapter 11: a page is made and read. -/
import Derived.Test.YtmchelbmeajcnaaMn
import Derived.Test.YtmchelbmeajcnaaBy
import Derived.Deep.CutRange
namespace Go.Proofs.Ytmchelbmeajcnaa
open Go.RowKit Go.Gf Go.Fl
set_option linter.unusedVariables false
set_option linter.unusedSimpArgs false
set_option maxRecDepth 20000
attribute [local go_sem ↓] exec_load_tb Cl.quiet_since
attribute [local go_sem] tbAt_ptr tbIn_ptr

theorem keeps_set3 {w0 w : World} {g : Nat} (hg : w0.heap.size ≤ g) (x y z : Value) : Cl.Keeps (fun b => b < w0.heap.size) w (((w.setCell ⟨g, 0, none⟩ x).setCell ⟨g, 1, none⟩ y).setCell ⟨g, 2, none⟩ z) :=
  ⟨rfl, rfl, rfl, by simp only [World.size_setCell]; exact Nat.le_refl _, fun b hb hk => by
    have hne : b ≠ g := by omega
    rw [setCell_block _ _ hne, setCell_block _ _ hne, setCell_block _ _ hne]⟩
theorem keeps_fold {w0 : World} (w : World) (o o' : Obj) (h : w0.heap.size ≤ w.heap.size) : Cl.Keeps (fun b => b < w0.heap.size) (w.alloc o) (w.alloc o') :=
  ⟨rfl, rfl, rfl, by rw [World.size_alloc, World.size_alloc]; exact Nat.le_refl _, fun b hb hk => by
    rw [Below.heap_alloc w o' b (by omega), Below.heap_alloc w o b (by omega)]⟩
theorem Hdo.sb3 {w : World} {g : Nat} {k l q : Int} {A : Option Addr} {xs : List Nat} (h : Hdo w g k l q) (hs : Sb w w.heap.size A xs) (x y z : Int) :
    Sb (((w.setCell ⟨g, 0, none⟩ (.int .i64 x)).setCell ⟨g, 1, none⟩ (.int .i64 y)).setCell ⟨g, 2, none⟩ (.int .i64 z)) (((w.setCell ⟨g, 0, none⟩ (.int .i64 x)).setCell ⟨g, 1, none⟩ (.int .i64 y)).setCell ⟨g, 2, none⟩ (.int .i64 z)).heap.size A xs := by
  have hne := h.ne hs
  simp only [World.size_setCell]
  exact ((hs.setOther hne).setOther hne).setOther hne
/-- make([]complex128, n) -/
theorem make_cxn (n : Nat) (hn : n ≤ 1000000) (w : World) : (Instr.makeSlice 44 (.int .i64 (n : Int)) (.int .i64 (n : Int))).run Try.prog w = .ok (.slice (some ⟨w.heap.size, 0, none⟩) n n) (w.alloc (.cells (madeCells #[.complex .f64 0 0] n) 49)) := by
  have hi0 := infoCx
  obtain ⟨i, hi, hrest⟩ := Option.map_eq_some_iff.1 hi0
  simp only [Prod.mk.injEq] at hrest
  obtain ⟨i1, i2, i3⟩ := hrest
  have := run_make (P := Try.prog) w 44 49 i (.complex .f64 0 0) Try.underlying44 hi i1 .i64 .i64 (n : Int) (n : Int) (by omega) (Int.le_refl _) (by rw [i3]; omega) (by omega)
  rw [i2] at this
  rw [show (Value.complex FloatKind.f64 0 0).cells = #[Value.complex FloatKind.f64 0 0] from rfl] at this
  simpa using this
theorem cx_new (w : World) (n : Nat) : Cx (w.alloc (.cells (madeCells #[.complex .f64 0 0] n) 49)) (w.alloc (.cells (madeCells #[.complex .f64 0 0] n) 49)).heap.size (some ⟨w.heap.size, 0, none⟩) (List.replicate n (0, 0)) := by
  refine Or.inr ⟨_, rfl, by rw [World.size_alloc]; exact Nat.lt_succ_self _, fun i hi => ?_⟩
  have hin : i < n := by simpa using hi
  rw [show (⟨w.heap.size, 0, none⟩ : Addr).add i = ⟨w.heap.size, i, none⟩ by unfold Addr.add; split <;> simp_all]
  rw [Ge.cell_of (heap_alloc_new w _)]
  unfold madeCells
  simp [hin, cpx, Nat.mod_one]
theorem blk_rep (n : Nat) : blkB (List.replicate n (0, 0)) = true := blkB_true.2 fun i hi => by
  rw [xA_get hi, List.getElem_replicate]
  exact zP_zero
theorem sb_new5 (w : World) : Sb (w.alloc (.cells #[.int .u8 1, .int .u8 2, .int .u8 3, .int .u8 4, .int .u8 5] 5)) (w.alloc (.cells #[.int .u8 1, .int .u8 2, .int .u8 3, .int .u8 4, .int .u8 5] 5)).heap.size (some ⟨w.heap.size, 0, none⟩) [1, 2, 3, 4, 5] := by
  refine ⟨by decide, Or.inr ⟨_, rfl, by rw [World.size_alloc]; exact Nat.lt_succ_self _, fun i hi => ?_⟩⟩
  rw [show (⟨w.heap.size, 0, none⟩ : Addr).add i = ⟨w.heap.size, i, none⟩ by unfold Addr.add; split <;> simp_all]
  rw [Ge.cell_of (heap_alloc_new w _)]
  have hi' : i < 5 := hi
  rcases (by omega : i = 0 ∨ i = 1 ∨ i = 2 ∨ i = 3 ∨ i = 4) with rfl | rfl | rfl | rfl | rfl <;> rfl
theorem bstr5 : bstr [1, 2, 3, 4, 5] = { data := #[1, 2, 3, 4, 5] } := by decide +kernel
set_option maxHeartbeats 16000000 in
theorem awake_any (w : World) : Calls Try.prog 13 #[] w (Ge.Ans w (.bool true)) := by
  have hz := zero27
  have hsv : sayV 12 1 7 9 [1, 2, 3, 4, 5] := by refine ⟨by decide, by decide, by decide, by decide, by decide, by decide⟩
  have hmE : mkE 4 2 1 12 1 7 9 5 = 0 := by decide +kernel
  have hmW : mkW 4 2 1 12 1 7 9 [1, 2, 3, 4, 5] = pageL 1 (sayL 12 1 7 9 [1, 2, 3, 4, 5]) := by
    unfold mkW
    rw [show mkE 4 2 1 12 1 7 9 [1, 2, 3, 4, 5].length = 0 from hmE, if_pos rfl]
    rfl
  have hpl : (pageL 1 (sayL 12 1 7 9 [1, 2, 3, 4, 5])).length = 28 := pageL_len (n := 12) (by rw [say_len hsv.2.2.2.2.1 (by decide)]) (by decide)
  have hpb : ∀ y ∈ pageL 1 (sayL 12 1 7 9 [1, 2, 3, 4, 5]), y < 1024 := pageL_bd (n := 12) (by rw [say_len hsv.2.2.2.2.1 (by decide)]) (by decide) (say_bd (by decide) (by decide) (by decide))
  have hown : Hid (∀ k' l' q' n' d' er, RdS 4 2 1 12 ((pageL 1 (sayL 12 1 7 9 [1, 2, 3, 4, 5])).map ptB) (pageL 1 (sayL 12 1 7 9 [1, 2, 3, 4, 5])) k' l' q' n' d' er → k' = 1 ∧ l' = 7 ∧ q' = 9 ∧ n' = 0 ∧ d' = [1, 2, 3, 4, 5] ∧ er = 0) := fun k' l' q' n' d' er h => rd_own (W := 1) (K := 12) (by decide +kernel) rfl hsv h
  generalize pageL 1 (sayL 12 1 7 9 [1, 2, 3, 4, 5]) = S at *
  go_enter Try.func13, Try.ntmps13
  go_wp2_with fail
  obtain ⟨wa, hwa⟩ : ∃ wa, wa = w.alloc (.cells #[.int .i64 4, .int .i64 2, .int .i64 1, .int .i64 12] 23) := ⟨_, rfl⟩
  rw [← hwa]
  have hba : Below w.heap.size w wa := by rw [hwa]; exact Ge.below_alloc w _
  have hXa : Ge.Box wa w.heap.size 4 2 1 12 := by rw [hwa]; exact Ge.Box.new w 4 2 1 12
  clear hwa
  refine (make_any _).mono ?_
  rintro e w1 ⟨cs, rfl, hl, hb1⟩
  have hX1 := hXa.keep hb1
  have hb01 := hba.trans (hb1.mono hba.size)
  go_wp2_with (refine wpList_store_row rfl 33 _ _ rfl w1.heap.size (cells cs) rfl rfl 33 (cells ZT) (heap_alloc_new w1 _) (rsize hl) (zsize hl) (cells_one cs) ?_)
  have hS := St.start (cs := cs) hb01 (cells ZT)
  have hb : Below w1.heap.size w1 ((w1.alloc (Obj.cells (cells ZT) 33)).setRow w1.heap.size (cells cs)) := below_setRow ((Below.refl _ _).alloc (Nat.le_refl _) _) (Nat.le_refl _) _
  have hX2 := hX1.keep hb
  have hbw2 := hb01.trans (hb.mono hb01.size)
  clear hb hb01 hX1 hb1 hba hXa
  generalize hg : w1.heap.size = g1 at hS hX2 hbw2 ⊢
  generalize (w1.alloc (Obj.cells (cells ZT) 33)).setRow g1 (cells cs) = w2 at *
  clear hg hz
  have hT2 := hS.tb
  clear hS
  have hi1 := hT2.is hl.1
  have hi2 := hT2.of
  obtain ⟨x1, x2, x3, x4, x5⟩ := id hX2
  have hnb := sb_new5 w2
  have hba2 := Ge.below_alloc w2 (.cells #[.int .u8 1, .int .u8 2, .int .u8 3, .int .u8 4, .int .u8 5] 5)
  have hTa := hT2.keep hba2
  have hXa := hX2.keep hba2
  have hbwa := hbw2.trans (hba2.mono hbw2.size)
  have hmk := make_fr (cs := cs) hl.tab (B := 4) (P := 2) (W := 1) (K := 12) (k := 1) (l := 7) (q := 9) (c := 5) hnb (by decide)
  rw [show ([1, 2, 3, 4, 5] : List Nat).length = 5 from rfl, hmE, hmW] at hmk
  replace hmk := Lib.hid hmk
  clear hnb hba2
  go_wp2_with (go_at_call 16; (with_reducible refine hmk.out.mono ?_); rintro e w3 ⟨v3, rfl, ho3, hb3⟩)
  obtain ⟨A2, c2, rfl, hc2, hs3⟩ := ho3.sl
  rw [hpl]
  have hTS := Lib.hid (hTa.keep hb3)
  have hXS := Lib.hid (hXa.keep hb3)
  have hbS0 := Lib.hid (hbwa.trans (hb3.mono hbwa.size))
  have hsS := Lib.hid hs3
  have hCS := Lib.hid hl.tab
  have hbS := Lib.hid hpb
  have hnS := Lib.hid hpl
  have hn6 : (28 : Nat) ≤ 100000 := by decide
  have hgt : Hid (g1 < w3.heap.size) := hTS.out.lt
  have hgb : Hid (w.heap.size < w3.heap.size) := hXS.out.lt
  clear hT2 hX2 hbw2 hi1 hi2 x1 x2 x3 x4 x5 hTa hXa hbwa hmk hb3 ho3 hs3 hl hpb hpl hmE hmW
  go_cut [5, 6, 7, 8] from 19 to 28 (fun sm sd sn sf wx => ∃ (k9 l9 q9 n9 : Nat) (d9 : List Nat) (e9 : Nat) (A9 : Option Addr) (c9 g9 : Nat), RdS 4 2 1 12 (S.map ptB) S k9 l9 q9 n9 d9 e9 ∧ sm = .pointer (some ⟨g9, 0, none⟩) ∧ Hed wx g9 (k9 : Int) (l9 : Int) (q9 : Int) ∧ sd = .slice A9 d9.length c9 ∧ Sb wx wx.heap.size A9 d9 ∧ sn = .int .i64 (n9 : Int) ∧ sf = .int .i64 (e9 : Int) ∧ Below w3.heap.size w3 wx)
  case first =>
    refine Cl.region_tree (fun b => b < w3.heap.size) 15 (.r 0 <| .r 1 <| .r 2 <| .b 3 10 (.b 4 10 (.r 5 <| .r 6 <| .r 7 <| .r 8 <| .r 9 <| .c 10 <| .c 11 <| .r 12 <| .r 13 <| .r 14 <| .e) (.c 4 <| .r 5 <| .r 6 <| .r 7 <| .r 8 <| .r 9 <| .c 11 <| .r 12 <| .r 13 <| .r 14 <| .e)) (.c 3 <| .c 4 <| .r 5 <| .r 6 <| .r 7 <| .r 8 <| .r 9 <| .c 11 <| .r 12 <| .r 13 <| .r 14 <| .e)) (by kernel_rfl) (by kernel_rfl) ?_
    intro v0 hk0
    have hbk := Cl.Keeps.below hk0
    have hT0 := hTS.out.keep hbk
    have hiA : ∀ y : Cl.Since (fun b => b < w3.heap.size) v0, isTb y.w g1 = true := fun y => (show Tb y.w g1 cs from (y.keeps.block g1 hT0.lt hgt.out).trans hT0).is hCS.out.1
    have hoA : ∀ y : Cl.Since (fun b => b < w3.heap.size) v0, tbOf y.w g1 = cells cs := fun y => (show Tb y.w g1 cs from (y.keeps.block g1 hT0.lt hgt.out).trans hT0).of
    have hX0 := hXS.out.keep hbk
    have x0 : ∀ y : Cl.Since (fun b => b < w3.heap.size) v0, y.w.cell? ⟨w.heap.size, 0, none⟩ = some (.int .i64 4) := fun y => (cell_block (y.keeps.block w.heap.size hX0.lt hgb.out)).trans hX0.c0
    have x1 : ∀ y : Cl.Since (fun b => b < w3.heap.size) v0, y.w.cell? ⟨w.heap.size, 1, none⟩ = some (.int .i64 2) := fun y => (cell_block (y.keeps.block w.heap.size hX0.lt hgb.out)).trans hX0.c1
    have x2 : ∀ y : Cl.Since (fun b => b < w3.heap.size) v0, y.w.cell? ⟨w.heap.size, 2, none⟩ = some (.int .i64 1) := fun y => (cell_block (y.keeps.block w.heap.size hX0.lt hgb.out)).trans hX0.c2
    have x3 : ∀ y : Cl.Since (fun b => b < w3.heap.size) v0, y.w.cell? ⟨w.heap.size, 3, none⟩ = some (.int .i64 12) := fun y => (cell_block (y.keeps.block w.heap.size hX0.lt hgb.out)).trans hX0.c3
    iterate 3 (refine Cl.tree_r rfl ?_; go_big_quiet_step (fail); refine wpQuiet_nil ?_)
    clear hiA hoA hT0 x0 x1 x2 x3 hX0
    replace hbk := Lib.hid hbk
    refine Cl.tree_b rfl rfl ?_ ?_
    · have hpc := lawpts_any (c := c2) (hsS.out.far hbk.out) (by rw [hnS.out]; exact hn6)
      rw [hnS.out] at hpc
      replace hpc := Lib.hid hpc
      go_wp2_with (go_at_call 20; (with_reducible refine hpc.out.mono ?_); rintro e v1 ⟨vp, rfl, hop, hbp⟩)
      refine Cl.way_on (Cl.Keeps.of_below hbp) ?_
      obtain ⟨Ap, cp, rfl, hcp, hpx'⟩ := hop.cx
      have hlp : (S.map ptB).length = 28 := by rw [List.length_map, hnS.out]
      rw [hlp]
      have hpx := Lib.hid hpx'
      have hb1 := Lib.hid (hbk.out.trans (hbp.mono hbk.out.size))
      clear hpc hpx' hop hcp hbp hlp
      refine Cl.tree_b rfl rfl ?_ ?_
      · have hrd := read_any hCS.out (B := 4) (P := 2) (W := 1) (K := 12) (ss := S) (c := cp) hpx.out (by rw [List.length_map, hnS.out]; omega) (by rw [List.length_map]) (pts_slc hbS.out) hbS.out
        rw [List.length_map, hnS.out] at hrd
        replace hrd := Lib.hid hrd
        go_wp2_with (go_at_call 19; (with_reducible refine hrd.out.mono ?_); rintro e v2 ⟨k9, l9, q9, nn, dd, er, hRd, A9, c9, rfl, hc9, hs8, hbp⟩)
        refine Cl.way_on (Cl.Keeps.of_below hbp) ?_
        have hsd := Lib.hid hs8
        replace hRd := Lib.hid hRd
        have hb2 := Lib.hid (hb1.out.trans (hbp.mono hb1.out.size))
        clear hrd hs8 hbp
        refine Cl.tree_r rfl ?_
        go_big_quiet_step (fail)
        refine wpQuiet_nil ?_
        refine Cl.tree_r rfl ?_
        go_big_quiet_step (fail)
        refine wpQuiet_nil ?_
        refine Cl.tree_r rfl ?_
        go_big_quiet_step (fail)
        refine wpQuiet_nil ?_
        refine Cl.tree_r rfl ?_
        go_big_quiet_step (fail)
        refine wpQuiet_nil ?_
        refine Cl.tree_r rfl ?_
        go_big_quiet_step (fail)
        refine wpQuiet_nil ?_
        refine Cl.tree_c rfl ?_
        go_wp2_with fail
        refine Cl.way_on (Cl.Keeps.of_below (Ge.below_alloc _ _)) ?_
        have hF := Lib.hid (Hed.new v2 (k9 : Int) (l9 : Int) (q9 : Int))
        have hG := Ge.below_alloc v2 (.cells #[.int .i64 (k9 : Int), .int .i64 (l9 : Int), .int .i64 (q9 : Int)] 25)
        have hs9 := Lib.hid (hsd.out.far hG)
        have hb9 := Lib.hid (hb2.out.trans (hG.mono hb2.out.size))
        have hkp := Lib.hid (keeps_fold v2 (.cells #[.int .i64 0, .int .i64 0, .int .i64 0] 25) (.cells #[.int .i64 (k9 : Int), .int .i64 (l9 : Int), .int .i64 (q9 : Int)] 25) hb2.out.size)
        refine Cl.tree_c rfl ?_
        go_wp2_with fail
        refine Cl.way_on hkp.out ?_
        refine Cl.tree_r rfl ?_
        go_big_quiet_step (fail)
        refine wpQuiet_nil ?_
        refine Cl.tree_r rfl ?_
        go_big_quiet_step (fail)
        refine wpQuiet_nil ?_
        refine Cl.tree_r rfl ?_
        go_big_quiet_step (fail)
        refine wpQuiet_nil ?_
        refine Cl.tree_e ?_
        go_wp2_with fail
        go_meet
        exact ⟨k9, l9, q9, nn, dd, er, A9, c9, _, hRd.out, rfl, hF.out, rfl, hs9.out, rfl, rfl, hb9.out⟩
      · go_wp2_with fail
        refine Cl.way_on (Cl.Keeps.of_below (Ge.below_alloc _ _)) ?_
        have hHn := Hdo.new v1 0 0 0
        have hAl := Ge.below_alloc v1 (.cells #[.int .i64 0, .int .i64 0, .int .i64 0] 25)
        have hge : Hid (w3.heap.size ≤ v1.heap.size) := hb1.out.size
        have hba := Lib.hid (hb1.out.trans (hAl.mono hb1.out.size))
        have hxa := Lib.hid (hpx.out.far hAl)
        generalize v1.alloc (.cells #[.int .i64 0, .int .i64 0, .int .i64 0] 25) = va1 at *
        have hH1 := Lib.hid hHn
        clear hHn hAl
        refine Cl.tree_c rfl ?_
        have hrd := read_any hCS.out (B := 4) (P := 2) (W := 1) (K := 12) (ss := S) (c := cp) hxa.out (by rw [List.length_map, hnS.out]; omega) (by rw [List.length_map]) (pts_slc hbS.out) hbS.out
        rw [List.length_map, hnS.out] at hrd
        replace hrd := Lib.hid hrd
        go_wp2_with (go_at_call 19; (with_reducible refine hrd.out.mono ?_); rintro e v2 ⟨k9, l9, q9, nn, dd, er, hRd, A9, c9, rfl, hc9, hs8, hbp⟩)
        refine Cl.way_on (Cl.Keeps.of_below hbp) ?_
        have hsd := Lib.hid hs8
        replace hRd := Lib.hid hRd
        have hb2 := Lib.hid (hba.out.trans (hbp.mono hba.out.size))
        have hH2 := Lib.hid (hH1.out.keep hbp)
        clear hrd hs8 hbp
        refine Cl.tree_r rfl ?_
        go_big_quiet_step (fail)
        refine wpQuiet_nil ?_
        refine Cl.tree_r rfl ?_
        go_big_quiet_step (fail)
        refine wpQuiet_nil ?_
        refine Cl.tree_r rfl ?_
        go_big_quiet_step (fail)
        refine wpQuiet_nil ?_
        refine Cl.tree_r rfl ?_
        go_big_quiet_step (fail)
        refine wpQuiet_nil ?_
        refine Cl.tree_r rfl ?_
        go_big_quiet_step (fail)
        refine wpQuiet_nil ?_
        have hF := Lib.hid (hH2.out.set_ (k9 : Int) (l9 : Int) (q9 : Int)).hed
        obtain ⟨h1, h2, h3, h4⟩ := hH2.out.hed
        have hfz := hH2.out.frozen
        have hs9 := Lib.hid (hH2.out.sb3 hsd.out (k9 : Int) (l9 : Int) (q9 : Int))
        have hb9 := Lib.hid (below_set3 hb2.out hge.out (.int .i64 (k9 : Int)) (.int .i64 (l9 : Int)) (.int .i64 (q9 : Int)))
        have hkp := Lib.hid (keeps_set3 (w := v2) hge.out (.int .i64 (k9 : Int)) (.int .i64 (l9 : Int)) (.int .i64 (q9 : Int)))
        refine Cl.tree_c rfl ?_
        go_wp2_with fail
        refine Cl.way_on hkp.out ?_
        clear h1 h2 h3 h4 hfz
        refine Cl.tree_r rfl ?_
        go_big_quiet_step (fail)
        refine wpQuiet_nil ?_
        refine Cl.tree_r rfl ?_
        go_big_quiet_step (fail)
        refine wpQuiet_nil ?_
        refine Cl.tree_r rfl ?_
        go_big_quiet_step (fail)
        refine wpQuiet_nil ?_
        refine Cl.tree_e ?_
        go_wp2_with fail
        go_meet
        exact ⟨k9, l9, q9, nn, dd, er, A9, c9, _, hRd.out, rfl, hF.out, rfl, hs9.out, rfl, rfl, hb9.out⟩
    · go_wp2_with fail
      refine Cl.way_on (Cl.Keeps.of_below (Ge.below_alloc _ _)) ?_
      have hHn := Hdo.new v0 0 0 0
      have hAl := Ge.below_alloc v0 (.cells #[.int .i64 0, .int .i64 0, .int .i64 0] 25)
      have hge : Hid (w3.heap.size ≤ v0.heap.size) := hbk.out.size
      have hba := Lib.hid (hbk.out.trans (hAl.mono hbk.out.size))
      generalize v0.alloc (.cells #[.int .i64 0, .int .i64 0, .int .i64 0] 25) = va0 at *
      have hH0 := Lib.hid hHn
      clear hHn hAl
      refine Cl.tree_c rfl ?_
      have hpc := lawpts_any (c := c2) (hsS.out.far hba.out) (by rw [hnS.out]; exact hn6)
      rw [hnS.out] at hpc
      replace hpc := Lib.hid hpc
      go_wp2_with (go_at_call 20; (with_reducible refine hpc.out.mono ?_); rintro e v1 ⟨vp, rfl, hop, hbp⟩)
      refine Cl.way_on (Cl.Keeps.of_below hbp) ?_
      obtain ⟨Ap, cp, rfl, hcp, hpx'⟩ := hop.cx
      have hlp : (S.map ptB).length = 28 := by rw [List.length_map, hnS.out]
      rw [hlp]
      have hpx := Lib.hid hpx'
      have hb1 := Lib.hid (hba.out.trans (hbp.mono hba.out.size))
      have hH1 := Lib.hid (hH0.out.keep hbp)
      clear hpc hpx' hop hcp hbp hlp
      refine Cl.tree_c rfl ?_
      have hrd := read_any hCS.out (B := 4) (P := 2) (W := 1) (K := 12) (ss := S) (c := cp) hpx.out (by rw [List.length_map, hnS.out]; omega) (by rw [List.length_map]) (pts_slc hbS.out) hbS.out
      rw [List.length_map, hnS.out] at hrd
      replace hrd := Lib.hid hrd
      go_wp2_with (go_at_call 19; (with_reducible refine hrd.out.mono ?_); rintro e v2 ⟨k9, l9, q9, nn, dd, er, hRd, A9, c9, rfl, hc9, hs8, hbp⟩)
      refine Cl.way_on (Cl.Keeps.of_below hbp) ?_
      have hsd := Lib.hid hs8
      replace hRd := Lib.hid hRd
      have hb2 := Lib.hid (hb1.out.trans (hbp.mono hb1.out.size))
      have hH2 := Lib.hid (hH1.out.keep hbp)
      clear hrd hs8 hbp
      refine Cl.tree_r rfl ?_
      go_big_quiet_step (fail)
      refine wpQuiet_nil ?_
      refine Cl.tree_r rfl ?_
      go_big_quiet_step (fail)
      refine wpQuiet_nil ?_
      refine Cl.tree_r rfl ?_
      go_big_quiet_step (fail)
      refine wpQuiet_nil ?_
      refine Cl.tree_r rfl ?_
      go_big_quiet_step (fail)
      refine wpQuiet_nil ?_
      refine Cl.tree_r rfl ?_
      go_big_quiet_step (fail)
      refine wpQuiet_nil ?_
      have hF := Lib.hid (hH2.out.set_ (k9 : Int) (l9 : Int) (q9 : Int)).hed
      obtain ⟨h1, h2, h3, h4⟩ := hH2.out.hed
      have hfz := hH2.out.frozen
      have hs9 := Lib.hid (hH2.out.sb3 hsd.out (k9 : Int) (l9 : Int) (q9 : Int))
      have hb9 := Lib.hid (below_set3 hb2.out hge.out (.int .i64 (k9 : Int)) (.int .i64 (l9 : Int)) (.int .i64 (q9 : Int)))
      have hkp := Lib.hid (keeps_set3 (w := v2) hge.out (.int .i64 (k9 : Int)) (.int .i64 (l9 : Int)) (.int .i64 (q9 : Int)))
      refine Cl.tree_c rfl ?_
      go_wp2_with fail
      refine Cl.way_on hkp.out ?_
      clear h1 h2 h3 h4 hfz
      refine Cl.tree_r rfl ?_
      go_big_quiet_step (fail)
      refine wpQuiet_nil ?_
      refine Cl.tree_r rfl ?_
      go_big_quiet_step (fail)
      refine wpQuiet_nil ?_
      refine Cl.tree_r rfl ?_
      go_big_quiet_step (fail)
      refine wpQuiet_nil ?_
      refine Cl.tree_e ?_
      go_wp2_with fail
      go_meet
      exact ⟨k9, l9, q9, nn, dd, er, A9, c9, _, hRd.out, rfl, hF.out, rfl, hs9.out, rfl, rfl, hb9.out⟩
  case rest =>
    obtain ⟨k9, l9, q9, n9, d9, e9, A9, c9, g9, hRd, rfl, hG, rfl, hsb, rfl, rfl, hbc⟩ := hcut
    obtain ⟨rfl, rfl, rfl, rfl, rfl, rfl⟩ := hown.out _ _ _ _ _ _ hRd
    have hbw := hbS0.out.trans (hbc.mono hbS0.out.size)
    have hs4 := hsS.out.far hbc
    obtain ⟨y1, y2, y3, y4⟩ := id hG
    have hst := str_run hsb c9
    rw [bstr5, show ([1, 2, 3, 4, 5] : List Nat).length = 5 from rfl] at hst
    rw [show ([1, 2, 3, 4, 5] : List Nat).length = 5 from rfl]
    have hmk : (Instr.makeSlice 44 (.int .i64 28) (.int .i64 28)).run Try.prog wc = .ok (.slice (some ⟨wc.heap.size, 0, none⟩) 28 28) (wc.alloc (.cells (madeCells #[.complex .f64 0 0] 28) 49)) := make_cxn 28 (by decide) wc
    have hxz := cx_new wc 28
    have hbz := Ge.below_alloc wc (.cells (madeCells #[.complex .f64 0 0] 28) 49)
    have hbl := blank_any (some ⟨wc.heap.size, 0, none⟩) 28 _ _ hxz (by simp)
    rw [blk_rep, List.length_replicate] at hbl
    replace hbl := Lib.hid hbl
    have hbw5 := Lib.hid (hbw.trans (hbz.mono hbw.size))
    have hs5 := hs4.far hbz
    have hpt := lawpts_any (c := c2) hs5 (by rw [hnS.out]; decide)
    rw [hnS.out] at hpt
    replace hpt := Lib.hid hpt
    have hne : S ≠ [] := by intro e; have := hnS.out; rw [e] at this; cases this
    have hpb := Lib.hid (pts_blk hne)
    clear hRd hG hsb hbc hs4 hxz hbz hs5 hne
    go_wp2_with (first
      | (go_at_call 23; first
          | (with_reducible refine hbl.out.mono ?_; rintro e w6 ⟨rfl, rfl⟩)
          | (with_reducible refine hbl2.out.mono ?_; rintro e w6 ⟨rfl, rfl⟩))
      | (go_at_call 20; (with_reducible refine hpt.out.mono ?_); rintro e w7 ⟨v7, rfl, ho7, hb7⟩; obtain ⟨A7, c7, rfl, hc7, hx7⟩ := ho7.cx; have hl7 : (S.map ptB).length = 28 := (by rw [List.length_map, hnS.out]); have hbl2 := blank_any A7 c7 _ _ hx7 (by rw [hl7]; decide); rw [hl7, hpb.out] at hbl2; rw [hl7]; replace hbl2 := Lib.hid hbl2; have hbw7 := Lib.hid (hbw5.out.trans (hb7.mono hbw5.out.size))))
    go_ret
    exact ⟨rfl, hbw7.out⟩
end Go.Proofs.Ytmchelbmeajcnaa
