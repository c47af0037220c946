/- FrameKnown: pages by hand. -/
import Derived.Test.YtmchelbmeajcnaaMx
namespace Go.Proofs.Ytmchelbmeajcnaa
open Go.RowKit Go.Gf Go.Fl
set_option linter.unusedVariables false
set_option linter.unusedSimpArgs false
set_option maxRecDepth 20000
attribute [local go_sem ↓] exec_load_tb Cl.quiet_since
attribute [local go_sem] tbAt_ptr tbIn_ptr

attribute [local go_sem] run_store_cpx
/-- block g holds six heads that may not be -/
def Bad6 (w : World) (g : Nat) : Prop := w.heap[g]? = some (.cells #[.int .i64 0, .int .i64 0, .int .i64 0, .int .i64 1024, .int .i64 0, .int .i64 0, .int .i64 1, .int .i64 (-1), .int .i64 0, .int .i64 1, .int .i64 1048576, .int .i64 0, .int .i64 1, .int .i64 0, .int .i64 (-1), .int .i64 1, .int .i64 0, .int .i64 1099511627776] 25 (0, 0))
theorem Bad6.lt {w : World} {g : Nat} (h : Bad6 w g) : g < w.heap.size := by
  rcases Nat.lt_or_ge g w.heap.size with hlt | hge
  · exact hlt
  · unfold Bad6 at h; rw [Array.getElem?_eq_none hge] at h; cases h
theorem Bad6.keep {w w' : World} {g : Nat} (h : Bad6 w g) (hb : Below w.heap.size w w') : Bad6 w' g := (hb.block g h.lt).trans h
set_option maxHeartbeats 16000000 in
theorem known_law (w : World) : Calls Try.prog 5 #[] w fun e w' => e = .returned (.bool true) ∧ Below w.heap.size w w' := by
  have hz := zero27
  obtain ⟨D, hD⟩ : ∃ D, List.replicate 20 0 = D := ⟨_, rfl⟩
  have hDl : D.length = 20 := by rw [← hD]; rfl
  have hDb : ∀ x ∈ D, x < 256 := by rw [← hD]; intro x hx; rw [(List.mem_replicate.1 hx).2]; decide
  have hM : Ge.mayG 4 2 2 12 = true := by decide +kernel
  have hM0 : Ge.mayG 0 0 0 0 = false := by decide +kernel
  have hsv : sayV 24 1023 1048575 1099511627775 D := ⟨by decide, by decide, by decide, by decide, by rw [hDl], hDb⟩
  have hmE : mkE 4 2 2 12 1023 1048575 1099511627775 20 = 0 := by decide +kernel
  obtain ⟨S, hS⟩ : ∃ S, pageL 2 (sayL 24 1023 1048575 1099511627775 D) = S := ⟨_, rfl⟩
  have hmW : mkW 4 2 2 12 1023 1048575 1099511627775 D = S := by
    unfold mkW
    rw [hDl, hmE, if_pos rfl, ← hS]
    rfl
  have hl24 : (sayL 24 1023 1048575 1099511627775 D).length = 2 * 12 := say_len (N := 24) hsv.2.2.2.2.1 (by decide)
  have hpl : Hid (S.length = 56) := by rw [← hS]; exact pageL_len (n := 12) hl24 (by decide)
  have hpb : Hid (∀ y ∈ S, y < 1024) := by rw [← hS]; exact pageL_bd (n := 12) hl24 (by decide) (say_bd (by decide) (by decide) (by decide))
  have hown : Hid (∀ k' l' q' n' d' er, RdS 4 2 2 12 (S.map ptB) S k' l' q' n' d' er → k' = 1023 ∧ l' = 1048575 ∧ q' = 1099511627775 ∧ n' = 0 ∧ d' = D ∧ er = 0) := fun k' l' q' n' d' er h => by
    rw [← hS] at h
    exact rd_own (W := 2) (K := 12) hM rfl hsv h
  replace hmE := Lib.hid hmE
  replace hmW := Lib.hid hmW
  clear hS hl24 hsv
  replace hD := Lib.hid hD
  replace hDl := Lib.hid hDl
  replace hDb := Lib.hid hDb
  go_enter Try.func5, Try.ntmps5
  go_wp2_with fail
  refine (awake_any w).mono ?_
  rintro e w1 ⟨rfl, hb1⟩
  obtain ⟨w2, hw2⟩ : ∃ w2, w2 = w1.alloc (.cells #[.int .i64 4, .int .i64 2, .int .i64 2, .int .i64 12] 23) := ⟨_, rfl⟩
  have hk2 : Below w1.heap.size w1 w2 := by rw [hw2]; exact Ge.below_alloc w1 _
  have hX2 : Ge.Box w2 w1.heap.size 4 2 2 12 := by rw [hw2]; exact Ge.Box.new w1 4 2 2 12
  have hb2 := hb1.trans (hk2.mono hb1.size)
  go_wp2_with fail
  rw [← hw2]
  clear hw2 hk2 hb1
  generalize w1.heap.size = gx at *
  refine (make_any _).mono ?_
  rintro e w3 ⟨cs, rfl, hl, hk3⟩
  have hX3 := hX2.keep hk3
  have hbw3 := hb2.trans (hk3.mono hb2.size)
  clear hX2 hb2 hk3
  go_upto_region 5 with (refine wpList_store_row rfl 33 _ _ rfl w3.heap.size (cells cs) rfl rfl 33 (cells ZT) (heap_alloc_new w3 _) (rsize hl) (zsize hl) (cells_one cs) ?_)
  have hS := St.start (cs := cs) hbw3 (cells ZT)
  have hb : Below w3.heap.size w3 ((w3.alloc (Obj.cells (cells ZT) 33)).setRow w3.heap.size (cells cs)) := below_setRow ((Below.refl _ _).alloc (Nat.le_refl _) _) (Nat.le_refl _) _
  have hX4 := hX3.keep hb
  have hbww4 := hbw3.trans (hb.mono hbw3.size)
  clear hb
  generalize hg : w3.heap.size = g1 at hS hbww4 hX4 ⊢
  generalize (w3.alloc (Obj.cells (cells ZT) 33)).setRow g1 (cells cs) = w4 at *
  clear hg hz
  have hTw4 := hS.tb
  clear hS
  clear hX3 hbw3
  have hT4 := hTw4
  have hb4 := hbww4
  clear hTw4 hbww4
  have hCS := Lib.hid hl.tab
  have hl1 := Lib.hid hl.1
  clear hl
  obtain ⟨x1, x2, x3, x4, x5⟩ := id hX4
  have hsz : Calls Try.prog 22 #[.agg #[.int .i64 4, .int .i64 2, .int .i64 2, .int .i64 12]] w4 (Ge.Ans w4 (.int .i64 20)) := by
    have := Ge.refsize_any 4 2 2 12 w4
    rwa [show Ge.sizG 4 2 2 12 = 20 by decide +kernel] at this
  have hmk : ∀ w' : World, (Instr.makeSlice 26 (.int .i64 20) (.int .i64 20)).run Try.prog w' = .ok (.slice (some ⟨w'.heap.size, 0, none⟩) 20 20) (w'.alloc (.cells (madeCells #[.int .u8 0] 20) 5)) :=
    run_make_row' (P := Try.prog) 26 5 (.int .u8 0) 1 Try.underlying26 info5 rfl .i64 .i64 20 (by decide) (by decide)
  replace hsz := Lib.hid hsz
  go_wp2_with (go_at_call 22; (with_reducible refine hsz.out.mono ?_); rintro e w5 ⟨rfl, hk5⟩)
  have hX5 := hX4.keep hk5
  have hT5 := hT4.keep hk5
  have hb5 := hb4.trans (hk5.mono hb4.size)
  have hA6 := ab_new w5 20
  have hk6 := Ge.below_alloc w5 (.cells (madeCells #[.int .u8 0] 20) 5)
  have hs6 : (w5.alloc (.cells (madeCells #[.int .u8 0] 20) 5)).heap.size = w5.heap.size + 1 := World.size_alloc _ _
  rw [hD.out] at hA6
  have hX6 := hX5.keep hk6
  have hT6 := hT5.keep hk6
  have hb6 := hb5.trans (hk6.mono hb5.size)
  generalize w5.alloc (.cells (madeCells #[.int .u8 0] 20) 5) = w6 at *
  have hk7 := Ge.below_alloc w6 (.cells #[.int .i64 0, .int .i64 0, .int .i64 0, .int .i64 1024, .int .i64 0, .int .i64 0, .int .i64 1, .int .i64 (-1), .int .i64 0, .int .i64 1, .int .i64 1048576, .int .i64 0, .int .i64 1, .int .i64 0, .int .i64 (-1), .int .i64 1, .int .i64 0, .int .i64 1099511627776] 25)
  have hB7 : Bad6 (w6.alloc (.cells #[.int .i64 0, .int .i64 0, .int .i64 0, .int .i64 1024, .int .i64 0, .int .i64 0, .int .i64 1, .int .i64 (-1), .int .i64 0, .int .i64 1, .int .i64 1048576, .int .i64 0, .int .i64 1, .int .i64 0, .int .i64 (-1), .int .i64 1, .int .i64 0, .int .i64 1099511627776] 25)) (w5.heap.size + 1) := by
    have := heap_alloc_new w6 (.cells #[.int .i64 0, .int .i64 0, .int .i64 0, .int .i64 1024, .int .i64 0, .int .i64 0, .int .i64 1, .int .i64 (-1), .int .i64 0, .int .i64 1, .int .i64 1048576, .int .i64 0, .int .i64 1, .int .i64 0, .int .i64 (-1), .int .i64 1, .int .i64 0, .int .i64 1099511627776] 25)
    rw [hs6] at this
    exact this
  have hX7 := Lib.hid (hX6.keep hk7)
  have hT7 := Lib.hid (hT6.keep hk7)
  have hA7 := Lib.hid (hA6.keep hk7)
  have hb7 := Lib.hid (hb6.trans (hk7.mono hb6.size))
  replace hB7 := Lib.hid hB7
  generalize w6.alloc (.cells #[.int .i64 0, .int .i64 0, .int .i64 0, .int .i64 1024, .int .i64 0, .int .i64 0, .int .i64 1, .int .i64 (-1), .int .i64 0, .int .i64 1, .int .i64 1048576, .int .i64 0, .int .i64 1, .int .i64 0, .int .i64 (-1), .int .i64 1, .int .i64 0, .int .i64 1099511627776] 25) = w7 at *
  generalize w5.heap.size = gd at *
  have hbad : Hid (∀ (k l q : Int) (w' : World), mkB k l q = false → Ab w' gd D → Calls Try.prog 16 #[.agg (cells cs), .agg #[.int .i64 4, .int .i64 2, .int .i64 2, .int .i64 12], .agg #[.int .i64 k, .int .i64 l, .int .i64 q], .slice (some ⟨gd, 0, none⟩) 20 20] w' (RowV w' [] 1)) := fun k l q w' hb ha => by
    have := make_fr (cs := cs) hCS.out (B := 4) (P := 2) (W := 2) (K := 12) (k := k) (l := l) (q := q) (c := 20) (ha.sb hDb.out) (by rw [hDl.out]; decide)
    have hE := mkE_arg (B := 4) (P := 2) (W := 2) (K := 12) (n := 20) (Or.inr hb)
    rw [mkW_nil (by rw [hDl.out, hE]; decide), hDl.out, hE] at this
    exact this
  clear hX4 hT4 hb4 hX5 hT5 hb5 hX6 hT6 hA6 hb6 hk5 hk6 hk7 hs6 x1 x2 x3 x4 x5 hsz hmk
  go_loopw [6] (fun p wr => ∃ i : Nat, i ≤ 6 ∧ p = .int .i64 (i : Int) ∧ Below w7.heap.size w7 wr) (fun p _ => 6 - (intOf p).toNat)
  case atStart => exact ⟨0, by decide, rfl, Below.refl _ _⟩
  case round =>
    obtain ⟨i, hi, rfl, hB⟩ := hrel
    by_cases hlt : i < 6
    · have hTr := Lib.hid (hT7.out.keep hB)
      have hXr := Lib.hid (hX7.out.keep hB)
      have hAr := Lib.hid (hA7.out.keep hB)
      have hBr := Lib.hid (hB7.out.keep hB)
      replace hB := Lib.hid hB
      rcases (by omega : i = 0 ∨ i = 1 ∨ i = 2 ∨ i = 3 ∨ i = 4 ∨ i = 5) with rfl | rfl | rfl | rfl | rfl | rfl
      all_goals
      clear hlt hi
      go_wp2_with fail
      refine Cl.region_way (fun _ => True) 13 [(0, .r), (1, .r), (2, .r), (3, .r), (4, .r), (5, .r), (6, .r), (7, .c), (8, .r), (9, .r), (10, .r), (11, .r), (12, .r)] (by kernel_rfl) (by kernel_rfl) ?_
      intro w8 hk8
      have hkb := Cl.Keeps.below hk8
      have hT8 := hTr.out.keep hkb
      have hX8 := hXr.out.keep hkb
      have hA8 := hAr.out.keep hkb
      have hB8 := hBr.out.keep hkb
      have hb8 := Lib.hid (hB.out.trans (hkb.mono hB.out.size))
      have i1 : ∀ y : Cl.Since (fun _ => True) w8, isTb y.w g1 = true := fun y => (hT8.keep (Cl.Keeps.below y.keeps)).is hl1.out
      have i2 : ∀ y : Cl.Since (fun _ => True) w8, tbOf y.w g1 = cells cs := fun y => (hT8.keep (Cl.Keeps.below y.keeps)).of
      have x0 : ∀ y : Cl.Since (fun _ => True) w8, y.w.cell? ⟨gx, 0, none⟩ = some (.int .i64 4) := fun y => (hX8.keep (Cl.Keeps.below y.keeps)).c0
      have x1 : ∀ y : Cl.Since (fun _ => True) w8, y.w.cell? ⟨gx, 1, none⟩ = some (.int .i64 2) := fun y => (hX8.keep (Cl.Keeps.below y.keeps)).c1
      have x2 : ∀ y : Cl.Since (fun _ => True) w8, y.w.cell? ⟨gx, 2, none⟩ = some (.int .i64 2) := fun y => (hX8.keep (Cl.Keeps.below y.keeps)).c2
      have x3 : ∀ y : Cl.Since (fun _ => True) w8, y.w.cell? ⟨gx, 3, none⟩ = some (.int .i64 12) := fun y => (hX8.keep (Cl.Keeps.below y.keeps)).c3
      have b0 : ∀ y : Cl.Since (fun _ => True) w8, y.w.cell? ⟨gd + 1, 0, none⟩ = some (.int .i64 0) := fun y => Ge.cell_of (hB8.keep (Cl.Keeps.below y.keeps)) 0
      have b1 : ∀ y : Cl.Since (fun _ => True) w8, y.w.cell? ⟨gd + 1, 1, none⟩ = some (.int .i64 0) := fun y => Ge.cell_of (hB8.keep (Cl.Keeps.below y.keeps)) 1
      have b2 : ∀ y : Cl.Since (fun _ => True) w8, y.w.cell? ⟨gd + 1, 2, none⟩ = some (.int .i64 0) := fun y => Ge.cell_of (hB8.keep (Cl.Keeps.below y.keeps)) 2
      have b3 : ∀ y : Cl.Since (fun _ => True) w8, y.w.cell? ⟨gd + 1, 3, none⟩ = some (.int .i64 1024) := fun y => Ge.cell_of (hB8.keep (Cl.Keeps.below y.keeps)) 3
      have b4 : ∀ y : Cl.Since (fun _ => True) w8, y.w.cell? ⟨gd + 1, 4, none⟩ = some (.int .i64 0) := fun y => Ge.cell_of (hB8.keep (Cl.Keeps.below y.keeps)) 4
      have b5 : ∀ y : Cl.Since (fun _ => True) w8, y.w.cell? ⟨gd + 1, 5, none⟩ = some (.int .i64 0) := fun y => Ge.cell_of (hB8.keep (Cl.Keeps.below y.keeps)) 5
      have b6 : ∀ y : Cl.Since (fun _ => True) w8, y.w.cell? ⟨gd + 1, 6, none⟩ = some (.int .i64 1) := fun y => Ge.cell_of (hB8.keep (Cl.Keeps.below y.keeps)) 6
      have b7 : ∀ y : Cl.Since (fun _ => True) w8, y.w.cell? ⟨gd + 1, 7, none⟩ = some (.int .i64 (-1)) := fun y => Ge.cell_of (hB8.keep (Cl.Keeps.below y.keeps)) 7
      have b8 : ∀ y : Cl.Since (fun _ => True) w8, y.w.cell? ⟨gd + 1, 8, none⟩ = some (.int .i64 0) := fun y => Ge.cell_of (hB8.keep (Cl.Keeps.below y.keeps)) 8
      have b9 : ∀ y : Cl.Since (fun _ => True) w8, y.w.cell? ⟨gd + 1, 9, none⟩ = some (.int .i64 1) := fun y => Ge.cell_of (hB8.keep (Cl.Keeps.below y.keeps)) 9
      have b10 : ∀ y : Cl.Since (fun _ => True) w8, y.w.cell? ⟨gd + 1, 10, none⟩ = some (.int .i64 1048576) := fun y => Ge.cell_of (hB8.keep (Cl.Keeps.below y.keeps)) 10
      have b11 : ∀ y : Cl.Since (fun _ => True) w8, y.w.cell? ⟨gd + 1, 11, none⟩ = some (.int .i64 0) := fun y => Ge.cell_of (hB8.keep (Cl.Keeps.below y.keeps)) 11
      have b12 : ∀ y : Cl.Since (fun _ => True) w8, y.w.cell? ⟨gd + 1, 12, none⟩ = some (.int .i64 1) := fun y => Ge.cell_of (hB8.keep (Cl.Keeps.below y.keeps)) 12
      have b13 : ∀ y : Cl.Since (fun _ => True) w8, y.w.cell? ⟨gd + 1, 13, none⟩ = some (.int .i64 0) := fun y => Ge.cell_of (hB8.keep (Cl.Keeps.below y.keeps)) 13
      have b14 : ∀ y : Cl.Since (fun _ => True) w8, y.w.cell? ⟨gd + 1, 14, none⟩ = some (.int .i64 (-1)) := fun y => Ge.cell_of (hB8.keep (Cl.Keeps.below y.keeps)) 14
      have b15 : ∀ y : Cl.Since (fun _ => True) w8, y.w.cell? ⟨gd + 1, 15, none⟩ = some (.int .i64 1) := fun y => Ge.cell_of (hB8.keep (Cl.Keeps.below y.keeps)) 15
      have b16 : ∀ y : Cl.Since (fun _ => True) w8, y.w.cell? ⟨gd + 1, 16, none⟩ = some (.int .i64 0) := fun y => Ge.cell_of (hB8.keep (Cl.Keeps.below y.keeps)) 16
      have b17 : ∀ y : Cl.Since (fun _ => True) w8, y.w.cell? ⟨gd + 1, 17, none⟩ = some (.int .i64 1099511627776) := fun y => Ge.cell_of (hB8.keep (Cl.Keeps.below y.keeps)) 17
      iterate 7 (refine Cl.way_r rfl ?_; go_big_quiet_step (fail); refine wpQuiet_nil ?_)
      clear i1 i2 x0 x1 x2 x3 b0 b1 b2 b3 b4 b5 b6 b7 b8 b9 b10 b11 b12 b13 b14 b15 b16 b17 hT8 hX8 hB8
      replace hA8 := Lib.hid hA8
      refine Cl.way_c rfl ?_
      go_wp2_with (go_at_call 16; (with_reducible refine (hbad.out _ _ _ w8 (by decide) hA8.out).mono ?_); rintro e w9 ⟨v9, rfl, ho9, hb9⟩; obtain ⟨A9, c9, rfl, hs9⟩ := ho9.len)
      refine Cl.way_on (Cl.Keeps.of_below hb9) ?_
      have hb10 := Lib.hid (hb8.out.trans (hb9.mono hb8.out.size))
      clear hs9 ho9 hb9
      iterate 5 (refine Cl.way_r rfl ?_; go_big_quiet_step (fail); refine wpQuiet_nil ?_)
      refine Cl.way_end ?_
      go_wp2_with fail
      first
        | exact ⟨⟨1, by decide, rfl, hb10.out⟩, by decide⟩
        | exact ⟨⟨2, by decide, rfl, hb10.out⟩, by decide⟩
        | exact ⟨⟨3, by decide, rfl, hb10.out⟩, by decide⟩
        | exact ⟨⟨4, by decide, rfl, hb10.out⟩, by decide⟩
        | exact ⟨⟨5, by decide, rfl, hb10.out⟩, by decide⟩
        | exact ⟨⟨6, by decide, rfl, hb10.out⟩, by decide⟩
    · obtain rfl : i = 6 := by omega
      have hTr := hT7.out.keep hB
      have hXr := hX7.out.keep hB
      have hAr := hA7.out.keep hB
      have hbr := hb7.out.trans (hB.mono hb7.out.size)
      clear hB hT7 hX7 hA7 hB7 hb7 hbad hlt hi
      obtain ⟨wh, hwh⟩ : ∃ wh, wh = wr.alloc (.cells #[.int .i64 1023, .int .i64 1048575, .int .i64 1099511627775] 25) := ⟨_, rfl⟩
      have hkh : Below wr.heap.size wr wh := by rw [hwh]; exact Ge.below_alloc wr _
      have hHh : Hed wh wr.heap.size 1023 1048575 1099511627775 := by rw [hwh]; exact Hed.new wr _ _ _
      have hTh := hTr.keep hkh
      have hXh := hXr.keep hkh
      have hAh := hAr.keep hkh
      have hbh := hbr.trans (hkh.mono hbr.size)
      have hmk := make_fr (cs := cs) hCS.out (B := 4) (P := 2) (W := 2) (K := 12) (k := 1023) (l := 1048575) (q := 1099511627775) (c := 20) (hAh.sb hDb.out) (by rw [hDl.out]; decide)
      rw [hmW.out, hDl.out, hmE.out] at hmk
      have hi1 := hTh.is hl1.out
      have hi2 := hTh.of
      obtain ⟨x1, x2, x3, x4, x5⟩ := id hXh
      obtain ⟨y1, y2, y3, y4⟩ := id hHh
      rw [hwh] at hmk hi1 hi2 x2 x3 x4 x5 y2 y3 y4
      replace hmk := Lib.hid hmk
      clear hTr hXr hAr hbr hkh
      go_wp2_with (go_at_call 16; (with_reducible refine hmk.out.mono ?_); rintro e w9 ⟨v9, rfl, ho9, hk9⟩; rw [← hwh] at hk9; obtain ⟨A9, c9, rfl, hs9⟩ := ho9.len)
      generalize wr.heap.size = gh at *
      have hT9 := hTh.keep hk9
      have hX9 := hXh.keep hk9
      have hA9 := hAh.keep hk9
      have hH9 := hHh.keep hk9
      have hb9 := hbh.trans (hk9.mono hbh.size)
      rw [hpl.out]
      have hTS := Lib.hid hT9
      have hXS := Lib.hid hX9
      have hAS := Lib.hid hA9
      have hHS := Lib.hid hH9
      have hbS0 := Lib.hid hb9
      have hsS := Lib.hid hs9
      have hnS := hpl
      have hbS := hpb
      have hn6 : (56 : Nat) ≤ 100000 := by decide
      have hgt : Hid (g1 < w9.heap.size) := hT9.lt
      have hgb : Hid (gx < w9.heap.size) := hX9.lt
      clear hTh hXh hAh hHh hbh hT9 hX9 hA9 hH9 hb9 hs9 ho9 hk9 hmk hi1 hi2 x1 x2 x3 x4 x5 y1 y2 y3 y4 hwh hmE hmW
      go_cut [12, 13, 14, 15] from 79 to 88 (fun sm sd sn sf wx => ∃ (k9 l9 q9 n9 : Nat) (d9 : List Nat) (e9 : Nat) (A9 : Option Addr) (c9 g9 : Nat), RdS 4 2 2 12 (S.map ptB) S k9 l9 q9 n9 d9 e9 ∧ sm = .pointer (some ⟨g9, 0, none⟩) ∧ Hed wx g9 (k9 : Int) (l9 : Int) (q9 : Int) ∧ sd = .slice A9 d9.length c9 ∧ Sb wx wx.heap.size A9 d9 ∧ sn = .int .i64 (n9 : Int) ∧ sf = .int .i64 (e9 : Int) ∧ Below w9.heap.size w9 wx)
      case first =>
        refine Cl.region_tree (fun b => b < w9.heap.size) 15 (.r 0 <| .r 1 <| .r 2 <| .b 3 10 (.b 4 10 (.r 5 <| .r 6 <| .r 7 <| .r 8 <| .r 9 <| .c 10 <| .c 11 <| .r 12 <| .r 13 <| .r 14 <| .e) (.c 4 <| .r 5 <| .r 6 <| .r 7 <| .r 8 <| .r 9 <| .c 11 <| .r 12 <| .r 13 <| .r 14 <| .e)) (.c 3 <| .c 4 <| .r 5 <| .r 6 <| .r 7 <| .r 8 <| .r 9 <| .c 11 <| .r 12 <| .r 13 <| .r 14 <| .e)) (by kernel_rfl) (by kernel_rfl) ?_
        intro v0 hk0
        have hbk := Cl.Keeps.below hk0
        have hT0 := hTS.out.keep hbk
        have hiA : ∀ y : Cl.Since (fun b => b < w9.heap.size) v0, isTb y.w g1 = true := fun y => (show Tb y.w g1 cs from (y.keeps.block g1 hT0.lt hgt.out).trans hT0).is hCS.out.1
        have hoA : ∀ y : Cl.Since (fun b => b < w9.heap.size) v0, tbOf y.w g1 = cells cs := fun y => (show Tb y.w g1 cs from (y.keeps.block g1 hT0.lt hgt.out).trans hT0).of
        have hX0 := hXS.out.keep hbk
        have x0 : ∀ y : Cl.Since (fun b => b < w9.heap.size) v0, y.w.cell? ⟨gx, 0, none⟩ = some (.int .i64 4) := fun y => (cell_block (y.keeps.block gx hX0.lt hgb.out)).trans hX0.c0
        have x1 : ∀ y : Cl.Since (fun b => b < w9.heap.size) v0, y.w.cell? ⟨gx, 1, none⟩ = some (.int .i64 2) := fun y => (cell_block (y.keeps.block gx hX0.lt hgb.out)).trans hX0.c1
        have x2 : ∀ y : Cl.Since (fun b => b < w9.heap.size) v0, y.w.cell? ⟨gx, 2, none⟩ = some (.int .i64 2) := fun y => (cell_block (y.keeps.block gx hX0.lt hgb.out)).trans hX0.c2
        have x3 : ∀ y : Cl.Since (fun b => b < w9.heap.size) v0, y.w.cell? ⟨gx, 3, none⟩ = some (.int .i64 12) := fun y => (cell_block (y.keeps.block gx hX0.lt hgb.out)).trans hX0.c3
        iterate 3 (refine Cl.tree_r rfl ?_; go_big_quiet_step (fail); refine wpQuiet_nil ?_)
        clear hiA hoA hT0 x0 x1 x2 x3 hX0
        replace hbk := Lib.hid hbk
        refine Cl.tree_b rfl rfl ?_ ?_
        · have hpc := lawpts_any (c := c9) (hsS.out.far hbk.out) (by rw [hnS.out]; exact hn6)
          rw [hnS.out] at hpc
          replace hpc := Lib.hid hpc
          go_wp2_with (go_at_call 20; (with_reducible refine hpc.out.mono ?_); rintro e v1 ⟨vp, rfl, hop, hbp⟩)
          refine Cl.way_on (Cl.Keeps.of_below hbp) ?_
          obtain ⟨Ap, cp, rfl, hcp, hpx'⟩ := hop.cx
          have hlp : (S.map ptB).length = 56 := by rw [List.length_map, hnS.out]
          rw [hlp]
          have hpx := Lib.hid hpx'
          have hb1 := Lib.hid (hbk.out.trans (hbp.mono hbk.out.size))
          clear hpc hpx' hop hcp hbp hlp
          refine Cl.tree_b rfl rfl ?_ ?_
          · have hrd := read_any hCS.out (B := 4) (P := 2) (W := 2) (K := 12) (ss := S) (c := cp) hpx.out (by rw [List.length_map, hnS.out]; omega) (by rw [List.length_map]) (pts_slc hbS.out) hbS.out
            rw [List.length_map, hnS.out] at hrd
            replace hrd := Lib.hid hrd
            go_wp2_with (go_at_call 19; (with_reducible refine hrd.out.mono ?_); rintro e v2 ⟨k9, l9, q9, nn, dd, er, hRd, A9, c9, rfl, hc9, hs8, hbp⟩)
            refine Cl.way_on (Cl.Keeps.of_below hbp) ?_
            have hsd := Lib.hid hs8
            replace hRd := Lib.hid hRd
            have hb2 := Lib.hid (hb1.out.trans (hbp.mono hb1.out.size))
            clear hrd hs8 hbp
            refine Cl.tree_r rfl ?_
            go_big_quiet_step (fail)
            refine wpQuiet_nil ?_
            refine Cl.tree_r rfl ?_
            go_big_quiet_step (fail)
            refine wpQuiet_nil ?_
            refine Cl.tree_r rfl ?_
            go_big_quiet_step (fail)
            refine wpQuiet_nil ?_
            refine Cl.tree_r rfl ?_
            go_big_quiet_step (fail)
            refine wpQuiet_nil ?_
            refine Cl.tree_r rfl ?_
            go_big_quiet_step (fail)
            refine wpQuiet_nil ?_
            refine Cl.tree_c rfl ?_
            go_wp2_with fail
            refine Cl.way_on (Cl.Keeps.of_below (Ge.below_alloc _ _)) ?_
            have hF := Lib.hid (Hed.new v2 (k9 : Int) (l9 : Int) (q9 : Int))
            have hG := Ge.below_alloc v2 (.cells #[.int .i64 (k9 : Int), .int .i64 (l9 : Int), .int .i64 (q9 : Int)] 25)
            have hs9 := Lib.hid (hsd.out.far hG)
            have hb9 := Lib.hid (hb2.out.trans (hG.mono hb2.out.size))
            have hkp := Lib.hid (keeps_fold v2 (.cells #[.int .i64 0, .int .i64 0, .int .i64 0] 25) (.cells #[.int .i64 (k9 : Int), .int .i64 (l9 : Int), .int .i64 (q9 : Int)] 25) hb2.out.size)
            refine Cl.tree_c rfl ?_
            go_wp2_with fail
            refine Cl.way_on hkp.out ?_
            refine Cl.tree_r rfl ?_
            go_big_quiet_step (fail)
            refine wpQuiet_nil ?_
            refine Cl.tree_r rfl ?_
            go_big_quiet_step (fail)
            refine wpQuiet_nil ?_
            refine Cl.tree_r rfl ?_
            go_big_quiet_step (fail)
            refine wpQuiet_nil ?_
            refine Cl.tree_e ?_
            go_wp2_with fail
            go_meet
            exact ⟨k9, l9, q9, nn, dd, er, A9, c9, _, hRd.out, rfl, hF.out, rfl, hs9.out, rfl, rfl, hb9.out⟩
          · go_wp2_with fail
            refine Cl.way_on (Cl.Keeps.of_below (Ge.below_alloc _ _)) ?_
            have hHn := Hdo.new v1 0 0 0
            have hAl := Ge.below_alloc v1 (.cells #[.int .i64 0, .int .i64 0, .int .i64 0] 25)
            have hge : Hid (w9.heap.size ≤ v1.heap.size) := hb1.out.size
            have hba := Lib.hid (hb1.out.trans (hAl.mono hb1.out.size))
            have hxa := Lib.hid (hpx.out.far hAl)
            generalize v1.alloc (.cells #[.int .i64 0, .int .i64 0, .int .i64 0] 25) = va1 at *
            have hH1 := Lib.hid hHn
            clear hHn hAl
            refine Cl.tree_c rfl ?_
            have hrd := read_any hCS.out (B := 4) (P := 2) (W := 2) (K := 12) (ss := S) (c := cp) hxa.out (by rw [List.length_map, hnS.out]; omega) (by rw [List.length_map]) (pts_slc hbS.out) hbS.out
            rw [List.length_map, hnS.out] at hrd
            replace hrd := Lib.hid hrd
            go_wp2_with (go_at_call 19; (with_reducible refine hrd.out.mono ?_); rintro e v2 ⟨k9, l9, q9, nn, dd, er, hRd, A9, c9, rfl, hc9, hs8, hbp⟩)
            refine Cl.way_on (Cl.Keeps.of_below hbp) ?_
            have hsd := Lib.hid hs8
            replace hRd := Lib.hid hRd
            have hb2 := Lib.hid (hba.out.trans (hbp.mono hba.out.size))
            have hH2 := Lib.hid (hH1.out.keep hbp)
            clear hrd hs8 hbp
            refine Cl.tree_r rfl ?_
            go_big_quiet_step (fail)
            refine wpQuiet_nil ?_
            refine Cl.tree_r rfl ?_
            go_big_quiet_step (fail)
            refine wpQuiet_nil ?_
            refine Cl.tree_r rfl ?_
            go_big_quiet_step (fail)
            refine wpQuiet_nil ?_
            refine Cl.tree_r rfl ?_
            go_big_quiet_step (fail)
            refine wpQuiet_nil ?_
            refine Cl.tree_r rfl ?_
            go_big_quiet_step (fail)
            refine wpQuiet_nil ?_
            have hF := Lib.hid (hH2.out.set_ (k9 : Int) (l9 : Int) (q9 : Int)).hed
            obtain ⟨h1, h2, h3, h4⟩ := hH2.out.hed
            have hfz := hH2.out.frozen
            have hs9 := Lib.hid (hH2.out.sb3 hsd.out (k9 : Int) (l9 : Int) (q9 : Int))
            have hb9 := Lib.hid (below_set3 hb2.out hge.out (.int .i64 (k9 : Int)) (.int .i64 (l9 : Int)) (.int .i64 (q9 : Int)))
            have hkp := Lib.hid (keeps_set3 (w := v2) hge.out (.int .i64 (k9 : Int)) (.int .i64 (l9 : Int)) (.int .i64 (q9 : Int)))
            refine Cl.tree_c rfl ?_
            go_wp2_with fail
            refine Cl.way_on hkp.out ?_
            clear h1 h2 h3 h4 hfz
            refine Cl.tree_r rfl ?_
            go_big_quiet_step (fail)
            refine wpQuiet_nil ?_
            refine Cl.tree_r rfl ?_
            go_big_quiet_step (fail)
            refine wpQuiet_nil ?_
            refine Cl.tree_r rfl ?_
            go_big_quiet_step (fail)
            refine wpQuiet_nil ?_
            refine Cl.tree_e ?_
            go_wp2_with fail
            go_meet
            exact ⟨k9, l9, q9, nn, dd, er, A9, c9, _, hRd.out, rfl, hF.out, rfl, hs9.out, rfl, rfl, hb9.out⟩
        · go_wp2_with fail
          refine Cl.way_on (Cl.Keeps.of_below (Ge.below_alloc _ _)) ?_
          have hHn := Hdo.new v0 0 0 0
          have hAl := Ge.below_alloc v0 (.cells #[.int .i64 0, .int .i64 0, .int .i64 0] 25)
          have hge : Hid (w9.heap.size ≤ v0.heap.size) := hbk.out.size
          have hba := Lib.hid (hbk.out.trans (hAl.mono hbk.out.size))
          generalize v0.alloc (.cells #[.int .i64 0, .int .i64 0, .int .i64 0] 25) = va0 at *
          have hH0 := Lib.hid hHn
          clear hHn hAl
          refine Cl.tree_c rfl ?_
          have hpc := lawpts_any (c := c9) (hsS.out.far hba.out) (by rw [hnS.out]; exact hn6)
          rw [hnS.out] at hpc
          replace hpc := Lib.hid hpc
          go_wp2_with (go_at_call 20; (with_reducible refine hpc.out.mono ?_); rintro e v1 ⟨vp, rfl, hop, hbp⟩)
          refine Cl.way_on (Cl.Keeps.of_below hbp) ?_
          obtain ⟨Ap, cp, rfl, hcp, hpx'⟩ := hop.cx
          have hlp : (S.map ptB).length = 56 := by rw [List.length_map, hnS.out]
          rw [hlp]
          have hpx := Lib.hid hpx'
          have hb1 := Lib.hid (hba.out.trans (hbp.mono hba.out.size))
          have hH1 := Lib.hid (hH0.out.keep hbp)
          clear hpc hpx' hop hcp hbp hlp
          refine Cl.tree_c rfl ?_
          have hrd := read_any hCS.out (B := 4) (P := 2) (W := 2) (K := 12) (ss := S) (c := cp) hpx.out (by rw [List.length_map, hnS.out]; omega) (by rw [List.length_map]) (pts_slc hbS.out) hbS.out
          rw [List.length_map, hnS.out] at hrd
          replace hrd := Lib.hid hrd
          go_wp2_with (go_at_call 19; (with_reducible refine hrd.out.mono ?_); rintro e v2 ⟨k9, l9, q9, nn, dd, er, hRd, A9, c9, rfl, hc9, hs8, hbp⟩)
          refine Cl.way_on (Cl.Keeps.of_below hbp) ?_
          have hsd := Lib.hid hs8
          replace hRd := Lib.hid hRd
          have hb2 := Lib.hid (hb1.out.trans (hbp.mono hb1.out.size))
          have hH2 := Lib.hid (hH1.out.keep hbp)
          clear hrd hs8 hbp
          refine Cl.tree_r rfl ?_
          go_big_quiet_step (fail)
          refine wpQuiet_nil ?_
          refine Cl.tree_r rfl ?_
          go_big_quiet_step (fail)
          refine wpQuiet_nil ?_
          refine Cl.tree_r rfl ?_
          go_big_quiet_step (fail)
          refine wpQuiet_nil ?_
          refine Cl.tree_r rfl ?_
          go_big_quiet_step (fail)
          refine wpQuiet_nil ?_
          refine Cl.tree_r rfl ?_
          go_big_quiet_step (fail)
          refine wpQuiet_nil ?_
          have hF := Lib.hid (hH2.out.set_ (k9 : Int) (l9 : Int) (q9 : Int)).hed
          obtain ⟨h1, h2, h3, h4⟩ := hH2.out.hed
          have hfz := hH2.out.frozen
          have hs9 := Lib.hid (hH2.out.sb3 hsd.out (k9 : Int) (l9 : Int) (q9 : Int))
          have hb9 := Lib.hid (below_set3 hb2.out hge.out (.int .i64 (k9 : Int)) (.int .i64 (l9 : Int)) (.int .i64 (q9 : Int)))
          have hkp := Lib.hid (keeps_set3 (w := v2) hge.out (.int .i64 (k9 : Int)) (.int .i64 (l9 : Int)) (.int .i64 (q9 : Int)))
          refine Cl.tree_c rfl ?_
          go_wp2_with fail
          refine Cl.way_on hkp.out ?_
          clear h1 h2 h3 h4 hfz
          refine Cl.tree_r rfl ?_
          go_big_quiet_step (fail)
          refine wpQuiet_nil ?_
          refine Cl.tree_r rfl ?_
          go_big_quiet_step (fail)
          refine wpQuiet_nil ?_
          refine Cl.tree_r rfl ?_
          go_big_quiet_step (fail)
          refine wpQuiet_nil ?_
          refine Cl.tree_e ?_
          go_wp2_with fail
          go_meet
          exact ⟨k9, l9, q9, nn, dd, er, A9, c9, _, hRd.out, rfl, hF.out, rfl, hs9.out, rfl, rfl, hb9.out⟩
      case rest =>
        obtain ⟨ka, la, qa, na, da, ea, Aa, ca, ga, hRd, rfl, hG, rfl, hsb, rfl, rfl, hbc⟩ := hcut
        obtain ⟨rfl, rfl, rfl, rfl, rfl, rfl⟩ := hown.out _ _ _ _ _ _ hRd
        obtain ⟨wA, rfl⟩ : ∃ wA, wA = wc := ⟨_, rfl⟩
        have hTA := Lib.hid (hTS.out.keep hbc)
        have hXA := Lib.hid (hXS.out.keep hbc)
        have hAA := Lib.hid (hAS.out.keep hbc)
        have hHA := Lib.hid (hHS.out.keep hbc)
        have hGA := Lib.hid hG
        have hbA := Lib.hid (hbS0.out.trans (hbc.mono hbS0.out.size))
        have hm3 : Hid (∀ w' : World, Ab w' gd da → Calls Try.prog 16 #[.agg (cells cs), .agg #[.int .i64 4, .int .i64 2, .int .i64 2, .int .i64 12], .agg #[.int .i64 1, .int .i64 0, .int .i64 0], .slice (some ⟨gd, 1, none⟩) 19 19] w' (RowV w' [] 3)) := fun w' ha => by
          rw [← hD.out] at ha
          have := make_fr (cs := cs) hCS.out (B := 4) (P := 2) (W := 2) (K := 12) (k := 1) (l := 0) (q := 0) (c := 19) (ab_tail (n := 19) ha) (by decide)
          have hE : mkE 4 2 2 12 1 0 0 19 = 3 := by decide +kernel
          rw [mkW_nil (by rw [List.length_replicate, hE]; decide), List.length_replicate, hE] at this
          exact this
        have hm4 : Hid (∀ w' : World, Ab w' gd da → Calls Try.prog 16 #[.agg (cells cs), .agg #[.int .i64 0, .int .i64 0, .int .i64 0, .int .i64 0], .agg #[.int .i64 1, .int .i64 0, .int .i64 0], .slice (some ⟨gd, 0, none⟩) 20 20] w' (RowV w' [] 1)) := fun w' ha => by
          have := make_fr (cs := cs) hCS.out (B := 0) (P := 0) (W := 0) (K := 0) (k := 1) (l := 0) (q := 0) (c := 20) (ha.sb hDb.out) (by rw [hDl.out]; decide)
          have hE : mkE 0 0 0 0 1 0 0 20 = 1 := mkE_arg (Or.inl hM0)
          rw [mkW_nil (by rw [hDl.out, hE]; decide), hDl.out, hE] at this
          exact this
        have hnil : Hid (∀ (B P W K : Int) (w' : World), Calls Try.prog 19 #[.agg (cells cs), .agg #[.int .i64 B, .int .i64 P, .int .i64 W, .int .i64 K], .slice none 0 0] w' fun e w'' => ∃ k l q n d er, RdS B P W K [] [] k l q n d er ∧ RdV k l q n d er w' e w'') := fun B P W K w' =>
          read_any (xs := []) (ss := []) (c := 0) hCS.out (Cx.nil _ _ _) (by decide) rfl (fun i hi => by cases hi) (fun y hy => by cases hy)
        clear hRd hG hsb hbc hTS hXS hAS hHS hbS0 hsS hnS hbS hgt hgb hown hpl hpb
        go_wp2_with fail
        refine Cl.region_way (fun _ => True) 11 [(0, .r), (1, .r), (2, .r), (3, .r), (4, .r), (5, .c), (6, .r), (7, .r), (8, .r), (9, .r), (10, .r)] (by kernel_rfl) (by kernel_rfl) ?_
        intro w10 hk10
        have hkb := Cl.Keeps.below hk10
        have hT10 := hTA.out.keep hkb
        have hX10 := hXA.out.keep hkb
        have hA10 := hAA.out.keep hkb
        have hH10 := hHA.out.keep hkb
        have hG10 := hGA.out.keep hkb
        have hb10 := hbA.out.trans (hkb.mono hbA.out.size)
        have i1 : ∀ y : Cl.Since (fun _ => True) w10, isTb y.w g1 = true := fun y => (hT10.keep (Cl.Keeps.below y.keeps)).is hl1.out
        have i2 : ∀ y : Cl.Since (fun _ => True) w10, tbOf y.w g1 = cells cs := fun y => (hT10.keep (Cl.Keeps.below y.keeps)).of
        have x0 : ∀ y : Cl.Since (fun _ => True) w10, y.w.cell? ⟨gx, 0, none⟩ = some (.int .i64 4) := fun y => (hX10.keep (Cl.Keeps.below y.keeps)).c0
        have x1 : ∀ y : Cl.Since (fun _ => True) w10, y.w.cell? ⟨gx, 1, none⟩ = some (.int .i64 2) := fun y => (hX10.keep (Cl.Keeps.below y.keeps)).c1
        have x2 : ∀ y : Cl.Since (fun _ => True) w10, y.w.cell? ⟨gx, 2, none⟩ = some (.int .i64 2) := fun y => (hX10.keep (Cl.Keeps.below y.keeps)).c2
        have x3 : ∀ y : Cl.Since (fun _ => True) w10, y.w.cell? ⟨gx, 3, none⟩ = some (.int .i64 12) := fun y => (hX10.keep (Cl.Keeps.below y.keeps)).c3
        iterate 5 (refine Cl.way_r rfl ?_; go_big_quiet_step (fail); refine wpQuiet_nil ?_)
        clear i1 i2 x0 x1 x2 x3 hTA hXA hAA hHA hGA hbA hkb hk10
        have hm3' := Lib.hid (hm3.out w10 hA10)
        refine Cl.way_c rfl ?_
        go_wp2_with (go_at_call 16; (with_reducible refine hm3'.out.mono ?_); rintro e w11 ⟨v11, rfl, ho11, hk11⟩; obtain ⟨A11, c11, rfl, hs11⟩ := ho11.len)
        refine Cl.way_on (Cl.Keeps.of_below hk11) ?_
        have hT11 := hT10.keep hk11
        have hX11 := hX10.keep hk11
        have hA11 := hA10.keep hk11
        have hH11 := hH10.keep hk11
        have hG11 := hG10.keep hk11
        have hb11 := hb10.trans (hk11.mono hb10.size)
        clear hT10 hX10 hA10 hH10 hG10 hb10 hk11 hs11 ho11 hm3 hm3'
        iterate 5 (refine Cl.way_r rfl ?_; go_big_quiet_step (fail); refine wpQuiet_nil ?_)
        refine Cl.way_end ?_
        have hm4' := Lib.hid (hm4.out w11 hA11)
        have hi1 := hT11.is hl1.out
        have hi2 := hT11.of
        obtain ⟨x1, x2, x3, x4, x5⟩ := id hX11
        go_wp2_with (first
          | (go_at_call 16; (with_reducible refine hm4'.out.mono ?_); rintro e w12 ⟨v12, rfl, ho12, hk12⟩; obtain ⟨A12, c12, rfl, hs12⟩ := ho12.len; have hT12 := hT11.keep hk12; have hX12 := hX11.keep hk12; have hA12 := hA11.keep hk12; have hH12 := hH11.keep hk12; have hG12 := hG11.keep hk12; have hb12 := hb11.trans (hk12.mono hb11.size); have hr12 := Lib.hid (hnil.out 4 2 2 12 w12); have hj1 := hT12.is hl1.out; have hj2 := hT12.of; obtain ⟨m1, m2, m3, m4, m5⟩ := id hX12)
          | (go_at_call 19; (with_reducible refine hr12.out.mono ?_); rintro e w13 ⟨kb, lb, qb, nb, db, eb, hRb, Ab', cb, rfl, hcb, hsb, hk13⟩; obtain rfl := rd_size hM (by decide +kernel) hRb; have hT13 := hT12.keep hk13; have hX13 := hX12.keep hk13; have hA13 := hA12.keep hk13; have hH13 := hH12.keep hk13; have hG13 := hG12.keep hk13; have hb13 := hb12.trans (hk13.mono hb12.size)))
        have hk14 := Ge.below_alloc w13 (.cells #[.int .i64 (kb : Int), .int .i64 (lb : Int), .int .i64 (qb : Int)] 25)
        have hT14 := hT13.keep hk14
        have hX14 := hX13.keep hk14
        have hH14 := hH13.keep hk14
        have hG14 := hG13.keep hk14
        have hb14 := hb13.trans (hk14.mono hb13.size)
        generalize w13.alloc (.cells #[.int .i64 (kb : Int), .int .i64 (lb : Int), .int .i64 (qb : Int)] 25) = w14 at *
        have hTS := Lib.hid hT14
        have hXS := Lib.hid hX14
        have hHS := Lib.hid hH14
        have hGS := Lib.hid hG14
        have hbS0 := Lib.hid hb14
        have hgt : Hid (g1 < w14.heap.size) := hT14.lt
        have hgb : Hid (gx < w14.heap.size) := hX14.lt
        obtain ⟨xs, hxs⟩ : ∃ xs, List.replicate 56 ((0, 0) : Nat × Nat) = xs := ⟨_, rfl⟩
        obtain ⟨ss, hss⟩ : ∃ ss, List.replicate 56 528 = ss := ⟨_, rfl⟩
        have hlS : Hid (xs.length = 56) := by rw [← hxs]; exact List.length_replicate
        have hnS : Hid (ss.length = 56) := by rw [← hss]; exact List.length_replicate
        have hbS : Hid (∀ y ∈ ss, y < 1024) := by rw [← hss]; exact fun y hy => by rw [(List.mem_replicate.1 hy).2]; decide
        have hslS : Hid (∀ i, i < xs.length → SlcIs (xA xs i) (at_ ss i)) := fun i hi => by
          have hi' : i < 56 := by have := hlS.out; omega
          rw [← hxs, ← hss, xA_get (by rw [List.length_replicate]; exact hi'), List.getElem_replicate, show at_ (List.replicate 56 528) i = 528 by rw [at_get (by rw [List.length_replicate]; exact hi'), List.getElem_replicate]]
          exact slc_zero
        have hbk : Hid (blkB xs = true) := by rw [← hxs]; exact blk_rep 56
        have hcn : Hid (∀ w' : World, Cx (w'.alloc (.cells (madeCells #[.complex .f64 0 0] 56) 49)) (w'.alloc (.cells (madeCells #[.complex .f64 0 0] 56) 49)).heap.size (some ⟨w'.heap.size, 0, none⟩) xs) := fun w' => by rw [← hxs]; exact cx_new w' 56
        have hmkc : ∀ w' : World, (Instr.makeSlice 44 (.int .i64 56) (.int .i64 56)).run Try.prog w' = .ok (.slice (some ⟨w'.heap.size, 0, none⟩) 56 56) (w'.alloc (.cells (madeCells #[.complex .f64 0 0] 56) 49)) := make_cxn 56 (by decide)
        clear hxs hss hT11 hX11 hA11 hH11 hG11 hb11 hT12 hX12 hA12 hH12 hG12 hb12 hT13 hX13 hA13 hH13 hG13 hb13 hT14 hX14 hH14 hG14 hb14 hk12 hk13 hk14 hs12 ho12 hsb hRb hcb hm4 hm4' hi1 hi2 hj1 hj2 x1 x2 x3 x4 x5 m1 m2 m3 m4 m5 hr12
        go_cut [24, 25, 26, 27] from 114 to 122 (fun sm sd sn sf wx => ∃ (k9 l9 q9 n9 : Nat) (d9 : List Nat) (e9 : Nat) (A9 : Option Addr) (c9 g9 : Nat), RdS 4 2 2 12 xs ss k9 l9 q9 n9 d9 e9 ∧ sm = .pointer (some ⟨g9, 0, none⟩) ∧ Hed wx g9 (k9 : Int) (l9 : Int) (q9 : Int) ∧ sd = .slice A9 d9.length c9 ∧ Sb wx wx.heap.size A9 d9 ∧ sn = .int .i64 (n9 : Int) ∧ sf = .int .i64 (e9 : Int) ∧ Below w14.heap.size w14 wx)
        case first =>
          refine Cl.region_tree (fun b => b < w14.heap.size) 14 (.r 0 <| .r 1 <| .b 2 9 (.b 3 9 (.r 4 <| .r 5 <| .r 6 <| .r 7 <| .r 8 <| .c 9 <| .c 10 <| .r 11 <| .r 12 <| .r 13 <| .e) (.c 3 <| .r 4 <| .r 5 <| .r 6 <| .r 7 <| .r 8 <| .c 10 <| .r 11 <| .r 12 <| .r 13 <| .e)) (.c 2 <| .c 3 <| .r 4 <| .r 5 <| .r 6 <| .r 7 <| .r 8 <| .c 10 <| .r 11 <| .r 12 <| .r 13 <| .e)) (by kernel_rfl) (by kernel_rfl) ?_
          intro v0 hk0
          have hbk := Cl.Keeps.below hk0
          have hT0 := hTS.out.keep hbk
          have hiA : ∀ y : Cl.Since (fun b => b < w14.heap.size) v0, isTb y.w g1 = true := fun y => (show Tb y.w g1 cs from (y.keeps.block g1 hT0.lt hgt.out).trans hT0).is hCS.out.1
          have hoA : ∀ y : Cl.Since (fun b => b < w14.heap.size) v0, tbOf y.w g1 = cells cs := fun y => (show Tb y.w g1 cs from (y.keeps.block g1 hT0.lt hgt.out).trans hT0).of
          have hX0 := hXS.out.keep hbk
          have x0 : ∀ y : Cl.Since (fun b => b < w14.heap.size) v0, y.w.cell? ⟨gx, 0, none⟩ = some (.int .i64 4) := fun y => (cell_block (y.keeps.block gx hX0.lt hgb.out)).trans hX0.c0
          have x1 : ∀ y : Cl.Since (fun b => b < w14.heap.size) v0, y.w.cell? ⟨gx, 1, none⟩ = some (.int .i64 2) := fun y => (cell_block (y.keeps.block gx hX0.lt hgb.out)).trans hX0.c1
          have x2 : ∀ y : Cl.Since (fun b => b < w14.heap.size) v0, y.w.cell? ⟨gx, 2, none⟩ = some (.int .i64 2) := fun y => (cell_block (y.keeps.block gx hX0.lt hgb.out)).trans hX0.c2
          have x3 : ∀ y : Cl.Since (fun b => b < w14.heap.size) v0, y.w.cell? ⟨gx, 3, none⟩ = some (.int .i64 12) := fun y => (cell_block (y.keeps.block gx hX0.lt hgb.out)).trans hX0.c3
          iterate 2 (refine Cl.tree_r rfl ?_; go_big_quiet_step (fail); refine wpQuiet_nil ?_)
          clear hiA hoA hT0 x0 x1 x2 x3 hX0
          replace hbk := Lib.hid hbk
          refine Cl.tree_b rfl rfl ?_ ?_
          · go_wp2_with fail
            refine Cl.way_on (Cl.Keeps.of_below (Ge.below_alloc _ _)) ?_
            have hmx' := hcn.out v0
            have hbp := Ge.below_alloc v0 (.cells (madeCells #[.complex .f64 0 0] 56) 49)
            have hb1 := Lib.hid (hbk.out.trans (hbp.mono hbk.out.size))
            generalize v0.alloc (.cells (madeCells #[.complex .f64 0 0] 56) 49) = v1 at *
            have hmx := Lib.hid hmx'
            clear hmx' hbp
            refine Cl.tree_b rfl rfl ?_ ?_
            · have hrd := read_any hCS.out (B := 4) (P := 2) (W := 2) (K := 12) (ss := ss) (c := 56) hmx.out (by rw [hlS.out]; omega) (by rw [hnS.out, hlS.out]) hslS.out hbS.out
              rw [hlS.out] at hrd
              replace hrd := Lib.hid hrd
              go_wp2_with (go_at_call 19; (with_reducible refine hrd.out.mono ?_); rintro e v2 ⟨k9, l9, q9, nn, dd, er, hRd, A9, c9, rfl, hc9, hs8, hbp⟩)
              refine Cl.way_on (Cl.Keeps.of_below hbp) ?_
              have hsd := Lib.hid hs8
              replace hRd := Lib.hid hRd
              have hb2 := Lib.hid (hb1.out.trans (hbp.mono hb1.out.size))
              clear hrd hs8 hbp
              refine Cl.tree_r rfl ?_
              go_big_quiet_step (fail)
              refine wpQuiet_nil ?_
              refine Cl.tree_r rfl ?_
              go_big_quiet_step (fail)
              refine wpQuiet_nil ?_
              refine Cl.tree_r rfl ?_
              go_big_quiet_step (fail)
              refine wpQuiet_nil ?_
              refine Cl.tree_r rfl ?_
              go_big_quiet_step (fail)
              refine wpQuiet_nil ?_
              refine Cl.tree_r rfl ?_
              go_big_quiet_step (fail)
              refine wpQuiet_nil ?_
              refine Cl.tree_c rfl ?_
              go_wp2_with fail
              refine Cl.way_on (Cl.Keeps.of_below (Ge.below_alloc _ _)) ?_
              have hF := Lib.hid (Hed.new v2 (k9 : Int) (l9 : Int) (q9 : Int))
              have hG := Ge.below_alloc v2 (.cells #[.int .i64 (k9 : Int), .int .i64 (l9 : Int), .int .i64 (q9 : Int)] 25)
              have hs9 := Lib.hid (hsd.out.far hG)
              have hb9 := Lib.hid (hb2.out.trans (hG.mono hb2.out.size))
              have hkp := Lib.hid (keeps_fold v2 (.cells #[.int .i64 0, .int .i64 0, .int .i64 0] 25) (.cells #[.int .i64 (k9 : Int), .int .i64 (l9 : Int), .int .i64 (q9 : Int)] 25) hb2.out.size)
              refine Cl.tree_c rfl ?_
              go_wp2_with fail
              refine Cl.way_on hkp.out ?_
              refine Cl.tree_r rfl ?_
              go_big_quiet_step (fail)
              refine wpQuiet_nil ?_
              refine Cl.tree_r rfl ?_
              go_big_quiet_step (fail)
              refine wpQuiet_nil ?_
              refine Cl.tree_r rfl ?_
              go_big_quiet_step (fail)
              refine wpQuiet_nil ?_
              refine Cl.tree_e ?_
              go_wp2_with fail
              go_meet
              exact ⟨k9, l9, q9, nn, dd, er, A9, c9, _, hRd.out, rfl, hF.out, rfl, hs9.out, rfl, rfl, hb9.out⟩
            · go_wp2_with fail
              refine Cl.way_on (Cl.Keeps.of_below (Ge.below_alloc _ _)) ?_
              have hHn := Hdo.new v1 0 0 0
              have hAl := Ge.below_alloc v1 (.cells #[.int .i64 0, .int .i64 0, .int .i64 0] 25)
              have hge : Hid (w14.heap.size ≤ v1.heap.size) := hb1.out.size
              have hba := Lib.hid (hb1.out.trans (hAl.mono hb1.out.size))
              have hxa := Lib.hid (hmx.out.far hAl)
              generalize v1.alloc (.cells #[.int .i64 0, .int .i64 0, .int .i64 0] 25) = va1 at *
              have hH1 := Lib.hid hHn
              clear hHn hAl
              refine Cl.tree_c rfl ?_
              have hrd := read_any hCS.out (B := 4) (P := 2) (W := 2) (K := 12) (ss := ss) (c := 56) hxa.out (by rw [hlS.out]; omega) (by rw [hnS.out, hlS.out]) hslS.out hbS.out
              rw [hlS.out] at hrd
              replace hrd := Lib.hid hrd
              go_wp2_with (go_at_call 19; (with_reducible refine hrd.out.mono ?_); rintro e v2 ⟨k9, l9, q9, nn, dd, er, hRd, A9, c9, rfl, hc9, hs8, hbp⟩)
              refine Cl.way_on (Cl.Keeps.of_below hbp) ?_
              have hsd := Lib.hid hs8
              replace hRd := Lib.hid hRd
              have hb2 := Lib.hid (hba.out.trans (hbp.mono hba.out.size))
              have hH2 := Lib.hid (hH1.out.keep hbp)
              clear hrd hs8 hbp
              refine Cl.tree_r rfl ?_
              go_big_quiet_step (fail)
              refine wpQuiet_nil ?_
              refine Cl.tree_r rfl ?_
              go_big_quiet_step (fail)
              refine wpQuiet_nil ?_
              refine Cl.tree_r rfl ?_
              go_big_quiet_step (fail)
              refine wpQuiet_nil ?_
              refine Cl.tree_r rfl ?_
              go_big_quiet_step (fail)
              refine wpQuiet_nil ?_
              refine Cl.tree_r rfl ?_
              go_big_quiet_step (fail)
              refine wpQuiet_nil ?_
              have hF := Lib.hid (hH2.out.set_ (k9 : Int) (l9 : Int) (q9 : Int)).hed
              obtain ⟨h1, h2, h3, h4⟩ := hH2.out.hed
              have hfz := hH2.out.frozen
              have hs9 := Lib.hid (hH2.out.sb3 hsd.out (k9 : Int) (l9 : Int) (q9 : Int))
              have hb9 := Lib.hid (below_set3 hb2.out hge.out (.int .i64 (k9 : Int)) (.int .i64 (l9 : Int)) (.int .i64 (q9 : Int)))
              have hkp := Lib.hid (keeps_set3 (w := v2) hge.out (.int .i64 (k9 : Int)) (.int .i64 (l9 : Int)) (.int .i64 (q9 : Int)))
              refine Cl.tree_c rfl ?_
              go_wp2_with fail
              refine Cl.way_on hkp.out ?_
              clear h1 h2 h3 h4 hfz
              refine Cl.tree_r rfl ?_
              go_big_quiet_step (fail)
              refine wpQuiet_nil ?_
              refine Cl.tree_r rfl ?_
              go_big_quiet_step (fail)
              refine wpQuiet_nil ?_
              refine Cl.tree_r rfl ?_
              go_big_quiet_step (fail)
              refine wpQuiet_nil ?_
              refine Cl.tree_e ?_
              go_wp2_with fail
              go_meet
              exact ⟨k9, l9, q9, nn, dd, er, A9, c9, _, hRd.out, rfl, hF.out, rfl, hs9.out, rfl, rfl, hb9.out⟩
          · go_wp2_with fail
            refine Cl.way_on (Cl.Keeps.of_below (Ge.below_alloc _ _)) ?_
            have hHn := Hdo.new v0 0 0 0
            have hAl := Ge.below_alloc v0 (.cells #[.int .i64 0, .int .i64 0, .int .i64 0] 25)
            have hge : Hid (w14.heap.size ≤ v0.heap.size) := hbk.out.size
            have hba := Lib.hid (hbk.out.trans (hAl.mono hbk.out.size))
            generalize v0.alloc (.cells #[.int .i64 0, .int .i64 0, .int .i64 0] 25) = va0 at *
            have hH0 := Lib.hid hHn
            clear hHn hAl
            refine Cl.tree_c rfl ?_
            go_wp2_with fail
            refine Cl.way_on (Cl.Keeps.of_below (Ge.below_alloc _ _)) ?_
            have hmx' := hcn.out va0
            have hbp := Ge.below_alloc va0 (.cells (madeCells #[.complex .f64 0 0] 56) 49)
            have hb1 := Lib.hid (hba.out.trans (hbp.mono hba.out.size))
            have hH1 := Lib.hid (hH0.out.keep hbp)
            generalize va0.alloc (.cells (madeCells #[.complex .f64 0 0] 56) 49) = v1 at *
            have hmx := Lib.hid hmx'
            clear hmx' hbp
            refine Cl.tree_c rfl ?_
            have hrd := read_any hCS.out (B := 4) (P := 2) (W := 2) (K := 12) (ss := ss) (c := 56) hmx.out (by rw [hlS.out]; omega) (by rw [hnS.out, hlS.out]) hslS.out hbS.out
            rw [hlS.out] at hrd
            replace hrd := Lib.hid hrd
            go_wp2_with (go_at_call 19; (with_reducible refine hrd.out.mono ?_); rintro e v2 ⟨k9, l9, q9, nn, dd, er, hRd, A9, c9, rfl, hc9, hs8, hbp⟩)
            refine Cl.way_on (Cl.Keeps.of_below hbp) ?_
            have hsd := Lib.hid hs8
            replace hRd := Lib.hid hRd
            have hb2 := Lib.hid (hb1.out.trans (hbp.mono hb1.out.size))
            have hH2 := Lib.hid (hH1.out.keep hbp)
            clear hrd hs8 hbp
            refine Cl.tree_r rfl ?_
            go_big_quiet_step (fail)
            refine wpQuiet_nil ?_
            refine Cl.tree_r rfl ?_
            go_big_quiet_step (fail)
            refine wpQuiet_nil ?_
            refine Cl.tree_r rfl ?_
            go_big_quiet_step (fail)
            refine wpQuiet_nil ?_
            refine Cl.tree_r rfl ?_
            go_big_quiet_step (fail)
            refine wpQuiet_nil ?_
            refine Cl.tree_r rfl ?_
            go_big_quiet_step (fail)
            refine wpQuiet_nil ?_
            have hF := Lib.hid (hH2.out.set_ (k9 : Int) (l9 : Int) (q9 : Int)).hed
            obtain ⟨h1, h2, h3, h4⟩ := hH2.out.hed
            have hfz := hH2.out.frozen
            have hs9 := Lib.hid (hH2.out.sb3 hsd.out (k9 : Int) (l9 : Int) (q9 : Int))
            have hb9 := Lib.hid (below_set3 hb2.out hge.out (.int .i64 (k9 : Int)) (.int .i64 (l9 : Int)) (.int .i64 (q9 : Int)))
            have hkp := Lib.hid (keeps_set3 (w := v2) hge.out (.int .i64 (k9 : Int)) (.int .i64 (l9 : Int)) (.int .i64 (q9 : Int)))
            refine Cl.tree_c rfl ?_
            go_wp2_with fail
            refine Cl.way_on hkp.out ?_
            clear h1 h2 h3 h4 hfz
            refine Cl.tree_r rfl ?_
            go_big_quiet_step (fail)
            refine wpQuiet_nil ?_
            refine Cl.tree_r rfl ?_
            go_big_quiet_step (fail)
            refine wpQuiet_nil ?_
            refine Cl.tree_r rfl ?_
            go_big_quiet_step (fail)
            refine wpQuiet_nil ?_
            refine Cl.tree_e ?_
            go_wp2_with fail
            go_meet
            exact ⟨k9, l9, q9, nn, dd, er, A9, c9, _, hRd.out, rfl, hF.out, rfl, hs9.out, rfl, rfl, hb9.out⟩
        case rest =>
          obtain ⟨kd, ld, qd, nd, dd, ed, Ad, cd, gd', hRd, rfl, hGd, rfl, hsd, rfl, rfl, hbc⟩ := hcut
          obtain rfl := rd_none (W := 2) (K := 12) hM (by rw [hlS.out]) hbk.out hRd
          obtain ⟨w15, rfl⟩ : ∃ w15, w15 = wc := ⟨_, rfl⟩
          have hT15 := hTS.out.keep hbc
          have hX15 := hXS.out.keep hbc
          have hH15 := hHS.out.keep hbc
          have hG15 := hGS.out.keep hbc
          have hb15 := hbS0.out.trans (hbc.mono hbS0.out.size)
          have hr15 := Lib.hid (hnil.out 0 0 0 0 w15)
          have hj1 := hT15.is hl1.out
          have hj2 := hT15.of
          clear hRd hGd hsd hbc hTS hXS hHS hGS hbS0 hgt hgb hlS hnS hbS hslS hbk hcn hmkc
          go_wp2_with (go_at_call 19; (with_reducible refine hr15.out.mono ?_); rintro e w16 ⟨kf, lf, qf, nf, df, ef, hRf, Af, cf, rfl, hcf, hsf, hk16⟩; obtain rfl := rd_arg hM0 hRf; have hT16 := hT15.keep hk16; have hX16 := hX15.keep hk16; have hH16 := hH15.keep hk16; have hG16 := hG15.keep hk16; have hb16 := hb15.trans (hk16.mono hb15.size))
          have hk17 := Ge.below_alloc w16 (.cells #[.int .i64 (kf : Int), .int .i64 (lf : Int), .int .i64 (qf : Int)] 25)
          have hT17 := hT16.keep hk17
          have hX17 := hX16.keep hk17
          have hH17 := hH16.keep hk17
          have hG17 := hG16.keep hk17
          have hb17 := hb16.trans (hk17.mono hb16.size)
          generalize w16.alloc (.cells #[.int .i64 (kf : Int), .int .i64 (lf : Int), .int .i64 (qf : Int)] 25) = w17 at *
          have hTS := Lib.hid hT17
          have hXS := Lib.hid hX17
          have hHS := Lib.hid hH17
          have hGS := Lib.hid hG17
          have hbS0 := Lib.hid hb17
          have hgt : Hid (g1 < w17.heap.size) := hT17.lt
          have hgb : Hid (gx < w17.heap.size) := hX17.lt
          obtain ⟨S0, hS0⟩ : ∃ S0, List.replicate 56 0 = S0 := ⟨_, rfl⟩
          have hnS : Hid (S0.length = 56) := by rw [← hS0]; exact List.length_replicate
          have hbS : Hid (∀ y ∈ S0, y < 1024) := by rw [← hS0]; exact fun y hy => by rw [(List.mem_replicate.1 hy).2]; decide
          have hun : Hid (∀ w' : World, Sl (w'.alloc (.cells (madeCells #[.int .u16 0] 56) 29)) (w'.alloc (.cells (madeCells #[.int .u16 0] 56) 29)).heap.size (some ⟨w'.heap.size, 0, none⟩) S0) := fun w' => by
            have hA := Arr.new w' (List.replicate 56 0)
            rw [← made_uv, hS0] at hA
            exact hA.sl fun y hy => by have := hbS.out y hy; omega
          have hmku : ∀ w' : World, (Instr.makeSlice 35 (.int .i64 56) (.int .i64 56)).run Try.prog w' = .ok (.slice (some ⟨w'.heap.size, 0, none⟩) 56 56) (w'.alloc (.cells (madeCells #[.int .u16 0] 56) 29)) := run_make_row' (P := Try.prog) 35 29 (.int .u16 0) 2 Try.underlying35 info22 rfl .i64 .i64 56 (by decide) (by decide)
          replace hS0 := Lib.hid hS0
          clear hT15 hX15 hH15 hG15 hb15 hT16 hX16 hH16 hG16 hb16 hT17 hX17 hH17 hG17 hb17 hk16 hk17 hsf hRf hcf hj1 hj2 hr15
          go_cut [32, 33, 34, 35] from 131 to 140 (fun sm sd sn sf wx => ∃ (k9 l9 q9 n9 : Nat) (d9 : List Nat) (e9 : Nat) (A9 : Option Addr) (c9 g9 : Nat), RdS 4 2 2 12 (S0.map ptB) S0 k9 l9 q9 n9 d9 e9 ∧ sm = .pointer (some ⟨g9, 0, none⟩) ∧ Hed wx g9 (k9 : Int) (l9 : Int) (q9 : Int) ∧ sd = .slice A9 d9.length c9 ∧ Sb wx wx.heap.size A9 d9 ∧ sn = .int .i64 (n9 : Int) ∧ sf = .int .i64 (e9 : Int) ∧ Below w17.heap.size w17 wx)
          case first =>
            refine Cl.region_tree (fun b => b < w17.heap.size) 15 (.r 0 <| .r 1 <| .b 2 10 (.b 3 10 (.b 4 10 (.r 5 <| .r 6 <| .r 7 <| .r 8 <| .r 9 <| .c 10 <| .c 11 <| .r 12 <| .r 13 <| .r 14 <| .e) (.c 4 <| .r 5 <| .r 6 <| .r 7 <| .r 8 <| .r 9 <| .c 11 <| .r 12 <| .r 13 <| .r 14 <| .e)) (.c 3 <| .c 4 <| .r 5 <| .r 6 <| .r 7 <| .r 8 <| .r 9 <| .c 11 <| .r 12 <| .r 13 <| .r 14 <| .e)) (.c 2 <| .c 3 <| .c 4 <| .r 5 <| .r 6 <| .r 7 <| .r 8 <| .r 9 <| .c 11 <| .r 12 <| .r 13 <| .r 14 <| .e)) (by kernel_rfl) (by kernel_rfl) ?_
            intro v0 hk0
            have hbk := Cl.Keeps.below hk0
            have hT0 := hTS.out.keep hbk
            have hiA : ∀ y : Cl.Since (fun b => b < w17.heap.size) v0, isTb y.w g1 = true := fun y => (show Tb y.w g1 cs from (y.keeps.block g1 hT0.lt hgt.out).trans hT0).is hCS.out.1
            have hoA : ∀ y : Cl.Since (fun b => b < w17.heap.size) v0, tbOf y.w g1 = cells cs := fun y => (show Tb y.w g1 cs from (y.keeps.block g1 hT0.lt hgt.out).trans hT0).of
            have hX0 := hXS.out.keep hbk
            have x0 : ∀ y : Cl.Since (fun b => b < w17.heap.size) v0, y.w.cell? ⟨gx, 0, none⟩ = some (.int .i64 4) := fun y => (cell_block (y.keeps.block gx hX0.lt hgb.out)).trans hX0.c0
            have x1 : ∀ y : Cl.Since (fun b => b < w17.heap.size) v0, y.w.cell? ⟨gx, 1, none⟩ = some (.int .i64 2) := fun y => (cell_block (y.keeps.block gx hX0.lt hgb.out)).trans hX0.c1
            have x2 : ∀ y : Cl.Since (fun b => b < w17.heap.size) v0, y.w.cell? ⟨gx, 2, none⟩ = some (.int .i64 2) := fun y => (cell_block (y.keeps.block gx hX0.lt hgb.out)).trans hX0.c2
            have x3 : ∀ y : Cl.Since (fun b => b < w17.heap.size) v0, y.w.cell? ⟨gx, 3, none⟩ = some (.int .i64 12) := fun y => (cell_block (y.keeps.block gx hX0.lt hgb.out)).trans hX0.c3
            iterate 2 (refine Cl.tree_r rfl ?_; go_big_quiet_step (fail); refine wpQuiet_nil ?_)
            clear hiA hoA hT0 x0 x1 x2 x3 hX0
            replace hbk := Lib.hid hbk
            refine Cl.tree_b rfl rfl ?_ ?_
            · go_wp2_with fail
              refine Cl.way_on (Cl.Keeps.of_below (Ge.below_alloc _ _)) ?_
              have hmx' := hun.out v0
              have hbp := Ge.below_alloc v0 (.cells (madeCells #[.int .u16 0] 56) 29)
              have hb1 := Lib.hid (hbk.out.trans (hbp.mono hbk.out.size))
              generalize v0.alloc (.cells (madeCells #[.int .u16 0] 56) 29) = v1 at *
              have hmx := Lib.hid hmx'
              clear hmx' hbp
              refine Cl.tree_b rfl rfl ?_ ?_
              · have hpc := lawpts_any (c := 56) (hmx.out) (by rw [hnS.out]; exact hn6)
                rw [hnS.out] at hpc
                replace hpc := Lib.hid hpc
                go_wp2_with (go_at_call 20; (with_reducible refine hpc.out.mono ?_); rintro e v2 ⟨vp, rfl, hop, hbp⟩)
                refine Cl.way_on (Cl.Keeps.of_below hbp) ?_
                obtain ⟨Ap, cp, rfl, hcp, hpx'⟩ := hop.cx
                have hlp : (S0.map ptB).length = 56 := by rw [List.length_map, hnS.out]
                rw [hlp]
                have hpx := Lib.hid hpx'
                have hb2 := Lib.hid (hb1.out.trans (hbp.mono hb1.out.size))
                clear hpc hpx' hop hcp hbp hlp
                refine Cl.tree_b rfl rfl ?_ ?_
                · have hrd := read_any hCS.out (B := 4) (P := 2) (W := 2) (K := 12) (ss := S0) (c := cp) hpx.out (by rw [List.length_map, hnS.out]; omega) (by rw [List.length_map]) (pts_slc hbS.out) hbS.out
                  rw [List.length_map, hnS.out] at hrd
                  replace hrd := Lib.hid hrd
                  go_wp2_with (go_at_call 19; (with_reducible refine hrd.out.mono ?_); rintro e v3 ⟨k9, l9, q9, nn, dd, er, hRd, A9, c9, rfl, hc9, hs8, hbp⟩)
                  refine Cl.way_on (Cl.Keeps.of_below hbp) ?_
                  have hsd := Lib.hid hs8
                  replace hRd := Lib.hid hRd
                  have hb3 := Lib.hid (hb2.out.trans (hbp.mono hb2.out.size))
                  clear hrd hs8 hbp
                  refine Cl.tree_r rfl ?_
                  go_big_quiet_step (fail)
                  refine wpQuiet_nil ?_
                  refine Cl.tree_r rfl ?_
                  go_big_quiet_step (fail)
                  refine wpQuiet_nil ?_
                  refine Cl.tree_r rfl ?_
                  go_big_quiet_step (fail)
                  refine wpQuiet_nil ?_
                  refine Cl.tree_r rfl ?_
                  go_big_quiet_step (fail)
                  refine wpQuiet_nil ?_
                  refine Cl.tree_r rfl ?_
                  go_big_quiet_step (fail)
                  refine wpQuiet_nil ?_
                  refine Cl.tree_c rfl ?_
                  go_wp2_with fail
                  refine Cl.way_on (Cl.Keeps.of_below (Ge.below_alloc _ _)) ?_
                  have hF := Lib.hid (Hed.new v3 (k9 : Int) (l9 : Int) (q9 : Int))
                  have hG := Ge.below_alloc v3 (.cells #[.int .i64 (k9 : Int), .int .i64 (l9 : Int), .int .i64 (q9 : Int)] 25)
                  have hs9 := Lib.hid (hsd.out.far hG)
                  have hb9 := Lib.hid (hb3.out.trans (hG.mono hb3.out.size))
                  have hkp := Lib.hid (keeps_fold v3 (.cells #[.int .i64 0, .int .i64 0, .int .i64 0] 25) (.cells #[.int .i64 (k9 : Int), .int .i64 (l9 : Int), .int .i64 (q9 : Int)] 25) hb3.out.size)
                  refine Cl.tree_c rfl ?_
                  go_wp2_with fail
                  refine Cl.way_on hkp.out ?_
                  refine Cl.tree_r rfl ?_
                  go_big_quiet_step (fail)
                  refine wpQuiet_nil ?_
                  refine Cl.tree_r rfl ?_
                  go_big_quiet_step (fail)
                  refine wpQuiet_nil ?_
                  refine Cl.tree_r rfl ?_
                  go_big_quiet_step (fail)
                  refine wpQuiet_nil ?_
                  refine Cl.tree_e ?_
                  go_wp2_with fail
                  go_meet
                  exact ⟨k9, l9, q9, nn, dd, er, A9, c9, _, hRd.out, rfl, hF.out, rfl, hs9.out, rfl, rfl, hb9.out⟩
                · go_wp2_with fail
                  refine Cl.way_on (Cl.Keeps.of_below (Ge.below_alloc _ _)) ?_
                  have hHn := Hdo.new v2 0 0 0
                  have hAl := Ge.below_alloc v2 (.cells #[.int .i64 0, .int .i64 0, .int .i64 0] 25)
                  have hge : Hid (w17.heap.size ≤ v2.heap.size) := hb2.out.size
                  have hba := Lib.hid (hb2.out.trans (hAl.mono hb2.out.size))
                  have hxa := Lib.hid (hpx.out.far hAl)
                  generalize v2.alloc (.cells #[.int .i64 0, .int .i64 0, .int .i64 0] 25) = va2 at *
                  have hH2 := Lib.hid hHn
                  clear hHn hAl
                  refine Cl.tree_c rfl ?_
                  have hrd := read_any hCS.out (B := 4) (P := 2) (W := 2) (K := 12) (ss := S0) (c := cp) hxa.out (by rw [List.length_map, hnS.out]; omega) (by rw [List.length_map]) (pts_slc hbS.out) hbS.out
                  rw [List.length_map, hnS.out] at hrd
                  replace hrd := Lib.hid hrd
                  go_wp2_with (go_at_call 19; (with_reducible refine hrd.out.mono ?_); rintro e v3 ⟨k9, l9, q9, nn, dd, er, hRd, A9, c9, rfl, hc9, hs8, hbp⟩)
                  refine Cl.way_on (Cl.Keeps.of_below hbp) ?_
                  have hsd := Lib.hid hs8
                  replace hRd := Lib.hid hRd
                  have hb3 := Lib.hid (hba.out.trans (hbp.mono hba.out.size))
                  have hH3 := Lib.hid (hH2.out.keep hbp)
                  clear hrd hs8 hbp
                  refine Cl.tree_r rfl ?_
                  go_big_quiet_step (fail)
                  refine wpQuiet_nil ?_
                  refine Cl.tree_r rfl ?_
                  go_big_quiet_step (fail)
                  refine wpQuiet_nil ?_
                  refine Cl.tree_r rfl ?_
                  go_big_quiet_step (fail)
                  refine wpQuiet_nil ?_
                  refine Cl.tree_r rfl ?_
                  go_big_quiet_step (fail)
                  refine wpQuiet_nil ?_
                  refine Cl.tree_r rfl ?_
                  go_big_quiet_step (fail)
                  refine wpQuiet_nil ?_
                  have hF := Lib.hid (hH3.out.set_ (k9 : Int) (l9 : Int) (q9 : Int)).hed
                  obtain ⟨h1, h2, h3, h4⟩ := hH3.out.hed
                  have hfz := hH3.out.frozen
                  have hs9 := Lib.hid (hH3.out.sb3 hsd.out (k9 : Int) (l9 : Int) (q9 : Int))
                  have hb9 := Lib.hid (below_set3 hb3.out hge.out (.int .i64 (k9 : Int)) (.int .i64 (l9 : Int)) (.int .i64 (q9 : Int)))
                  have hkp := Lib.hid (keeps_set3 (w := v3) hge.out (.int .i64 (k9 : Int)) (.int .i64 (l9 : Int)) (.int .i64 (q9 : Int)))
                  refine Cl.tree_c rfl ?_
                  go_wp2_with fail
                  refine Cl.way_on hkp.out ?_
                  clear h1 h2 h3 h4 hfz
                  refine Cl.tree_r rfl ?_
                  go_big_quiet_step (fail)
                  refine wpQuiet_nil ?_
                  refine Cl.tree_r rfl ?_
                  go_big_quiet_step (fail)
                  refine wpQuiet_nil ?_
                  refine Cl.tree_r rfl ?_
                  go_big_quiet_step (fail)
                  refine wpQuiet_nil ?_
                  refine Cl.tree_e ?_
                  go_wp2_with fail
                  go_meet
                  exact ⟨k9, l9, q9, nn, dd, er, A9, c9, _, hRd.out, rfl, hF.out, rfl, hs9.out, rfl, rfl, hb9.out⟩
              · go_wp2_with fail
                refine Cl.way_on (Cl.Keeps.of_below (Ge.below_alloc _ _)) ?_
                have hHn := Hdo.new v1 0 0 0
                have hAl := Ge.below_alloc v1 (.cells #[.int .i64 0, .int .i64 0, .int .i64 0] 25)
                have hge : Hid (w17.heap.size ≤ v1.heap.size) := hb1.out.size
                have hba := Lib.hid (hb1.out.trans (hAl.mono hb1.out.size))
                have hxa := Lib.hid (hmx.out.far hAl)
                generalize v1.alloc (.cells #[.int .i64 0, .int .i64 0, .int .i64 0] 25) = va1 at *
                have hH1 := Lib.hid hHn
                clear hHn hAl
                refine Cl.tree_c rfl ?_
                have hpc := lawpts_any (c := 56) (hxa.out) (by rw [hnS.out]; exact hn6)
                rw [hnS.out] at hpc
                replace hpc := Lib.hid hpc
                go_wp2_with (go_at_call 20; (with_reducible refine hpc.out.mono ?_); rintro e v2 ⟨vp, rfl, hop, hbp⟩)
                refine Cl.way_on (Cl.Keeps.of_below hbp) ?_
                obtain ⟨Ap, cp, rfl, hcp, hpx'⟩ := hop.cx
                have hlp : (S0.map ptB).length = 56 := by rw [List.length_map, hnS.out]
                rw [hlp]
                have hpx := Lib.hid hpx'
                have hb2 := Lib.hid (hba.out.trans (hbp.mono hba.out.size))
                have hH2 := Lib.hid (hH1.out.keep hbp)
                clear hpc hpx' hop hcp hbp hlp
                refine Cl.tree_c rfl ?_
                have hrd := read_any hCS.out (B := 4) (P := 2) (W := 2) (K := 12) (ss := S0) (c := cp) hpx.out (by rw [List.length_map, hnS.out]; omega) (by rw [List.length_map]) (pts_slc hbS.out) hbS.out
                rw [List.length_map, hnS.out] at hrd
                replace hrd := Lib.hid hrd
                go_wp2_with (go_at_call 19; (with_reducible refine hrd.out.mono ?_); rintro e v3 ⟨k9, l9, q9, nn, dd, er, hRd, A9, c9, rfl, hc9, hs8, hbp⟩)
                refine Cl.way_on (Cl.Keeps.of_below hbp) ?_
                have hsd := Lib.hid hs8
                replace hRd := Lib.hid hRd
                have hb3 := Lib.hid (hb2.out.trans (hbp.mono hb2.out.size))
                have hH3 := Lib.hid (hH2.out.keep hbp)
                clear hrd hs8 hbp
                refine Cl.tree_r rfl ?_
                go_big_quiet_step (fail)
                refine wpQuiet_nil ?_
                refine Cl.tree_r rfl ?_
                go_big_quiet_step (fail)
                refine wpQuiet_nil ?_
                refine Cl.tree_r rfl ?_
                go_big_quiet_step (fail)
                refine wpQuiet_nil ?_
                refine Cl.tree_r rfl ?_
                go_big_quiet_step (fail)
                refine wpQuiet_nil ?_
                refine Cl.tree_r rfl ?_
                go_big_quiet_step (fail)
                refine wpQuiet_nil ?_
                have hF := Lib.hid (hH3.out.set_ (k9 : Int) (l9 : Int) (q9 : Int)).hed
                obtain ⟨h1, h2, h3, h4⟩ := hH3.out.hed
                have hfz := hH3.out.frozen
                have hs9 := Lib.hid (hH3.out.sb3 hsd.out (k9 : Int) (l9 : Int) (q9 : Int))
                have hb9 := Lib.hid (below_set3 hb3.out hge.out (.int .i64 (k9 : Int)) (.int .i64 (l9 : Int)) (.int .i64 (q9 : Int)))
                have hkp := Lib.hid (keeps_set3 (w := v3) hge.out (.int .i64 (k9 : Int)) (.int .i64 (l9 : Int)) (.int .i64 (q9 : Int)))
                refine Cl.tree_c rfl ?_
                go_wp2_with fail
                refine Cl.way_on hkp.out ?_
                clear h1 h2 h3 h4 hfz
                refine Cl.tree_r rfl ?_
                go_big_quiet_step (fail)
                refine wpQuiet_nil ?_
                refine Cl.tree_r rfl ?_
                go_big_quiet_step (fail)
                refine wpQuiet_nil ?_
                refine Cl.tree_r rfl ?_
                go_big_quiet_step (fail)
                refine wpQuiet_nil ?_
                refine Cl.tree_e ?_
                go_wp2_with fail
                go_meet
                exact ⟨k9, l9, q9, nn, dd, er, A9, c9, _, hRd.out, rfl, hF.out, rfl, hs9.out, rfl, rfl, hb9.out⟩
            · go_wp2_with fail
              refine Cl.way_on (Cl.Keeps.of_below (Ge.below_alloc _ _)) ?_
              have hHn := Hdo.new v0 0 0 0
              have hAl := Ge.below_alloc v0 (.cells #[.int .i64 0, .int .i64 0, .int .i64 0] 25)
              have hge : Hid (w17.heap.size ≤ v0.heap.size) := hbk.out.size
              have hba := Lib.hid (hbk.out.trans (hAl.mono hbk.out.size))
              generalize v0.alloc (.cells #[.int .i64 0, .int .i64 0, .int .i64 0] 25) = va0 at *
              have hH0 := Lib.hid hHn
              clear hHn hAl
              refine Cl.tree_c rfl ?_
              go_wp2_with fail
              refine Cl.way_on (Cl.Keeps.of_below (Ge.below_alloc _ _)) ?_
              have hmx' := hun.out va0
              have hbp := Ge.below_alloc va0 (.cells (madeCells #[.int .u16 0] 56) 29)
              have hb1 := Lib.hid (hba.out.trans (hbp.mono hba.out.size))
              have hH1 := Lib.hid (hH0.out.keep hbp)
              generalize va0.alloc (.cells (madeCells #[.int .u16 0] 56) 29) = v1 at *
              have hmx := Lib.hid hmx'
              clear hmx' hbp
              refine Cl.tree_c rfl ?_
              have hpc := lawpts_any (c := 56) (hmx.out) (by rw [hnS.out]; exact hn6)
              rw [hnS.out] at hpc
              replace hpc := Lib.hid hpc
              go_wp2_with (go_at_call 20; (with_reducible refine hpc.out.mono ?_); rintro e v2 ⟨vp, rfl, hop, hbp⟩)
              refine Cl.way_on (Cl.Keeps.of_below hbp) ?_
              obtain ⟨Ap, cp, rfl, hcp, hpx'⟩ := hop.cx
              have hlp : (S0.map ptB).length = 56 := by rw [List.length_map, hnS.out]
              rw [hlp]
              have hpx := Lib.hid hpx'
              have hb2 := Lib.hid (hb1.out.trans (hbp.mono hb1.out.size))
              have hH2 := Lib.hid (hH1.out.keep hbp)
              clear hpc hpx' hop hcp hbp hlp
              refine Cl.tree_c rfl ?_
              have hrd := read_any hCS.out (B := 4) (P := 2) (W := 2) (K := 12) (ss := S0) (c := cp) hpx.out (by rw [List.length_map, hnS.out]; omega) (by rw [List.length_map]) (pts_slc hbS.out) hbS.out
              rw [List.length_map, hnS.out] at hrd
              replace hrd := Lib.hid hrd
              go_wp2_with (go_at_call 19; (with_reducible refine hrd.out.mono ?_); rintro e v3 ⟨k9, l9, q9, nn, dd, er, hRd, A9, c9, rfl, hc9, hs8, hbp⟩)
              refine Cl.way_on (Cl.Keeps.of_below hbp) ?_
              have hsd := Lib.hid hs8
              replace hRd := Lib.hid hRd
              have hb3 := Lib.hid (hb2.out.trans (hbp.mono hb2.out.size))
              have hH3 := Lib.hid (hH2.out.keep hbp)
              clear hrd hs8 hbp
              refine Cl.tree_r rfl ?_
              go_big_quiet_step (fail)
              refine wpQuiet_nil ?_
              refine Cl.tree_r rfl ?_
              go_big_quiet_step (fail)
              refine wpQuiet_nil ?_
              refine Cl.tree_r rfl ?_
              go_big_quiet_step (fail)
              refine wpQuiet_nil ?_
              refine Cl.tree_r rfl ?_
              go_big_quiet_step (fail)
              refine wpQuiet_nil ?_
              refine Cl.tree_r rfl ?_
              go_big_quiet_step (fail)
              refine wpQuiet_nil ?_
              have hF := Lib.hid (hH3.out.set_ (k9 : Int) (l9 : Int) (q9 : Int)).hed
              obtain ⟨h1, h2, h3, h4⟩ := hH3.out.hed
              have hfz := hH3.out.frozen
              have hs9 := Lib.hid (hH3.out.sb3 hsd.out (k9 : Int) (l9 : Int) (q9 : Int))
              have hb9 := Lib.hid (below_set3 hb3.out hge.out (.int .i64 (k9 : Int)) (.int .i64 (l9 : Int)) (.int .i64 (q9 : Int)))
              have hkp := Lib.hid (keeps_set3 (w := v3) hge.out (.int .i64 (k9 : Int)) (.int .i64 (l9 : Int)) (.int .i64 (q9 : Int)))
              refine Cl.tree_c rfl ?_
              go_wp2_with fail
              refine Cl.way_on hkp.out ?_
              clear h1 h2 h3 h4 hfz
              refine Cl.tree_r rfl ?_
              go_big_quiet_step (fail)
              refine wpQuiet_nil ?_
              refine Cl.tree_r rfl ?_
              go_big_quiet_step (fail)
              refine wpQuiet_nil ?_
              refine Cl.tree_r rfl ?_
              go_big_quiet_step (fail)
              refine wpQuiet_nil ?_
              refine Cl.tree_e ?_
              go_wp2_with fail
              go_meet
              exact ⟨k9, l9, q9, nn, dd, er, A9, c9, _, hRd.out, rfl, hF.out, rfl, hs9.out, rfl, rfl, hb9.out⟩
          case rest =>
            obtain ⟨kg, lg, qg, ng, dg, eg, Ag, cg, gg, hRd, rfl, hGd, rfl, hsd, rfl, rfl, hbc⟩ := hcut
            rw [← hS0.out] at hRd
            obtain rfl := rd_zeros hRd
            have hHc := hHS.out.keep hbc
            have hGc := hGS.out.keep hbc
            have hbw := hbS0.out.trans (hbc.mono hbS0.out.size)
            obtain ⟨y1, y2, y3, y4⟩ := id hHc
            obtain ⟨z1, z2, z3, z4⟩ := id hGc
            have hbl := blank_any none 0 [] wc (Cx.nil _ _ _) (by decide)
            rw [show blkB [] = true from rfl, List.length_nil] at hbl
            replace hbl := Lib.hid hbl
            clear hRd hGd hsd hbc hTS hXS hHS hGS hbS0 hgt hgb hnS hbS hun hmku hHc hGc
            go_wp2_with (go_at_call 23; (with_reducible refine hbl.out.mono ?_); rintro e w18 ⟨rfl, rfl⟩)
            go_ret
            exact ⟨rfl, hbw⟩
end Go.Proofs.Ytmchelbmeajcnaa
