/- Statement CodeKnown: the law returns true. -/
import Derived.Test.YtciafkobnlfpbaaCv
import Derived.Test.YtciafkobnlfpbaaCx
import Derived.Test.YtciafkobnlfpbaaEk
namespace Go.Proofs.Ytciafkobnlfpbaa
open Go.RowKit Go.Gf
attribute [local go_sem ↓] exec_load_tb Cl.quiet_since
attribute [local go_sem] tbAt_ptr tbIn_ptr

theorem mk1008 : ∃ N : Nat, N = 1008 ∧ ∀ w, (Instr.makeSlice 22 (.int .i64 1008) (.int .i64 1008)).run Try.prog w = .ok (.slice (some ⟨w.heap.size, 0, none⟩) N N) (w.alloc (.cells (madeCells #[.int .u16 0] N) 23)) :=
  ⟨1008, rfl, run_make_row' (P := Try.prog) 22 23 (.int .u16 0) 2 Try.underlying22 info22 rfl .i64 .i64 1008 (by decide) (by decide)⟩
theorem mk16 : ∃ N : Nat, N = 16 ∧ ∀ w, (Instr.makeSlice 22 (.int .i64 16) (.int .i64 16)).run Try.prog w = .ok (.slice (some ⟨w.heap.size, 0, none⟩) N N) (w.alloc (.cells (madeCells #[.int .u16 0] N) 23)) :=
  ⟨16, rfl, run_make_row' (P := Try.prog) 22 23 (.int .u16 0) 2 Try.underlying22 info22 rfl .i64 .i64 16 (by decide) (by decide)⟩
theorem mk1024 : ∃ N : Nat, N = 1024 ∧ ∀ w, (Instr.makeSlice 22 (.int .i64 1024) (.int .i64 1024)).run Try.prog w = .ok (.slice (some ⟨w.heap.size, 0, none⟩) N N) (w.alloc (.cells (madeCells #[.int .u16 0] N) 23)) :=
  ⟨1024, rfl, run_make_row' (P := Try.prog) 22 23 (.int .u16 0) 2 Try.underlying22 info22 rfl .i64 .i64 1024 (by decide) (by decide)⟩
theorem mk20 : ∃ N : Nat, N = 20 ∧ ∀ w, (Instr.makeSlice 22 (.int .i64 20) (.int .i64 20)).run Try.prog w = .ok (.slice (some ⟨w.heap.size, 0, none⟩) N N) (w.alloc (.cells (madeCells #[.int .u16 0] N) 23)) :=
  ⟨20, rfl, run_make_row' (P := Try.prog) 22 23 (.int .u16 0) 2 Try.underlying22 info22 rfl .i64 .i64 20 (by decide) (by decide)⟩
theorem mk40 : ∃ N : Nat, N = 40 ∧ ∀ w, (Instr.makeSlice 22 (.int .i64 40) (.int .i64 40)).run Try.prog w = .ok (.slice (some ⟨w.heap.size, 0, none⟩) N N) (w.alloc (.cells (madeCells #[.int .u16 0] N) 23)) :=
  ⟨40, rfl, run_make_row' (P := Try.prog) 22 23 (.int .u16 0) 2 Try.underlying22 info22 rfl .i64 .i64 40 (by decide) (by decide)⟩
theorem sl_made (w : World) (n : Nat) : Sl (w.alloc (.cells (madeCells #[.int .u16 0] n) 23)) (w.alloc (.cells (madeCells #[.int .u16 0] n) 23)).heap.size (some ⟨w.heap.size, 0, none⟩) (List.replicate n 0) := by
  rw [made_uv]
  exact (Arr.new w _).sl fun y hy => by
    obtain ⟨_, rfl⟩ := List.mem_replicate.1 hy
    decide
/-- the word behind k of the eight stores -/
def wk (k j : Nat) : Nat := if j % 5 = 0 ∧ j < 5 * k then j / 5 + 1 else 0
theorem dist21 {A B : Option Addr} {w : World} (ha : Sl w w.heap.size A [1, 2]) (hb : Sl w w.heap.size B [1]) : Calls Try.prog 19 #[.slice A 2 2, .slice B 1 1] w (Leaves w (.int .i64 1)) := by
  have := cod_dist (ca := 2) (cb := 1) ha hb (by decide) (by decide)
  exact this
theorem syn_none (cs : List Nat) (hl : Laid cs 1023) (w : World) : Calls Try.prog 18 #[.agg (cells cs), .slice none 0 0] w fun e w' => ∃ A c, e = .returned (.slice A 16 c) ∧ Below w.heap.size w w' := by
  have := cod_syn (A := none) (ca := 0) (xs := []) hl (Sl.nil w _ none) (by decide) (by decide)
  refine Calls.mono this ?_
  rintro e w' ⟨A, c, rfl, _, _, hb⟩
  exact ⟨A, c, by rw [sums_len16], hb⟩
set_option maxRecDepth 20000 in
set_option maxHeartbeats 16000000 in
theorem known_law (w : World) : Calls Try.prog 6 #[] w (Leaves w (.bool true)) := by
  have hz := zero27
  obtain ⟨N1008, hN1008, hmk1008⟩ := mk1008
  replace hN1008 := Lib.hid hN1008
  obtain ⟨N16, hN16, hmk16⟩ := mk16
  replace hN16 := Lib.hid hN16
  obtain ⟨N1024, hN1024, hmk1024⟩ := mk1024
  replace hN1024 := Lib.hid hN1024
  obtain ⟨N20, hN20, hmk20⟩ := mk20
  replace hN20 := Lib.hid hN20
  obtain ⟨N40, hN40, hmk40⟩ := mk40
  replace hN40 := Lib.hid hN40
  have hE1008 : Hid (encE (List.replicate N1008 0) = 3) := encE_size (Or.inr (by rw [List.length_replicate, hN1008.out]; decide))
  have hW1008 : Hid (encW (List.replicate N1008 0) = []) := by unfold Hid encW; rw [hE1008.out]; rfl
  go_enter Try.func6, Try.ntmps6
  go_wp2_with fail
  have hW : Hid (Below w.heap.size w w) := Lib.hid (Below.refl _ _)
  have hc := awake_any w
  replace hc := Lib.hid hc
  refine hc.out.mono ?_
  rintro e w1 ⟨rfl, hb⟩
  clear hc
  have hW := Lib.hid (hW.out.trans (hb.mono hW.out.size))
  clear hb
  go_wp2_with fail
  refine (make_any _).mono ?_
  rintro e w2 ⟨cs, rfl, hl, hb⟩
  have hb0 := hW.out.trans (hb.mono hW.out.size)
  clear hb hW
  go_wp2_with (refine wpList_store_row rfl 28 _ _ rfl w2.heap.size (cells cs) rfl rfl 28 (cells ZT) (heap_alloc_new w2 _) (rsize hl) (zsize hl) (cells_one cs) ?_)
  have hS := St.start (cs := cs) hb0 (cells ZT)
  have hb : Below w2.heap.size w2 ((w2.alloc (Obj.cells (cells ZT) 28)).setRow w2.heap.size (cells cs)) := below_setRow ((Below.refl _ _).alloc (Nat.le_refl _) _) (Nat.le_refl _) _
  clear hb0 hb
  generalize hg : w2.heap.size = g at hS ⊢
  skip
  generalize (w2.alloc (Obj.cells (cells ZT) 28)).setRow g (cells cs) = w3 at *
  clear hg hz
  have hi := hS.is hl.1
  have ho := hS.of
  go_wp2_with fail
  have hc := cod_encode (w := w3) (A := none) (ca := 0) (xs := []) hl (Sl.nil _ _ _) (by decide) (by decide)
  rw [List.length_nil] at hc
  rw [show encW [] = [] from by decide +kernel] at hc
  rw [show encE [] = 3 from by decide +kernel] at hc
  replace hc := Lib.hid hc
  refine hc.out.mono ?_
  rintro e w4 ⟨A1, c1, rfl, hc1, -, -, hb⟩
  clear hc
  have hS := hS.next hb
  have hi := hS.is hl.1
  have ho := hS.of
  clear hb
  go_wp2_with fail
  refine Cl.region_way (fun _ => True) 8 [(0, .r), (1, .c), (2, .c), (3, .r), (4, .r), (5, .r), (6, .r), (7, .r)] (by kernel_rfl) (by kernel_rfl) ?_
  intro w5 hk
  have hb := Cl.Keeps.below hk
  clear hk
  have hS := hS.next hb
  have hi := hS.is hl.1
  have ho := hS.of
  clear hb
  have hiA : ∀ y : Cl.Since (fun _ => True) w5, isTb y.w g = true := fun y => (hS.next (Cl.Keeps.below y.keeps)).is hl.1
  have hoA : ∀ y : Cl.Since (fun _ => True) w5, tbOf y.w g = cells cs := fun y => (hS.next (Cl.Keeps.below y.keeps)).of
  iterate 1 (refine Cl.way_r rfl ?_; go_big_quiet_step (fail); refine wpQuiet_nil ?_)
  clear hiA hoA
  refine Cl.way_c rfl ?_
  have hm := sl_made w5 N1008
  have hb := below_alloc w5 (.cells (madeCells #[.int .u16 0] N1008) 23)
  have hbk := Lib.hid hb
  go_wp2_with fail
  refine Cl.way_on (Cl.Keeps.of_below hbk.out) ?_
  have hS := hS.next hb
  have hi := hS.is hl.1
  have ho := hS.of
  clear hb
  clear hbk
  replace hm := Lib.hid hm
  generalize w5.alloc (.cells (madeCells #[.int .u16 0] N1008) 23) = w6 at *
  generalize hgm1008 : w5.heap.size = gm1008 at hm ⊢
  clear hgm1008
  refine Cl.way_c rfl ?_
  go_wp2_with fail
  have hc := cod_encode (ca := N1008) hl hm.out (by rw [List.length_replicate, hN1008.out]; decide) (by rw [List.length_replicate]; exact Nat.le_refl _)
  rw [List.length_replicate] at hc
  rw [hW1008.out] at hc
  rw [hE1008.out] at hc
  replace hc := Lib.hid hc
  clear hm
  refine hc.out.mono ?_
  rintro e w7 ⟨A2, c2, rfl, hc2, -, -, hb⟩
  clear hc
  have hbk := Lib.hid hb
  have hS := hS.next hb
  have hi := hS.is hl.1
  have ho := hS.of
  clear hb
  go_wp2_with fail
  refine Cl.way_on (Cl.Keeps.of_below hbk.out) ?_
  clear hbk
  iterate 5 (refine Cl.way_r rfl ?_; go_big_quiet_step (fail); refine wpQuiet_nil ?_)
  refine Cl.way_end ?_
  go_wp2_with fail
  have hx := sl_new w7 (.cells #[.int .u16 1024] 23) [1024] (w7.heap.size) rfl rfl (by decide)
  have hb := below_alloc w7 (.cells #[.int .u16 1024] 23)
  have hS := hS.next hb
  have hi := hS.is hl.1
  have ho := hS.of
  clear hb
  replace hx := Lib.hid hx
  generalize (w7.alloc (.cells #[.int .u16 1024] 23)) = w8 at *
  have hc := cod_encode (ca := 1) hl hx.out (by decide) (by decide)
  rw [show ([1024] : List Nat).length = 1 from rfl] at hc
  rw [show encW [1024] = [] from by decide +kernel] at hc
  rw [show encE [1024] = 1 from by decide +kernel] at hc
  replace hc := Lib.hid hc
  clear hx
  refine hc.out.mono ?_
  rintro e w9 ⟨A3, c3, rfl, hc3, -, -, hb⟩
  clear hc
  have hS := hS.next hb
  have hi := hS.is hl.1
  have ho := hS.of
  clear hb
  go_wp2_with fail
  refine Cl.region_way (fun _ => True) 10 [(0, .r), (1, .c), (2, .c), (3, .r), (4, .r), (5, .r), (6, .r), (7, .r), (8, .r), (9, .r)] (by kernel_rfl) (by kernel_rfl) ?_
  intro w10 hk
  have hb := Cl.Keeps.below hk
  clear hk
  have hS := hS.next hb
  have hi := hS.is hl.1
  have ho := hS.of
  clear hb
  have hiA : ∀ y : Cl.Since (fun _ => True) w10, isTb y.w g = true := fun y => (hS.next (Cl.Keeps.below y.keeps)).is hl.1
  have hoA : ∀ y : Cl.Since (fun _ => True) w10, tbOf y.w g = cells cs := fun y => (hS.next (Cl.Keeps.below y.keeps)).of
  iterate 1 (refine Cl.way_r rfl ?_; go_big_quiet_step (fail); refine wpQuiet_nil ?_)
  clear hiA hoA
  refine Cl.way_c rfl ?_
  have hm := sl_made w10 N16
  have hb := below_alloc w10 (.cells (madeCells #[.int .u16 0] N16) 23)
  have hbk := Lib.hid hb
  go_wp2_with fail
  refine Cl.way_on (Cl.Keeps.of_below hbk.out) ?_
  have hS := hS.next hb
  have hi := hS.is hl.1
  have ho := hS.of
  clear hb
  clear hbk
  replace hm := Lib.hid hm
  generalize w10.alloc (.cells (madeCells #[.int .u16 0] N16) 23) = w11 at *
  generalize hgm16 : w10.heap.size = gm16 at hm ⊢
  clear hgm16
  refine Cl.way_c rfl ?_
  go_wp2_with fail
  have hc := cod_decode (ca := N16) hl hm.out (by rw [List.length_replicate, hN16.out]; decide) (by rw [List.length_replicate]; exact Nat.le_refl _)
  rw [List.length_replicate] at hc
  replace hc := Lib.hid hc
  clear hm
  refine hc.out.mono ?_
  rintro e w12 ⟨ys4, n4, f4, A4, c4, hD4, rfl, hc4, -, hb⟩
  clear hc
  have hbk := Lib.hid hb
  have hS := hS.next hb
  have hi := hS.is hl.1
  have ho := hS.of
  clear hb
  go_wp2_with fail
  refine Cl.way_on (Cl.Keeps.of_below hbk.out) ?_
  clear hbk
  obtain ⟨rfl, rfl, rfl⟩ := hD4.unique (Dec.size (Or.inl (by rw [List.length_replicate, hN16.out]; decide)))
  iterate 7 (refine Cl.way_r rfl ?_; go_big_quiet_step (fail); refine wpQuiet_nil ?_)
  refine Cl.way_end ?_
  go_wp2_with fail
  refine Cl.region_way (fun _ => True) 10 [(0, .r), (1, .c), (2, .c), (3, .r), (4, .r), (5, .r), (6, .r), (7, .r), (8, .r), (9, .r)] (by kernel_rfl) (by kernel_rfl) ?_
  intro w13 hk
  have hb := Cl.Keeps.below hk
  clear hk
  have hS := hS.next hb
  have hi := hS.is hl.1
  have ho := hS.of
  clear hb
  have hiA : ∀ y : Cl.Since (fun _ => True) w13, isTb y.w g = true := fun y => (hS.next (Cl.Keeps.below y.keeps)).is hl.1
  have hoA : ∀ y : Cl.Since (fun _ => True) w13, tbOf y.w g = cells cs := fun y => (hS.next (Cl.Keeps.below y.keeps)).of
  iterate 1 (refine Cl.way_r rfl ?_; go_big_quiet_step (fail); refine wpQuiet_nil ?_)
  clear hiA hoA
  refine Cl.way_c rfl ?_
  have hm := sl_made w13 N1024
  have hb := below_alloc w13 (.cells (madeCells #[.int .u16 0] N1024) 23)
  have hbk := Lib.hid hb
  go_wp2_with fail
  refine Cl.way_on (Cl.Keeps.of_below hbk.out) ?_
  have hS := hS.next hb
  have hi := hS.is hl.1
  have ho := hS.of
  clear hb
  clear hbk
  replace hm := Lib.hid hm
  generalize w13.alloc (.cells (madeCells #[.int .u16 0] N1024) 23) = w14 at *
  generalize hgm1024 : w13.heap.size = gm1024 at hm ⊢
  clear hgm1024
  refine Cl.way_c rfl ?_
  go_wp2_with fail
  have hc := cod_decode (ca := N1024) hl hm.out (by rw [List.length_replicate, hN1024.out]; decide) (by rw [List.length_replicate]; exact Nat.le_refl _)
  rw [List.length_replicate] at hc
  replace hc := Lib.hid hc
  clear hm
  refine hc.out.mono ?_
  rintro e w15 ⟨ys5, n5, f5, A5, c5, hD5, rfl, hc5, -, hb⟩
  clear hc
  have hbk := Lib.hid hb
  have hS := hS.next hb
  have hi := hS.is hl.1
  have ho := hS.of
  clear hb
  go_wp2_with fail
  refine Cl.way_on (Cl.Keeps.of_below hbk.out) ?_
  clear hbk
  obtain ⟨rfl, rfl, rfl⟩ := hD5.unique (Dec.size (Or.inr (by rw [List.length_replicate, hN1024.out]; decide)))
  iterate 7 (refine Cl.way_r rfl ?_; go_big_quiet_step (fail); refine wpQuiet_nil ?_)
  refine Cl.way_end ?_
  go_wp2_with fail
  have hgW : Hid (g < w15.heap.size) := hS.lt
  refine Cl.region_way_rf (fun b => b < w15.heap.size) 12 0 1 2 [(2, .c), (3, .c), (4, .c), (5, .r), (6, .r), (7, .r), (8, .r), (9, .r), (10, .r), (11, .r)] [(1, .c), (3, .c), (4, .c), (5, .r), (6, .r), (7, .r), (8, .r), (9, .r), (10, .r), (11, .r)] (by kernel_rfl) (by kernel_rfl) rfl ?_
  intro w16 hk
  have hb := Cl.Keeps.below hk
  have hsz0 : Hid (w15.heap.size ≤ w16.heap.size) := hb.size
  clear hk
  have hS := hS.next hb
  have hi := hS.is hl.1
  have ho := hS.of
  clear hb
  have hiA : ∀ y : Cl.Since (fun b => b < w15.heap.size) w16, isTb y.w g = true := fun y => (show Tb y.w g cs from (y.keeps.block g hS.lt hgW.out).trans hS.tb).is hl.1
  have hoA : ∀ y : Cl.Since (fun b => b < w15.heap.size) w16, tbOf y.w g = cells cs := fun y => (show Tb y.w g cs from (y.keeps.block g hS.lt hgW.out).trans hS.tb).of
  go_big_quiet_step (fail)
  refine wpQuiet_nil ?_
  clear hiA hoA
  refine ⟨?_, ?_⟩
  · skip
    refine Cl.way_c rfl ?_
    have hO := OwnS.made w16 N20 (by rw [hN20.out]; decide)
    have hb := below_alloc w16 (.cells (madeCells #[.int .u16 0] N20) 23)
    have hbk := Lib.hid hb
    have hB := hb
    go_wp2_with fail
    refine Cl.way_on (Cl.Keeps.of_below hbk.out) ?_
    have hS := hS.next hb
    have hi := hS.is hl.1
    have ho := hS.of
    clear hb
    clear hbk
    generalize w16.alloc (.cells (madeCells #[.int .u16 0] N20) 23) = x2 at *
    have hge : Hid (w15.heap.size ≤ w16.heap.size) := hsz0
    generalize hg0 : w16.heap.size = b0 at hO hB ⊢
    replace hg0 := Lib.hid hg0
    refine Cl.way_c rfl ?_
    have hq := sl_new x2 (.cells #[.int .u16 5000] 23) [5000] x2.heap.size rfl rfl (by decide)
    have hb := below_alloc x2 (.cells #[.int .u16 5000] 23)
    have hbk := Lib.hid hb
    replace hO := hO.keep hb
    replace hB := hB.trans (hb.mono (by rw [← hg0.out]; exact hB.size))
    go_wp2_with fail
    refine Cl.way_on (Cl.Keeps.of_below hbk.out) ?_
    have hS := hS.next hb
    have hi := hS.is hl.1
    have ho := hS.of
    clear hb
    clear hbk
    generalize x2.alloc (.cells #[.int .u16 5000] 23) = x3 at *
    generalize x2.heap.size = b1 at hq ⊢
    replace hO := Lib.hid hO
    replace hq := Lib.hid hq
    replace hB := Lib.hid hB
    refine Cl.way_c rfl ?_
    refine app_law (w0 := w16) rfl (.tmp 61) (.tmp 62) rfl (.slice (some ⟨b0, 0, none⟩) N20 N20) (List.replicate N20 0) rfl hO.out (by rw [hg0.out]; exact hB.out) (some ⟨b1, 0, none⟩) 1 [5000] 1 rfl rfl hq.out (by decide) (by rw [List.length_replicate, hN20.out]; decide) ?_
    rintro v4 x4 hv _ hb -
    have hKp : Cl.Keeps (fun b => b < w15.heap.size) x3 x4 := ⟨hb.os, hb.tape, hb.output, hb.size, fun b _ hb2 => hb.block b (Nat.lt_of_lt_of_le hb2 hge.out)⟩
    have hS : St w g cs x4 := ⟨hS.below.trans ⟨hb.os, hb.tape, hb.output, hb.size, fun b hb2 => hb.block b (Nat.lt_of_lt_of_le (Nat.lt_of_lt_of_le hb2 (Nat.le_trans hS.ge (Nat.le_of_lt hgW.out))) hge.out)⟩, hS.ge, Nat.lt_of_lt_of_le hS.lt hb.size, (hb.block g (Nat.lt_of_lt_of_le hgW.out hge.out)).trans hS.tb⟩
    have hi := hS.is hl.1
    have ho := hS.of
    obtain ⟨A6, c6, rfl, hc6, h6⟩ := hv.sl
    have hl21 : (List.replicate N20 0 ++ [5000]).length = 21 := by rw [List.length_append, List.length_replicate, hN20.out]; rfl
    rw [hl21] at hc6
    replace hKp := Lib.hid hKp
    replace h6 := Lib.hid h6
    replace hl21 := Lib.hid hl21
    clear hv hb hq hO hB
    rw [hl21.out]
    go_wp2_with fail
    refine Cl.way_on hKp.out ?_
    clear hKp
    refine Cl.way_c rfl ?_
    go_wp2_with fail
    have hc := cod_decode (ca := c6) hl h6.out (by rw [hl21.out]; decide) (by rw [hl21.out]; exact hc6)
    rw [hl21.out] at hc
    replace hc := Lib.hid hc
    refine hc.out.mono ?_
    rintro e w17 ⟨ys6, n6, f6, D6, d6, hD6, rfl, hd6, -, hb⟩
    clear hc
    have hbk := Lib.hid hb
    have hS := hS.next hb
    have hi := hS.is hl.1
    have ho := hS.of
    clear hb
    go_wp2_with fail
    refine Cl.way_on (Cl.Keeps.of_below hbk.out) ?_
    clear hbk
    obtain ⟨rfl, rfl, rfl⟩ := hD6.unique (Dec.arg (by rw [hl21.out]; decide) 5000 (by simp) (by decide))
    clear hD6 hd6 h6
    iterate 7 (refine Cl.way_r rfl ?_; go_big_quiet_step (fail); refine wpQuiet_nil ?_)
    refine Cl.way_end ?_
    have hP0 : Pre (w17.alloc (.cells (madeCells #[.int .u16 0] N40) 23)) w17.heap.size N40 (wk 0) := by
      have h := Arr.new w17 (List.replicate N40 0)
      rw [← made_uv, rm_zero] at h
      exact h.pre.congr fun j _ => by unfold wk; rw [if_neg (by omega)]
    have hb := below_alloc w17 (.cells (madeCells #[.int .u16 0] N40) 23)
    have hg8 : Hid (g < w17.heap.size) := hS.lt
    have hSL := Lib.hid (hS.next hb)
    have hS := hS.next hb
    have hi := hS.is hl.1
    have ho := hS.of
    clear hb
    go_wp2_with fail
    generalize w17.alloc (.cells (madeCells #[.int .u16 0] N40) 23) = wl at *
    generalize w17.heap.size = g8 at hP0 hg8 ⊢
    have hL0 : Hid (DecL wl g8 N40 (wk 0) wl) := DecL.start hP0
    have hL0g : Hid (g8 < wl.heap.size) := hP0.lt
    clear hP0 hS hi ho
    go_loopw [18] (fun q wr => ∃ k : Nat, k ≤ 8 ∧ q = .int .i64 k ∧ DecL wl g8 N40 (wk k) wr) (fun q _ => 8 - (intOf q).toNat)
    case atStart => exact ⟨0, Nat.zero_le _, rfl, hL0.out⟩
    case round =>
      clear hL0
      obtain ⟨k, hk, rfl, hL⟩ := hrel
      replace hL := Lib.hid hL
      by_cases hlt : k < 8
      · have hd : decide ((k : Int) < 8) = true := by rw [decide_eq_true_eq]; omega
        obtain ⟨m, hm⟩ : ∃ m : Nat, m = 5 * k := ⟨_, rfl⟩
        have hmI : 5 * (k : Int) = (m : Int) := by omega
        have hm40 : m < N40 := by rw [hN40.out]; omega
        have hmI2 : (m : Int) < (N40 : Int) := by omega
        have hc1 := hL.out.2.cell hm40
        rw [show wk k m = 0 by unfold wk; rw [if_neg (by omega)]] at hc1
        have hf1 := hL.out.2.frozen m
        have HL2 : Hid (DecL wl g8 N40 (wk (k + 1)) (wr.setCell ⟨g8, m, none⟩ (.int .u16 ((k : Int) + 1)))) := (hL.out.set_ m (k + 1)).congr fun j _ => by
          unfold wk
          by_cases e : j = m
          · rw [if_pos e, if_pos (by omega)]; omega
          · rw [if_neg e]
            by_cases e2 : j % 5 = 0 ∧ j < 5 * k
            · rw [if_pos e2, if_pos (by omega)]
            · rw [if_neg e2, if_neg (by omega)]
        replace hm := Lib.hid hm
        clear hL
        go_wp2_with fail
        go_roundw
        case rel => exact ⟨k + 1, by omega, by go_num, HL2.out⟩
        case measure => simp [intOf]; omega
      · obtain rfl : k = 8 := by omega
        have hS := hSL.out.decl hL.out hg8.out
        have hi := hS.is hl.1
        have ho := hS.of
        have hp8 : Pre wr g8 N40 (at_ wd8) := hL.out.2.congr fun j hj => by
          have e : at_ wd8 j = if j < 40 then (if j % 5 = 0 then j / 5 + 1 else 0) else 0 := by unfold wd8; exact at_rm j
          have := hN40.out
          rw [e, if_pos (by omega)]
          unfold wk
          by_cases e2 : j % 5 = 0
          · rw [if_pos (by omega), if_pos e2]
          · rw [if_neg (by omega), if_neg e2]
        have hw8l : wd8.length = N40 := by rw [hN40.out]; decide
        have hw8 := Lib.hid (hp8.row hw8l (by decide +kernel))
        have hglo : Hid (g8 < wr.heap.size) := hp8.lt
        replace hp8 := Lib.hid hp8
        replace hw8l := Lib.hid hw8l
        clear hL hk hlt
        go_wp2_with fail
        have hc := cod_decode (ca := N40) hl hw8.out (by rw [hw8l.out, hN40.out]; decide) (by rw [hw8l.out]; exact Nat.le_refl _)
        rw [hw8l.out] at hc
        replace hc := Lib.hid hc
        refine hc.out.mono ?_
        rintro e w43 ⟨ys7, n7, f7, D7, d7, hD7, rfl, hd7, hy7, hb⟩
        clear hc
        replace hp8 := Lib.hid (hp8.out.below hb hp8.out.lt)
        have hS := hS.next hb
        have hi := hS.is hl.1
        have ho := hS.of
        clear hb
        obtain ⟨rfl, rfl, rfl⟩ := hD7.unique (Dec.ok (by decide) (by decide +kernel) _ w8_near)
        rw [w8_dl]
        clear hD7
        obtain ⟨z40, hz40⟩ : ∃ z, Hid (List.replicate 40 0 = z) := ⟨_, Lib.hid rfl⟩
        rw [hz40.out] at hy7 hd7 ⊢
        have hzl : Hid (z40.length = 40) := by rw [← hz40.out]; exact Lib.hid List.length_replicate
        have hI39 : (39 : Int) < (N40 : Int) := by rw [hN40.out]; decide
        have h39 : 39 < N40 := by rw [hN40.out]; decide
        have hc39 := hp8.out.cell h39
        have hf39 := hp8.out.frozen 39
        have hL9 : Hid (DecL w43 g8 N40 (at_ wd9) (w43.setCell ⟨g8, 39, none⟩ (.int .u16 1))) := ((DecL.start hp8.out).set_ 39 1).congr fun j hj => by
          have e9 : at_ wd9 j = if j < 40 then (if j = 39 then 1 else if j % 5 = 0 then j / 5 + 1 else 0) else 0 := by unfold wd9; exact at_rm j
          have e8 : at_ wd8 j = if j < 40 then (if j % 5 = 0 then j / 5 + 1 else 0) else 0 := by unfold wd8; exact at_rm j
          have := hN40.out
          have hj40 : j < 40 := by omega
          rw [e9, e8, if_pos hj40, if_pos hj40]
        have hS9 := hS.decl hL9.out hg8.out
        have hi := hS9.is hl.1
        have ho := hS9.of
        have hy9 := Lib.hid (hL9.out.slf hy7 hglo.out)
        have hw9l : wd9.length = N40 := by rw [hN40.out]; decide
        have hw9 := Lib.hid (hL9.out.2.row hw9l (by decide +kernel))
        replace hw9l := Lib.hid hw9l
        have hS := hS9
        clear hS9 hL9 hy7 hp8 hw8
        go_wp2_with fail
        generalize w43.setCell ⟨g8, 39, none⟩ (.int .u16 1) = w39 at *
        clear hc39 hf39
        have hc := cod_decode (ca := N40) hl hw9.out (by rw [hw9l.out, hN40.out]; decide) (by rw [hw9l.out]; exact Nat.le_refl _)
        rw [hw9l.out] at hc
        replace hc := Lib.hid hc
        refine hc.out.mono ?_
        rintro e w49 ⟨ys8, n8, f8, D8, d8, hD8, rfl, hd8, -, hb⟩
        clear hc
        have hS := hS.next hb
        have hi := hS.is hl.1
        have ho := hS.of
        replace hy9 := Lib.hid (hy9.out.far hb)
        clear hb
        obtain ⟨rfl, rfl, rfl⟩ := hD8.unique (Dec.none (by decide) (by decide +kernel) w9_far)
        clear hD8
        have hbz := below_alloc w49 (.cells (madeCells #[.int .u16 0] N40) 23)
        have hcd := cod_dist (ca := d7) (cb := N40) (hy9.out.far hbz) (sl_made w49 N40) (by rw [hzl.out]; decide) (by rw [List.length_replicate, hN40.out]; decide)
        rw [show dl z40 (List.replicate N40 0) = 0 by rw [hN40.out, ← hz40.out]; exact (dl_zero rfl).2 rfl, List.length_replicate] at hcd
        replace hcd := Lib.hid hcd
        have hSz := Lib.hid (hS.next hbz)
        clear hbz
        go_wp2_with (first
          | (go_at_call 19; (with_reducible refine hcd.out.mono ?_); rintro e wq ⟨rfl, hbq⟩; clear hcd; have hSq := Lib.hid (hSz.out.next hbq); have hq1 := sl_new wq (.cells #[.int .u16 1, .int .u16 2] 23) [1, 2] wq.heap.size rfl rfl (by decide); have hb1 := below_alloc wq (.cells #[.int .u16 1, .int .u16 2] 23); have hq2 := sl_new (wq.alloc (.cells #[.int .u16 1, .int .u16 2] 23)) (.cells #[.int .u16 1] 23) [1] (wq.heap.size + 1) (by simp) rfl (by decide); have hb2 := below_alloc (wq.alloc (.cells #[.int .u16 1, .int .u16 2] 23)) (.cells #[.int .u16 1] 23); have hce := Lib.hid (dist21 (hq1.far hb2) hq2); have hSr := Lib.hid ((hSq.out.next hb1).next hb2); clear hbq hq1 hq2 hb1 hb2)
          | (go_at_call 19; (with_reducible refine hce.out.mono ?_); rintro e wu ⟨rfl, hbu⟩; have hSu := Lib.hid (hSr.out.next hbu); have hi := hSu.out.is hl.1; have ho := hSu.out.of; clear hce hbu; have hcf := Lib.hid (syn_none cs hl wu))
          | (go_at_call 18; (with_reducible refine hcf.out.mono ?_); rintro e wv ⟨Av, cv, rfl, hbv⟩))
        go_ret
        exact ⟨rfl, (hSu.out.next hbv).below⟩
  · skip
    refine Cl.way_c rfl ?_
    have hq := sl_new w16 (.cells #[.int .u16 5000] 23) [5000] w16.heap.size rfl rfl (by decide)
    have hb := below_alloc w16 (.cells #[.int .u16 5000] 23)
    have hbk := Lib.hid hb
    have hge0 : Hid (w15.heap.size ≤ (w16.alloc (.cells #[.int .u16 5000] 23)).heap.size) := Nat.le_trans hsz0.out hb.size
    go_wp2_with fail
    refine Cl.way_on (Cl.Keeps.of_below hbk.out) ?_
    have hS := hS.next hb
    have hi := hS.is hl.1
    have ho := hS.of
    clear hb
    clear hbk
    generalize w16.alloc (.cells #[.int .u16 5000] 23) = x2 at *
    generalize w16.heap.size = b1 at hq ⊢
    refine Cl.way_c rfl ?_
    have hO := OwnS.made x2 N20 (by rw [hN20.out]; decide)
    have hb := below_alloc x2 (.cells (madeCells #[.int .u16 0] N20) 23)
    have hbk := Lib.hid hb
    have hB := hb
    replace hq := hq.far hb
    go_wp2_with fail
    refine Cl.way_on (Cl.Keeps.of_below hbk.out) ?_
    have hS := hS.next hb
    have hi := hS.is hl.1
    have ho := hS.of
    clear hb
    clear hbk
    generalize x2.alloc (.cells (madeCells #[.int .u16 0] N20) 23) = x3 at *
    have hge : Hid (w15.heap.size ≤ x2.heap.size) := hge0
    generalize hg0 : x2.heap.size = b0 at hO hB ⊢
    replace hg0 := Lib.hid hg0
    replace hO := Lib.hid hO
    replace hq := Lib.hid hq
    replace hB := Lib.hid hB
    refine Cl.way_c rfl ?_
    refine app_law (w0 := x2) rfl (.tmp 61) (.tmp 62) rfl (.slice (some ⟨b0, 0, none⟩) N20 N20) (List.replicate N20 0) rfl hO.out (by rw [hg0.out]; exact hB.out) (some ⟨b1, 0, none⟩) 1 [5000] 1 rfl rfl hq.out (by decide) (by rw [List.length_replicate, hN20.out]; decide) ?_
    rintro v4 x4 hv _ hb -
    have hKp : Cl.Keeps (fun b => b < w15.heap.size) x3 x4 := ⟨hb.os, hb.tape, hb.output, hb.size, fun b _ hb2 => hb.block b (Nat.lt_of_lt_of_le hb2 hge.out)⟩
    have hS : St w g cs x4 := ⟨hS.below.trans ⟨hb.os, hb.tape, hb.output, hb.size, fun b hb2 => hb.block b (Nat.lt_of_lt_of_le (Nat.lt_of_lt_of_le hb2 (Nat.le_trans hS.ge (Nat.le_of_lt hgW.out))) hge.out)⟩, hS.ge, Nat.lt_of_lt_of_le hS.lt hb.size, (hb.block g (Nat.lt_of_lt_of_le hgW.out hge.out)).trans hS.tb⟩
    have hi := hS.is hl.1
    have ho := hS.of
    obtain ⟨A6, c6, rfl, hc6, h6⟩ := hv.sl
    have hl21 : (List.replicate N20 0 ++ [5000]).length = 21 := by rw [List.length_append, List.length_replicate, hN20.out]; rfl
    rw [hl21] at hc6
    replace hKp := Lib.hid hKp
    replace h6 := Lib.hid h6
    replace hl21 := Lib.hid hl21
    clear hv hb hq hO hB
    rw [hl21.out]
    go_wp2_with fail
    refine Cl.way_on hKp.out ?_
    clear hKp
    refine Cl.way_c rfl ?_
    go_wp2_with fail
    have hc := cod_decode (ca := c6) hl h6.out (by rw [hl21.out]; decide) (by rw [hl21.out]; exact hc6)
    rw [hl21.out] at hc
    replace hc := Lib.hid hc
    refine hc.out.mono ?_
    rintro e w17 ⟨ys6, n6, f6, D6, d6, hD6, rfl, hd6, -, hb⟩
    clear hc
    have hbk := Lib.hid hb
    have hS := hS.next hb
    have hi := hS.is hl.1
    have ho := hS.of
    clear hb
    go_wp2_with fail
    refine Cl.way_on (Cl.Keeps.of_below hbk.out) ?_
    clear hbk
    obtain ⟨rfl, rfl, rfl⟩ := hD6.unique (Dec.arg (by rw [hl21.out]; decide) 5000 (by simp) (by decide))
    clear hD6 hd6 h6
    iterate 7 (refine Cl.way_r rfl ?_; go_big_quiet_step (fail); refine wpQuiet_nil ?_)
    refine Cl.way_end ?_
    have hP0 : Pre (w17.alloc (.cells (madeCells #[.int .u16 0] N40) 23)) w17.heap.size N40 (wk 0) := by
      have h := Arr.new w17 (List.replicate N40 0)
      rw [← made_uv, rm_zero] at h
      exact h.pre.congr fun j _ => by unfold wk; rw [if_neg (by omega)]
    have hb := below_alloc w17 (.cells (madeCells #[.int .u16 0] N40) 23)
    have hg8 : Hid (g < w17.heap.size) := hS.lt
    have hSL := Lib.hid (hS.next hb)
    have hS := hS.next hb
    have hi := hS.is hl.1
    have ho := hS.of
    clear hb
    go_wp2_with fail
    generalize w17.alloc (.cells (madeCells #[.int .u16 0] N40) 23) = wl at *
    generalize w17.heap.size = g8 at hP0 hg8 ⊢
    have hL0 : Hid (DecL wl g8 N40 (wk 0) wl) := DecL.start hP0
    have hL0g : Hid (g8 < wl.heap.size) := hP0.lt
    clear hP0 hS hi ho
    go_loopw [18] (fun q wr => ∃ k : Nat, k ≤ 8 ∧ q = .int .i64 k ∧ DecL wl g8 N40 (wk k) wr) (fun q _ => 8 - (intOf q).toNat)
    case atStart => exact ⟨0, Nat.zero_le _, rfl, hL0.out⟩
    case round =>
      clear hL0
      obtain ⟨k, hk, rfl, hL⟩ := hrel
      replace hL := Lib.hid hL
      by_cases hlt : k < 8
      · have hd : decide ((k : Int) < 8) = true := by rw [decide_eq_true_eq]; omega
        obtain ⟨m, hm⟩ : ∃ m : Nat, m = 5 * k := ⟨_, rfl⟩
        have hmI : 5 * (k : Int) = (m : Int) := by omega
        have hm40 : m < N40 := by rw [hN40.out]; omega
        have hmI2 : (m : Int) < (N40 : Int) := by omega
        have hc1 := hL.out.2.cell hm40
        rw [show wk k m = 0 by unfold wk; rw [if_neg (by omega)]] at hc1
        have hf1 := hL.out.2.frozen m
        have HL2 : Hid (DecL wl g8 N40 (wk (k + 1)) (wr.setCell ⟨g8, m, none⟩ (.int .u16 ((k : Int) + 1)))) := (hL.out.set_ m (k + 1)).congr fun j _ => by
          unfold wk
          by_cases e : j = m
          · rw [if_pos e, if_pos (by omega)]; omega
          · rw [if_neg e]
            by_cases e2 : j % 5 = 0 ∧ j < 5 * k
            · rw [if_pos e2, if_pos (by omega)]
            · rw [if_neg e2, if_neg (by omega)]
        replace hm := Lib.hid hm
        clear hL
        go_wp2_with fail
        go_roundw
        case rel => exact ⟨k + 1, by omega, by go_num, HL2.out⟩
        case measure => simp [intOf]; omega
      · obtain rfl : k = 8 := by omega
        have hS := hSL.out.decl hL.out hg8.out
        have hi := hS.is hl.1
        have ho := hS.of
        have hp8 : Pre wr g8 N40 (at_ wd8) := hL.out.2.congr fun j hj => by
          have e : at_ wd8 j = if j < 40 then (if j % 5 = 0 then j / 5 + 1 else 0) else 0 := by unfold wd8; exact at_rm j
          have := hN40.out
          rw [e, if_pos (by omega)]
          unfold wk
          by_cases e2 : j % 5 = 0
          · rw [if_pos (by omega), if_pos e2]
          · rw [if_neg (by omega), if_neg e2]
        have hw8l : wd8.length = N40 := by rw [hN40.out]; decide
        have hw8 := Lib.hid (hp8.row hw8l (by decide +kernel))
        have hglo : Hid (g8 < wr.heap.size) := hp8.lt
        replace hp8 := Lib.hid hp8
        replace hw8l := Lib.hid hw8l
        clear hL hk hlt
        go_wp2_with fail
        have hc := cod_decode (ca := N40) hl hw8.out (by rw [hw8l.out, hN40.out]; decide) (by rw [hw8l.out]; exact Nat.le_refl _)
        rw [hw8l.out] at hc
        replace hc := Lib.hid hc
        refine hc.out.mono ?_
        rintro e w43 ⟨ys7, n7, f7, D7, d7, hD7, rfl, hd7, hy7, hb⟩
        clear hc
        replace hp8 := Lib.hid (hp8.out.below hb hp8.out.lt)
        have hS := hS.next hb
        have hi := hS.is hl.1
        have ho := hS.of
        clear hb
        obtain ⟨rfl, rfl, rfl⟩ := hD7.unique (Dec.ok (by decide) (by decide +kernel) _ w8_near)
        rw [w8_dl]
        clear hD7
        obtain ⟨z40, hz40⟩ : ∃ z, Hid (List.replicate 40 0 = z) := ⟨_, Lib.hid rfl⟩
        rw [hz40.out] at hy7 hd7 ⊢
        have hzl : Hid (z40.length = 40) := by rw [← hz40.out]; exact Lib.hid List.length_replicate
        have hI39 : (39 : Int) < (N40 : Int) := by rw [hN40.out]; decide
        have h39 : 39 < N40 := by rw [hN40.out]; decide
        have hc39 := hp8.out.cell h39
        have hf39 := hp8.out.frozen 39
        have hL9 : Hid (DecL w43 g8 N40 (at_ wd9) (w43.setCell ⟨g8, 39, none⟩ (.int .u16 1))) := ((DecL.start hp8.out).set_ 39 1).congr fun j hj => by
          have e9 : at_ wd9 j = if j < 40 then (if j = 39 then 1 else if j % 5 = 0 then j / 5 + 1 else 0) else 0 := by unfold wd9; exact at_rm j
          have e8 : at_ wd8 j = if j < 40 then (if j % 5 = 0 then j / 5 + 1 else 0) else 0 := by unfold wd8; exact at_rm j
          have := hN40.out
          have hj40 : j < 40 := by omega
          rw [e9, e8, if_pos hj40, if_pos hj40]
        have hS9 := hS.decl hL9.out hg8.out
        have hi := hS9.is hl.1
        have ho := hS9.of
        have hy9 := Lib.hid (hL9.out.slf hy7 hglo.out)
        have hw9l : wd9.length = N40 := by rw [hN40.out]; decide
        have hw9 := Lib.hid (hL9.out.2.row hw9l (by decide +kernel))
        replace hw9l := Lib.hid hw9l
        have hS := hS9
        clear hS9 hL9 hy7 hp8 hw8
        go_wp2_with fail
        generalize w43.setCell ⟨g8, 39, none⟩ (.int .u16 1) = w39 at *
        clear hc39 hf39
        have hc := cod_decode (ca := N40) hl hw9.out (by rw [hw9l.out, hN40.out]; decide) (by rw [hw9l.out]; exact Nat.le_refl _)
        rw [hw9l.out] at hc
        replace hc := Lib.hid hc
        refine hc.out.mono ?_
        rintro e w49 ⟨ys8, n8, f8, D8, d8, hD8, rfl, hd8, -, hb⟩
        clear hc
        have hS := hS.next hb
        have hi := hS.is hl.1
        have ho := hS.of
        replace hy9 := Lib.hid (hy9.out.far hb)
        clear hb
        obtain ⟨rfl, rfl, rfl⟩ := hD8.unique (Dec.none (by decide) (by decide +kernel) w9_far)
        clear hD8
        have hbz := below_alloc w49 (.cells (madeCells #[.int .u16 0] N40) 23)
        have hcd := cod_dist (ca := d7) (cb := N40) (hy9.out.far hbz) (sl_made w49 N40) (by rw [hzl.out]; decide) (by rw [List.length_replicate, hN40.out]; decide)
        rw [show dl z40 (List.replicate N40 0) = 0 by rw [hN40.out, ← hz40.out]; exact (dl_zero rfl).2 rfl, List.length_replicate] at hcd
        replace hcd := Lib.hid hcd
        have hSz := Lib.hid (hS.next hbz)
        clear hbz
        go_wp2_with (first
          | (go_at_call 19; (with_reducible refine hcd.out.mono ?_); rintro e wq ⟨rfl, hbq⟩; clear hcd; have hSq := Lib.hid (hSz.out.next hbq); have hq1 := sl_new wq (.cells #[.int .u16 1, .int .u16 2] 23) [1, 2] wq.heap.size rfl rfl (by decide); have hb1 := below_alloc wq (.cells #[.int .u16 1, .int .u16 2] 23); have hq2 := sl_new (wq.alloc (.cells #[.int .u16 1, .int .u16 2] 23)) (.cells #[.int .u16 1] 23) [1] (wq.heap.size + 1) (by simp) rfl (by decide); have hb2 := below_alloc (wq.alloc (.cells #[.int .u16 1, .int .u16 2] 23)) (.cells #[.int .u16 1] 23); have hce := Lib.hid (dist21 (hq1.far hb2) hq2); have hSr := Lib.hid ((hSq.out.next hb1).next hb2); clear hbq hq1 hq2 hb1 hb2)
          | (go_at_call 19; (with_reducible refine hce.out.mono ?_); rintro e wu ⟨rfl, hbu⟩; have hSu := Lib.hid (hSr.out.next hbu); have hi := hSu.out.is hl.1; have ho := hSu.out.of; clear hce hbu; have hcf := Lib.hid (syn_none cs hl wu))
          | (go_at_call 18; (with_reducible refine hcf.out.mono ?_); rintro e wv ⟨Av, cv, rfl, hbv⟩))
        go_ret
        exact ⟨rfl, (hSu.out.next hbv).below⟩
end Go.Proofs.Ytciafkobnlfpbaa
namespace Go.Proofs.Ytciafkobnlfpbaa.codeKnown
open Go.ChangeShapes Go.WideShapes Go.ChangeAt Go.RowKit Go.Gf
set_option linter.unusedVariables false

theorem own : ownKnob Try.prog.godebug = none := by kernel_rfl

theorem walk  (w : World)  :
    Calls Try.prog 6 #[] w fun e w' => e = .returned (.bool true) ∧ Below w.heap.size w w' := known_law  w 

set_option maxRecDepth 100000 in
theorem lifted (os : Os) (started : os.Started) (H : Type) (enc : TypeId × Value → H) :
    ReturnsInHanded {} Try.checked os 6 .any (Rows.codeKnownSpec.pre6 enc Try.prog Try.f6 Rows.codeKnownRow.domain false) (Rows.codeKnownSpec.post enc Try.prog Try.f6 false true false false) := by
  refine returnsInHanded_of_change (C := Try.checked) own started (by kernel_rfl) Try.func6
    (ChangeSpec.witness6 (enc := enc) (C := Try.checked) false ⟨#[], #[], []⟩ 8 (by kernel_rfl) (by kernel_rfl) (by kernel_rfl) (by kernel_rfl)) ?_
  intro W base args ds gs before hval0 hW hcnd _
  have hval : ∀ (j : Nat) t v, Try.f6.params[j]? = some t → args[j]? = some v → Value.okWide Try.prog W .any base t v := hval0
  have hW' := hW
  obtain ⟨p, q, hA0, hV, rfl, hfz, hnd⟩ := hW
  have hA : DataW.TrodAll enc Try.prog W 0 (fun _ => true) true Try.f6.params.toList args.toList ds p := hA0
  rw [Try.params6] at hA hval
  obtain ⟨hargs, rfl, rfl⟩ := trodAll_nil hA
  obtain rfl : args = #[] := by cases args; simp_all
  obtain ⟨rfl, rfl⟩ := trodVars_none hV
  clear hA0 hval0
  refine (walk  W ).mono fun e W' ⟨he, hg⟩ => ?_
  subst he
  exact ⟨_, rfl, Cl.post_below (pv := []) hW' (fun _ _ _ => (trodAll_cons_mk (shut_bool Try.underlying4 _) trodAll_mk0)) (fun sp hsp => rfl) (fun _ _ => rfl) rfl
    hg (ok_one (by kernel_rfl) rfl (okWide_bool_mk Try.underlying4 _))⟩

theorem over : Rows.codeKnownRow.holds Try.pinned (OpenSpec.ofChange Rows.codeKnownSpec) :=
  OpenClaim.holds_of_wide 6 Try.f6 rfl rfl rfl rfl rfl rfl rfl ⟨rfl, rfl, rfl, rfl, rfl⟩ rfl rfl rfl rfl rfl (by kernel_rfl) Try.func6 (by kernel_rfl)
    (of_decide_eq_true (by kernel_rfl)) (by unfold Func.isWrapper; first | (rw [if_pos (by decide +kernel)]; kernel_rfl) | (rw [if_neg (by decide +kernel)]; exact ⟨rfl, rfl⟩))
    (fun os started H enc _ => lifted os started H enc)

/-- THE STATEMENT -/
theorem proved : Rows.CodeKnownSaid := over
end Go.Proofs.Ytciafkobnlfpbaa.codeKnown
