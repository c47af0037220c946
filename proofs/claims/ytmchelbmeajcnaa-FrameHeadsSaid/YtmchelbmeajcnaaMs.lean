/- FrameHeads: each head that may be is read as it was made, with whatever data. -/
import Derived.Test.YtmchelbmeajcnaaMr
namespace Go.Proofs.Ytmchelbmeajcnaa
open Go.RowKit Go.Gf Go.Fl
set_option linter.unusedVariables false
set_option linter.unusedSimpArgs false
set_option maxRecDepth 20000
attribute [local go_sem ↓] exec_load_tb Cl.quiet_since
attribute [local go_sem] tbAt_ptr tbIn_ptr

theorem page_head {k l q : Nat} {d : List Nat} (hd : d.length = 7) {i : Nat} (hi : i < 8) : at_ (pageL 1 (sayL 14 k l q d)) i = at_ (headL k l q) i := by
  have hl : (sayL 14 k l q d).length = 1 * 14 := say_len (N := 14) hd (by decide)
  rw [pageL_at hl (by decide) (by omega), Nat.mod_one, Nat.div_one, rowsL_getD (by decide), dealt_get' (n := 14) hl (by decide)]
  rw [enc_pre _ (by rw [rm_len]; omega), at_rm, if_pos (by omega), Nat.mul_one, Nat.add_zero, say_eq (N := 14) hd, at_append, headL_len, if_pos hi]
set_option maxHeartbeats 16000000 in
theorem heads_law (k l q : Int) (wk : (Lit.int .i64 k).wf = true) (wl : (Lit.int .i64 l).wf = true) (wq : (Lit.int .i64 q).wf = true)
    (A : Option Addr) (d : List Nat) (c : Nat) (hl : d.length ≤ c) (hc : c ≤ maxLen) (w : World) (hs : Sb w w.heap.size A d) :
    Calls Try.prog 7 #[.agg #[.int .i64 k, .int .i64 l, .int .i64 q], .slice A d.length c] w fun e w' => e = .returned (.bool true) ∧ Below w.heap.size w w' := by
  have H := Lib.hid hs
  have hz := zero27
  have hdm : d.length ≤ 9223372036854775807 := by unfold maxLen at hc; omega
  clear hc hs
  obtain ⟨wb, hwb⟩ : ∃ wb, wb = w.alloc (.cells #[.int .i64 k, .int .i64 l, .int .i64 q] 25) := ⟨_, rfl⟩
  have hbb : Below w.heap.size w wb := by rw [hwb]; exact Ge.below_alloc w _
  have hH : Hed wb w.heap.size k l q := by rw [hwb]; exact Hed.new w k l q
  go_enter Try.func7, Try.ntmps7
  go_wp2_with fail
  rw [← hwb]
  clear hwb
  refine (awake_any wb).mono ?_
  rintro e w1 ⟨rfl, hb1⟩
  have hH1 := hH.keep hb1
  have hbw1 := hbb.trans (hb1.mono hbb.size)
  clear hH hbb hb1
  obtain ⟨w2, hw2⟩ : ∃ w2, w2 = w1.alloc (.cells #[.int .i64 4, .int .i64 2, .int .i64 1, .int .i64 14] 23) := ⟨_, rfl⟩
  have hb2 : Below w1.heap.size w1 w2 := by rw [hw2]; exact Ge.below_alloc w1 _
  have hX2 : Ge.Box w2 w1.heap.size 4 2 1 14 := by rw [hw2]; exact Ge.Box.new w1 4 2 1 14
  have hH2 := hH1.keep hb2
  have hbw2 := hbw1.trans (hb2.mono hbw1.size)
  have hsz : Hid (∀ w', Calls Try.prog 22 #[.agg #[.int .i64 4, .int .i64 2, .int .i64 1, .int .i64 14]] w' (Ge.Ans w' (.int .i64 7))) := fun w' => by
    have := Ge.refsize_any 4 2 1 14 w'
    rwa [show Ge.sizG 4 2 1 14 = 7 by decide +kernel] at this
  have hcel : Hid (∀ w', Calls Try.prog 24 #[.agg #[.int .i64 4, .int .i64 2, .int .i64 1, .int .i64 14]] w' (Ge.Ans w' (.int .i64 30))) := fun w' => by
    have := Ge.refcells_any 4 2 1 14 w'
    rwa [show Ge.celG 4 2 1 14 = 30 by decide +kernel] at this
  have hmk : ∀ w' : World, (Instr.makeSlice 26 (.int .i64 7) (.int .i64 7)).run Try.prog w' = .ok (.slice (some ⟨w'.heap.size, 0, none⟩) 7 7) (w'.alloc (.cells (madeCells #[.int .u8 0] 7) 5)) :=
    run_make_row' (P := Try.prog) 26 5 (.int .u8 0) 1 Try.underlying26 info5 rfl .i64 .i64 7 (by decide) (by decide)
  obtain ⟨x1, x2, x3, x4, x5⟩ := id hX2
  rw [hw2] at x2 x3 x4 x5
  have hsz2 := hsz.out w2
  rw [hw2] at hsz2
  go_wp2_with (first
    | (go_at_call 22; (with_reducible refine hsz2.mono ?_); rintro e w3 ⟨rfl, hb3⟩; rw [← hw2] at hb3; have hX3 := hX2.keep hb3; have hH3 := hH2.keep hb3; have hbw3 := hbw2.trans (hb3.mono hbw2.size); have hba3 := Ge.below_alloc w3 (.cells (madeCells #[.int .u8 0] 7) 5))
    | (refine wpList_copy_bytes (w0 := w3) rfl (.tmp 21) (.tmp 22) rfl w3.heap.size 7 rfl A d c rfl (ab_new w3 7) ((H.out.far hbw3).far hba3) hba3 (Nat.le_refl _) ?_))
  intro w4 hA4 hb4
  have hX4 := hX3.keep hb4
  have hH4 := hH3.keep hb4
  have hbw4 := hbw3.trans (hb4.mono hbw3.size)
  generalize w3.heap.size = gd at *
  clear hH1 hbw1 hH2 hX2 hbw2 hb2 hw2 hsz2 hsz x1 x2 x3 x4 x5 hb3 hX3 hH3 hbw3 hba3 hb4 hmk
  obtain ⟨D, hD⟩ : ∃ D, rm 7 (at_ d) = D := ⟨_, rfl⟩
  have hDl : D.length = 7 := by rw [← hD, rm_len]
  have hDb : ∀ x ∈ D, x < 256 := by rw [← hD]; exact rm_mem fun j _ => at_lt H.out.1 (by decide)
  rw [hD] at hA4
  clear hD
  go_wp2_with fail
  refine (make_any _).mono ?_
  rintro e w5 ⟨cs, rfl, hl, hb5⟩
  have hX5 := hX4.keep hb5
  have hH5 := hH4.keep hb5
  have hA5 := hA4.keep hb5
  have hbw5 := hbw4.trans (hb5.mono hbw4.size)
  clear hX4 hH4 hA4 hbw4 hb5
  go_wp2_with (refine wpList_store_row rfl 33 _ _ rfl w5.heap.size (cells cs) rfl rfl 33 (cells ZT) (heap_alloc_new w5 _) (rsize hl) (zsize hl) (cells_one cs) ?_)
  have hS := St.start (cs := cs) hbw5 (cells ZT)
  have hb : Below w5.heap.size w5 ((w5.alloc (Obj.cells (cells ZT) 33)).setRow w5.heap.size (cells cs)) := below_setRow ((Below.refl _ _).alloc (Nat.le_refl _) _) (Nat.le_refl _) _
  have hX6 := hX5.keep hb
  have hH6 := hH5.keep hb
  have hA6 := hA5.keep hb
  have hbww6 := hbw5.trans (hb.mono hbw5.size)
  clear hb
  generalize hg : w5.heap.size = g1 at hS hbww6 hX6 hH6 hA6 ⊢
  generalize (w5.alloc (Obj.cells (cells ZT) 33)).setRow g1 (cells cs) = w6 at *
  clear hg hz
  have hTw6 := hS.tb
  clear hS
  clear hX5 hH5 hA5 hbw5
  have hi1 := hTw6.is hl.1
  have hi2 := hTw6.of
  obtain ⟨x1, x2, x3, x4, x5⟩ := id hX6
  obtain ⟨y1, y2, y3, y4⟩ := id hH6
  have hsb6 := hA6.sb hDb
  have hmk := make_fr (cs := cs) hl.tab (B := 4) (P := 2) (W := 1) (K := 14) (k := k) (l := l) (q := q) (c := 7) hsb6 (by omega)
  rw [hDl] at hmk
  have hB := mkB_eq k l q
  obtain ⟨b1, d1⟩ : ∃ b, decide (1 ≤ k) = b := ⟨_, rfl⟩
  obtain ⟨b2, d2⟩ : ∃ b, decide (k ≤ 1023) = b := ⟨_, rfl⟩
  obtain ⟨b3, d3⟩ : ∃ b, decide (0 ≤ l) = b := ⟨_, rfl⟩
  obtain ⟨b4, d4⟩ : ∃ b, decide (l < 1048576) = b := ⟨_, rfl⟩
  obtain ⟨b5, d5⟩ : ∃ b, decide (0 ≤ q) = b := ⟨_, rfl⟩
  obtain ⟨b6, d6⟩ : ∃ b, decide (q < 1099511627776) = b := ⟨_, rfl⟩
  have hm : Hid (mkB k l q = (b1 && b2 && b3 && b4 && b5 && b6)) := by
    unfold Hid
    rw [← d1, ← d2, ← d3, ← d4, ← d5, ← d6, Bool.eq_iff_iff]
    unfold mkB
    simp only [Bool.and_eq_true, decide_eq_true_eq]
    omega
  clear hB
  cases hB : mkB k l q
  · have hE := mkE_arg (B := 4) (P := 2) (W := 1) (K := 14) (n := 7) (Or.inr hB)
    have hS : mkW 4 2 1 14 k l q D = [] := by unfold mkW; rw [hDl, hE]; rfl
    rw [hE, hS] at hmk
    replace hmk := Lib.hid hmk
    rw [hB] at hm
    clear hB hE hS
    cases b1
    rotate_left
    cases b2
    rotate_left
    cases b3
    rotate_left
    cases b4
    rotate_left
    cases b5
    rotate_left
    cases b6
    rotate_left
    exact absurd hm.out (by decide)
    all_goals
      go_wp2_with (go_at_call 16; (with_reducible refine hmk.out.mono ?_); rintro e w7 ⟨v7, rfl, ho7, hb7⟩; obtain ⟨A7, c7, rfl, hs7⟩ := ho7.len; have hH7 := hH6.keep hb7; obtain ⟨n1, n2, n3, n4⟩ := hH7; have hbw7 := hbww6.trans (hb7.mono hbww6.size))
      go_ret
      exact ⟨rfl, hbw7⟩
  · obtain ⟨k', l', q', hk', hl', hq', hk1, hk2, hl2, hq2⟩ := mkB_of hB
    have hM : Ge.mayG 4 2 1 14 = true := by decide +kernel
    have hE := mkE_ok (n := 7) hM hB (by decide +kernel)
    have hS : mkW 4 2 1 14 k l q D = pageL 1 (sayL 14 k' l' q' D) := by
      unfold mkW
      rw [hDl, hE, if_pos rfl, hk', hl', hq']
      rfl
    have hsv : sayV 14 k' l' q' D := ⟨hk1, hk2, hl2, hq2, hDl, hDb⟩
    have hsl : (sayL 14 k' l' q' D).length = 1 * 14 := say_len (N := 14) hDl (by decide)
    have hpl : (pageL 1 (sayL 14 k' l' q' D)).length = 30 := pageL_len (n := 14) hsl (by decide)
    have hpb := pageL_bd (n := 14) hsl (by decide) (say_bd hk2 hl2 hq2)
    have p0 : at_ (pageL 1 (sayL 14 k' l' q' D)) 0 = k' := page_head hDl (by decide)
    have p2 : at_ (pageL 1 (sayL 14 k' l' q' D)) 2 = l' % 1024 := page_head hDl (by decide)
    have p6 : at_ (pageL 1 (sayL 14 k' l' q' D)) 6 = q' % 1024 := page_head hDl (by decide)
    have p7 : at_ (pageL 1 (sayL 14 k' l' q' D)) 7 = 0 := page_head hDl (by decide)
    have hown : Hid (∀ k9 l9 q9 n9 d9 er, RdS 4 2 1 14 ((pageL 1 (sayL 14 k' l' q' D)).map ptB) (pageL 1 (sayL 14 k' l' q' D)) k9 l9 q9 n9 d9 er → k9 = k' ∧ l9 = l' ∧ q9 = q' ∧ n9 = 0 ∧ d9 = D ∧ er = 0) := fun k9 l9 q9 n9 d9 er h => rd_own (W := 1) (K := 14) hM rfl hsv h
    rw [hE, hS] at hmk
    rw [hB] at hm
    have hb0 : b1 = true ∧ b2 = true ∧ b3 = true ∧ b4 = true ∧ b5 = true ∧ b6 = true := by
      have := hm.out
      revert this
      cases b1 <;> cases b2 <;> cases b3 <;> cases b4 <;> cases b5 <;> cases b6 <;> simp
    obtain ⟨rfl, rfl, rfl, rfl, rfl, rfl⟩ := hb0
    generalize pageL 1 (sayL 14 k' l' q' D) = S at *
    have hne : S ≠ [] := by intro e; rw [e] at hpl; cases hpl
    have hk3 : 1 ≤ k ∧ k ≤ 1023 := by omega
    have hl3 : 0 ≤ l ∧ l < 1048576 := by omega
    have hq3 : 0 ≤ q ∧ q < 1099511627776 := by omega
    have e2 : ((l' % 1024 : Nat) : Int) = l % 1024 := by omega
    have e6 : ((q' % 1024 : Nat) : Int) = q % 1024 := by omega
    have hlm : 0 ≤ l % 1024 ∧ l % 1024 < 1024 := by omega
    have hqm : 0 ≤ q % 1024 ∧ q % 1024 < 1024 := by omega
    replace hmk := Lib.hid hmk
    replace hpl := Lib.hid hpl
    have hk'' := Lib.hid hk'
    have hl'' := Lib.hid hl'
    have hq'' := Lib.hid hq'
    clear hk' hl' hq' hm hB hE hS hsl hsv hM
    go_wp2_with (go_at_call 16; (with_reducible refine hmk.out.mono ?_); rintro e w7 ⟨v7, rfl, ho7, hb7⟩; obtain ⟨gs, c5, rfl, hc5, hgs, hpre⟩ := ho7.pre hne; have hH7 := hH6.keep hb7; have hX7 := hX6.keep hb7; have hT7 := hTw6.keep hb7; have hA7 := hA6.keep hb7; obtain ⟨n1, n2, n3, n4⟩ := id hH7; have hbw7 := hbww6.trans (hb7.mono hbww6.size))
    rw [hpl.out] at hpre hc5 ⊢
    have hs7 : Sl w7 w7.heap.size (some ⟨gs, 0, none⟩) S := by
      obtain ⟨A8, c8, e8, _, h8⟩ := ho7.sl
      injection e8 with e8 _ _
      rw [e8]; exact h8
    have hgsw : gs < w7.heap.size := hpre.lt
    replace hpre := Lib.hid hpre
    replace hX7 := Lib.hid hX7
    replace hH7 := Lib.hid hH7
    replace hT7 := Lib.hid hT7
    replace hA7 := Lib.hid hA7
    replace hs7 := Lib.hid hs7
    replace hbw7 := Lib.hid hbw7
    clear hTw6 hX6 hH6 hA6 hi1 hi2 x1 x2 x3 x4 x5 y1 y2 y3 y4 n1 n2 n3 n4 hb7 ho7 hsb6 hmk hbww6 hgs
    refine Cl.region_way (fun _ => True) 44 [(0, .r), (1, .r), (2, .r), (3, .r), (4, .r), (5, .r), (6, .c), (7, .r), (8, .r), (9, .r), (10, .r), (11, .r), (12, .r), (13, .r), (14, .r), (15, .r), (16, .r), (17, .r), (18, .r), (19, .r), (20, .r), (21, .r), (22, .r), (23, .r), (24, .r), (25, .r), (26, .r), (27, .r), (28, .r), (29, .r), (30, .r), (31, .r), (32, .r), (33, .r), (34, .r), (35, .r), (36, .r), (37, .r), (38, .r), (39, .r), (40, .r), (41, .r), (42, .r), (43, .r)] (by kernel_rfl) (by kernel_rfl) ?_
    intro w8 hk8
    have hk8' := Cl.Keeps.below hk8
    have hX8 := hX7.out.keep hk8'
    have hH8 := hH7.out.keep hk8'
    have hP8 : Pre w8 gs 30 (at_ S) := hpre.out.keep (hk8'.block gs hgsw)
    have hP9 : ∀ y : Cl.Since (fun _ => True) w8, Pre y.w gs 30 (at_ S) := fun y => hP8.keep ((Cl.Keeps.below y.keeps).block gs hP8.lt)
    have s0 : ∀ y : Cl.Since (fun _ => True) w8, y.w.cell? ⟨gs, 0, none⟩ = some (.int .u16 k) := fun y => by have := (hP9 y).cell (i := 0) (by decide); rw [p0, ← hk''.out] at this; exact this
    have s2 : ∀ y : Cl.Since (fun _ => True) w8, y.w.cell? ⟨gs, 2, none⟩ = some (.int .u16 (l % 1024)) := fun y => by have := (hP9 y).cell (i := 2) (by decide); rw [p2, e2] at this; exact this
    have s6 : ∀ y : Cl.Since (fun _ => True) w8, y.w.cell? ⟨gs, 6, none⟩ = some (.int .u16 (q % 1024)) := fun y => by have := (hP9 y).cell (i := 6) (by decide); rw [p6, e6] at this; exact this
    have s7 : ∀ y : Cl.Since (fun _ => True) w8, y.w.cell? ⟨gs, 7, none⟩ = some (.int .u16 0) := fun y => by have := (hP9 y).cell (i := 7) (by decide); rw [p7] at this; exact this
    have x0 : ∀ y : Cl.Since (fun _ => True) w8, y.w.cell? ⟨w1.heap.size, 0, none⟩ = some (.int .i64 4) := fun y => (hX8.keep (Cl.Keeps.below y.keeps)).c0
    have x1 : ∀ y : Cl.Since (fun _ => True) w8, y.w.cell? ⟨w1.heap.size, 1, none⟩ = some (.int .i64 2) := fun y => (hX8.keep (Cl.Keeps.below y.keeps)).c1
    have x2 : ∀ y : Cl.Since (fun _ => True) w8, y.w.cell? ⟨w1.heap.size, 2, none⟩ = some (.int .i64 1) := fun y => (hX8.keep (Cl.Keeps.below y.keeps)).c2
    have x3 : ∀ y : Cl.Since (fun _ => True) w8, y.w.cell? ⟨w1.heap.size, 3, none⟩ = some (.int .i64 14) := fun y => (hX8.keep (Cl.Keeps.below y.keeps)).c3
    iterate 6 (refine Cl.way_r rfl ?_; go_big_quiet_step (fail); refine wpQuiet_nil ?_)
    clear s0 s2 s6 s7 x0 x1 x2 x3
    have hcl8 := Lib.hid (hcel.out w8)
    refine Cl.way_c rfl ?_
    go_wp2_with (go_at_call 24; (with_reducible refine hcl8.out.mono ?_); rintro e w9 ⟨rfl, hb9⟩)
    refine Cl.way_on (Cl.Keeps.of_below hb9) ?_
    have hX9 := hX8.keep hb9
    have hH9 := hH8.keep hb9
    have hP9' : Pre w9 gs 30 (at_ S) := hP8.keep (hb9.block gs hP8.lt)
    have hb79 := hk8'.trans (hb9.mono hk8'.size)
    have hT9 := hT7.out.keep hb79
    have hA9 := hA7.out.keep hb79
    have hs9 := hs7.out.far hb79
    have hbw9 := hbw7.out.trans (hb79.mono hbw7.out.size)
    have hP9 : ∀ y : Cl.Since (fun _ => True) w9, Pre y.w gs 30 (at_ S) := fun y => hP9'.keep ((Cl.Keeps.below y.keeps).block gs hP9'.lt)
    have s0 : ∀ y : Cl.Since (fun _ => True) w9, y.w.cell? ⟨gs, 0, none⟩ = some (.int .u16 k) := fun y => by have := (hP9 y).cell (i := 0) (by decide); rw [p0, ← hk''.out] at this; exact this
    have s2 : ∀ y : Cl.Since (fun _ => True) w9, y.w.cell? ⟨gs, 2, none⟩ = some (.int .u16 (l % 1024)) := fun y => by have := (hP9 y).cell (i := 2) (by decide); rw [p2, e2] at this; exact this
    have s6 : ∀ y : Cl.Since (fun _ => True) w9, y.w.cell? ⟨gs, 6, none⟩ = some (.int .u16 (q % 1024)) := fun y => by have := (hP9 y).cell (i := 6) (by decide); rw [p6, e6] at this; exact this
    have s7 : ∀ y : Cl.Since (fun _ => True) w9, y.w.cell? ⟨gs, 7, none⟩ = some (.int .u16 0) := fun y => by have := (hP9 y).cell (i := 7) (by decide); rw [p7] at this; exact this
    have m0 : ∀ y : Cl.Since (fun _ => True) w9, y.w.cell? ⟨w.heap.size, 0, none⟩ = some (.int .i64 k) := fun y => (hH9.keep (Cl.Keeps.below y.keeps)).c0
    have m1 : ∀ y : Cl.Since (fun _ => True) w9, y.w.cell? ⟨w.heap.size, 1, none⟩ = some (.int .i64 l) := fun y => (hH9.keep (Cl.Keeps.below y.keeps)).c1
    have m2 : ∀ y : Cl.Since (fun _ => True) w9, y.w.cell? ⟨w.heap.size, 2, none⟩ = some (.int .i64 q) := fun y => (hH9.keep (Cl.Keeps.below y.keeps)).c2
    have al : bits .and .i64 l 1023 = l % 1024 := by rw [hl''.out, and_ten l' (by omega)]; omega
    have aq : bits .and .i64 q 1023 = q % 1024 := by rw [hq''.out, and_ten q' (by omega)]; omega
    have nl : ((l % 1024) != (l % 1024)) = false := by simp
    have nq : ((q % 1024) != (q % 1024)) = false := by simp
    have nk : (k != k) = false := by simp
    replace hX9 := Lib.hid hX9
    replace hH9 := Lib.hid hH9
    replace hT9 := Lib.hid hT9
    replace hA9 := Lib.hid hA9
    replace hs9 := Lib.hid hs9
    replace hbw9 := Lib.hid hbw9
    clear hX7 hX8 hH7 hH8 hT7 hA7 hs7 hbw7 hb9 hb79 hk8 hk8' hP8 hP9' hP9 hpre hcl8
    iterate 37 (refine Cl.way_r rfl ?_; go_big_quiet_step (fail); refine wpQuiet_nil ?_)
    refine Cl.way_end ?_
    clear s0 s2 s6 s7 m0 m1 m2
    have hTS := hT9
    have hXS := hX9
    have hsS := hs9
    have hCS := Lib.hid hl.tab
    have hbS := Lib.hid hpb
    have hnS := hpl
    have hn6 : (30 : Nat) ≤ 100000 := by decide
    have hgt : Hid (g1 < w9.heap.size) := hTS.out.lt
    have hgb : Hid (w1.heap.size < w9.heap.size) := hXS.out.lt
    clear hT9 hX9 hs9
    go_wp2_with fail
    go_cut [11, 12, 13, 14] from 114 to 123 (fun sm sd sn sf wx => ∃ (k9 l9 q9 n9 : Nat) (d9 : List Nat) (e9 : Nat) (A9 : Option Addr) (c9 g9 : Nat), RdS 4 2 1 14 (S.map ptB) S k9 l9 q9 n9 d9 e9 ∧ sm = .pointer (some ⟨g9, 0, none⟩) ∧ Hed wx g9 (k9 : Int) (l9 : Int) (q9 : Int) ∧ sd = .slice A9 d9.length c9 ∧ Sb wx wx.heap.size A9 d9 ∧ sn = .int .i64 (n9 : Int) ∧ sf = .int .i64 (e9 : Int) ∧ Below w9.heap.size w9 wx)
    case first =>
      refine Cl.region_tree (fun b => b < w9.heap.size) 15 (.r 0 <| .r 1 <| .r 2 <| .b 3 10 (.b 4 10 (.r 5 <| .r 6 <| .r 7 <| .r 8 <| .r 9 <| .c 10 <| .c 11 <| .r 12 <| .r 13 <| .r 14 <| .e) (.c 4 <| .r 5 <| .r 6 <| .r 7 <| .r 8 <| .r 9 <| .c 11 <| .r 12 <| .r 13 <| .r 14 <| .e)) (.c 3 <| .c 4 <| .r 5 <| .r 6 <| .r 7 <| .r 8 <| .r 9 <| .c 11 <| .r 12 <| .r 13 <| .r 14 <| .e)) (by kernel_rfl) (by kernel_rfl) ?_
      intro v0 hk0
      have hbk := Cl.Keeps.below hk0
      have hT0 := hTS.out.keep hbk
      have hiA : ∀ y : Cl.Since (fun b => b < w9.heap.size) v0, isTb y.w g1 = true := fun y => (show Tb y.w g1 cs from (y.keeps.block g1 hT0.lt hgt.out).trans hT0).is hCS.out.1
      have hoA : ∀ y : Cl.Since (fun b => b < w9.heap.size) v0, tbOf y.w g1 = cells cs := fun y => (show Tb y.w g1 cs from (y.keeps.block g1 hT0.lt hgt.out).trans hT0).of
      have hX0 := hXS.out.keep hbk
      have x0 : ∀ y : Cl.Since (fun b => b < w9.heap.size) v0, y.w.cell? ⟨w1.heap.size, 0, none⟩ = some (.int .i64 4) := fun y => (cell_block (y.keeps.block w1.heap.size hX0.lt hgb.out)).trans hX0.c0
      have x1 : ∀ y : Cl.Since (fun b => b < w9.heap.size) v0, y.w.cell? ⟨w1.heap.size, 1, none⟩ = some (.int .i64 2) := fun y => (cell_block (y.keeps.block w1.heap.size hX0.lt hgb.out)).trans hX0.c1
      have x2 : ∀ y : Cl.Since (fun b => b < w9.heap.size) v0, y.w.cell? ⟨w1.heap.size, 2, none⟩ = some (.int .i64 1) := fun y => (cell_block (y.keeps.block w1.heap.size hX0.lt hgb.out)).trans hX0.c2
      have x3 : ∀ y : Cl.Since (fun b => b < w9.heap.size) v0, y.w.cell? ⟨w1.heap.size, 3, none⟩ = some (.int .i64 14) := fun y => (cell_block (y.keeps.block w1.heap.size hX0.lt hgb.out)).trans hX0.c3
      iterate 3 (refine Cl.tree_r rfl ?_; go_big_quiet_step (fail); refine wpQuiet_nil ?_)
      clear hiA hoA hT0 x0 x1 x2 x3 hX0
      replace hbk := Lib.hid hbk
      refine Cl.tree_b rfl rfl ?_ ?_
      · have hpc := lawpts_any (c := c5) (hsS.out.far hbk.out) (by rw [hnS.out]; exact hn6)
        rw [hnS.out] at hpc
        replace hpc := Lib.hid hpc
        go_wp2_with (go_at_call 20; (with_reducible refine hpc.out.mono ?_); rintro e v1 ⟨vp, rfl, hop, hbp⟩)
        refine Cl.way_on (Cl.Keeps.of_below hbp) ?_
        obtain ⟨Ap, cp, rfl, hcp, hpx'⟩ := hop.cx
        have hlp : (S.map ptB).length = 30 := by rw [List.length_map, hnS.out]
        rw [hlp]
        have hpx := Lib.hid hpx'
        have hb1 := Lib.hid (hbk.out.trans (hbp.mono hbk.out.size))
        clear hpc hpx' hop hcp hbp hlp
        refine Cl.tree_b rfl rfl ?_ ?_
        · have hrd := read_any hCS.out (B := 4) (P := 2) (W := 1) (K := 14) (ss := S) (c := cp) hpx.out (by rw [List.length_map, hnS.out]; omega) (by rw [List.length_map]) (pts_slc hbS.out) hbS.out
          rw [List.length_map, hnS.out] at hrd
          replace hrd := Lib.hid hrd
          go_wp2_with (go_at_call 19; (with_reducible refine hrd.out.mono ?_); rintro e v2 ⟨k9, l9, q9, nn, dd, er, hRd, A9, c9, rfl, hc9, hs8, hbp⟩)
          refine Cl.way_on (Cl.Keeps.of_below hbp) ?_
          have hsd := Lib.hid hs8
          replace hRd := Lib.hid hRd
          have hb2 := Lib.hid (hb1.out.trans (hbp.mono hb1.out.size))
          clear hrd hs8 hbp
          refine Cl.tree_r rfl ?_
          go_big_quiet_step (fail)
          refine wpQuiet_nil ?_
          refine Cl.tree_r rfl ?_
          go_big_quiet_step (fail)
          refine wpQuiet_nil ?_
          refine Cl.tree_r rfl ?_
          go_big_quiet_step (fail)
          refine wpQuiet_nil ?_
          refine Cl.tree_r rfl ?_
          go_big_quiet_step (fail)
          refine wpQuiet_nil ?_
          refine Cl.tree_r rfl ?_
          go_big_quiet_step (fail)
          refine wpQuiet_nil ?_
          refine Cl.tree_c rfl ?_
          go_wp2_with fail
          refine Cl.way_on (Cl.Keeps.of_below (Ge.below_alloc _ _)) ?_
          have hF := Lib.hid (Hed.new v2 (k9 : Int) (l9 : Int) (q9 : Int))
          have hG := Ge.below_alloc v2 (.cells #[.int .i64 (k9 : Int), .int .i64 (l9 : Int), .int .i64 (q9 : Int)] 25)
          have hs9 := Lib.hid (hsd.out.far hG)
          have hb9 := Lib.hid (hb2.out.trans (hG.mono hb2.out.size))
          have hkp := Lib.hid (keeps_fold v2 (.cells #[.int .i64 0, .int .i64 0, .int .i64 0] 25) (.cells #[.int .i64 (k9 : Int), .int .i64 (l9 : Int), .int .i64 (q9 : Int)] 25) hb2.out.size)
          refine Cl.tree_c rfl ?_
          go_wp2_with fail
          refine Cl.way_on hkp.out ?_
          refine Cl.tree_r rfl ?_
          go_big_quiet_step (fail)
          refine wpQuiet_nil ?_
          refine Cl.tree_r rfl ?_
          go_big_quiet_step (fail)
          refine wpQuiet_nil ?_
          refine Cl.tree_r rfl ?_
          go_big_quiet_step (fail)
          refine wpQuiet_nil ?_
          refine Cl.tree_e ?_
          go_wp2_with fail
          go_meet
          exact ⟨k9, l9, q9, nn, dd, er, A9, c9, _, hRd.out, rfl, hF.out, rfl, hs9.out, rfl, rfl, hb9.out⟩
        · go_wp2_with fail
          refine Cl.way_on (Cl.Keeps.of_below (Ge.below_alloc _ _)) ?_
          have hHn := Hdo.new v1 0 0 0
          have hAl := Ge.below_alloc v1 (.cells #[.int .i64 0, .int .i64 0, .int .i64 0] 25)
          have hge : Hid (w9.heap.size ≤ v1.heap.size) := hb1.out.size
          have hba := Lib.hid (hb1.out.trans (hAl.mono hb1.out.size))
          have hxa := Lib.hid (hpx.out.far hAl)
          generalize v1.alloc (.cells #[.int .i64 0, .int .i64 0, .int .i64 0] 25) = va1 at *
          have hH1 := Lib.hid hHn
          clear hHn hAl
          refine Cl.tree_c rfl ?_
          have hrd := read_any hCS.out (B := 4) (P := 2) (W := 1) (K := 14) (ss := S) (c := cp) hxa.out (by rw [List.length_map, hnS.out]; omega) (by rw [List.length_map]) (pts_slc hbS.out) hbS.out
          rw [List.length_map, hnS.out] at hrd
          replace hrd := Lib.hid hrd
          go_wp2_with (go_at_call 19; (with_reducible refine hrd.out.mono ?_); rintro e v2 ⟨k9, l9, q9, nn, dd, er, hRd, A9, c9, rfl, hc9, hs8, hbp⟩)
          refine Cl.way_on (Cl.Keeps.of_below hbp) ?_
          have hsd := Lib.hid hs8
          replace hRd := Lib.hid hRd
          have hb2 := Lib.hid (hba.out.trans (hbp.mono hba.out.size))
          have hH2 := Lib.hid (hH1.out.keep hbp)
          clear hrd hs8 hbp
          refine Cl.tree_r rfl ?_
          go_big_quiet_step (fail)
          refine wpQuiet_nil ?_
          refine Cl.tree_r rfl ?_
          go_big_quiet_step (fail)
          refine wpQuiet_nil ?_
          refine Cl.tree_r rfl ?_
          go_big_quiet_step (fail)
          refine wpQuiet_nil ?_
          refine Cl.tree_r rfl ?_
          go_big_quiet_step (fail)
          refine wpQuiet_nil ?_
          refine Cl.tree_r rfl ?_
          go_big_quiet_step (fail)
          refine wpQuiet_nil ?_
          have hF := Lib.hid (hH2.out.set_ (k9 : Int) (l9 : Int) (q9 : Int)).hed
          obtain ⟨h1, h2, h3, h4⟩ := hH2.out.hed
          have hfz := hH2.out.frozen
          have hs9 := Lib.hid (hH2.out.sb3 hsd.out (k9 : Int) (l9 : Int) (q9 : Int))
          have hb9 := Lib.hid (below_set3 hb2.out hge.out (.int .i64 (k9 : Int)) (.int .i64 (l9 : Int)) (.int .i64 (q9 : Int)))
          have hkp := Lib.hid (keeps_set3 (w := v2) hge.out (.int .i64 (k9 : Int)) (.int .i64 (l9 : Int)) (.int .i64 (q9 : Int)))
          refine Cl.tree_c rfl ?_
          go_wp2_with fail
          refine Cl.way_on hkp.out ?_
          clear h1 h2 h3 h4 hfz
          refine Cl.tree_r rfl ?_
          go_big_quiet_step (fail)
          refine wpQuiet_nil ?_
          refine Cl.tree_r rfl ?_
          go_big_quiet_step (fail)
          refine wpQuiet_nil ?_
          refine Cl.tree_r rfl ?_
          go_big_quiet_step (fail)
          refine wpQuiet_nil ?_
          refine Cl.tree_e ?_
          go_wp2_with fail
          go_meet
          exact ⟨k9, l9, q9, nn, dd, er, A9, c9, _, hRd.out, rfl, hF.out, rfl, hs9.out, rfl, rfl, hb9.out⟩
      · go_wp2_with fail
        refine Cl.way_on (Cl.Keeps.of_below (Ge.below_alloc _ _)) ?_
        have hHn := Hdo.new v0 0 0 0
        have hAl := Ge.below_alloc v0 (.cells #[.int .i64 0, .int .i64 0, .int .i64 0] 25)
        have hge : Hid (w9.heap.size ≤ v0.heap.size) := hbk.out.size
        have hba := Lib.hid (hbk.out.trans (hAl.mono hbk.out.size))
        generalize v0.alloc (.cells #[.int .i64 0, .int .i64 0, .int .i64 0] 25) = va0 at *
        have hH0 := Lib.hid hHn
        clear hHn hAl
        refine Cl.tree_c rfl ?_
        have hpc := lawpts_any (c := c5) (hsS.out.far hba.out) (by rw [hnS.out]; exact hn6)
        rw [hnS.out] at hpc
        replace hpc := Lib.hid hpc
        go_wp2_with (go_at_call 20; (with_reducible refine hpc.out.mono ?_); rintro e v1 ⟨vp, rfl, hop, hbp⟩)
        refine Cl.way_on (Cl.Keeps.of_below hbp) ?_
        obtain ⟨Ap, cp, rfl, hcp, hpx'⟩ := hop.cx
        have hlp : (S.map ptB).length = 30 := by rw [List.length_map, hnS.out]
        rw [hlp]
        have hpx := Lib.hid hpx'
        have hb1 := Lib.hid (hba.out.trans (hbp.mono hba.out.size))
        have hH1 := Lib.hid (hH0.out.keep hbp)
        clear hpc hpx' hop hcp hbp hlp
        refine Cl.tree_c rfl ?_
        have hrd := read_any hCS.out (B := 4) (P := 2) (W := 1) (K := 14) (ss := S) (c := cp) hpx.out (by rw [List.length_map, hnS.out]; omega) (by rw [List.length_map]) (pts_slc hbS.out) hbS.out
        rw [List.length_map, hnS.out] at hrd
        replace hrd := Lib.hid hrd
        go_wp2_with (go_at_call 19; (with_reducible refine hrd.out.mono ?_); rintro e v2 ⟨k9, l9, q9, nn, dd, er, hRd, A9, c9, rfl, hc9, hs8, hbp⟩)
        refine Cl.way_on (Cl.Keeps.of_below hbp) ?_
        have hsd := Lib.hid hs8
        replace hRd := Lib.hid hRd
        have hb2 := Lib.hid (hb1.out.trans (hbp.mono hb1.out.size))
        have hH2 := Lib.hid (hH1.out.keep hbp)
        clear hrd hs8 hbp
        refine Cl.tree_r rfl ?_
        go_big_quiet_step (fail)
        refine wpQuiet_nil ?_
        refine Cl.tree_r rfl ?_
        go_big_quiet_step (fail)
        refine wpQuiet_nil ?_
        refine Cl.tree_r rfl ?_
        go_big_quiet_step (fail)
        refine wpQuiet_nil ?_
        refine Cl.tree_r rfl ?_
        go_big_quiet_step (fail)
        refine wpQuiet_nil ?_
        refine Cl.tree_r rfl ?_
        go_big_quiet_step (fail)
        refine wpQuiet_nil ?_
        have hF := Lib.hid (hH2.out.set_ (k9 : Int) (l9 : Int) (q9 : Int)).hed
        obtain ⟨h1, h2, h3, h4⟩ := hH2.out.hed
        have hfz := hH2.out.frozen
        have hs9 := Lib.hid (hH2.out.sb3 hsd.out (k9 : Int) (l9 : Int) (q9 : Int))
        have hb9 := Lib.hid (below_set3 hb2.out hge.out (.int .i64 (k9 : Int)) (.int .i64 (l9 : Int)) (.int .i64 (q9 : Int)))
        have hkp := Lib.hid (keeps_set3 (w := v2) hge.out (.int .i64 (k9 : Int)) (.int .i64 (l9 : Int)) (.int .i64 (q9 : Int)))
        refine Cl.tree_c rfl ?_
        go_wp2_with fail
        refine Cl.way_on hkp.out ?_
        clear h1 h2 h3 h4 hfz
        refine Cl.tree_r rfl ?_
        go_big_quiet_step (fail)
        refine wpQuiet_nil ?_
        refine Cl.tree_r rfl ?_
        go_big_quiet_step (fail)
        refine wpQuiet_nil ?_
        refine Cl.tree_r rfl ?_
        go_big_quiet_step (fail)
        refine wpQuiet_nil ?_
        refine Cl.tree_e ?_
        go_wp2_with fail
        go_meet
        exact ⟨k9, l9, q9, nn, dd, er, A9, c9, _, hRd.out, rfl, hF.out, rfl, hs9.out, rfl, rfl, hb9.out⟩
    case rest =>
      obtain ⟨k9, l9, q9, n9, d9, e9, A9, c9, g9, hRd, rfl, hG, rfl, hsb, rfl, rfl, hbc⟩ := hcut
      obtain ⟨rfl, rfl, rfl, rfl, rfl, rfl⟩ := hown.out _ _ _ _ _ _ hRd
      have hbw := hbw9.out.trans (hbc.mono hbw9.out.size)
      have hHc := hH9.out.keep hbc
      rw [hk''.out, hl''.out, hq''.out] at hHc
      have hst := str_run hsb c9
      have hst2 := str_run ((hA9.out.keep hbc).sb hDb) 7
      rw [hDl] at hst hst2 ⊢
      obtain ⟨y1, y2, y3, y4⟩ := id hG
      obtain ⟨z1, z2, z3, z4⟩ := id hHc
      have hseq := str_eq (bstr d9) wc
      clear hRd hG hHc hsb hbc
      go_wp2_with fail
      go_ret
      exact ⟨rfl, hbw⟩
end Go.Proofs.Ytmchelbmeajcnaa
