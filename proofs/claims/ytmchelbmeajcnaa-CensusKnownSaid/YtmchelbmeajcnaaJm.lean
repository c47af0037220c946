/- CensusKnown: pages by hand. -/
import Derived.Test.YtmchelbmeajcnaaJk
namespace Go.Proofs.Ytmchelbmeajcnaa
open Go.RowKit Go.Gf Go.Fl
set_option linter.unusedVariables false
set_option linter.unusedSimpArgs false
set_option maxRecDepth 20000
attribute [local go_sem ↓] exec_load_tb Cl.quiet_since
attribute [local go_sem] tbAt_ptr tbIn_ptr run_store_cpx

/-- which points are made nought: even ones below a, odd ones below b -/
def kB (a b j : Nat) : Bool := decide (j % 2 = 0 ∧ j < a ∨ j % 2 = 1 ∧ j < b)
def kX (S : List Nat) (a b j : Nat) : Nat × Nat := if kB a b j = true then (0, 0) else ptB (at_ S j)
def kZ (S : List Nat) (j : Nat) : Int × Int := if kB 16 19 j = true then (0, 0) else ownZ S j
theorem kX_start (S : List Nat) (j : Nat) : kX S 0 1 j = ptB (at_ S j) := by
  unfold kX kB
  rw [if_neg]
  simp only [decide_eq_true_eq]
  omega
theorem kX_even {S : List Nat} {i : Nat} (hi : i % 2 = 0) (j : Nat) : (if j = i then cpx (0, 0) else cpx (kX S i 1 j)) = cpx (kX S (i + 2) 1 j) := by
  by_cases e : j = i
  · rw [if_pos e]
    unfold kX kB
    rw [if_pos (by simp only [decide_eq_true_eq]; omega)]
  · rw [if_neg e]
    unfold kX kB
    by_cases h : j % 2 = 0 ∧ j < i ∨ j % 2 = 1 ∧ j < 1
    · rw [if_pos (by simpa using h), if_pos (by simp only [decide_eq_true_eq]; omega)]
    · rw [if_neg (by simpa using h), if_neg (by simp only [decide_eq_true_eq]; omega)]
theorem kX_odd {S : List Nat} {i : Nat} (hi : i % 2 = 1) (j : Nat) : (if j = i then cpx (0, 0) else cpx (kX S 16 i j)) = cpx (kX S 16 (i + 2) j) := by
  by_cases e : j = i
  · rw [if_pos e]
    unfold kX kB
    rw [if_pos (by simp only [decide_eq_true_eq]; omega)]
  · rw [if_neg e]
    unfold kX kB
    by_cases h : j % 2 = 0 ∧ j < 16 ∨ j % 2 = 1 ∧ j < i
    · rw [if_pos (by simpa using h), if_pos (by simp only [decide_eq_true_eq]; omega)]
    · rw [if_neg (by simpa using h), if_neg (by simp only [decide_eq_true_eq]; omega)]
theorem quart_k (S : List Nat) (hl : S.length = 56) : Quart ((List.range 56).map (kX S 16 19)) 2000 (kZ S) := fun i hi => by
  have hi' : i < 56 := by simpa using hi
  rw [range_at hi']
  unfold kX kZ
  by_cases h : kB 16 19 i = true
  · rw [if_pos h, if_pos h]
    exact ⟨qt_zero, qt_zero, by decide, by decide⟩
  · rw [if_neg h, if_neg h]
    obtain ⟨h1, h2, h3, h4⟩ := quart_own S i (by rw [List.length_map, hl]; exact hi')
    rw [pts_at (by rw [hl]; exact hi')] at h1 h2
    exact ⟨h1, h2, h3, h4⟩
theorem k_off {S : List Nat} (hS : ∀ y ∈ S, y < 1024) (j : Nat) : offZ S (kZ S) j = kB 16 19 j := by
  by_cases h : kB 16 19 j = true
  · have e : kZ S j = (0, 0) := by unfold kZ; rw [if_pos h]
    unfold offZ
    rw [e, h]; rfl
  · have e : offZ S (kZ S) j = offZ S (ownZ S) j := by unfold offZ kZ; rw [if_neg h]
    rw [e, offZ_own hS]
    simp only [Bool.not_eq_true] at h
    exact h.symm
theorem k_cnt {S : List Nat} (hS : ∀ y ∈ S, y < 1024) : cntZ S (kZ S) 2 28 0 = 8 := by
  unfold cntZ
  rw [bc_congr (b' := fun t => kB 16 19 (t * 2 + 0)) fun t _ => k_off hS _]
  decide +kernel
theorem k_many {S : List Nat} : 8 < bc (fun t => decide (kZ S (t * 2 + 1) = (0, 0))) 28 := by
  have h : bc (fun t => kB 16 19 (t * 2 + 1)) 28 ≤ bc (fun t => decide (kZ S (t * 2 + 1) = (0, 0))) 28 := bc_mono fun t _ e => by
    rw [decide_eq_true_eq]
    unfold kZ
    rw [if_pos e]
  have h2 : bc (fun t => kB 16 19 (t * 2 + 1)) 28 = 9 := by decide +kernel
  omega
theorem quart_blank : Quart (List.replicate 56 (0, 0)) 2000 (fun _ => (0, 0)) := fun i hi => by
  have hi' : i < 56 := by simpa using hi
  rw [xA_get hi, List.getElem_replicate]
  exact ⟨qt_zero, qt_zero, (by decide : (-2000 : Int) ≤ 0 ∧ (0 : Int) ≤ 2000), (by decide : (-2000 : Int) ≤ 0 ∧ (0 : Int) ≤ 2000)⟩
theorem dQ_34 : dQ (136, 4) = 12 := by decide +kernel
theorem dQ_00 : dQ (0, 0) = 4 := by decide +kernel
theorem qt_34 : Qt 4629981891913580544 136 := by
  have := Qt.whole (x := 4629981891913580544) (n := 34) ⟨false, 4785074604081152, -47, by decide +kernel, by decide +kernel⟩
  exact this
theorem qt_m2 : Qt 13835058055282163712 (-8) := by
  have := Qt.whole (x := 13835058055282163712) (n := -2) ⟨true, 4503599627370496, -51, by decide +kernel, by decide +kernel⟩
  exact this
theorem cx_one (w : World) (p q : Nat) : Cx (w.alloc (.cells #[.complex .f64 p q] 49)) (w.alloc (.cells #[.complex .f64 p q] 49)).heap.size (some ⟨w.heap.size, 0, none⟩) [(p, q)] := by
  refine Or.inr ⟨_, rfl, by rw [World.size_alloc]; exact Nat.lt_succ_self _, fun i hi => ?_⟩
  obtain rfl : i = 0 := by simp at hi; exact hi
  rw [add_zero']
  exact Ge.cell_of (heap_alloc_new w _) 0
theorem quart_one {p q : Nat} {a b : Int} (h1 : Qt p a) (h2 : Qt q b) (ha : -2000 ≤ a ∧ a ≤ 2000) (hb : -2000 ≤ b ∧ b ≤ 2000) : Quart [(p, q)] 2000 (fun _ => (a, b)) := fun i hi => by
  obtain rfl : i = 0 := by simp at hi; exact hi
  exact ⟨h1, h2, ha, hb⟩
set_option maxHeartbeats 16000000 in
theorem known_law12 (w : World) : Calls Try.prog 11 #[] w fun e w' => e = .returned (.bool true) ∧ Below w.heap.size w w' := by
  have hz := zero27
  have hmE : mkE 4 2 2 12 1 0 0 20 = 0 := by decide +kernel
  have hmW : mkW 4 2 2 12 1 0 0 (List.replicate 20 0) = pageL 2 (pg0 0) := by
    unfold mkW
    rw [show mkE 4 2 2 12 1 0 0 (List.replicate 20 0).length = 0 from hmE, if_pos rfl]
    rfl
  have h24 := pg0_len 0 (by decide)
  have hb24 := pg0_bd 0 (by decide)
  have hpl : (pageL 2 (pg0 0)).length = 56 := pageL_len h24 (by decide)
  have hpb : ∀ y ∈ pageL 2 (pg0 0), y < 1024 := pageL_bd h24 (by decide) hb24
  have hM : Ge.mayG 4 2 2 12 = true := by decide +kernel
  have hr56 : ∀ xs : List (Nat × Nat), xs.length = 56 → rfE 4 2 ((2 : Nat) : Int) ((12 : Nat) : Int) xs.length = 0 := fun xs h => by rw [h]; decide +kernel
  have hrk : ∀ xs : List (Nat × Nat), xs.length = 56 → Quart xs 2000 (kZ (pageL 2 (pg0 0))) → ∀ j, j < 2 → RdW 2 (12 + 16) (symZ 56 (kZ (pageL 2 (pg0 0)))) (zX xs) j (if j = 0 then some ((rowsL 2 (pg0 0)).getD 0 []) else none) := fun xs hx hq j hj => by
    rcases (by omega : j = 0 ∨ j = 1) with rfl | rfl
    · exact (good_Z (K := 12) (n := 56) (by decide) h24 hb24 rfl hx hq (j := 0) (by decide) (by rw [k_cnt hpb]; decide)).1
    · exact bad_Z (K := 12) (n := 56) rfl hx hq (by decide) k_many
  have hnk : ∀ xs : List (Nat × Nat), xs.length = 56 → Quart xs 2000 (kZ (pageL 2 (pg0 0))) → nbW 2 (12 + 16) (symZ 56 (kZ (pageL 2 (pg0 0)))) (zX xs) 0 ((rowsL 2 (pg0 0)).getD 0 []) = 8 := fun xs hx hq => by
    rw [(good_Z (K := 12) (n := 56) (by decide) h24 hb24 rfl hx hq (j := 0) (by decide) (by rw [k_cnt hpb]; decide)).2, k_cnt hpb]
  have hof : ∀ (cs : List Nat) (hcs : Tab cs) (A : Option Addr) (c : Nat) (xs : List (Nat × Nat)) (w : World), xs.length = 56 → Quart xs 2000 (kZ (pageL 2 (pg0 0))) → Cx w w.heap.size A xs → Hid (Calls Try.prog 28 #[.agg (cells cs), .agg #[.int .i64 4, .int .i64 2, .int .i64 2, .int .i64 12], .slice A 56 c] w
      fun e w' => ∃ g, e = .returned (.tuple #[.slice (some ⟨g, 0, none⟩) 2 2, .int .i64 0]) ∧ w'.cell? ⟨g, 0, none⟩ = some (.int .i64 8) ∧ w'.cell? ⟨g, 1, none⟩ = some (.bool true) ∧ w'.cell? ⟨g, 2, none⟩ = some (.int .i64 0) ∧ w'.cell? ⟨g, 3, none⟩ = some (.bool false) ∧ g < w'.heap.size ∧ Below w.heap.size w w') := fun cs hcs A c xs w hx hq hs => by
    have h := of_page hcs (B := 4) (P := 2) (W := 2) (K := 12) (c := c) (hr56 xs hx) (by decide) (by decide) hs hx (by rw [symZ_len, hx]) (quart_slc hq hx) (symZ_bd 56 _) (fun j => if j = 0 then some ((rowsL 2 (pg0 0)).getD 0 []) else none) (hrk xs hx hq)
    rw [hx] at h
    refine h.mono ?_
    rintro e w' ⟨g, f, rfl, hg, hR, hb⟩
    refine ⟨g, rfl, ?_, hR.c1 (j := 0) (by decide), hR.c0 (j := 1) (by decide), hR.c1 (j := 1) (by decide), hR.pre.lt, hb⟩
    have := hR.c0 (j := 0) (by decide)
    rw [show wrO 2 (12 + 16) (symZ 56 (kZ (pageL 2 (pg0 0)))) (zX xs) 0 (if 0 = 0 then some ((rowsL 2 (pg0 0)).getD 0 []) else none) = 8 from hnk xs hx hq] at this
    exact this
  have hsh : ∀ (cs : List Nat) (hcs : Tab cs) (A : Option Addr) (c : Nat) (xs : List (Nat × Nat)) (w : World), xs.length = 56 → Quart xs 2000 (kZ (pageL 2 (pg0 0))) → Cx w w.heap.size A xs → Hid (Calls Try.prog 27 #[.agg (cells cs), .agg #[.int .i64 4, .int .i64 2, .int .i64 2, .int .i64 12], .slice A 56 c] w
      fun e w' => e = .returned (.tuple #[.complex .f64 0 0, .int .i64 4]) ∧ Below w.heap.size w w') := fun cs hcs A c xs w hx hq hs => by
    have h := shift_data hcs (B := 4) (P := 2) (W := 2) (K := 12) (c := c) (hr56 xs hx) (by decide) (by decide) hs hx (by rw [symZ_len, hx]) (quart_slc hq hx) (symZ_bd 56 _) (fun j => if j = 0 then some ((rowsL 2 (pg0 0)).getD 0 []) else none) (hrk xs hx hq) ⟨1, by decide, rfl⟩
    rw [hx] at h
    exact h
  have hblk : ∀ (cs : List Nat) (hcs : Tab cs) (A : Option Addr) (c : Nat) (w : World), Cx w w.heap.size A (List.replicate 56 (0, 0)) → Hid (Calls Try.prog 28 #[.agg (cells cs), .agg #[.int .i64 4, .int .i64 2, .int .i64 2, .int .i64 12], .slice A 56 c] w
      fun e w' => ∃ g, e = .returned (.tuple #[.slice (some ⟨g, 0, none⟩) 2 2, .int .i64 0]) ∧ w'.cell? ⟨g, 1, none⟩ = some (.bool false) ∧ Below w.heap.size w w') := fun cs hcs A c w hs => by
    have hx : (List.replicate 56 ((0, 0) : Nat × Nat)).length = 56 := by simp
    have h := of_page hcs (B := 4) (P := 2) (W := 2) (K := 12) (c := c) (hr56 _ hx) (by decide) (by decide) hs hx (by rw [symZ_len, hx]) (quart_slc quart_blank hx) (symZ_bd 56 _) (fun _ => none) (fun j hj => bad_Z (K := 12) (n := 56) rfl hx quart_blank hj (by decide +kernel))
    rw [hx] at h
    refine h.mono ?_
    rintro e w' ⟨g, f, rfl, hg, hR, hb⟩
    exact ⟨g, rfl, hR.c1 (j := 0) (by decide), hb⟩
  have HOF := Lib.hid hof
  have HSH := Lib.hid hsh
  have HBL := Lib.hid hblk
  clear hof hsh hblk hrk hnk hr56
  generalize pageL 2 (pg0 0) = S at *
  clear h24 hb24
  go_enter Try.func11, Try.ntmps11
  go_wp2_with fail
  refine (cawake_any w).mono ?_
  rintro e wq ⟨rfl, hbq⟩
  go_wp2_with fail
  obtain ⟨wa, hwa⟩ : ∃ wa, wa = wq.alloc (.cells #[.int .i64 4, .int .i64 2, .int .i64 2, .int .i64 12] 23) := ⟨_, rfl⟩
  rw [← hwa]
  have hba : Below wq.heap.size wq wa := by rw [hwa]; exact Ge.below_alloc wq _
  have hXa : Ge.Box wa wq.heap.size 4 2 2 12 := by rw [hwa]; exact Ge.Box.new wq 4 2 2 12
  clear hwa
  refine (make_any _).mono ?_
  rintro e w1 ⟨cs, rfl, hl, hb1⟩
  have hX1 := hXa.keep hb1
  have hb01 := hba.trans (hb1.mono hba.size)
  go_wp2_with (refine wpList_store_row rfl 33 _ _ rfl w1.heap.size (cells cs) rfl rfl 33 (cells ZT) (heap_alloc_new w1 _) (rsize hl) (zsize hl) (cells_one cs) ?_)
  have hS := St.start (cs := cs) hb01 (cells ZT)
  have hb : Below w1.heap.size w1 ((w1.alloc (Obj.cells (cells ZT) 33)).setRow w1.heap.size (cells cs)) := below_setRow ((Below.refl _ _).alloc (Nat.le_refl _) _) (Nat.le_refl _) _
  have hX2 := hX1.keep hb
  have hbw2 := hb01.trans (hb.mono hb01.size)
  clear hb hb01 hX1 hb1 hba hXa
  generalize hg : w1.heap.size = g1 at hS hX2 hbw2 ⊢
  generalize (w1.alloc (Obj.cells (cells ZT) 33)).setRow g1 (cells cs) = w2 at *
  clear hg hz
  have hT2 := hS.tb
  clear hS
  have hTa := Lib.hid hT2
  have hi1 := hT2.is hl.1
  have hi2 := hT2.of
  obtain ⟨x1, x2, x3, x4, x5⟩ := id hX2
  have hn1 := Lib.hid (of_no (A := none) (c := 0) (w := w2) hl.tab (n := 0) (B := 0) (P := 0) (W := 0) (K := 0) (e0 := 1) (by decide) (by decide +kernel) (by decide))
  have hn2 : ∀ w', Hid (Calls Try.prog 28 #[.agg (cells cs), .agg #[.int .i64 4, .int .i64 2, .int .i64 2, .int .i64 12], .slice none 0 0] w' fun e w'' => e = .returned (.tuple #[.slice none 0 0, .int .i64 ((3 : Nat) : Int)]) ∧ Below w'.heap.size w' w'') := fun w' => of_no (A := none) (c := 0) (w := w') hl.tab (n := 0) (B := 4) (P := 2) (W := 2) (K := 12) (e0 := 3) (by decide) (by decide +kernel) (by decide)
  go_wp2_with (first
    | (go_at_call 28; (with_reducible refine hn1.out.mono ?_); rintro e wm ⟨rfl, hbm⟩; have hTm := hTa.out.keep hbm; have hXm := hX2.keep hbm; have hbwm := hbw2.trans (hbm.mono hbw2.size); have hi3 := hTm.is hl.1; have hi4 := hTm.of; obtain ⟨m1, m2, m3, m4, m5⟩ := id hXm; have hn2' := hn2 wm)
    | (go_at_call 28; (with_reducible refine hn2'.out.mono ?_); rintro e wn ⟨rfl, hbn⟩; have hTn := hTm.keep hbn; have hXn := hXm.keep hbn; have hbwn := hbwm.trans (hbn.mono hbwm.size)))
  clear hi1 hi2 x1 x2 x3 x4 x5 hn1 hn2 hi3 hi4 m1 m2 m3 m4 m5 hn2' hTm hXm hbwm hbm hbn hTa hT2 hX2 hbw2
  have hX2 := hXn
  have hT2 := hTn
  have hbw2 := hbwn
  clear hXn hTn hbwn
  have hX2' := Lib.hid hX2
  have hmk20 : ∀ w' : World, (Instr.makeSlice 26 (.int .i64 20) (.int .i64 20)).run Try.prog w' = .ok (.slice (some ⟨w'.heap.size, 0, none⟩) 20 20) (w'.alloc (.cells (madeCells #[.int .u8 0] 20) 5)) :=
    run_make_row' (P := Try.prog) 26 5 (.int .u8 0) 1 Try.underlying26 info5 rfl .i64 .i64 20 (by omega) (by omega)
  refine Cl.region_way (fun _ => True) 11 [(0, .r), (1, .r), (2, .r), (3, .c), (4, .c), (5, .c), (6, .r), (7, .r), (8, .r), (9, .r), (10, .r)] (by kernel_rfl) (by kernel_rfl) ?_
  intro v0 hk0
  have hbk := Cl.Keeps.below hk0
  have hX0 := Lib.hid (hX2'.out.keep hbk)
  have hT0 := Lib.hid (hT2.keep hbk)
  have hb0 := Lib.hid (hbw2.trans (hbk.mono hbw2.size))
  have x0 : ∀ y : Cl.Since (fun _ => True) v0, y.w.cell? ⟨wq.heap.size, 0, none⟩ = some (.int .i64 4) := fun y => (hX0.out.keep (Cl.Keeps.below y.keeps)).c0
  have x1 : ∀ y : Cl.Since (fun _ => True) v0, y.w.cell? ⟨wq.heap.size, 1, none⟩ = some (.int .i64 2) := fun y => (hX0.out.keep (Cl.Keeps.below y.keeps)).c1
  have x2 : ∀ y : Cl.Since (fun _ => True) v0, y.w.cell? ⟨wq.heap.size, 2, none⟩ = some (.int .i64 2) := fun y => (hX0.out.keep (Cl.Keeps.below y.keeps)).c2
  have x3 : ∀ y : Cl.Since (fun _ => True) v0, y.w.cell? ⟨wq.heap.size, 3, none⟩ = some (.int .i64 12) := fun y => (hX0.out.keep (Cl.Keeps.below y.keeps)).c3
  iterate 3 (refine Cl.way_r rfl ?_; go_big_quiet_step (fail); refine wpQuiet_nil ?_)
  have hsz := Lib.hid (Ge.refsize_any 4 2 2 12 v0)
  rw [show Ge.sizG 4 2 2 12 = 20 by decide +kernel] at hsz
  clear x0 x1 x2 x3 hk0 hbk hX2 hX2' hT2 hbw2
  refine Cl.way_c rfl ?_
  go_wp2_with (go_at_call 22; (with_reducible refine hsz.out.mono ?_); rintro e v1 ⟨rfl, hb1⟩)
  refine Cl.way_on (Cl.Keeps.of_below hb1) ?_
  have hX1 := Lib.hid (hX0.out.keep hb1)
  have hT1 := Lib.hid (hT0.out.keep hb1)
  have hbw1 := Lib.hid (hb0.out.trans (hb1.mono hb0.out.size))
  clear hX0 hT0 hb0 hb1 hsz
  refine Cl.way_c rfl ?_
  go_wp2_with fail
  refine Cl.way_on (Cl.Keeps.of_below (Ge.below_alloc _ _)) ?_
  have hA2 := ab_new v1 20
  have hO := Ge.below_alloc v1 (.cells (madeCells #[.int .u8 0] 20) 5)
  have hX2 := Lib.hid (hX1.out.keep hO)
  have hT2 := Lib.hid (hT1.out.keep hO)
  have hbw2 := Lib.hid (hbw1.out.trans (hO.mono hbw1.out.size))
  generalize v1.alloc (.cells (madeCells #[.int .u8 0] 20) 5) = v2 at *
  have hmk := make_rf (B := 4) (P := 2) (W := 2) (K := 12) (k := 1) (l := 0) (q := 0) (c := 20) (hA2.sb (fun x hx => by rw [(List.mem_replicate.1 hx).2]; decide)) (by decide)
  rw [show (List.replicate 20 0).length = 20 from rfl, hmE, hmW] at hmk
  replace hmk := Lib.hid hmk
  clear hX1 hT1 hbw1 hO hA2 hmk20
  refine Cl.way_c rfl ?_
  go_wp2_with (go_at_call 17; (with_reducible refine hmk.out.mono ?_); rintro e w3 ⟨v3, rfl, ho3, hb3⟩)
  refine Cl.way_on (Cl.Keeps.of_below hb3) ?_
  iterate 5 (refine Cl.way_r rfl ?_; go_big_quiet_step (fail); refine wpQuiet_nil ?_)
  refine Cl.way_end ?_
  obtain ⟨A2, c2, rfl, hc2, hs3⟩ := ho3.sl
  rw [hpl] at hc2 ⊢
  have hX3 := Lib.hid (hX2.out.keep hb3)
  have hT3 := Lib.hid (hT2.out.keep hb3)
  have hbw3 := Lib.hid (hbw2.out.trans (hb3.mono hbw2.out.size))
  have hS3 := Lib.hid hs3
  have hpc := lawpts_any (c := c2) hs3 (by rw [hpl]; decide)
  rw [hpl] at hpc
  replace hpc := Lib.hid hpc
  have hPL := Lib.hid hpl
  have hPB := Lib.hid hpb
  have hL := Lib.hid hl.tab
  clear hX2 hT2 hbw2 hb3 ho3 hs3 hmk hmE hmW hl hpl hpb
  go_wp2_with (go_at_call 20; (with_reducible refine hpc.out.mono ?_); rintro e w4 ⟨v4, rfl, hop4, hb4⟩; obtain ⟨gp, cp, rfl, hcp, hgp, hPv⟩ := hop4.pre (by intro e; have := congrArg List.length e; rw [List.length_map, hPL.out] at this; cases this); rw [List.length_map, hPL.out] at hcp hPv ⊢)
  have hP4 := hPv.congr (f' := fun j => cpx (kX S 0 1 j)) (fun j hj => by rw [kX_start, pts_at (by rw [hPL.out]; exact hj)])
  go_loopw [10] (fun p wr => ∃ i : Nat, i ≤ 16 ∧ i % 2 = 0 ∧ p = .int .i64 i ∧ PreV wr 49 gp 56 (fun j => cpx (kX S i 1 j)) ∧ Below w3.heap.size w3 wr) (fun p _ => 16 - (intOf p).toNat)
  case atStart => exact ⟨0, by decide, by decide, rfl, hP4, hb4⟩
  case round =>
    clear hP4 hPv hop4 hb4 hpc
    obtain ⟨i, hi, hi2, rfl, hP, hB⟩ := hrel
    by_cases hlt : i < 16
    · have hiI : (i : Int) < 16 := by omega
      have hi56 : (i : Int) < 56 := by omega
      have hc0 := hP.cell (i := i) (by omega)
      have hcf := hP.frozen i
      have hP' := Lib.hid ((hP.set_ i (cpx (0, 0))).congr fun j _ => kX_even hi2 j)
      have hB' := Lib.hid (hB.setCell (show w3.heap.size ≤ gp from hgp) (p := ⟨gp, i, none⟩) (cpx (0, 0)))
      clear hP hB
      go_wp2_with fail
      go_roundw
      case rel => exact ⟨i + 2, by omega, by omega, by go_num, hP'.out, hB'.out⟩
      case measure => simp [intOf]; omega
    · obtain rfl : i = 16 := by omega
      have hP5 := hP
      have hB5 := hB
      clear hP hB
      go_wp2_with fail
      go_loopw [11] (fun p wr => ∃ i : Nat, 1 ≤ i ∧ i ≤ 19 ∧ i % 2 = 1 ∧ p = .int .i64 i ∧ PreV wr 49 gp 56 (fun j => cpx (kX S 16 i j)) ∧ Below w3.heap.size w3 wr) (fun p _ => 19 - (intOf p).toNat)
      case atStart => exact ⟨1, by decide, by decide, by decide, rfl, hP5, hB5⟩
      case round =>
        clear hP5 hB5
        obtain ⟨i, h1, hi, hi2, rfl, hP, hB⟩ := hrel
        by_cases hlt : i < 19
        · have hiI : (i : Int) < 19 := by omega
          have hi56 : (i : Int) < 56 := by omega
          have hc0 := hP.cell (i := i) (by omega)
          have hcf := hP.frozen i
          have hP' := Lib.hid ((hP.set_ i (cpx (0, 0))).congr fun j _ => kX_odd hi2 j)
          have hB' := Lib.hid (hB.setCell (show w3.heap.size ≤ gp from hgp) (p := ⟨gp, i, none⟩) (cpx (0, 0)))
          clear hP hB
          go_wp2_with fail
          go_roundw
          case rel => exact ⟨i + 2, by omega, by omega, by omega, by go_num, hP'.out, hB'.out⟩
          case measure => simp [intOf]; omega
        · obtain rfl : i = 19 := by omega
          have hcx := Lib.hid (PreV.cx (X := kX S 16 19) hP)
          have hxl : ((List.range 56).map (kX S 16 19)).length = 56 := by simp
          have hq := quart_k S hPL.out
          generalize ((List.range 56).map (kX S 16 19)) = xs at *
          have hX5 := Lib.hid (hX3.out.keep hB)
          have hT5 := Lib.hid (hT3.out.keep hB)
          have hbw5 := Lib.hid (hbw3.out.trans (hB.mono hbw3.out.size))
          have hof := HOF.out cs hL.out (some ⟨gp, 0, none⟩) cp xs wr hxl hq hcx.out
          have hi1 := hT5.out.is hL.out.1
          have hi2 := hT5.out.of
          obtain ⟨n1, n2, n3, n4, n5⟩ := hX5.out
          have hQ := Lib.hid hq
          have hXL := Lib.hid hxl
          clear hP hB hX3 hT3 hbw3 hS3 hq hxl
          go_wp2_with (first
            | (go_at_call 28; (with_reducible refine hof.out.mono ?_); rintro e w6 ⟨g6, rfl, r0, r1, r2, r3, hg6, hb6⟩; have hX6 := Lib.hid (hX5.out.keep hb6); have hT6 := Lib.hid (hT5.out.keep hb6); obtain ⟨m1, m2, m3, m4, m5⟩ := hX6.out; have hi3 := hT6.out.is hL.out.1; have hi4 := hT6.out.of; have hsh := HSH.out cs hL.out (some ⟨gp, 0, none⟩) cp xs w6 hXL.out hQ.out (hcx.out.far hb6); have R0 := Lib.hid r0; have R1 := Lib.hid r1; have R2 := Lib.hid r2; have R3 := Lib.hid r3; clear r0 r1 r2 r3; have hbw6 := Lib.hid (hbw5.out.trans (hb6.mono hbw5.out.size)))
            | (go_at_call 27; (with_reducible refine hsh.out.mono ?_); rintro e w7 ⟨rfl, hb7⟩; have hX7 := Lib.hid (hX6.out.keep hb7); have hT7 := Lib.hid (hT6.out.keep hb7); have S0 := Lib.hid ((hb7.cell (p := ⟨g6, 0, none⟩) hg6).trans R0.out); have S1 := Lib.hid ((hb7.cell (p := ⟨g6, 1, none⟩) hg6).trans R1.out); have S2 := Lib.hid ((hb7.cell (p := ⟨g6, 2, none⟩) hg6).trans R2.out); have S3 := Lib.hid ((hb7.cell (p := ⟨g6, 3, none⟩) hg6).trans R3.out); have hg7 : g6 < w7.heap.size := Nat.lt_of_lt_of_le hg6 hb7.size; have hbw7 := Lib.hid (hbw6.out.trans (hb7.mono hbw6.out.size))))
          clear hi1 hi2 n1 n2 n3 n4 n5 m1 m2 m3 m4 m5 hi3 hi4 hsh hof R0 R1 R2 R3 hX6 hT6 hbw6 hb6 hb7 hbw5 hX5 hT5 hcx hQ hXL
          have hmx : ∀ w' : World, (Instr.makeSlice 44 (.int .i64 56) (.int .i64 56)).run Try.prog w' = .ok (.slice (some ⟨w'.heap.size, 0, none⟩) 56 56) (w'.alloc (.cells (madeCells #[.complex .f64 0 0] 56) 49)) := fun w' => make_cxn 56 (by decide) w'
          refine Cl.region_way (fun _ => True) 9 [(0, .r), (1, .r), (2, .c), (3, .c), (4, .r), (5, .r), (6, .r), (7, .r), (8, .r)] (by kernel_rfl) (by kernel_rfl) ?_
          intro v0 hk0
          have hbk := Cl.Keeps.below hk0
          have hX0 := Lib.hid (hX7.out.keep hbk)
          have hT0 := Lib.hid (hT7.out.keep hbk)
          have hb0 := Lib.hid (hbk)
          have x0 : ∀ y : Cl.Since (fun _ => True) v0, y.w.cell? ⟨wq.heap.size, 0, none⟩ = some (.int .i64 4) := fun y => (hX0.out.keep (Cl.Keeps.below y.keeps)).c0
          have x1 : ∀ y : Cl.Since (fun _ => True) v0, y.w.cell? ⟨wq.heap.size, 1, none⟩ = some (.int .i64 2) := fun y => (hX0.out.keep (Cl.Keeps.below y.keeps)).c1
          have x2 : ∀ y : Cl.Since (fun _ => True) v0, y.w.cell? ⟨wq.heap.size, 2, none⟩ = some (.int .i64 2) := fun y => (hX0.out.keep (Cl.Keeps.below y.keeps)).c2
          have x3 : ∀ y : Cl.Since (fun _ => True) v0, y.w.cell? ⟨wq.heap.size, 3, none⟩ = some (.int .i64 12) := fun y => (hX0.out.keep (Cl.Keeps.below y.keeps)).c3
          have hi1 : ∀ y : Cl.Since (fun _ => True) v0, isTb y.w g1 = true := fun y => (hT0.out.keep (Cl.Keeps.below y.keeps)).is hL.out.1
          have hi2 : ∀ y : Cl.Since (fun _ => True) v0, tbOf y.w g1 = cells cs := fun y => (hT0.out.keep (Cl.Keeps.below y.keeps)).of
          iterate 2 (refine Cl.way_r rfl ?_; go_big_quiet_step (fail); refine wpQuiet_nil ?_)
          clear x0 x1 x2 x3 hi1 hi2 hk0 hX0 hT0 hX7 hT7
          refine Cl.way_c rfl ?_
          go_wp2_with fail
          refine Cl.way_on (Cl.Keeps.of_below (Ge.below_alloc _ _)) ?_
          have hcn := cx_new v0 56
          have hO := Ge.below_alloc v0 (.cells (madeCells #[.complex .f64 0 0] 56) 49)
          generalize v0.alloc (.cells (madeCells #[.complex .f64 0 0] 56) 49) = v1 at *
          have hbl := HBL.out cs hL.out (some ⟨v0.heap.size, 0, none⟩) 56 v1 hcn
          have hb1 := Lib.hid (hbk.trans (hO.mono hbk.size))
          clear hcn hO hbk hb0 hmx
          refine Cl.way_c rfl ?_
          go_wp2_with (go_at_call 28; (with_reducible refine hbl.out.mono ?_); rintro e w8 ⟨g8, rfl, s1, hb8⟩)
          refine Cl.way_on (Cl.Keeps.of_below hb8) ?_
          iterate 5 (refine Cl.way_r rfl ?_; go_big_quiet_step (fail); refine wpQuiet_nil ?_)
          refine Cl.way_end ?_
          have hb78 := hb1.out.trans (hb8.mono hb1.out.size)
          have t0 := (hb78.cell (p := ⟨g6, 0, none⟩) hg7).trans S0.out
          have t1 := (hb78.cell (p := ⟨g6, 1, none⟩) hg7).trans S1.out
          have t2 := (hb78.cell (p := ⟨g6, 2, none⟩) hg7).trans S2.out
          have t3 := (hb78.cell (p := ⟨g6, 3, none⟩) hg7).trans S3.out
          have hbw8 := Lib.hid (hbq.trans ((hbw7.out.trans (hb78.mono hbw7.out.size)).mono hbq.size))
          have hg1 : Hid (Calls Try.prog 26 #[.slice none 0 0] w8 fun e w'' => (∃ r, e = .returned (.float .f64 r) ∧ Qt r 4) ∧ Below w8.heap.size w8 w'') := margin_any (A := none) (c := 0) (w := w8) (xs := []) (fun _ => (0, 0)) (Cx.nil _ _ _) (by decide) (fun i hi => absurd hi (by simp))
          have hg2 : ∀ w' : World, Hid (Calls Try.prog 26 #[.slice (some ⟨w'.heap.size, 0, none⟩) 1 1] (w'.alloc (.cells #[.complex .f64 4629981891913580544 4607182418800017408] 49)) fun e w'' => (∃ r, e = .returned (.float .f64 r) ∧ Qt r (-8)) ∧ Below (w'.alloc (.cells #[.complex .f64 4629981891913580544 4607182418800017408] 49)).heap.size (w'.alloc (.cells #[.complex .f64 4629981891913580544 4607182418800017408] 49)) w'') := fun w' =>
            margin_any (c := 1) (fun _ => (136, 4)) (cx_one w' _ _) (by decide) (quart_one qt_34 qt_one (by decide) (by decide))
          have hg3 : ∀ w' : World, Hid (Calls Try.prog 26 #[.slice (some ⟨w'.heap.size, 0, none⟩) 1 1] (w'.alloc (.cells #[.complex .f64 0 0] 49)) fun e w'' => (∃ r, e = .returned (.float .f64 r) ∧ Qt r 0) ∧ Below (w'.alloc (.cells #[.complex .f64 0 0] 49)).heap.size (w'.alloc (.cells #[.complex .f64 0 0] 49)) w'') := fun w' =>
            margin_any (c := 1) (fun _ => (0, 0)) (cx_one w' _ _) (by decide) (quart_one qt_zero qt_zero (by decide) (by decide))
          clear hbl hb1 hb8 hb78 S0 S1 S2 S3 hbw7
          go_wp2_with (first
            | (go_at_call 26; (with_reducible refine hg1.out.mono ?_); rintro e w9 ⟨⟨ra, rfl, qa⟩, hb9⟩; have e1 : (FloatKind.f64.format.order ra 4607182418800017408 == some .eq) = true := (by rw [qt_eqb qa qt_one]; rfl); have hh2 := Lib.hid (hg2 w9); have hba := Lib.hid (hbw8.out.trans (hb9.mono hbw8.out.size)); have hoa := Lib.hid (hba.out.trans ((Ge.below_alloc w9 (.cells #[.complex .f64 4629981891913580544 4607182418800017408] 49)).mono hba.out.size)))
            | (go_at_call 26; (with_reducible refine hh2.out.out.mono ?_); rintro e wx ⟨⟨rb, rfl, qb⟩, hbx⟩; have e2 : (FloatKind.f64.format.order rb 13835058055282163712 == some .eq) = true := (by rw [qt_eqb qb qt_m2]; rfl); have hh3 := Lib.hid (hg3 wx); have hbb := Lib.hid (hoa.out.trans (hbx.mono hoa.out.size)); have hob := Lib.hid (hbb.out.trans ((Ge.below_alloc wx (.cells #[.complex .f64 0 0] 49)).mono hbb.out.size)))
            | (go_at_call 26; (with_reducible refine hh3.out.out.mono ?_); rintro e wy ⟨⟨rc, rfl, qc⟩, hby⟩; have e3 : (FloatKind.f64.format.order rc 0 == some .eq) = true := (by rw [qt_eqb qc qt_zero]; rfl); have hbc := Lib.hid (hob.out.trans (hby.mono hob.out.size))))
          go_ret
          exact ⟨rfl, hbc.out⟩
end Go.Proofs.Ytmchelbmeajcnaa
