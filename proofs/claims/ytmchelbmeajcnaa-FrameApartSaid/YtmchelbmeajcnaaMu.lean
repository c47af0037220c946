/- FrameApart: two pages that say something else are unlike in more than sixteen symbols of a codeword. -/
import Derived.Test.YtmchelbmeajcnaaMt
import Derived.Test.YtmchelbmeajcnaaMr
namespace Go.Proofs.Ytmchelbmeajcnaa
open Go.RowKit Go.Gf Go.Fl
set_option linter.unusedVariables false
set_option linter.unusedSimpArgs false
set_option maxRecDepth 20000
attribute [local go_sem ↓] exec_load_tb Cl.quiet_since
attribute [local go_sem] tbAt_ptr tbIn_ptr

/-- block g holds two heads -/
structure Hd2 (w : World) (g : Nat) (k l q k' l' q' : Int) : Prop where
  lt : g < w.heap.size
  c0 : w.cell? ⟨g, 0, none⟩ = some (.int .i64 k)
  c1 : w.cell? ⟨g, 1, none⟩ = some (.int .i64 l)
  c2 : w.cell? ⟨g, 2, none⟩ = some (.int .i64 q)
  c3 : w.cell? ⟨g, 3, none⟩ = some (.int .i64 k')
  c4 : w.cell? ⟨g, 4, none⟩ = some (.int .i64 l')
  c5 : w.cell? ⟨g, 5, none⟩ = some (.int .i64 q')
theorem Hd2.keep {w w' : World} {g : Nat} {k l q k' l' q' : Int} (h : Hd2 w g k l q k' l' q') (hb : Below w.heap.size w w') : Hd2 w' g k l q k' l' q' :=
  ⟨Nat.lt_of_lt_of_le h.lt hb.size, (hb.cell h.lt).trans h.c0, (hb.cell h.lt).trans h.c1, (hb.cell h.lt).trans h.c2, (hb.cell h.lt).trans h.c3, (hb.cell h.lt).trans h.c4, (hb.cell h.lt).trans h.c5⟩
theorem Hd2.new (w : World) (k l q k' l' q' : Int) : Hd2 (w.alloc (.cells #[.int .i64 k, .int .i64 l, .int .i64 q, .int .i64 k', .int .i64 l', .int .i64 q'] 53)) w.heap.size k l q k' l' q' := by
  have e := heap_alloc_new w (.cells #[.int .i64 k, .int .i64 l, .int .i64 q, .int .i64 k', .int .i64 l', .int .i64 q'] 53)
  exact ⟨by rw [World.size_alloc]; omega, Ge.cell_of e 0, Ge.cell_of e 1, Ge.cell_of e 2, Ge.cell_of e 3, Ge.cell_of e 4, Ge.cell_of e 5⟩
/-- block g holds two values -/
structure Vl2 (w : World) (g : Nat) (v v' : Value) : Prop where
  lt : g < w.heap.size
  c0 : w.cell? ⟨g, 0, none⟩ = some v
  c1 : w.cell? ⟨g, 1, none⟩ = some v'
theorem Vl2.keep {w w' : World} {g : Nat} {v v' : Value} (h : Vl2 w g v v') (hb : Below w.heap.size w w') : Vl2 w' g v v' :=
  ⟨Nat.lt_of_lt_of_le h.lt hb.size, (hb.cell h.lt).trans h.c0, (hb.cell h.lt).trans h.c1⟩
theorem Vl2.new (w : World) (v v' : Value) : Vl2 (w.alloc (.cells #[v, v'] 54)) w.heap.size v v' := by
  have e := heap_alloc_new w (.cells #[v, v'] 54)
  exact ⟨by rw [World.size_alloc]; omega, Ge.cell_of e 0, Ge.cell_of e 1⟩
set_option maxHeartbeats 16000000 in
theorem apart_law (B P W K : Int) (wB : (Lit.int .i64 B).wf = true) (wP : (Lit.int .i64 P).wf = true) (wW : (Lit.int .i64 W).wf = true) (wK : (Lit.int .i64 K).wf = true)
    (k l q k' l' q' : Int) (wk : (Lit.int .i64 k).wf = true) (wl : (Lit.int .i64 l).wf = true) (wq : (Lit.int .i64 q).wf = true) (wk' : (Lit.int .i64 k').wf = true) (wl' : (Lit.int .i64 l').wf = true) (wq' : (Lit.int .i64 q').wf = true)
    (A A' : Option Addr) (d d' : List Nat) (c c' : Nat) (hl : d.length ≤ c) (hc : c ≤ maxLen) (hl' : d'.length ≤ c') (hc' : c' ≤ maxLen) (w : World) (hs : Sb w w.heap.size A d) (hs' : Sb w w.heap.size A' d') :
    Calls Try.prog 6 #[.agg #[.int .i64 B, .int .i64 P, .int .i64 W, .int .i64 K], .agg #[.int .i64 k, .int .i64 l, .int .i64 q, .int .i64 k', .int .i64 l', .int .i64 q'], .agg #[.slice A d.length c, .slice A' d'.length c']] w fun e w' => e = .returned (.bool true) ∧ Below w.heap.size w w' := by
  have H := Lib.hid hs
  have H' := Lib.hid hs'
  have hz := zero27
  have hdm : d.length ≤ 9223372036854775807 := by unfold maxLen at hc; omega
  have hdm' : d'.length ≤ 9223372036854775807 := by unfold maxLen at hc'; omega
  clear hc hs hc' hs'
  obtain ⟨wa, hwa⟩ : ∃ wa, wa = w.alloc (.cells #[.int .i64 B, .int .i64 P, .int .i64 W, .int .i64 K] 23) := ⟨_, rfl⟩
  obtain ⟨wb, hwb⟩ : ∃ wb, wb = wa.alloc (.cells #[.int .i64 k, .int .i64 l, .int .i64 q, .int .i64 k', .int .i64 l', .int .i64 q'] 53) := ⟨_, rfl⟩
  obtain ⟨w0, hw0⟩ : ∃ w0, w0 = wb.alloc (.cells #[.slice A d.length c, .slice A' d'.length c'] 54) := ⟨_, rfl⟩
  have hza : wa.heap.size = w.heap.size + 1 := by rw [hwa, World.size_alloc]
  have hzb : wb.heap.size = w.heap.size + 1 + 1 := by rw [hwb, World.size_alloc, hza]
  have hba : Below w.heap.size w wa := by rw [hwa]; exact Ge.below_alloc w _
  have hab : Below wa.heap.size wa wb := by rw [hwb]; exact Ge.below_alloc wa _
  have hb0 : Below wb.heap.size wb w0 := by rw [hw0]; exact Ge.below_alloc wb _
  have hbb : Below w.heap.size w wb := hba.trans (hab.mono hba.size)
  have hbw0 : Below w.heap.size w w0 := hbb.trans (hb0.mono hbb.size)
  have hX : Ge.Box w0 w.heap.size B P W K := by
    have := Ge.Box.new w B P W K
    rw [← hwa] at this
    exact (this.keep hab).keep hb0
  have hH : Hd2 w0 (w.heap.size + 1) k l q k' l' q' := by
    have := Hd2.new wa k l q k' l' q'
    rw [← hwb, hza] at this
    exact this.keep hb0
  have hV : Vl2 w0 (w.heap.size + 1 + 1) (.slice A d.length c) (.slice A' d'.length c') := by
    have := Vl2.new wb (.slice A d.length c) (.slice A' d'.length c')
    rwa [← hw0, hzb] at this
  go_enter Try.func6, Try.ntmps6
  go_wp2_with fail
  rw [← hwa, ← hwb, ← hw0]
  clear hwa hwb hw0 hza hzb hba hab hb0 hbb
  refine (awake_any w0).mono ?_
  rintro e w1 ⟨rfl, hb1⟩
  have hX1 := hX.keep hb1
  have hH1 := hH.keep hb1
  have hV1 := hV.keep hb1
  have hbw1 := hbw0.trans (hb1.mono hbw0.size)
  clear hX hH hV hbw0 hb1
  obtain ⟨x1, x2, x3, x4, x5⟩ := id hX1
  obtain ⟨v1, v2, v3⟩ := id hV1
  have hsm := small_any B P W K w1
  have hmg : Hid (∀ w', Calls Try.prog 21 #[.agg #[.int .i64 B, .int .i64 P, .int .i64 W, .int .i64 K]] w' (Ge.Ans w' (.bool (Ge.mayG B P W K)))) := fun w' => Ge.refmay_any B P W K w'
  cases hSM : smB B P W K
  · rw [hSM] at hsm
    replace hsm := Lib.hid hsm
    go_wp2_with (go_at_call 14; (with_reducible refine hsm.out.mono ?_); rintro e w2 ⟨rfl, hb2⟩; have hbw2 := hbw1.trans (hb2.mono hbw1.size); have hX2 := hX1.keep hb2; have hV2 := hV1.keep hb2; have hH2 := hH1.keep hb2; obtain ⟨y1, y2, y3, y4, y5⟩ := id hX2; obtain ⟨z1, z2, z3⟩ := id hV2; have hgm := Lib.hid (hmg.out w2))
    go_ret
    exact ⟨rfl, hbw2⟩
  rw [hSM] at hsm
  replace hsm := Lib.hid hsm
  cases hM : Ge.mayG B P W K
  · rw [hM] at hmg
    go_wp2_with (first | (go_at_call 14; (with_reducible refine hsm.out.mono ?_); rintro e w2 ⟨rfl, hb2⟩; have hbw2 := hbw1.trans (hb2.mono hbw1.size); have hX2 := hX1.keep hb2; have hV2 := hV1.keep hb2; have hH2 := hH1.keep hb2; obtain ⟨y1, y2, y3, y4, y5⟩ := id hX2; obtain ⟨z1, z2, z3⟩ := id hV2; have hgm := Lib.hid (hmg.out w2)) | (go_at_call 21; (with_reducible refine hgm.out.mono ?_); rintro e w3 ⟨rfl, hb3⟩; have hbw3 := hbw2.trans (hb3.mono hbw2.size); have hX3 := hX2.keep hb3; have hV3 := hV2.keep hb3; have hH3 := hH2.keep hb3; obtain ⟨m1, m2, m3, m4, m5⟩ := id hX3; obtain ⟨n1, n2, n3⟩ := id hV3))
    go_ret
    exact ⟨rfl, hbw3⟩
  rw [hM] at hmg
  by_cases hd1 : d.length ≤ 1000
  rotate_left
  · have hdd : decide ((1000 : Int) < (d.length : Int)) = true := decide_eq_true (by omega)
    go_wp2_with (first | (go_at_call 14; (with_reducible refine hsm.out.mono ?_); rintro e w2 ⟨rfl, hb2⟩; have hbw2 := hbw1.trans (hb2.mono hbw1.size); have hX2 := hX1.keep hb2; have hV2 := hV1.keep hb2; have hH2 := hH1.keep hb2; obtain ⟨y1, y2, y3, y4, y5⟩ := id hX2; obtain ⟨z1, z2, z3⟩ := id hV2; have hgm := Lib.hid (hmg.out w2)) | (go_at_call 21; (with_reducible refine hgm.out.mono ?_); rintro e w3 ⟨rfl, hb3⟩; have hbw3 := hbw2.trans (hb3.mono hbw2.size); have hX3 := hX2.keep hb3; have hV3 := hV2.keep hb3; have hH3 := hH2.keep hb3; obtain ⟨m1, m2, m3, m4, m5⟩ := id hX3; obtain ⟨n1, n2, n3⟩ := id hV3))
    go_ret
    exact ⟨rfl, hbw3⟩
  have hdd : decide ((1000 : Int) < (d.length : Int)) = false := decide_eq_false (by omega)
  by_cases hd2 : d'.length ≤ 1000
  rotate_left
  · have hdd' : decide ((1000 : Int) < (d'.length : Int)) = true := decide_eq_true (by omega)
    go_wp2_with (first | (go_at_call 14; (with_reducible refine hsm.out.mono ?_); rintro e w2 ⟨rfl, hb2⟩; have hbw2 := hbw1.trans (hb2.mono hbw1.size); have hX2 := hX1.keep hb2; have hV2 := hV1.keep hb2; have hH2 := hH1.keep hb2; obtain ⟨y1, y2, y3, y4, y5⟩ := id hX2; obtain ⟨z1, z2, z3⟩ := id hV2; have hgm := Lib.hid (hmg.out w2)) | (go_at_call 21; (with_reducible refine hgm.out.mono ?_); rintro e w3 ⟨rfl, hb3⟩; have hbw3 := hbw2.trans (hb3.mono hbw2.size); have hX3 := hX2.keep hb3; have hV3 := hV2.keep hb3; have hH3 := hH2.keep hb3; obtain ⟨m1, m2, m3, m4, m5⟩ := id hX3; obtain ⟨n1, n2, n3⟩ := id hV3))
    go_ret
    exact ⟨rfl, hbw3⟩
  have hdd' : decide ((1000 : Int) < (d'.length : Int)) = false := decide_eq_false (by omega)
  obtain ⟨W', K', N, rfl, rfl, hN, hW1, hW4, hK1, hK64, h8, h256, hsg, hcg⟩ := mayG_of hM
  obtain ⟨n, hn⟩ : ∃ n, 10 * (N - 8) / 8 = n := ⟨_, rfl⟩
  have hn0 : n ≤ 1000 := by omega
  have hsz : Hid (∀ w', Calls Try.prog 22 #[.agg #[.int .i64 B, .int .i64 P, .int .i64 (W' : Int), .int .i64 (K' : Int)]] w' (Ge.Ans w' (.int .i64 (n : Int)))) := fun w' => by
    have := Ge.refsize_any B P W' K' w'
    rwa [hsg, hn] at this
  go_wp2_with (first
    | (go_at_call 14; (with_reducible refine hsm.out.mono ?_); rintro e w2 ⟨rfl, hb2⟩; have hbw2 := hbw1.trans (hb2.mono hbw1.size); have hX2 := hX1.keep hb2; have hV2 := hV1.keep hb2; have hH2 := hH1.keep hb2; obtain ⟨y1, y2, y3, y4, y5⟩ := id hX2; obtain ⟨z1, z2, z3⟩ := id hV2; have hgm := Lib.hid (hmg.out w2))
    | (go_at_call 21; (with_reducible refine hgm.out.mono ?_); rintro e w3 ⟨rfl, hb3⟩; have hbw3 := hbw2.trans (hb3.mono hbw2.size); have hX3 := hX2.keep hb3; have hV3 := hV2.keep hb3; have hH3 := hH2.keep hb3; obtain ⟨m1, m2, m3, m4, m5⟩ := id hX3; have hs3 := Lib.hid (hsz.out w3); obtain ⟨n1, n2, n3⟩ := id hV3)
    | (go_at_call 22; (with_reducible refine hs3.out.mono ?_); rintro e w4 ⟨rfl, hb4⟩; have hbw4 := hbw3.trans (hb4.mono hbw3.size); have hX4 := hX3.keep hb4; have hV4 := hV3.keep hb4; have hH4 := hH3.keep hb4))
  clear hX1 hV1 hH1 hbw1 hX2 hV2 hH2 hbw2 hX3 hV3 hH3 hbw3 x1 x2 x3 x4 x5 y1 y2 y3 y4 y5 z1 z2 z3 m1 m2 m3 m4 m5 n1 n2 n3 v1 v2 v3 hb2 hb3 hb4 hgm hs3 hsm hmg hsz hdd hdd'
  have hmk : ∀ w' : World, (Instr.makeSlice 26 (.int .i64 (n : Int)) (.int .i64 (n : Int))).run Try.prog w' = .ok (.slice (some ⟨w'.heap.size, 0, none⟩) n n) (w'.alloc (.cells (madeCells #[.int .u8 0] n) 5)) :=
    run_make_row' (P := Try.prog) 26 5 (.int .u8 0) 1 Try.underlying26 info5 rfl .i64 .i64 n (by omega) (by omega)
  have hOz := Lib.hid (heap_alloc_new w4)
  go_cut [8, 9] from 43 to 46 (fun sx sy wx => ∃ gx gy : Nat, gx ≠ gy ∧ sx = .slice (some ⟨gx, 0, none⟩) n n ∧ sy = .slice (some ⟨gy, 0, none⟩) n n ∧ Ab wx gx (List.replicate n 0) ∧ Ab wx gy (List.replicate n 0) ∧ Below w4.heap.size w4 wx ∧ w4.heap.size ≤ gx ∧ w4.heap.size ≤ gy)
  case first =>
    refine Cl.region_tree (fun b => b < w4.heap.size) 6 (.r 0 <| .r 2 <| .b 1 3 (.r 4 <| .c 3 <| .r 5 <| .e) (.c 1 <| .r 4 <| .r 5 <| .e)) (by kernel_rfl) (by kernel_rfl) ?_
    intro v0 hk0
    have hbk := Lib.hid (Cl.Keeps.below hk0)
    iterate 2 (refine Cl.tree_r rfl ?_; go_big_quiet_step (fail); refine wpQuiet_nil ?_)
    refine Cl.tree_b rfl rfl ?_ ?_
    · go_wp2_with fail
      refine Cl.way_on (Cl.Keeps.of_below (Ge.below_alloc _ _)) ?_
      have hA0 := ab_new v0 n
      have hB0 := Ge.below_alloc v0 (.cells (madeCells #[.int .u8 0] n) 5)
      have hg0 : v0.heap.size < (v0.alloc (.cells (madeCells #[.int .u8 0] n) 5)).heap.size := by rw [World.size_alloc]; omega
      have hge := hbk.out.size
      generalize v0.alloc (.cells (madeCells #[.int .u8 0] n) 5) = v1 at *
      have hA1 := ab_new v1 n
      have hB1 := Ge.below_alloc v1 (.cells (madeCells #[.int .u8 0] n) 5)
      have hA2 := Lib.hid (hA0.keep hB1)
      have hb2 := Lib.hid ((hbk.out.trans (hB0.mono hge)).trans (hB1.mono (Nat.le_trans hge hB0.size)))
      replace hA0 := Lib.hid hA0
      replace hA1 := Lib.hid hA1
      replace hg0 := Lib.hid hg0
      replace hge := Lib.hid hge
      clear hB0 hB1
      refine Cl.tree_r rfl ?_
      go_big_quiet_step (fail)
      refine wpQuiet_nil ?_
      refine Cl.tree_c rfl ?_
      go_wp2_with fail
      refine Cl.way_on (Cl.Keeps.of_below (Ge.below_alloc _ _)) ?_
      refine Cl.tree_r rfl ?_
      go_big_quiet_step (fail)
      refine wpQuiet_nil ?_
      refine Cl.tree_e ?_
      go_wp2_with fail
      go_meet
      exact ⟨v0.heap.size, v1.heap.size, by have := hg0.out; omega, rfl, rfl, hA2.out, hA1.out, hb2.out, hge.out, by have := hg0.out; have := hge.out; omega⟩
    · go_wp2_with fail
      refine Cl.way_on (Cl.Keeps.of_below (Ge.below_alloc _ _)) ?_
      have hA0 := ab_new v0 n
      have hB0 := Ge.below_alloc v0 (.cells (madeCells #[.int .u8 0] n) 5)
      have hg0 : v0.heap.size < (v0.alloc (.cells (madeCells #[.int .u8 0] n) 5)).heap.size := by rw [World.size_alloc]; omega
      have hge := hbk.out.size
      generalize v0.alloc (.cells (madeCells #[.int .u8 0] n) 5) = v1 at *
      have hA1 := ab_new v1 n
      have hB1 := Ge.below_alloc v1 (.cells (madeCells #[.int .u8 0] n) 5)
      have hA2 := Lib.hid (hA0.keep hB1)
      have hb2 := Lib.hid ((hbk.out.trans (hB0.mono hge)).trans (hB1.mono (Nat.le_trans hge hB0.size)))
      replace hA0 := Lib.hid hA0
      replace hA1 := Lib.hid hA1
      replace hg0 := Lib.hid hg0
      replace hge := Lib.hid hge
      clear hB0 hB1
      refine Cl.tree_c rfl ?_
      go_wp2_with fail
      refine Cl.way_on (Cl.Keeps.of_below (Ge.below_alloc _ _)) ?_
      refine Cl.tree_r rfl ?_
      go_big_quiet_step (fail)
      refine wpQuiet_nil ?_
      refine Cl.tree_r rfl ?_
      go_big_quiet_step (fail)
      refine wpQuiet_nil ?_
      refine Cl.tree_e ?_
      go_wp2_with fail
      go_meet
      exact ⟨v1.heap.size, v0.heap.size, by have := hg0.out; omega, rfl, rfl, hA1.out, hA2.out, hb2.out, by have := hg0.out; have := hge.out; omega, hge.out⟩
  case rest =>
    obtain ⟨gx, gy, hgxy, rfl, rfl, hAx, hAy, hbc, hgx, hgy⟩ := hcut
    have hbwc := hbw4.trans (hbc.mono hbw4.size)
    obtain ⟨v1, v2, v3⟩ := hV4.keep hbc
    go_wp2_with (refine wpList_copy_bytesG rfl (.tmp 47) (.tmp 49) rfl gx n rfl A d c rfl hAx (H.out.far hbwc) ?_)
    intro w5 hA5 hg5
    have hAy5 := hAy.other hg5 (Ne.symm hgxy)
    have hb5 := below_grown hbc hg5 hgx
    clear hAx hAy hbwc hg5 v1 v2 v3
    obtain ⟨v1, v2, v3⟩ := hV4.keep hb5
    have hbw5 := hbw4.trans (hb5.mono hbw4.size)
    go_wp2_with (refine wpList_copy_bytesG rfl (.tmp 51) (.tmp 53) rfl gy n rfl A' d' c' rfl hAy5 (H'.out.far hbw5) ?_)
    intro w6 hB6 hg6
    have hA6 := hA5.other hg6 hgxy
    have hb6 := below_grown hb5 hg6 hgy
    have hX6 := hX4.keep hb6
    have hH6 := hH4.keep hb6
    have hbw6 := hbw4.trans (hb6.mono hbw4.size)
    clear hA5 hAy5 hg6 hb5 hb6 hbw5 hbc hgx hgy hgxy hX4 hV4 hH4 hbw4 v1 v2 v3 hmk hOz
    obtain ⟨D, hD⟩ : ∃ D, rm n (at_ d) = D := ⟨_, rfl⟩
    obtain ⟨D', hD'⟩ : ∃ D', rm n (at_ d') = D' := ⟨_, rfl⟩
    have hDl : D.length = n := by rw [← hD, rm_len]
    have hDl' : D'.length = n := by rw [← hD', rm_len]
    have hDb : ∀ x ∈ D, x < 256 := by rw [← hD]; exact rm_mem fun j _ => at_lt H.out.1 (by decide)
    have hDb' : ∀ x ∈ D', x < 256 := by rw [← hD']; exact rm_mem fun j _ => at_lt H'.out.1 (by decide)
    rw [hD] at hA6
    rw [hD'] at hB6
    clear hD hD'
    go_wp2_with fail
    refine (make_any _).mono ?_
    rintro e w7 ⟨cs, rfl, hl7, hb7⟩
    have hX7 := hX6.keep hb7
    have hH7 := hH6.keep hb7
    have hA7 := hA6.keep hb7
    have hB7 := hB6.keep hb7
    have hbw7 := hbw6.trans (hb7.mono hbw6.size)
    clear hX6 hH6 hA6 hB6 hbw6 hb7
    go_wp2_with (refine wpList_store_row rfl 33 _ _ rfl w7.heap.size (cells cs) rfl rfl 33 (cells ZT) (heap_alloc_new w7 _) (rsize hl7) (zsize hl7) (cells_one cs) ?_)
    have hS := St.start (cs := cs) hbw7 (cells ZT)
    have hb : Below w7.heap.size w7 ((w7.alloc (Obj.cells (cells ZT) 33)).setRow w7.heap.size (cells cs)) := below_setRow ((Below.refl _ _).alloc (Nat.le_refl _) _) (Nat.le_refl _) _
    have hX8 := hX7.keep hb
    have hH8 := hH7.keep hb
    have hA8 := hA7.keep hb
    have hB8 := hB7.keep hb
    have hbww8 := hbw7.trans (hb.mono hbw7.size)
    clear hb
    generalize hg : w7.heap.size = g1 at hS hbww8 hX8 hH8 hA8 hB8 ⊢
    generalize (w7.alloc (Obj.cells (cells ZT) 33)).setRow g1 (cells cs) = w8 at *
    clear hg hz
    have hTw8 := hS.tb
    clear hS
    clear hX7 hH7 hA7 hB7 hbw7
    have hTw8 := hTw8
    replace hDl := Lib.hid hDl
    replace hDl' := Lib.hid hDl'
    have hE0 : ∃ E F : Nat, ∃ S S' : List Nat, mkE B P W' K' k l q n = E ∧ mkE B P W' K' k' l' q' n = F ∧ mkW B P W' K' k l q D = S ∧ mkW B P W' K' k' l' q' D' = S' := ⟨_, _, _, _, rfl, rfl, rfl, rfl⟩
    obtain ⟨E, F, S, S', hE, hF, hS, hS'⟩ := hE0
    have hmk1 : Hid (∀ w', Tab cs → Ab w' gx D → Calls Try.prog 16 #[.agg (cells cs), .agg #[.int .i64 B, .int .i64 P, .int .i64 (W' : Int), .int .i64 (K' : Int)], .agg #[.int .i64 k, .int .i64 l, .int .i64 q], .slice (some ⟨gx, 0, none⟩) n n] w' (RowV w' S E)) := fun w' ht hb => by
      have := make_fr (cs := cs) ht (B := B) (P := P) (W := W') (K := K') (k := k) (l := l) (q := q) (c := n) (hb.sb hDb) (by rw [hDl.out]; omega)
      rw [hDl.out, hE, hS] at this
      exact this
    have hmk2 : Hid (∀ w', Tab cs → Ab w' gy D' → Calls Try.prog 16 #[.agg (cells cs), .agg #[.int .i64 B, .int .i64 P, .int .i64 (W' : Int), .int .i64 (K' : Int)], .agg #[.int .i64 k', .int .i64 l', .int .i64 q'], .slice (some ⟨gy, 0, none⟩) n n] w' (RowV w' S' F)) := fun w' ht hb => by
      have := make_fr (cs := cs) ht (B := B) (P := P) (W := W') (K := K') (k := k') (l := l') (q := q') (c := n) (hb.sb hDb') (by rw [hDl'.out]; omega)
      rw [hDl'.out, hF, hS'] at this
      exact this
    have hi1 := hTw8.is hl7.1
    have hi2 := hTw8.of
    obtain ⟨x1, x2, x3, x4, x5⟩ := id hX8
    obtain ⟨y1, y2, y3, y4, y5, y6, y7⟩ := id hH8
    have hm1 := Lib.hid (hmk1.out w8 hl7.tab hA8)
    replace hE := Lib.hid hE
    replace hF := Lib.hid hF
    replace hS := Lib.hid hS
    replace hS' := Lib.hid hS'
    by_cases hE0 : E = 0
    rotate_left
    · have hEz : ((E : Int) != 0) = true := by simp [hE0]
      go_wp2_with (first
        | (go_at_call 16; (with_reducible refine hm1.out.mono ?_); rintro e w9 ⟨v9, rfl, ho9, hb9⟩; have hT9 := hTw8.keep hb9; have hX9 := hX8.keep hb9; have hH9 := hH8.keep hb9; have hA9 := hA8.keep hb9; have hB9 := hB8.keep hb9; have hbw9 := hbww8.trans (hb9.mono hbww8.size); obtain ⟨A9, c9, rfl, hs9⟩ := ho9.len; obtain ⟨m1, m2, m3, m4, m5⟩ := id hX9; obtain ⟨n1, n2, n3, n4, n5, n6, n7⟩ := id hH9; have hm2 := Lib.hid (hmk2.out w9 hl7.tab hB9); have hj1 := hT9.is hl7.1; have hj2 := hT9.of)
        | (go_at_call 16; (with_reducible refine hm2.out.mono ?_); rintro e w10 ⟨v10, rfl, ho10, hb10⟩; have hX10 := hX9.keep hb10; have hH10 := hH9.keep hb10; have hA10 := hA9.keep hb10; have hB10 := hB9.keep hb10; have hbw10 := hbw9.trans (hb10.mono hbw9.size); obtain ⟨A10, c10, rfl, hs10⟩ := ho10.len; have hs910 := hs9.far hb10; obtain ⟨p1, p2, p3, p4, p5⟩ := id hX10; obtain ⟨q1, q2, q3, q4, q5, q6, q7⟩ := id hH10))
      go_ret
      exact ⟨rfl, hbw10⟩
    subst hE0
    by_cases hF0 : F = 0
    rotate_left
    · have hFz : ((F : Int) != 0) = true := by simp [hF0]
      go_wp2_with (first
        | (go_at_call 16; (with_reducible refine hm1.out.mono ?_); rintro e w9 ⟨v9, rfl, ho9, hb9⟩; have hT9 := hTw8.keep hb9; have hX9 := hX8.keep hb9; have hH9 := hH8.keep hb9; have hA9 := hA8.keep hb9; have hB9 := hB8.keep hb9; have hbw9 := hbww8.trans (hb9.mono hbww8.size); obtain ⟨A9, c9, rfl, hs9⟩ := ho9.len; obtain ⟨m1, m2, m3, m4, m5⟩ := id hX9; obtain ⟨n1, n2, n3, n4, n5, n6, n7⟩ := id hH9; have hm2 := Lib.hid (hmk2.out w9 hl7.tab hB9); have hj1 := hT9.is hl7.1; have hj2 := hT9.of)
        | (go_at_call 16; (with_reducible refine hm2.out.mono ?_); rintro e w10 ⟨v10, rfl, ho10, hb10⟩; have hX10 := hX9.keep hb10; have hH10 := hH9.keep hb10; have hA10 := hA9.keep hb10; have hB10 := hB9.keep hb10; have hbw10 := hbw9.trans (hb10.mono hbw9.size); obtain ⟨A10, c10, rfl, hs10⟩ := ho10.len; have hs910 := hs9.far hb10; obtain ⟨p1, p2, p3, p4, p5⟩ := id hX10; obtain ⟨q1, q2, q3, q4, q5, q6, q7⟩ := id hH10))
      go_ret
      exact ⟨rfl, hbw10⟩
    subst hF0
    go_upto_region 14 with (first
      | (go_at_call 16; (with_reducible refine hm1.out.mono ?_); rintro e w9 ⟨v9, rfl, ho9, hb9⟩; have hT9 := hTw8.keep hb9; have hX9 := hX8.keep hb9; have hH9 := hH8.keep hb9; have hA9 := hA8.keep hb9; have hB9 := hB8.keep hb9; have hbw9 := hbww8.trans (hb9.mono hbww8.size); obtain ⟨A9, c9, rfl, hs9⟩ := ho9.len; obtain ⟨m1, m2, m3, m4, m5⟩ := id hX9; obtain ⟨n1, n2, n3, n4, n5, n6, n7⟩ := id hH9; have hm2 := Lib.hid (hmk2.out w9 hl7.tab hB9); have hj1 := hT9.is hl7.1; have hj2 := hT9.of)
      | (go_at_call 16; (with_reducible refine hm2.out.mono ?_); rintro e w10 ⟨v10, rfl, ho10, hb10⟩; have hX10 := hX9.keep hb10; have hH10 := hH9.keep hb10; have hA10 := hA9.keep hb10; have hB10 := hB9.keep hb10; have hbw10 := hbw9.trans (hb10.mono hbw9.size); obtain ⟨A10, c10, rfl, hs10⟩ := ho10.len; have hs910 := hs9.far hb10; obtain ⟨p1, p2, p3, p4, p5⟩ := id hX10; obtain ⟨q1, q2, q3, q4, q5, q6, q7⟩ := id hH10))
    obtain ⟨hsk, hsk'⟩ : (∃ k1 l1 q1 : Nat, k = (k1 : Int) ∧ l = (l1 : Int) ∧ q = (q1 : Int) ∧ sayV N k1 l1 q1 D ∧ S = pageL W' (sayL N k1 l1 q1 D)) ∧ (∃ k1 l1 q1 : Nat, k' = (k1 : Int) ∧ l' = (l1 : Int) ∧ q' = (q1 : Int) ∧ sayV N k1 l1 q1 D' ∧ S' = pageL W' (sayL N k1 l1 q1 D')) := by
      constructor
      · obtain ⟨k1, l1, q1, e1, e2, e3, e4, e5⟩ := mk_okN hN hDb (by rw [hDl.out]; exact hE.out)
        exact ⟨k1, l1, q1, e1, e2, e3, e4, by rw [← hS.out]; exact e5⟩
      · obtain ⟨k1, l1, q1, e1, e2, e3, e4, e5⟩ := mk_okN hN hDb' (by rw [hDl'.out]; exact hF.out)
        exact ⟨k1, l1, q1, e1, e2, e3, e4, by rw [← hS'.out]; exact e5⟩
    obtain ⟨bb, hbb⟩ : ∃ bb, decide (k = k' ∧ l = l' ∧ q = q' ∧ D = D') = bb := ⟨_, rfl⟩
    have hst := str_run (hA10.sb hDb) n
    have hst2 := str_run (hB10.sb hDb') n
    rw [hDl.out] at hst
    rw [hDl'.out] at hst2
    obtain ⟨b4, d4⟩ : ∃ b, decide (D = D') = b := ⟨_, rfl⟩
    have hsq := str_cmp hDb hDb'
    rw [d4] at hsq
    obtain ⟨b1, d1⟩ : ∃ b, (k == k') = b := ⟨_, rfl⟩
    obtain ⟨b2, d2⟩ : ∃ b, (l == l') = b := ⟨_, rfl⟩
    obtain ⟨b3, d3⟩ : ∃ b, (q == q') = b := ⟨_, rfl⟩
    have hbe : Hid (bb = (b1 && b2 && b3 && b4)) := by
      unfold Hid
      rw [← hbb, ← d1, ← d2, ← d3, ← d4, Bool.eq_iff_iff]
      simp only [Bool.and_eq_true, decide_eq_true_eq, beq_iff_eq, and_assoc]
    replace hbb := Lib.hid hbb
    replace d4 := Lib.hid d4
    replace hsk := Lib.hid hsk
    replace hsk' := Lib.hid hsk'
    replace hX10 := Lib.hid hX10
    replace hs910 := Lib.hid hs910
    replace hs10 := Lib.hid hs10
    replace hbw10 := Lib.hid hbw10
    clear hX8 hX9 hH8 hH9 hH10 hA8 hA9 hA10 hB8 hB9 hB10 hT9 hbww8 hbw9 hb9 hb10 hTw8 hi1 hi2 hj1 hj2 x1 x2 x3 x4 x5 y1 y2 y3 y4 y5 y6 y7 m1 m2 m3 m4 m5 n1 n2 n3 n4 n5 n6 n7 p1 p2 p3 p4 p5 hmk1 hmk2 hm1 hm2 hs9 ho9 ho10
    go_cut [91] from 80 to 91 (fun c wx => c = .bool bb ∧ wx = w10)
    case first =>
      cases b1 <;> cases b2 <;> cases b3
      all_goals
        go_wp2_with fail
        go_meet
        exact ⟨congrArg Value.bool hbe.out.symm, rfl⟩
    case rest =>
      obtain ⟨rfl, rfl⟩ := hcut
      clear d1 d2 d3 hbe hst hst2 hsq q1 q2 q3 q4 q5 q6 q7
      obtain ⟨k1, l1, q1, e1, e2, e3, hv1, hSe⟩ := hsk.out
      obtain ⟨k2, l2, q2, f1, f2, f3, hv2, hSe'⟩ := hsk'.out
      have hL1 : (sayL N k1 l1 q1 D).length = W' * K' := by rw [say_len (N := N) hv1.2.2.2.2.1 (by omega), hN]
      have hL2 : (sayL N k2 l2 q2 D').length = W' * K' := by rw [say_len (N := N) hv2.2.2.2.2.1 (by omega), hN]
      have hlen : S.length = W' * (K' + 16) := by rw [hSe]; exact pageL_len hL1 hW1
      have hlen' : S'.length = W' * (K' + 16) := by rw [hSe']; exact pageL_len hL2 hW1
      cases bb
      · have hne : sayL N k1 l1 q1 D ≠ sayL N k2 l2 q2 D' := fun e => by
          obtain ⟨g1, g2, g3, g4⟩ := say_inj hv1 hv2 e
          exact of_decide_eq_false hbb.out ⟨by rw [e1, f1, g1], by rw [e2, f2, g2], by rw [e3, f3, g3], g4⟩
        have hs1 := say_bd (N := N) (d := D) hv1.2.1 hv1.2.2.1 hv1.2.2.2.1
        have hs2 := say_bd (N := N) (d := D') hv2.2.1 hv2.2.2.1 hv2.2.2.2.1
        have htwo : Hid (∀ j, j < W' → parN S S' W' j (K' + 16) = 0 ∨ 16 < parN S S' W' j (K' + 16)) := fun j hj => by
          rw [hSe, hSe']
          rcases par_two hL1 hL2 hs1 hs2 hK64 hj with h | h
          · exact Or.inl h.1
          · exact Or.inr h
        have hmost : Hid (16 < mxF (fun j => parN S S' W' j (K' + 16)) W') := by
          rw [hSe, hSe']
          exact par_most hL1 hL2 hs1 hs2 hK64 hW1 hne
        clear hne hs1 hs2 hL1 hL2 hSe hSe' hv1 hv2 e1 e2 e3 f1 f2 f3 hsk hsk' hE hF hS hS' hbb d4 hM hSM hsg hcg hDl hDl' hDb hDb' hdm hdm' hl hl' H H' wW wK wB wP wk wl wq wk' wl' wq' hTw8 hl7
        obtain ⟨m, hm⟩ : ∃ m, K' + 16 = m := ⟨_, rfl⟩
        rw [hm] at hlen hlen' htwo hmost
        obtain ⟨nS, hnS⟩ : ∃ nS, W' * m = nS := ⟨_, rfl⟩
        rw [hnS] at hlen hlen'
        have hm80 : m ≤ 80 := by omega
        have hnS4 : nS ≤ 320 := by rw [← hnS]; exact Nat.mul_le_mul hW4 hm80
        replace hnS := Lib.hid hnS
        rw [hlen, hlen']
        replace hlen := Lib.hid hlen
        replace hlen' := Lib.hid hlen'
        clear hm
        go_wp2_with fail
        go_loopw [15, 16] (fun mo p wr => ∃ j : Nat, j ≤ W' ∧ p = .int .i64 (j : Int) ∧ mo = .int .i64 ((mxF (fun r => parN S S' W' r m) j : Nat) : Int) ∧ Below wc.heap.size wc wr) (fun _ p _ => W' - (intOf p).toNat)
        case atStart => exact ⟨0, Nat.zero_le _, rfl, rfl, Below.refl _ _⟩
        case round =>
          obtain ⟨j, hj, rfl, rfl, hB⟩ := hrel
          have hbwr := Lib.hid (hbw10.out.trans (hB.mono hbw10.out.size))
          obtain ⟨x1, x2, x3, x4, x5⟩ := hX10.out.keep hB
          obtain ⟨M, hMe⟩ : ∃ M, Hid (mxF (fun r => parN S S' W' r m) j = M) := ⟨_, Lib.hid rfl⟩
          by_cases hlt : j < W'
          · have hd : decide (j < W') = true := decide_eq_true hlt
            have hMs : Hid (mxF (fun r => parN S S' W' r m) (j + 1) = max (mxF (fun r => parN S S' W' r m) j) (parN S S' W' j m)) := Lib.hid rfl
            rw [hMe.out] at hMs ⊢
            replace hB := Lib.hid hB
            go_wp2_with fail
            go_loopw [17, 18] (fun cc p wt => ∃ t : Nat, t ≤ m ∧ p = .int .i64 ((t * W' + j : Nat) : Int) ∧ cc = .int .i64 ((parN S S' W' j t : Nat) : Int) ∧ Below wc.heap.size wc wt) (fun _ p _ => (nS + W') - (intOf p).toNat)
            case atStart => exact ⟨0, Nat.zero_le _, by simp, rfl, hB.out⟩
            case round =>
              obtain ⟨t, ht, rfl, rfl, hB2⟩ := hrel
              obtain ⟨y1, y2, y3, y4, y5⟩ := hX10.out.keep hB2
              have hCle : parN S S' W' j t ≤ t := bc_le _ _
              have hstep : Hid (parN S S' W' j (t + 1) = parN S S' W' j t + if decide (at_ S (t * W' + j) ≠ at_ S' (t * W' + j)) = true then 1 else 0) := Lib.hid rfl
              obtain ⟨C, hCe⟩ : ∃ C, Hid (parN S S' W' j t = C) := ⟨_, Lib.hid rfl⟩
              by_cases hlt2 : t < m
              · have hin : t * W' + j < nS := by rw [← hnS.out]; exact place_lt hlt hlt2
                have hnx : (t + 1) * W' + j = t * W' + j + W' := by rw [Nat.add_mul]; omega
                rw [hCe.out] at hstep hCle ⊢
                obtain ⟨i, hi⟩ : ∃ i, t * W' + j = i := ⟨_, rfl⟩
                rw [hi] at hin hstep hnx ⊢
                have hiI : (i : Int) < (nS : Int) := by omega
                have hdi : decide (i < nS) = true := decide_eq_true hin
                obtain ⟨a, rfl, hab, hca⟩ := (hs910.out.below hB2).at_ (i := i) (by rw [hlen.out]; exact hin)
                obtain ⟨b, rfl, hbb, hcb⟩ := (hs10.out.below hB2).at_ (i := i) (by rw [hlen'.out]; exact hin)
                rw [← at_get (by rw [hlen.out]; exact hin)] at hca
                rw [← at_get (by rw [hlen'.out]; exact hin)] at hcb
                obtain ⟨x, hx⟩ : ∃ x, at_ S i = x := ⟨_, rfl⟩
                obtain ⟨y, hy⟩ : ∃ y, at_ S' i = y := ⟨_, rfl⟩
                rw [hx, hy] at hstep
                rw [hx] at hca
                rw [hy] at hcb
                have hst : ((x : Int) != (y : Int)) = decide (x ≠ y) := by rw [Bool.eq_iff_iff, bne_iff_ne, decide_eq_true_eq]; omega
                obtain ⟨b3, h3⟩ : ∃ b, decide (x ≠ y) = b := ⟨_, rfl⟩
                rw [h3] at hst hstep
                have hBd : Hid (∀ k, Below wc.heap.size wc (wr.drewN k)) := fun k => below_drewN hB2 k
                clear hB2 hB hi hx hy h3
                cases b3
                all_goals
                  go_wp2_with fail
                  go_quiet (fail)
                  go_wp2_with fail
                  go_roundw
                  case rel => exact ⟨t + 1, by omega, by rw [hnx]; go_num, by rw [hstep.out]; go_num, by first | exact hBd.out _ | exact hBd.out 0⟩
                  case measure => simp [intOf]; omega
              · obtain rfl : t = m := by omega
                have hge : nS ≤ t * W' + j := by rw [← hnS.out, Nat.mul_comm]; omega
                rw [hCe.out] at hMs hCle ⊢
                obtain ⟨i, hi⟩ : ∃ i, t * W' + j = i := ⟨_, rfl⟩
                rw [hi] at hge ⊢
                have hdi : decide (i < nS) = false := decide_eq_false (by omega)
                have htw := htwo.out j hlt
                rw [hCe.out] at htw
                replace hB2 := Lib.hid hB2
                clear hstep hi
                rcases htw with h0 | h16
                · subst h0
                  rw [Nat.max_eq_left (Nat.zero_le M)] at hMs
                  go_wp2_with fail
                  exact ⟨⟨j + 1, by omega, by go_num, by rw [hMs.out], hB2.out⟩, by simp [intOf]; omega⟩
                · have hC0 : decide (0 < C) = true := decide_eq_true (by omega)
                  have hC1 : decide (C ≤ 16) = false := decide_eq_false (by omega)
                  have hC2 : decide ((C : Int) ≤ 16) = false := decide_eq_false (by omega)
                  go_wp2_with fail
                  exact ⟨⟨j + 1, by omega, by go_num, by rw [hMs.out]; congr 1; split <;> omega, hB2.out⟩, by simp [intOf]; omega⟩
          · obtain rfl : j = W' := by omega
            have hd : decide (j < j) = false := decide_eq_false (Nat.lt_irrefl _)
            have hM16 : 16 < M := by rw [← hMe.out]; exact hmost.out
            have hd2 : decide ((16 : Int) < (M : Int)) = true := decide_eq_true (by omega)
            rw [hMe.out]
            go_wp2_with fail
            go_ret
            exact ⟨rfl, hbwr.out⟩
      · have hSS : S' = S := by
          obtain ⟨g1, g2, g3, g4⟩ := of_decide_eq_true hbb.out
          rw [← hS.out, ← hS'.out, g1, g2, g3, g4]
        have hl320 : S.length ≤ 1000000 := by
          rw [hlen]
          have : W' * (K' + 16) ≤ 4 * 80 := Nat.mul_le_mul hW4 (by omega)
          omega
        rw [hSS] at hs10 ⊢
        replace hl320 := Lib.hid hl320
        have hsame := Lib.hid (law_same (ca := c9) (cb := c10) hs910.out hs10.out hl320.out hl320.out (decide_eq_true rfl))
        clear hSS hlen hlen' hSe hSe' hL1 hL2 e1 e2 e3 f1 f2 f3 hv1 hv2 hsk hsk' hS hS'
        go_wp2_with (go_at_call 18; (with_reducible refine hsame.out.mono ?_); rintro e w11 ⟨rfl, hb11⟩; have hbw11 := hbw10.out.trans (hb11.mono hbw10.out.size))
        go_ret
        exact ⟨rfl, hbw11⟩
end Go.Proofs.Ytmchelbmeajcnaa
