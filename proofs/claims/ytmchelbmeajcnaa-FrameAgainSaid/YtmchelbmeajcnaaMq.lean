/- FrameAgain: the same head and data make the same page, by tables that were made and by those that were not. -/
import Derived.Test.YtmchelbmeajcnaaMp
namespace Go.Proofs.Ytmchelbmeajcnaa
open Go.RowKit Go.Gf Go.Fl
set_option linter.unusedVariables false
set_option linter.unusedSimpArgs false
set_option maxRecDepth 20000
attribute [local go_sem ↓] exec_load_tb Cl.quiet_since
attribute [local go_sem] tbAt_ptr tbIn_ptr

theorem tab_zero : Tab ZT := ⟨List.length_replicate, Or.inl (by unfold ZT; decide)⟩
/-- what is read is one thing alone -/
theorem rd_fun {B P W K : Int} {xs : List (Nat × Nat)} {ss : List Nat} {k l q n er k' l' q' n' er' : Nat} {d d' : List Nat} (h : RdS B P W K xs ss k l q n d er) (h' : RdS B P W K xs ss k' l' q' n' d' er') :
    k' = k ∧ l' = l ∧ q' = q ∧ n' = n ∧ d' = d ∧ er' = er := by
  have hK : ∀ {ws vs : Nat → List Nat}, Ge.mayG B P W K = true → (∀ j, j < W.toNat → GoodR W.toNat (K.toNat + 16) ss (zX xs) j (ws j)) → (∀ j, j < W.toNat → GoodR W.toNat (K.toNat + 16) ss (zX xs) j (vs j)) → ∀ j, j < W.toNat → ws j = vs j := fun hM h1 h2 j hj => by
    obtain ⟨W', K', N', rfl, rfl, _, _, _, _, hk, _⟩ := mayG_of hM
    exact good_unique (by rw [Int.toNat_natCast]; omega) (h1 j hj) (h2 j hj)
  cases h with
  | arg h => cases h' with
    | arg => exact ⟨rfl, rfl, rfl, rfl, rfl, rfl⟩
    | size g => rw [h] at g; cases g
    | none g => rw [h] at g; cases g
    | data g => rw [h] at g; cases g
    | form g => rw [h] at g; cases g
    | ok g => rw [h] at g; cases g
  | size h h2 => cases h' with
    | arg g => rw [h] at g; cases g
    | size => exact ⟨rfl, rfl, rfl, rfl, rfl, rfl⟩
    | none _ g => exact absurd g h2
    | data _ g => exact absurd g h2
    | form _ g => exact absurd g h2
    | ok _ g => exact absurd g h2
  | none h h2 h3 => cases h' with
    | arg g => rw [h] at g; cases g
    | size _ g => exact absurd h2 g
    | none => exact ⟨rfl, rfl, rfl, rfl, rfl, rfl⟩
    | data _ _ g => rw [h3] at g; cases g
    | form _ _ g => rw [h3] at g; cases g
    | ok _ _ g => rw [h3] at g; cases g
  | data h h2 h3 j hj h4 => cases h' with
    | arg g => rw [h] at g; cases g
    | size _ g => exact absurd h2 g
    | none _ _ g => rw [h3] at g; cases g
    | data => exact ⟨rfl, rfl, rfl, rfl, rfl, rfl⟩
    | form _ _ _ ws hg => exact absurd (hg j hj) (h4 _)
    | ok _ _ _ ws hg => exact absurd (hg j hj) (h4 _)
  | form h h2 h3 ws hg h4 => cases h' with
    | arg g => rw [h] at g; cases g
    | size _ g => exact absurd h2 g
    | none _ _ g => rw [h3] at g; cases g
    | data _ _ _ j hj g => exact absurd (hg j hj) (g _)
    | form => exact ⟨rfl, rfl, rfl, rfl, rfl, rfl⟩
    | ok _ _ _ vs hv g4 =>
      rw [sayW_congr (hK h hv hg), h4] at g4
      cases g4
  | ok h h2 h3 ws hg h4 => cases h' with
    | arg g => rw [h] at g; cases g
    | size _ g => exact absurd h2 g
    | none _ _ g => rw [h3] at g; cases g
    | data _ _ _ j hj g => exact absurd (hg j hj) (g _)
    | form _ _ _ vs hv g4 =>
      rw [sayW_congr (hK h hv hg), h4] at g4
      cases g4
    | ok _ _ _ vs hv g4 =>
      have e := hK h hv hg
      rw [sayW_congr e]
      refine ⟨rfl, rfl, rfl, mxF_congr fun j hj => ?_, rfl, rfl⟩
      show nbW W.toNat (K.toNat + 16) ss (zX xs) j (vs j) = _
      rw [e j hj]
/-- a page's symbols, or none -/
theorem mk_len {B P W K k l q : Int} {d : List Nat} (hd : ∀ x ∈ d, x < 256) : (mkW B P W K k l q d).length ≤ 1000 ∧ ∀ y ∈ mkW B P W K k l q d, y < 1024 := by
  by_cases h0 : mkE B P W K k l q d.length = 0
  · obtain ⟨W', K', N, k', l', q', rfl, rfl, rfl, rfl, rfl, _, _, _, _, hln, hb, h1, h2, h3, h4, _⟩ := mk_ok hd h0
    refine ⟨?_, hb⟩
    rw [hln]
    have : W' * (K' + 16) ≤ 4 * 80 := Nat.mul_le_mul h2 (by omega)
    omega
  · rw [mkW_nil h0]
    exact ⟨by decide, by simp⟩
theorem mkE_le (B P W K k l q : Int) (n : Nat) : mkE B P W K k l q n ≤ 3 := by
  unfold mkE
  split
  · decide
  · split <;> decide
set_option maxHeartbeats 16000000 in
theorem again_law (B P W K : Int) (wB : (Lit.int .i64 B).wf = true) (wP : (Lit.int .i64 P).wf = true) (wW : (Lit.int .i64 W).wf = true) (wK : (Lit.int .i64 K).wf = true)
    (k l q : Int) (wk : (Lit.int .i64 k).wf = true) (wl : (Lit.int .i64 l).wf = true) (wq : (Lit.int .i64 q).wf = true)
    (A : Option Addr) (d : List Nat) (c : Nat) (hl : d.length ≤ c) (hc : c ≤ maxLen) (w : World) (hs : Sb w w.heap.size A d) :
    Calls Try.prog 8 #[.agg #[.int .i64 B, .int .i64 P, .int .i64 W, .int .i64 K], .agg #[.int .i64 k, .int .i64 l, .int .i64 q], .slice A d.length c] w fun e w' => e = .returned (.bool true) ∧ Below w.heap.size w w' := by
  have H := Lib.hid hs
  have hz := zero27
  have hdm : d.length ≤ 9223372036854775807 := by unfold maxLen at hc; omega
  clear hc hs
  obtain ⟨wa, hwa⟩ : ∃ wa, wa = w.alloc (.cells #[.int .i64 B, .int .i64 P, .int .i64 W, .int .i64 K] 23) := ⟨_, rfl⟩
  obtain ⟨wb, hwb⟩ : ∃ wb, wb = wa.alloc (.cells #[.int .i64 k, .int .i64 l, .int .i64 q] 25) := ⟨_, rfl⟩
  have hza : wa.heap.size = w.heap.size + 1 := by rw [hwa, World.size_alloc]
  have hba : Below w.heap.size w wa := by rw [hwa]; exact Ge.below_alloc w _
  have hab : Below wa.heap.size wa wb := by rw [hwb]; exact Ge.below_alloc wa _
  have hbb : Below w.heap.size w wb := hba.trans (hab.mono hba.size)
  have hX : Ge.Box wb w.heap.size B P W K := by
    have := Ge.Box.new w B P W K
    rw [← hwa] at this
    exact this.keep hab
  have hH : Hed wb (w.heap.size + 1) k l q := by
    have := Hed.new wa k l q
    rwa [← hwb, hza] at this
  go_enter Try.func8, Try.ntmps8
  go_wp2_with fail
  rw [← hwa, ← hwb]
  clear hwa hwb hza hba hab
  refine (awake_any wb).mono ?_
  rintro e w1 ⟨rfl, hb1⟩
  have hX1 := hX.keep hb1
  have hH1 := hH.keep hb1
  have hbw1 := hbb.trans (hb1.mono hbb.size)
  clear hX hH hbb hb1
  obtain ⟨x1, x2, x3, x4, x5⟩ := id hX1
  have hsm := small_any B P W K w1
  cases hSM : smB B P W K
  · rw [hSM] at hsm
    replace hsm := Lib.hid hsm
    go_wp2_with (go_at_call 14; (with_reducible refine hsm.out.mono ?_); rintro e w2 ⟨rfl, hb2⟩; have hbw2 := hbw1.trans (hb2.mono hbw1.size))
    go_ret
    exact ⟨rfl, hbw2⟩
  rw [hSM] at hsm
  replace hsm := Lib.hid hsm
  by_cases hd1 : d.length ≤ 1000
  rotate_left
  · have hdd : decide ((1000 : Int) < (d.length : Int)) = true := decide_eq_true (by omega)
    go_wp2_with (go_at_call 14; (with_reducible refine hsm.out.mono ?_); rintro e w2 ⟨rfl, hb2⟩; have hbw2 := hbw1.trans (hb2.mono hbw1.size))
    go_ret
    exact ⟨rfl, hbw2⟩
  have hdd : decide ((1000 : Int) < (d.length : Int)) = false := decide_eq_false (by omega)
  go_wp2_with (go_at_call 14; (with_reducible refine hsm.out.mono ?_); rintro e w2 ⟨rfl, hb2⟩; have hbw2 := hbw1.trans (hb2.mono hbw1.size); have hX2 := hX1.keep hb2; have hH2 := hH1.keep hb2)
  have hTz := tb_new w2 ZT
  have hbz := Ge.below_alloc w2 (.cells (cells ZT) 33)
  have hXz := hX2.keep hbz
  have hHz := hH2.keep hbz
  have hbwz := hbw2.trans (hbz.mono hbw2.size)
  generalize w2.alloc (.cells (cells ZT) 33) = wz at *
  generalize w2.heap.size = g0 at *
  clear hX1 hH1 hX2 hH2 hb2 hbw1 hbw2 x1 x2 x3 x4 x5 hsm hdd hbz hz
  obtain ⟨E, hE⟩ : ∃ E, mkE B P W K k l q d.length = E := ⟨_, rfl⟩
  obtain ⟨S, hS⟩ : ∃ S, mkW B P W K k l q d = S := ⟨_, rfl⟩
  obtain ⟨hSn, hSb⟩ := mk_len (B := B) (P := P) (W := W) (K := K) (k := k) (l := l) (q := q) H.out.1
  have hE3 := mkE_le B P W K k l q d.length
  rw [hE] at hE3
  rw [hS] at hSn hSb
  have hmk : Hid (∀ cs w', Tab cs → Below w.heap.size w w' → Calls Try.prog 16 #[.agg (cells cs), .agg #[.int .i64 B, .int .i64 P, .int .i64 W, .int .i64 K], .agg #[.int .i64 k, .int .i64 l, .int .i64 q], .slice A d.length c] w' (RowV w' S E)) := fun cs w' ht hb => by
    have := make_fr (cs := cs) ht (B := B) (P := P) (W := W) (K := K) (k := k) (l := l) (q := q) (c := c) (H.out.far hb) (by omega)
    rw [hE, hS] at this
    exact this
  obtain ⟨nS, hnS⟩ : ∃ nS, S.length = nS := ⟨_, rfl⟩
  have hn6 : nS ≤ 100000 := by omega
  replace hnS := Lib.hid hnS
  replace hSb := Lib.hid hSb
  clear hE hS hSn
  replace hTz := Lib.hid hTz
  replace hXz := Lib.hid hXz
  replace hHz := Lib.hid hHz
  replace hbwz := Lib.hid hbwz
  refine Cl.region_way (fun _ => True) 10 [(1, .r), (2, .r), (3, .r), (0, .c), (4, .c), (5, .r), (6, .r), (7, .r), (8, .r), (9, .r)] (by kernel_rfl) (by kernel_rfl) ?_
  intro w3 hk3
  have hT3 := hTz.out.keep (Cl.Keeps.below hk3)
  have hX3 := hXz.out.keep (Cl.Keeps.below hk3)
  have hH3 := hHz.out.keep (Cl.Keeps.below hk3)
  have hbw3 := hbwz.out.trans ((Cl.Keeps.below hk3).mono hbwz.out.size)
  have x0 : ∀ y : Cl.Since (fun _ => True) w3, y.w.cell? ⟨w.heap.size, 0, none⟩ = some (.int .i64 B) := fun y => (hX3.keep (Cl.Keeps.below y.keeps)).c0
  have x1 : ∀ y : Cl.Since (fun _ => True) w3, y.w.cell? ⟨w.heap.size, 1, none⟩ = some (.int .i64 P) := fun y => (hX3.keep (Cl.Keeps.below y.keeps)).c1
  have x2 : ∀ y : Cl.Since (fun _ => True) w3, y.w.cell? ⟨w.heap.size, 2, none⟩ = some (.int .i64 W) := fun y => (hX3.keep (Cl.Keeps.below y.keeps)).c2
  have x3 : ∀ y : Cl.Since (fun _ => True) w3, y.w.cell? ⟨w.heap.size, 3, none⟩ = some (.int .i64 K) := fun y => (hX3.keep (Cl.Keeps.below y.keeps)).c3
  have y0 : ∀ y : Cl.Since (fun _ => True) w3, y.w.cell? ⟨w.heap.size + 1, 0, none⟩ = some (.int .i64 k) := fun y => (hH3.keep (Cl.Keeps.below y.keeps)).c0
  have y1 : ∀ y : Cl.Since (fun _ => True) w3, y.w.cell? ⟨w.heap.size + 1, 1, none⟩ = some (.int .i64 l) := fun y => (hH3.keep (Cl.Keeps.below y.keeps)).c1
  have y2 : ∀ y : Cl.Since (fun _ => True) w3, y.w.cell? ⟨w.heap.size + 1, 2, none⟩ = some (.int .i64 q) := fun y => (hH3.keep (Cl.Keeps.below y.keeps)).c2
  iterate 3 (refine Cl.way_r rfl ?_; go_big_quiet_step (fail); refine wpQuiet_nil ?_)
  replace hT3 := Lib.hid hT3
  replace hX3 := Lib.hid hX3
  replace hH3 := Lib.hid hH3
  replace hbw3 := Lib.hid hbw3
  clear x0 x1 x2 x3 y0 y1 y2 hk3 hTz hXz hHz hbwz
  refine Cl.way_c rfl ?_
  go_wp2_with (go_at_call 15; (with_reducible refine (make_any _).mono ?_); rintro e w4 ⟨cs, rfl, hcl, hb4⟩)
  refine Cl.way_on (Cl.Keeps.of_below hb4) ?_
  have hT4 := Lib.hid (hT3.out.keep hb4)
  have hX4 := Lib.hid (hX3.out.keep hb4)
  have hH4 := Lib.hid (hH3.out.keep hb4)
  have hbw4 := Lib.hid (hbw3.out.trans (hb4.mono hbw3.out.size))
  have hm4 := Lib.hid (hmk.out cs w4 hcl.tab hbw4.out)
  clear hT3 hX3 hH3 hbw3 hb4
  refine Cl.way_c rfl ?_
  go_wp2_with (go_at_call 16; (with_reducible refine hm4.out.mono ?_); rintro e w5 ⟨v5, rfl, ho5, hb5⟩)
  refine Cl.way_on (Cl.Keeps.of_below hb5) ?_
  have hT5 := hT4.out.keep hb5
  have hX5 := hX4.out.keep hb5
  have hH5 := hH4.out.keep hb5
  have hbw5 := hbw4.out.trans (hb5.mono hbw4.out.size)
  obtain ⟨A5, c5, rfl, hs5⟩ := ho5.len
  have hm5 := Lib.hid (hmk.out ZT w5 tab_zero hbw5)
  clear hT4 hX4 hH4 hbw4 hb5 ho5 hm4 hcl
  iterate 5 (refine Cl.way_r rfl ?_; go_big_quiet_step (fail); refine wpQuiet_nil ?_)
  refine Cl.way_end ?_
  have hi1 := hT5.is tab_zero.1
  have hi2 := hT5.of
  obtain ⟨x1, x2, x3, x4, x5⟩ := id hX5
  obtain ⟨y1, y2, y3, y4⟩ := id hH5
  have hEI : ((E : Int) != (E : Int)) = false := by simp
  go_wp2_with (first
    | (go_at_call 16; (with_reducible refine hm5.out.mono ?_); rintro e w6 ⟨v6, rfl, ho6, hb6⟩; have hT6 := hT5.keep hb6; have hX6 := hX5.keep hb6; have hbw6 := hbw5.trans (hb6.mono hbw5.size); obtain ⟨A6, c6, rfl, hs6⟩ := ho6.len; have hs56 := hs5.far hb6; have hsame := Lib.hid (law_same (ca := c5) (cb := c6) hs56 hs6 (by rw [hnS.out]; omega) (by rw [hnS.out]; omega) (decide_eq_true rfl)))
    | (go_at_call 18; (with_reducible refine hsame.out.mono ?_); rintro e w7 ⟨rfl, hb7⟩; have hT7 := hT6.keep hb7; have hX7 := hX6.keep hb7; have hbw7 := hbw6.trans (hb7.mono hbw6.size); have hs7 := hs56.far hb7))
  rw [hnS.out]
  have hbS := hSb
  have hXS := Lib.hid hX7
  have hTS7 := Lib.hid hT7
  have hsS := Lib.hid hs7
  have hbS0 := Lib.hid hbw7
  have hgb : Hid (w.heap.size < w7.heap.size) := hX7.lt
  clear hT5 hT6 hT7 hX5 hX6 hX7 hH5 hi1 hi2 x1 x2 x3 x4 x5 y1 y2 y3 y4 hb6 hb7 hbw5 hbw6 hbw7 hs5 hs6 hs56 hs7 ho6 hsame hm5 hmk hEI
  go_cut [12, 13, 14, 15] from 55 to 64 (fun sm sd sn sf wx => ∃ (k9 l9 q9 n9 : Nat) (d9 : List Nat) (e9 : Nat) (A9 : Option Addr) (c9 g9 : Nat), RdS B P W K (S.map ptB) S k9 l9 q9 n9 d9 e9 ∧ sm = .pointer (some ⟨g9, 0, none⟩) ∧ Hed wx g9 (k9 : Int) (l9 : Int) (q9 : Int) ∧ sd = .slice A9 d9.length c9 ∧ Sb wx wx.heap.size A9 d9 ∧ sn = .int .i64 (n9 : Int) ∧ sf = .int .i64 (e9 : Int) ∧ Below w7.heap.size w7 wx)
  case first =>
    refine Cl.region_tree (fun b => b < w7.heap.size) 15 (.r 1 <| .r 2 <| .b 0 10 (.b 3 10 (.b 4 10 (.r 5 <| .r 6 <| .r 7 <| .r 8 <| .r 9 <| .c 10 <| .c 11 <| .r 12 <| .r 13 <| .r 14 <| .e) (.c 4 <| .r 5 <| .r 6 <| .r 7 <| .r 8 <| .r 9 <| .c 11 <| .r 12 <| .r 13 <| .r 14 <| .e)) (.c 3 <| .c 4 <| .r 5 <| .r 6 <| .r 7 <| .r 8 <| .r 9 <| .c 11 <| .r 12 <| .r 13 <| .r 14 <| .e)) (.c 0 <| .c 3 <| .c 4 <| .r 5 <| .r 6 <| .r 7 <| .r 8 <| .r 9 <| .c 11 <| .r 12 <| .r 13 <| .r 14 <| .e)) (by kernel_rfl) (by kernel_rfl) ?_
    intro v0 hk0
    have hbk := Cl.Keeps.below hk0
    have hX0 := hXS.out.keep hbk
    have x0 : ∀ y : Cl.Since (fun b => b < w7.heap.size) v0, y.w.cell? ⟨w.heap.size, 0, none⟩ = some (.int .i64 B) := fun y => (cell_block (y.keeps.block w.heap.size hX0.lt hgb.out)).trans hX0.c0
    have x1 : ∀ y : Cl.Since (fun b => b < w7.heap.size) v0, y.w.cell? ⟨w.heap.size, 1, none⟩ = some (.int .i64 P) := fun y => (cell_block (y.keeps.block w.heap.size hX0.lt hgb.out)).trans hX0.c1
    have x2 : ∀ y : Cl.Since (fun b => b < w7.heap.size) v0, y.w.cell? ⟨w.heap.size, 2, none⟩ = some (.int .i64 W) := fun y => (cell_block (y.keeps.block w.heap.size hX0.lt hgb.out)).trans hX0.c2
    have x3 : ∀ y : Cl.Since (fun b => b < w7.heap.size) v0, y.w.cell? ⟨w.heap.size, 3, none⟩ = some (.int .i64 K) := fun y => (cell_block (y.keeps.block w.heap.size hX0.lt hgb.out)).trans hX0.c3
    iterate 2 (refine Cl.tree_r rfl ?_; go_big_quiet_step (fail); refine wpQuiet_nil ?_)
    clear x0 x1 x2 x3 hX0
    replace hbk := Lib.hid hbk
    refine Cl.tree_b rfl rfl ?_ ?_
    · go_wp2_with (go_at_call 15; (with_reducible refine (make_any _).mono ?_); rintro e v1 ⟨cs, rfl, hcs, hbp⟩)
      refine Cl.way_on (Cl.Keeps.of_below hbp) ?_
      have hCS := Lib.hid hcs.tab
      have hb1 := Lib.hid (hbk.out.trans (hbp.mono hbk.out.size))
      clear hcs hbp
      refine Cl.tree_b rfl rfl ?_ ?_
      · have hpc := lawpts_any (c := c5) (hsS.out.far hb1.out) (by rw [hnS.out]; exact hn6)
        rw [hnS.out] at hpc
        replace hpc := Lib.hid hpc
        go_wp2_with (go_at_call 20; (with_reducible refine hpc.out.mono ?_); rintro e v2 ⟨vp, rfl, hop, hbp⟩)
        refine Cl.way_on (Cl.Keeps.of_below hbp) ?_
        obtain ⟨Ap, cp, rfl, hcp, hpx'⟩ := hop.cx
        have hlp : (S.map ptB).length = nS := by rw [List.length_map, hnS.out]
        rw [hlp]
        have hpx := Lib.hid hpx'
        have hb2 := Lib.hid (hb1.out.trans (hbp.mono hb1.out.size))
        clear hpc hpx' hop hcp hbp hlp
        refine Cl.tree_b rfl rfl ?_ ?_
        · have hrd := read_any hCS.out (B := B) (P := P) (W := W) (K := K) (ss := S) (c := cp) hpx.out (by rw [List.length_map, hnS.out]; omega) (by rw [List.length_map]) (pts_slc hbS.out) hbS.out
          rw [List.length_map, hnS.out] at hrd
          replace hrd := Lib.hid hrd
          go_wp2_with (go_at_call 19; (with_reducible refine hrd.out.mono ?_); rintro e v3 ⟨k9, l9, q9, nn, dd, er, hRd, A9, c9, rfl, hc9, hs8, hbp⟩)
          refine Cl.way_on (Cl.Keeps.of_below hbp) ?_
          have hsd := Lib.hid hs8
          replace hRd := Lib.hid hRd
          have hb3 := Lib.hid (hb2.out.trans (hbp.mono hb2.out.size))
          clear hrd hs8 hbp
          refine Cl.tree_r rfl ?_
          go_big_quiet_step (fail)
          refine wpQuiet_nil ?_
          refine Cl.tree_r rfl ?_
          go_big_quiet_step (fail)
          refine wpQuiet_nil ?_
          refine Cl.tree_r rfl ?_
          go_big_quiet_step (fail)
          refine wpQuiet_nil ?_
          refine Cl.tree_r rfl ?_
          go_big_quiet_step (fail)
          refine wpQuiet_nil ?_
          refine Cl.tree_r rfl ?_
          go_big_quiet_step (fail)
          refine wpQuiet_nil ?_
          refine Cl.tree_c rfl ?_
          go_wp2_with fail
          refine Cl.way_on (Cl.Keeps.of_below (Ge.below_alloc _ _)) ?_
          have hF := Lib.hid (Hed.new v3 (k9 : Int) (l9 : Int) (q9 : Int))
          have hG := Ge.below_alloc v3 (.cells #[.int .i64 (k9 : Int), .int .i64 (l9 : Int), .int .i64 (q9 : Int)] 25)
          have hs9 := Lib.hid (hsd.out.far hG)
          have hb9 := Lib.hid (hb3.out.trans (hG.mono hb3.out.size))
          have hkp := Lib.hid (keeps_fold v3 (.cells #[.int .i64 0, .int .i64 0, .int .i64 0] 25) (.cells #[.int .i64 (k9 : Int), .int .i64 (l9 : Int), .int .i64 (q9 : Int)] 25) hb3.out.size)
          refine Cl.tree_c rfl ?_
          go_wp2_with fail
          refine Cl.way_on hkp.out ?_
          refine Cl.tree_r rfl ?_
          go_big_quiet_step (fail)
          refine wpQuiet_nil ?_
          refine Cl.tree_r rfl ?_
          go_big_quiet_step (fail)
          refine wpQuiet_nil ?_
          refine Cl.tree_r rfl ?_
          go_big_quiet_step (fail)
          refine wpQuiet_nil ?_
          refine Cl.tree_e ?_
          go_wp2_with fail
          go_meet
          exact ⟨k9, l9, q9, nn, dd, er, A9, c9, _, hRd.out, rfl, hF.out, rfl, hs9.out, rfl, rfl, hb9.out⟩
        · go_wp2_with fail
          refine Cl.way_on (Cl.Keeps.of_below (Ge.below_alloc _ _)) ?_
          have hHn := Hdo.new v2 0 0 0
          have hAl := Ge.below_alloc v2 (.cells #[.int .i64 0, .int .i64 0, .int .i64 0] 25)
          have hge : Hid (w7.heap.size ≤ v2.heap.size) := hb2.out.size
          have hba := Lib.hid (hb2.out.trans (hAl.mono hb2.out.size))
          have hxa := Lib.hid (hpx.out.far hAl)
          generalize v2.alloc (.cells #[.int .i64 0, .int .i64 0, .int .i64 0] 25) = va2 at *
          have hH2 := Lib.hid hHn
          clear hHn hAl
          refine Cl.tree_c rfl ?_
          have hrd := read_any hCS.out (B := B) (P := P) (W := W) (K := K) (ss := S) (c := cp) hxa.out (by rw [List.length_map, hnS.out]; omega) (by rw [List.length_map]) (pts_slc hbS.out) hbS.out
          rw [List.length_map, hnS.out] at hrd
          replace hrd := Lib.hid hrd
          go_wp2_with (go_at_call 19; (with_reducible refine hrd.out.mono ?_); rintro e v3 ⟨k9, l9, q9, nn, dd, er, hRd, A9, c9, rfl, hc9, hs8, hbp⟩)
          refine Cl.way_on (Cl.Keeps.of_below hbp) ?_
          have hsd := Lib.hid hs8
          replace hRd := Lib.hid hRd
          have hb3 := Lib.hid (hba.out.trans (hbp.mono hba.out.size))
          have hH3 := Lib.hid (hH2.out.keep hbp)
          clear hrd hs8 hbp
          refine Cl.tree_r rfl ?_
          go_big_quiet_step (fail)
          refine wpQuiet_nil ?_
          refine Cl.tree_r rfl ?_
          go_big_quiet_step (fail)
          refine wpQuiet_nil ?_
          refine Cl.tree_r rfl ?_
          go_big_quiet_step (fail)
          refine wpQuiet_nil ?_
          refine Cl.tree_r rfl ?_
          go_big_quiet_step (fail)
          refine wpQuiet_nil ?_
          refine Cl.tree_r rfl ?_
          go_big_quiet_step (fail)
          refine wpQuiet_nil ?_
          have hF := Lib.hid (hH3.out.set_ (k9 : Int) (l9 : Int) (q9 : Int)).hed
          obtain ⟨h1, h2, h3, h4⟩ := hH3.out.hed
          have hfz := hH3.out.frozen
          have hs9 := Lib.hid (hH3.out.sb3 hsd.out (k9 : Int) (l9 : Int) (q9 : Int))
          have hb9 := Lib.hid (below_set3 hb3.out hge.out (.int .i64 (k9 : Int)) (.int .i64 (l9 : Int)) (.int .i64 (q9 : Int)))
          have hkp := Lib.hid (keeps_set3 (w := v3) hge.out (.int .i64 (k9 : Int)) (.int .i64 (l9 : Int)) (.int .i64 (q9 : Int)))
          refine Cl.tree_c rfl ?_
          go_wp2_with fail
          refine Cl.way_on hkp.out ?_
          clear h1 h2 h3 h4 hfz
          refine Cl.tree_r rfl ?_
          go_big_quiet_step (fail)
          refine wpQuiet_nil ?_
          refine Cl.tree_r rfl ?_
          go_big_quiet_step (fail)
          refine wpQuiet_nil ?_
          refine Cl.tree_r rfl ?_
          go_big_quiet_step (fail)
          refine wpQuiet_nil ?_
          refine Cl.tree_e ?_
          go_wp2_with fail
          go_meet
          exact ⟨k9, l9, q9, nn, dd, er, A9, c9, _, hRd.out, rfl, hF.out, rfl, hs9.out, rfl, rfl, hb9.out⟩
      · go_wp2_with fail
        refine Cl.way_on (Cl.Keeps.of_below (Ge.below_alloc _ _)) ?_
        have hHn := Hdo.new v1 0 0 0
        have hAl := Ge.below_alloc v1 (.cells #[.int .i64 0, .int .i64 0, .int .i64 0] 25)
        have hge : Hid (w7.heap.size ≤ v1.heap.size) := hb1.out.size
        have hba := Lib.hid (hb1.out.trans (hAl.mono hb1.out.size))
        generalize v1.alloc (.cells #[.int .i64 0, .int .i64 0, .int .i64 0] 25) = va1 at *
        have hH1 := Lib.hid hHn
        clear hHn hAl
        refine Cl.tree_c rfl ?_
        have hpc := lawpts_any (c := c5) (hsS.out.far hba.out) (by rw [hnS.out]; exact hn6)
        rw [hnS.out] at hpc
        replace hpc := Lib.hid hpc
        go_wp2_with (go_at_call 20; (with_reducible refine hpc.out.mono ?_); rintro e v2 ⟨vp, rfl, hop, hbp⟩)
        refine Cl.way_on (Cl.Keeps.of_below hbp) ?_
        obtain ⟨Ap, cp, rfl, hcp, hpx'⟩ := hop.cx
        have hlp : (S.map ptB).length = nS := by rw [List.length_map, hnS.out]
        rw [hlp]
        have hpx := Lib.hid hpx'
        have hb2 := Lib.hid (hba.out.trans (hbp.mono hba.out.size))
        have hH2 := Lib.hid (hH1.out.keep hbp)
        clear hpc hpx' hop hcp hbp hlp
        refine Cl.tree_c rfl ?_
        have hrd := read_any hCS.out (B := B) (P := P) (W := W) (K := K) (ss := S) (c := cp) hpx.out (by rw [List.length_map, hnS.out]; omega) (by rw [List.length_map]) (pts_slc hbS.out) hbS.out
        rw [List.length_map, hnS.out] at hrd
        replace hrd := Lib.hid hrd
        go_wp2_with (go_at_call 19; (with_reducible refine hrd.out.mono ?_); rintro e v3 ⟨k9, l9, q9, nn, dd, er, hRd, A9, c9, rfl, hc9, hs8, hbp⟩)
        refine Cl.way_on (Cl.Keeps.of_below hbp) ?_
        have hsd := Lib.hid hs8
        replace hRd := Lib.hid hRd
        have hb3 := Lib.hid (hb2.out.trans (hbp.mono hb2.out.size))
        have hH3 := Lib.hid (hH2.out.keep hbp)
        clear hrd hs8 hbp
        refine Cl.tree_r rfl ?_
        go_big_quiet_step (fail)
        refine wpQuiet_nil ?_
        refine Cl.tree_r rfl ?_
        go_big_quiet_step (fail)
        refine wpQuiet_nil ?_
        refine Cl.tree_r rfl ?_
        go_big_quiet_step (fail)
        refine wpQuiet_nil ?_
        refine Cl.tree_r rfl ?_
        go_big_quiet_step (fail)
        refine wpQuiet_nil ?_
        refine Cl.tree_r rfl ?_
        go_big_quiet_step (fail)
        refine wpQuiet_nil ?_
        have hF := Lib.hid (hH3.out.set_ (k9 : Int) (l9 : Int) (q9 : Int)).hed
        obtain ⟨h1, h2, h3, h4⟩ := hH3.out.hed
        have hfz := hH3.out.frozen
        have hs9 := Lib.hid (hH3.out.sb3 hsd.out (k9 : Int) (l9 : Int) (q9 : Int))
        have hb9 := Lib.hid (below_set3 hb3.out hge.out (.int .i64 (k9 : Int)) (.int .i64 (l9 : Int)) (.int .i64 (q9 : Int)))
        have hkp := Lib.hid (keeps_set3 (w := v3) hge.out (.int .i64 (k9 : Int)) (.int .i64 (l9 : Int)) (.int .i64 (q9 : Int)))
        refine Cl.tree_c rfl ?_
        go_wp2_with fail
        refine Cl.way_on hkp.out ?_
        clear h1 h2 h3 h4 hfz
        refine Cl.tree_r rfl ?_
        go_big_quiet_step (fail)
        refine wpQuiet_nil ?_
        refine Cl.tree_r rfl ?_
        go_big_quiet_step (fail)
        refine wpQuiet_nil ?_
        refine Cl.tree_r rfl ?_
        go_big_quiet_step (fail)
        refine wpQuiet_nil ?_
        refine Cl.tree_e ?_
        go_wp2_with fail
        go_meet
        exact ⟨k9, l9, q9, nn, dd, er, A9, c9, _, hRd.out, rfl, hF.out, rfl, hs9.out, rfl, rfl, hb9.out⟩
    · go_wp2_with fail
      refine Cl.way_on (Cl.Keeps.of_below (Ge.below_alloc _ _)) ?_
      have hHn := Hdo.new v0 0 0 0
      have hAl := Ge.below_alloc v0 (.cells #[.int .i64 0, .int .i64 0, .int .i64 0] 25)
      have hge : Hid (w7.heap.size ≤ v0.heap.size) := hbk.out.size
      have hba := Lib.hid (hbk.out.trans (hAl.mono hbk.out.size))
      generalize v0.alloc (.cells #[.int .i64 0, .int .i64 0, .int .i64 0] 25) = va0 at *
      have hH0 := Lib.hid hHn
      clear hHn hAl
      refine Cl.tree_c rfl ?_
      go_wp2_with (go_at_call 15; (with_reducible refine (make_any _).mono ?_); rintro e v1 ⟨cs, rfl, hcs, hbp⟩)
      refine Cl.way_on (Cl.Keeps.of_below hbp) ?_
      have hCS := Lib.hid hcs.tab
      have hb1 := Lib.hid (hba.out.trans (hbp.mono hba.out.size))
      have hH1 := Lib.hid (hH0.out.keep hbp)
      clear hcs hbp
      refine Cl.tree_c rfl ?_
      have hpc := lawpts_any (c := c5) (hsS.out.far hb1.out) (by rw [hnS.out]; exact hn6)
      rw [hnS.out] at hpc
      replace hpc := Lib.hid hpc
      go_wp2_with (go_at_call 20; (with_reducible refine hpc.out.mono ?_); rintro e v2 ⟨vp, rfl, hop, hbp⟩)
      refine Cl.way_on (Cl.Keeps.of_below hbp) ?_
      obtain ⟨Ap, cp, rfl, hcp, hpx'⟩ := hop.cx
      have hlp : (S.map ptB).length = nS := by rw [List.length_map, hnS.out]
      rw [hlp]
      have hpx := Lib.hid hpx'
      have hb2 := Lib.hid (hb1.out.trans (hbp.mono hb1.out.size))
      have hH2 := Lib.hid (hH1.out.keep hbp)
      clear hpc hpx' hop hcp hbp hlp
      refine Cl.tree_c rfl ?_
      have hrd := read_any hCS.out (B := B) (P := P) (W := W) (K := K) (ss := S) (c := cp) hpx.out (by rw [List.length_map, hnS.out]; omega) (by rw [List.length_map]) (pts_slc hbS.out) hbS.out
      rw [List.length_map, hnS.out] at hrd
      replace hrd := Lib.hid hrd
      go_wp2_with (go_at_call 19; (with_reducible refine hrd.out.mono ?_); rintro e v3 ⟨k9, l9, q9, nn, dd, er, hRd, A9, c9, rfl, hc9, hs8, hbp⟩)
      refine Cl.way_on (Cl.Keeps.of_below hbp) ?_
      have hsd := Lib.hid hs8
      replace hRd := Lib.hid hRd
      have hb3 := Lib.hid (hb2.out.trans (hbp.mono hb2.out.size))
      have hH3 := Lib.hid (hH2.out.keep hbp)
      clear hrd hs8 hbp
      refine Cl.tree_r rfl ?_
      go_big_quiet_step (fail)
      refine wpQuiet_nil ?_
      refine Cl.tree_r rfl ?_
      go_big_quiet_step (fail)
      refine wpQuiet_nil ?_
      refine Cl.tree_r rfl ?_
      go_big_quiet_step (fail)
      refine wpQuiet_nil ?_
      refine Cl.tree_r rfl ?_
      go_big_quiet_step (fail)
      refine wpQuiet_nil ?_
      refine Cl.tree_r rfl ?_
      go_big_quiet_step (fail)
      refine wpQuiet_nil ?_
      have hF := Lib.hid (hH3.out.set_ (k9 : Int) (l9 : Int) (q9 : Int)).hed
      obtain ⟨h1, h2, h3, h4⟩ := hH3.out.hed
      have hfz := hH3.out.frozen
      have hs9 := Lib.hid (hH3.out.sb3 hsd.out (k9 : Int) (l9 : Int) (q9 : Int))
      have hb9 := Lib.hid (below_set3 hb3.out hge.out (.int .i64 (k9 : Int)) (.int .i64 (l9 : Int)) (.int .i64 (q9 : Int)))
      have hkp := Lib.hid (keeps_set3 (w := v3) hge.out (.int .i64 (k9 : Int)) (.int .i64 (l9 : Int)) (.int .i64 (q9 : Int)))
      refine Cl.tree_c rfl ?_
      go_wp2_with fail
      refine Cl.way_on hkp.out ?_
      clear h1 h2 h3 h4 hfz
      refine Cl.tree_r rfl ?_
      go_big_quiet_step (fail)
      refine wpQuiet_nil ?_
      refine Cl.tree_r rfl ?_
      go_big_quiet_step (fail)
      refine wpQuiet_nil ?_
      refine Cl.tree_r rfl ?_
      go_big_quiet_step (fail)
      refine wpQuiet_nil ?_
      refine Cl.tree_e ?_
      go_wp2_with fail
      go_meet
      exact ⟨k9, l9, q9, nn, dd, er, A9, c9, _, hRd.out, rfl, hF.out, rfl, hs9.out, rfl, rfl, hb9.out⟩
  case rest =>
    obtain ⟨k9, l9, q9, n9, d9, e9, A9, c9, g9, hRd, rfl, hG, rfl, hsb, rfl, rfl, hbc⟩ := hcut
    have hXc := Lib.hid (hXS.out.keep hbc)
    have hTc := Lib.hid (hTS7.out.keep hbc)
    have hsc := Lib.hid (hsS.out.far hbc)
    have hbwc := Lib.hid (hbS0.out.trans (hbc.mono hbS0.out.size))
    have hgc : Hid (w.heap.size < wc.heap.size) := hXc.out.lt
    have hgtc : Hid (g0 < wc.heap.size) := hTc.out.lt
    clear hXS hTS7 hsS hbS0 hgb hbc
    have hXS := hXc
    have hTS := hTc
    have hsS := hsc
    have hgb := hgc
    have hgt := hgtc
    have hCS : Hid (Tab ZT) := tab_zero
    clear hXc hTc hsc hgc hgtc
    replace hG := Lib.hid hG
    replace hsb := Lib.hid hsb
    obtain ⟨wS, rfl⟩ : ∃ wS, wS = wc := ⟨_, rfl⟩
    obtain ⟨kx, lx, qx, nx, dx, ex, Ax, cx, gx, hkx, hlx, hqx, hnx, hdx, hex⟩ : ∃ (kx lx qx nx : Nat) (dx : List Nat) (ex : Nat) (Ax : Option Addr) (cx gx : Nat), kx = k9 ∧ lx = l9 ∧ qx = q9 ∧ nx = n9 ∧ dx = d9 ∧ ex = e9 := ⟨k9, l9, q9, n9, d9, e9, none, 0, 0, rfl, rfl, rfl, rfl, rfl, rfl⟩
    obtain ⟨Ay, hAy⟩ : ∃ Ay, Ay = A9 := ⟨_, rfl⟩
    obtain ⟨cy, hcy⟩ : ∃ cy, cy = c9 := ⟨_, rfl⟩
    obtain ⟨gy, hgy⟩ : ∃ gy, gy = g9 := ⟨_, rfl⟩
    subst hkx hlx hqx hnx hdx hex hAy hcy hgy
    replace hRd := Lib.hid hRd
    have hRa := hRd
    have hsa := hsb
    clear hRd hsb
    go_wp2_with fail
    go_cut [16, 17, 18, 19] from 65 to 74 (fun sm sd sn sf wx => ∃ (k9 l9 q9 n9 : Nat) (d9 : List Nat) (e9 : Nat) (A9 : Option Addr) (c9 g9 : Nat), RdS B P W K (S.map ptB) S k9 l9 q9 n9 d9 e9 ∧ sm = .pointer (some ⟨g9, 0, none⟩) ∧ Hed wx g9 (k9 : Int) (l9 : Int) (q9 : Int) ∧ sd = .slice A9 d9.length c9 ∧ Sb wx wx.heap.size A9 d9 ∧ sn = .int .i64 (n9 : Int) ∧ sf = .int .i64 (e9 : Int) ∧ Below wS.heap.size wS wx)
    case first =>
      refine Cl.region_tree (fun b => b < wS.heap.size) 15 (.r 0 <| .r 1 <| .r 2 <| .b 3 10 (.b 4 10 (.r 5 <| .r 6 <| .r 7 <| .r 8 <| .r 9 <| .c 10 <| .c 11 <| .r 12 <| .r 13 <| .r 14 <| .e) (.c 4 <| .r 5 <| .r 6 <| .r 7 <| .r 8 <| .r 9 <| .c 11 <| .r 12 <| .r 13 <| .r 14 <| .e)) (.c 3 <| .c 4 <| .r 5 <| .r 6 <| .r 7 <| .r 8 <| .r 9 <| .c 11 <| .r 12 <| .r 13 <| .r 14 <| .e)) (by kernel_rfl) (by kernel_rfl) ?_
      intro v0 hk0
      have hbk := Cl.Keeps.below hk0
      have hT0 := hTS.out.keep hbk
      have hiA : ∀ y : Cl.Since (fun b => b < wS.heap.size) v0, isTb y.w g0 = true := fun y => (show Tb y.w g0 ZT from (y.keeps.block g0 hT0.lt hgt.out).trans hT0).is hCS.out.1
      have hoA : ∀ y : Cl.Since (fun b => b < wS.heap.size) v0, tbOf y.w g0 = cells ZT := fun y => (show Tb y.w g0 ZT from (y.keeps.block g0 hT0.lt hgt.out).trans hT0).of
      have hX0 := hXS.out.keep hbk
      have x0 : ∀ y : Cl.Since (fun b => b < wS.heap.size) v0, y.w.cell? ⟨w.heap.size, 0, none⟩ = some (.int .i64 B) := fun y => (cell_block (y.keeps.block w.heap.size hX0.lt hgb.out)).trans hX0.c0
      have x1 : ∀ y : Cl.Since (fun b => b < wS.heap.size) v0, y.w.cell? ⟨w.heap.size, 1, none⟩ = some (.int .i64 P) := fun y => (cell_block (y.keeps.block w.heap.size hX0.lt hgb.out)).trans hX0.c1
      have x2 : ∀ y : Cl.Since (fun b => b < wS.heap.size) v0, y.w.cell? ⟨w.heap.size, 2, none⟩ = some (.int .i64 W) := fun y => (cell_block (y.keeps.block w.heap.size hX0.lt hgb.out)).trans hX0.c2
      have x3 : ∀ y : Cl.Since (fun b => b < wS.heap.size) v0, y.w.cell? ⟨w.heap.size, 3, none⟩ = some (.int .i64 K) := fun y => (cell_block (y.keeps.block w.heap.size hX0.lt hgb.out)).trans hX0.c3
      iterate 3 (refine Cl.tree_r rfl ?_; go_big_quiet_step (fail); refine wpQuiet_nil ?_)
      clear hiA hoA hT0 x0 x1 x2 x3 hX0
      replace hbk := Lib.hid hbk
      refine Cl.tree_b rfl rfl ?_ ?_
      · have hpc := lawpts_any (c := c5) (hsS.out.far hbk.out) (by rw [hnS.out]; exact hn6)
        rw [hnS.out] at hpc
        replace hpc := Lib.hid hpc
        go_wp2_with (go_at_call 20; (with_reducible refine hpc.out.mono ?_); rintro e v1 ⟨vp, rfl, hop, hbp⟩)
        refine Cl.way_on (Cl.Keeps.of_below hbp) ?_
        obtain ⟨Ap, cp, rfl, hcp, hpx'⟩ := hop.cx
        have hlp : (S.map ptB).length = nS := by rw [List.length_map, hnS.out]
        rw [hlp]
        have hpx := Lib.hid hpx'
        have hb1 := Lib.hid (hbk.out.trans (hbp.mono hbk.out.size))
        clear hpc hpx' hop hcp hbp hlp
        refine Cl.tree_b rfl rfl ?_ ?_
        · have hrd := read_any hCS.out (B := B) (P := P) (W := W) (K := K) (ss := S) (c := cp) hpx.out (by rw [List.length_map, hnS.out]; omega) (by rw [List.length_map]) (pts_slc hbS.out) hbS.out
          rw [List.length_map, hnS.out] at hrd
          replace hrd := Lib.hid hrd
          go_wp2_with (go_at_call 19; (with_reducible refine hrd.out.mono ?_); rintro e v2 ⟨k9, l9, q9, nn, dd, er, hRd, A9, c9, rfl, hc9, hs8, hbp⟩)
          refine Cl.way_on (Cl.Keeps.of_below hbp) ?_
          have hsd := Lib.hid hs8
          replace hRd := Lib.hid hRd
          have hb2 := Lib.hid (hb1.out.trans (hbp.mono hb1.out.size))
          clear hrd hs8 hbp
          refine Cl.tree_r rfl ?_
          go_big_quiet_step (fail)
          refine wpQuiet_nil ?_
          refine Cl.tree_r rfl ?_
          go_big_quiet_step (fail)
          refine wpQuiet_nil ?_
          refine Cl.tree_r rfl ?_
          go_big_quiet_step (fail)
          refine wpQuiet_nil ?_
          refine Cl.tree_r rfl ?_
          go_big_quiet_step (fail)
          refine wpQuiet_nil ?_
          refine Cl.tree_r rfl ?_
          go_big_quiet_step (fail)
          refine wpQuiet_nil ?_
          refine Cl.tree_c rfl ?_
          go_wp2_with fail
          refine Cl.way_on (Cl.Keeps.of_below (Ge.below_alloc _ _)) ?_
          have hF := Lib.hid (Hed.new v2 (k9 : Int) (l9 : Int) (q9 : Int))
          have hG := Ge.below_alloc v2 (.cells #[.int .i64 (k9 : Int), .int .i64 (l9 : Int), .int .i64 (q9 : Int)] 25)
          have hs9 := Lib.hid (hsd.out.far hG)
          have hb9 := Lib.hid (hb2.out.trans (hG.mono hb2.out.size))
          have hkp := Lib.hid (keeps_fold v2 (.cells #[.int .i64 0, .int .i64 0, .int .i64 0] 25) (.cells #[.int .i64 (k9 : Int), .int .i64 (l9 : Int), .int .i64 (q9 : Int)] 25) hb2.out.size)
          refine Cl.tree_c rfl ?_
          go_wp2_with fail
          refine Cl.way_on hkp.out ?_
          refine Cl.tree_r rfl ?_
          go_big_quiet_step (fail)
          refine wpQuiet_nil ?_
          refine Cl.tree_r rfl ?_
          go_big_quiet_step (fail)
          refine wpQuiet_nil ?_
          refine Cl.tree_r rfl ?_
          go_big_quiet_step (fail)
          refine wpQuiet_nil ?_
          refine Cl.tree_e ?_
          go_wp2_with fail
          go_meet
          exact ⟨k9, l9, q9, nn, dd, er, A9, c9, _, hRd.out, rfl, hF.out, rfl, hs9.out, rfl, rfl, hb9.out⟩
        · go_wp2_with fail
          refine Cl.way_on (Cl.Keeps.of_below (Ge.below_alloc _ _)) ?_
          have hHn := Hdo.new v1 0 0 0
          have hAl := Ge.below_alloc v1 (.cells #[.int .i64 0, .int .i64 0, .int .i64 0] 25)
          have hge : Hid (wS.heap.size ≤ v1.heap.size) := hb1.out.size
          have hba := Lib.hid (hb1.out.trans (hAl.mono hb1.out.size))
          have hxa := Lib.hid (hpx.out.far hAl)
          generalize v1.alloc (.cells #[.int .i64 0, .int .i64 0, .int .i64 0] 25) = va1 at *
          have hH1 := Lib.hid hHn
          clear hHn hAl
          refine Cl.tree_c rfl ?_
          have hrd := read_any hCS.out (B := B) (P := P) (W := W) (K := K) (ss := S) (c := cp) hxa.out (by rw [List.length_map, hnS.out]; omega) (by rw [List.length_map]) (pts_slc hbS.out) hbS.out
          rw [List.length_map, hnS.out] at hrd
          replace hrd := Lib.hid hrd
          go_wp2_with (go_at_call 19; (with_reducible refine hrd.out.mono ?_); rintro e v2 ⟨k9, l9, q9, nn, dd, er, hRd, A9, c9, rfl, hc9, hs8, hbp⟩)
          refine Cl.way_on (Cl.Keeps.of_below hbp) ?_
          have hsd := Lib.hid hs8
          replace hRd := Lib.hid hRd
          have hb2 := Lib.hid (hba.out.trans (hbp.mono hba.out.size))
          have hH2 := Lib.hid (hH1.out.keep hbp)
          clear hrd hs8 hbp
          refine Cl.tree_r rfl ?_
          go_big_quiet_step (fail)
          refine wpQuiet_nil ?_
          refine Cl.tree_r rfl ?_
          go_big_quiet_step (fail)
          refine wpQuiet_nil ?_
          refine Cl.tree_r rfl ?_
          go_big_quiet_step (fail)
          refine wpQuiet_nil ?_
          refine Cl.tree_r rfl ?_
          go_big_quiet_step (fail)
          refine wpQuiet_nil ?_
          refine Cl.tree_r rfl ?_
          go_big_quiet_step (fail)
          refine wpQuiet_nil ?_
          have hF := Lib.hid (hH2.out.set_ (k9 : Int) (l9 : Int) (q9 : Int)).hed
          obtain ⟨h1, h2, h3, h4⟩ := hH2.out.hed
          have hfz := hH2.out.frozen
          have hs9 := Lib.hid (hH2.out.sb3 hsd.out (k9 : Int) (l9 : Int) (q9 : Int))
          have hb9 := Lib.hid (below_set3 hb2.out hge.out (.int .i64 (k9 : Int)) (.int .i64 (l9 : Int)) (.int .i64 (q9 : Int)))
          have hkp := Lib.hid (keeps_set3 (w := v2) hge.out (.int .i64 (k9 : Int)) (.int .i64 (l9 : Int)) (.int .i64 (q9 : Int)))
          refine Cl.tree_c rfl ?_
          go_wp2_with fail
          refine Cl.way_on hkp.out ?_
          clear h1 h2 h3 h4 hfz
          refine Cl.tree_r rfl ?_
          go_big_quiet_step (fail)
          refine wpQuiet_nil ?_
          refine Cl.tree_r rfl ?_
          go_big_quiet_step (fail)
          refine wpQuiet_nil ?_
          refine Cl.tree_r rfl ?_
          go_big_quiet_step (fail)
          refine wpQuiet_nil ?_
          refine Cl.tree_e ?_
          go_wp2_with fail
          go_meet
          exact ⟨k9, l9, q9, nn, dd, er, A9, c9, _, hRd.out, rfl, hF.out, rfl, hs9.out, rfl, rfl, hb9.out⟩
      · go_wp2_with fail
        refine Cl.way_on (Cl.Keeps.of_below (Ge.below_alloc _ _)) ?_
        have hHn := Hdo.new v0 0 0 0
        have hAl := Ge.below_alloc v0 (.cells #[.int .i64 0, .int .i64 0, .int .i64 0] 25)
        have hge : Hid (wS.heap.size ≤ v0.heap.size) := hbk.out.size
        have hba := Lib.hid (hbk.out.trans (hAl.mono hbk.out.size))
        generalize v0.alloc (.cells #[.int .i64 0, .int .i64 0, .int .i64 0] 25) = va0 at *
        have hH0 := Lib.hid hHn
        clear hHn hAl
        refine Cl.tree_c rfl ?_
        have hpc := lawpts_any (c := c5) (hsS.out.far hba.out) (by rw [hnS.out]; exact hn6)
        rw [hnS.out] at hpc
        replace hpc := Lib.hid hpc
        go_wp2_with (go_at_call 20; (with_reducible refine hpc.out.mono ?_); rintro e v1 ⟨vp, rfl, hop, hbp⟩)
        refine Cl.way_on (Cl.Keeps.of_below hbp) ?_
        obtain ⟨Ap, cp, rfl, hcp, hpx'⟩ := hop.cx
        have hlp : (S.map ptB).length = nS := by rw [List.length_map, hnS.out]
        rw [hlp]
        have hpx := Lib.hid hpx'
        have hb1 := Lib.hid (hba.out.trans (hbp.mono hba.out.size))
        have hH1 := Lib.hid (hH0.out.keep hbp)
        clear hpc hpx' hop hcp hbp hlp
        refine Cl.tree_c rfl ?_
        have hrd := read_any hCS.out (B := B) (P := P) (W := W) (K := K) (ss := S) (c := cp) hpx.out (by rw [List.length_map, hnS.out]; omega) (by rw [List.length_map]) (pts_slc hbS.out) hbS.out
        rw [List.length_map, hnS.out] at hrd
        replace hrd := Lib.hid hrd
        go_wp2_with (go_at_call 19; (with_reducible refine hrd.out.mono ?_); rintro e v2 ⟨k9, l9, q9, nn, dd, er, hRd, A9, c9, rfl, hc9, hs8, hbp⟩)
        refine Cl.way_on (Cl.Keeps.of_below hbp) ?_
        have hsd := Lib.hid hs8
        replace hRd := Lib.hid hRd
        have hb2 := Lib.hid (hb1.out.trans (hbp.mono hb1.out.size))
        have hH2 := Lib.hid (hH1.out.keep hbp)
        clear hrd hs8 hbp
        refine Cl.tree_r rfl ?_
        go_big_quiet_step (fail)
        refine wpQuiet_nil ?_
        refine Cl.tree_r rfl ?_
        go_big_quiet_step (fail)
        refine wpQuiet_nil ?_
        refine Cl.tree_r rfl ?_
        go_big_quiet_step (fail)
        refine wpQuiet_nil ?_
        refine Cl.tree_r rfl ?_
        go_big_quiet_step (fail)
        refine wpQuiet_nil ?_
        refine Cl.tree_r rfl ?_
        go_big_quiet_step (fail)
        refine wpQuiet_nil ?_
        have hF := Lib.hid (hH2.out.set_ (k9 : Int) (l9 : Int) (q9 : Int)).hed
        obtain ⟨h1, h2, h3, h4⟩ := hH2.out.hed
        have hfz := hH2.out.frozen
        have hs9 := Lib.hid (hH2.out.sb3 hsd.out (k9 : Int) (l9 : Int) (q9 : Int))
        have hb9 := Lib.hid (below_set3 hb2.out hge.out (.int .i64 (k9 : Int)) (.int .i64 (l9 : Int)) (.int .i64 (q9 : Int)))
        have hkp := Lib.hid (keeps_set3 (w := v2) hge.out (.int .i64 (k9 : Int)) (.int .i64 (l9 : Int)) (.int .i64 (q9 : Int)))
        refine Cl.tree_c rfl ?_
        go_wp2_with fail
        refine Cl.way_on hkp.out ?_
        clear h1 h2 h3 h4 hfz
        refine Cl.tree_r rfl ?_
        go_big_quiet_step (fail)
        refine wpQuiet_nil ?_
        refine Cl.tree_r rfl ?_
        go_big_quiet_step (fail)
        refine wpQuiet_nil ?_
        refine Cl.tree_r rfl ?_
        go_big_quiet_step (fail)
        refine wpQuiet_nil ?_
        refine Cl.tree_e ?_
        go_wp2_with fail
        go_meet
        exact ⟨k9, l9, q9, nn, dd, er, A9, c9, _, hRd.out, rfl, hF.out, rfl, hs9.out, rfl, rfl, hb9.out⟩
    case rest =>
      obtain ⟨k9, l9, q9, n9, d9, e9, A9, c9, g9, hRd, rfl, hGb, rfl, hsb, rfl, rfl, hbc⟩ := hcut
      obtain ⟨rfl, rfl, rfl, rfl, rfl, rfl⟩ := rd_fun hRa.out hRd
      have hbw := hbwc.out.trans (hbc.mono hbwc.out.size)
      have hGa := hG.out.keep hbc
      have hst := str_run hsb c9
      have hst2 := str_run (hsa.out.far hbc) cy
      obtain ⟨y1, y2, y3, y4⟩ := id hGa
      obtain ⟨z1, z2, z3, z4⟩ := id hGb
      have hseq := str_eq (bstr d9) wc
      have hnn : ((n9 : Int) == (n9 : Int)) = true := by simp
      have hee : ((e9 : Int) == (e9 : Int)) = true := by simp
      clear hRd hRa hG hGa hGb hsb hsa hbc
      go_wp2_with fail
      go_ret
      exact ⟨rfl, hbw⟩
end Go.Proofs.Ytmchelbmeajcnaa
