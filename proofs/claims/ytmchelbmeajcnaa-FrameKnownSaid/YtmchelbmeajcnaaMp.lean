/- FrameMakes: the page, or why there is none, as the document has it; read it is the same. -/
import Derived.Test.YtmchelbmeajcnaaMo
import Derived.Test.YtmchelbmeajcnaaMg
namespace Go.Proofs.Ytmchelbmeajcnaa
open Go.RowKit Go.Gf Go.Fl
set_option linter.unusedVariables false
set_option linter.unusedSimpArgs false
set_option maxRecDepth 20000
attribute [local go_sem ↓] exec_load_tb Cl.quiet_since
attribute [local go_sem] tbAt_ptr tbIn_ptr

theorem law_same {A B : Option Addr} {ca cb : Nat} {xs ys : List Nat} {w : World} (ha : Sl w w.heap.size A xs) (hb : Sl w w.heap.size B ys) (hla : xs.length ≤ 1000000) (hlb : ys.length ≤ 1000000) (h : decide (xs = ys) = true) :
    Calls Try.prog 18 #[.slice A xs.length ca, .slice B ys.length cb] w (Ge.Ans w (.bool true)) := (refsame_any A B ca cb xs ys w ha hb hla hlb).mono fun _ _ h' => by
  obtain ⟨he, n, hd⟩ := h'
  refine ⟨by rw [← h]; exact he, ?_⟩
  rw [hd]
  exact ⟨rfl, rfl, rfl, Nat.le_refl _, fun _ _ => rfl⟩
theorem OwnS.len {w0 w : World} {v : Value} {ys : List Nat} (h : OwnS w0 w v ys) : ∃ A c, v = .slice A ys.length c ∧ Sl w w.heap.size A ys := by
  obtain ⟨A, c, e, _, hs⟩ := h.sl
  exact ⟨A, c, e, hs⟩
theorem mkW_nil {B P W K k l q : Int} {d : List Nat} (h : mkE B P W K k l q d.length ≠ 0) : mkW B P W K k l q d = [] := by unfold mkW; rw [if_neg h]
/-- what there is where a page is made -/
theorem mk_ok {B P W K k l q : Int} {d : List Nat} (hd : ∀ x ∈ d, x < 256) (h : mkE B P W K k l q d.length = 0) : ∃ W' K' N k' l' q' : Nat, W = (W' : Int) ∧ K = (K' : Int) ∧ k = (k' : Int) ∧ l = (l' : Int) ∧ q = (q' : Int) ∧ Ge.mayG B P W K = true ∧ W' * K' = N ∧ sayV N k' l' q' d ∧ mkW B P W K k l q d = pageL W' (sayL N k' l' q' d) ∧
    (mkW B P W K k l q d).length = W' * (K' + 16) ∧ (∀ y ∈ mkW B P W K k l q d, y < 1024) ∧ 1 ≤ W' ∧ W' ≤ 4 ∧ 1 ≤ K' ∧ K' ≤ 64 ∧ 8 < N ∧ N ≤ 256 := by
  have h' := h
  unfold mkE at h
  by_cases h1 : Ge.mayG B P W K = false ∨ mkB k l q = false
  · rw [if_pos h1] at h; cases h
  rw [if_neg h1] at h
  by_cases h2 : (d.length : Int) ≠ Ge.sizG B P W K
  · rw [if_pos h2] at h; cases h
  have hM : Ge.mayG B P W K = true := by
    cases e : Ge.mayG B P W K
    · exact absurd (Or.inl e) h1
    · rfl
  have hB : mkB k l q = true := by
    cases e : mkB k l q
    · exact absurd (Or.inr e) h1
    · rfl
  have hsz : (d.length : Int) = Ge.sizG B P W K := Classical.not_not.1 h2
  obtain ⟨k', l', q', rfl, rfl, rfl, hk1, hk2, hl2, hq2⟩ := mkB_of hB
  obtain ⟨W', K', N, rfl, rfl, hN, hW1, hW4, hK1, hK64, h8, h256, hsg, _⟩ := mayG_of hM
  have hdl : d.length = 10 * (N - 8) / 8 := by rw [hsg] at hsz; exact Int.ofNat.inj hsz
  have hsl := say_len (k := k') (l := l') (q := q') hdl (by omega)
  have hsb := say_bd (N := N) (d := d) hk2 hl2 hq2
  have hR : mkW B P (W' : Int) (K' : Int) (k' : Int) (l' : Int) (q' : Int) d = pageL W' (sayL N k' l' q' d) := by
    unfold mkW
    rw [h', if_pos rfl, show ((W' : Int) * (K' : Int)).toNat = N by rw [← hN, ← Int.natCast_mul, Int.toNat_natCast]]
    rfl
  refine ⟨W', K', N, k', l', q', rfl, rfl, rfl, rfl, rfl, hM, hN, ⟨hk1, hk2, hl2, hq2, hdl, hd⟩, hR, ?_, ?_, hW1, hW4, hK1, hK64, h8, h256⟩
  · rw [hR]; exact pageL_len (by rw [hsl, hN]) hW1
  · rw [hR]; exact pageL_bd (by rw [hsl, hN]) hW1 hsb
set_option maxHeartbeats 16000000 in
theorem makes_law (B P W K : Int) (wB : (Lit.int .i64 B).wf = true) (wP : (Lit.int .i64 P).wf = true) (wW : (Lit.int .i64 W).wf = true) (wK : (Lit.int .i64 K).wf = true)
    (k l q : Int) (wk : (Lit.int .i64 k).wf = true) (wl : (Lit.int .i64 l).wf = true) (wq : (Lit.int .i64 q).wf = true)
    (A : Option Addr) (d : List Nat) (c : Nat) (hl : d.length ≤ c) (hc : c ≤ maxLen) (w : World) (hs : Sb w w.heap.size A d) :
    Calls Try.prog 3 #[.agg #[.int .i64 B, .int .i64 P, .int .i64 W, .int .i64 K], .agg #[.int .i64 k, .int .i64 l, .int .i64 q], .slice A d.length c] w fun e w' => e = .returned (.bool true) ∧ Below w.heap.size w w' := by
  have H := Lib.hid hs
  have hz := zero27
  have hdm : d.length ≤ 9223372036854775807 := by unfold maxLen at hc; omega
  clear hc hs
  obtain ⟨wa, hwa⟩ : ∃ wa, wa = w.alloc (.cells #[.int .i64 B, .int .i64 P, .int .i64 W, .int .i64 K] 23) := ⟨_, rfl⟩
  obtain ⟨wb, hwb⟩ : ∃ wb, wb = wa.alloc (.cells #[.int .i64 k, .int .i64 l, .int .i64 q] 25) := ⟨_, rfl⟩
  have hza : wa.heap.size = w.heap.size + 1 := by rw [hwa, World.size_alloc]
  have hba : Below w.heap.size w wa := by rw [hwa]; exact Ge.below_alloc w _
  have hab : Below wa.heap.size wa wb := by rw [hwb]; exact Ge.below_alloc wa _
  have hbb : Below w.heap.size w wb := hba.trans (hab.mono hba.size)
  have hX : Ge.Box wb w.heap.size B P W K := by
    have := Ge.Box.new w B P W K
    rw [← hwa] at this
    exact this.keep hab
  have hH : Hed wb (w.heap.size + 1) k l q := by
    have := Hed.new wa k l q
    rwa [← hwb, hza] at this
  go_enter Try.func3, Try.ntmps3
  go_wp2_with fail
  rw [← hwa, ← hwb]
  clear hwa hwb hza hba hab
  refine (awake_any wb).mono ?_
  rintro e w1 ⟨rfl, hb1⟩
  have hX1 := hX.keep hb1
  have hH1 := hH.keep hb1
  have hbw1 := hbb.trans (hb1.mono hbb.size)
  clear hX hH hbb hb1
  obtain ⟨x1, x2, x3, x4, x5⟩ := id hX1
  have hsm := small_any B P W K w1
  cases hSM : smB B P W K
  · rw [hSM] at hsm
    replace hsm := Lib.hid hsm
    go_wp2_with (go_at_call 14; (with_reducible refine hsm.out.mono ?_); rintro e w2 ⟨rfl, hb2⟩; have hbw2 := hbw1.trans (hb2.mono hbw1.size))
    go_ret
    exact ⟨rfl, hbw2⟩
  rw [hSM] at hsm
  replace hsm := Lib.hid hsm
  by_cases hd1 : d.length ≤ 1000
  rotate_left
  · have hdd : decide ((1000 : Int) < (d.length : Int)) = true := decide_eq_true (by omega)
    go_wp2_with (go_at_call 14; (with_reducible refine hsm.out.mono ?_); rintro e w2 ⟨rfl, hb2⟩; have hbw2 := hbw1.trans (hb2.mono hbw1.size))
    go_ret
    exact ⟨rfl, hbw2⟩
  have hdd : decide ((1000 : Int) < (d.length : Int)) = false := decide_eq_false (by omega)
  go_wp2_with (go_at_call 14; (with_reducible refine hsm.out.mono ?_); rintro e w2 ⟨rfl, hb2⟩; have hbw2 := hbw1.trans (hb2.mono hbw1.size); have hX2 := hX1.keep hb2; have hH2 := hH1.keep hb2)
  refine (make_any _).mono ?_
  rintro e w3 ⟨cs, rfl, hl, hb3⟩
  have hX3 := hX2.keep hb3
  have hH3 := hH2.keep hb3
  have hbw3 := hbw2.trans (hb3.mono hbw2.size)
  clear hX1 hH1 hX2 hH2 hb2 hb3 hbw1 hbw2 x1 x2 x3 x4 x5 hsm hdd
  go_wp2_with (refine wpList_store_row rfl 33 _ _ rfl w3.heap.size (cells cs) rfl rfl 33 (cells ZT) (heap_alloc_new w3 _) (rsize hl) (zsize hl) (cells_one cs) ?_)
  have hS := St.start (cs := cs) hbw3 (cells ZT)
  have hb : Below w3.heap.size w3 ((w3.alloc (Obj.cells (cells ZT) 33)).setRow w3.heap.size (cells cs)) := below_setRow ((Below.refl _ _).alloc (Nat.le_refl _) _) (Nat.le_refl _) _
  have hX4 := hX3.keep hb
  have hH4 := hH3.keep hb
  have hbww4 := hbw3.trans (hb.mono hbw3.size)
  clear hb
  generalize hg : w3.heap.size = g1 at hS hbww4 hX4 hH4 ⊢
  generalize (w3.alloc (Obj.cells (cells ZT) 33)).setRow g1 (cells cs) = w4 at *
  clear hg hz
  have hTw4 := hS.tb
  clear hS
  clear hX3 hH3 hbw3
  have hi1 := hTw4.is hl.1
  have hi2 := hTw4.of
  obtain ⟨x1, x2, x3, x4, x5⟩ := id hX4
  obtain ⟨y1, y2, y3, y4⟩ := id hH4
  have hmk := Lib.hid (make_fr (cs := cs) hl.tab (B := B) (P := P) (W := W) (K := K) (k := k) (l := l) (q := q) (c := c) (H.out.far hbww4) (by omega))
  obtain ⟨E, hE⟩ : ∃ E, mkE B P W K k l q d.length = E := ⟨_, rfl⟩
  obtain ⟨S, hS⟩ : ∃ S, mkW B P W K k l q d = S := ⟨_, rfl⟩
  rw [hE, hS] at hmk
  have hrm : Hid (∀ w', Below w.heap.size w w' → Calls Try.prog 17 #[.agg #[.int .i64 B, .int .i64 P, .int .i64 W, .int .i64 K], .agg #[.int .i64 k, .int .i64 l, .int .i64 q], .slice A d.length c] w' (RowV w' S E)) := fun w' hb => by
    have := make_rf (B := B) (P := P) (W := W) (K := K) (k := k) (l := l) (q := q) (c := c) (H.out.far hb) (by omega)
    rw [hE, hS] at this
    exact this
  have hE3 : E ≤ 3 := by
    rw [← hE]
    unfold mkE
    split
    · decide
    · split <;> decide
  have hSn : S.length ≤ 1000 := by
    by_cases h0 : E = 0
    · obtain ⟨W', K', N, k', l', q', rfl, rfl, rfl, rfl, rfl, _, _, _, _, hln, _, h1, h2, h3, h4, _⟩ := mk_ok H.out.1 (hE.trans h0)
      rw [hS] at hln
      rw [hln]
      have : W' * (K' + 16) ≤ 4 * 80 := Nat.mul_le_mul h2 (by omega)
      omega
    · rw [← hS, mkW_nil (by rw [hE]; exact h0)]
      decide
  have hEI : ((E : Int) != (E : Int)) = false := by simp
  by_cases h0 : E = 0
  rotate_left
  · have hEz : ((E : Int) != 0) = true := by simp [h0]
    replace hE := Lib.hid hE
    replace hS := Lib.hid hS
    go_wp2_with (first
      | (go_at_call 16; (with_reducible refine hmk.out.mono ?_); rintro e w5 ⟨v5, rfl, ho5, hb5⟩; have hT5 := hTw4.keep hb5; have hX5 := hX4.keep hb5; have hH5 := hH4.keep hb5; have hbw5 := hbww4.trans (hb5.mono hbww4.size); obtain ⟨m1, m2, m3, m4, m5⟩ := id hX5; obtain ⟨n1, n2, n3, n4⟩ := id hH5; have hrm5 := hrm.out w5 hbw5; obtain ⟨A5, c5, rfl, hs5⟩ := ho5.len)
      | (go_at_call 17; (with_reducible refine hrm5.mono ?_); rintro e w6 ⟨v6, rfl, ho6, hb6⟩; have hT6 := hT5.keep hb6; have hX6 := hX5.keep hb6; have hH6 := hH5.keep hb6; have hbw6 := hbw5.trans (hb6.mono hbw5.size); obtain ⟨A6, c6, rfl, hs6⟩ := ho6.len; have hs56 := hs5.far hb6; have hsame := Lib.hid (law_same (ca := c5) (cb := c6) hs56 hs6 (by omega) (by omega) (decide_eq_true rfl)))
      | (go_at_call 18; (with_reducible refine hsame.out.mono ?_); rintro e w7 ⟨rfl, hb7⟩; have hTS := hT6.keep hb7; have hXS := hX6.keep hb7; have hHS := hH6.keep hb7; have hbS0 := hbw6.trans (hb7.mono hbw6.size); have hsS := hs56.far hb7))
    go_ret
    exact ⟨rfl, hbS0⟩
  subst h0
  obtain ⟨W', K', N, k', l', q', rfl, rfl, rfl, rfl, rfl, hM, hN, hsv, hmkw, hln, hSb, hW1, hW4, hK1, hK64, h8, h256⟩ := mk_ok H.out.1 hE
  rw [hS] at hmkw hln hSb
  have hown : Hid (∀ k9 l9 q9 n9 d9 er, RdS B P (W' : Int) (K' : Int) (S.map ptB) S k9 l9 q9 n9 d9 er → k9 = k' ∧ l9 = l' ∧ q9 = q' ∧ n9 = 0 ∧ d9 = d ∧ er = 0) := fun k9 l9 q9 n9 d9 er h => by
    rw [hmkw] at h
    exact rd_own hM hN hsv h
  obtain ⟨nS, hnS⟩ : ∃ nS, S.length = nS := ⟨_, rfl⟩
  replace hnS := Lib.hid hnS
  have hn6 : nS ≤ 100000 := by rw [← hnS.out]; omega
  clear hE hS hmkw hln hsv hEI hE3
  replace hSb := Lib.hid hSb
  go_wp2_with (first
    | (go_at_call 16; (with_reducible refine hmk.out.mono ?_); rintro e w5 ⟨v5, rfl, ho5, hb5⟩; have hT5 := hTw4.keep hb5; have hX5 := hX4.keep hb5; have hH5 := hH4.keep hb5; have hbw5 := hbww4.trans (hb5.mono hbww4.size); obtain ⟨m1, m2, m3, m4, m5⟩ := id hX5; obtain ⟨n1, n2, n3, n4⟩ := id hH5; have hrm5 := hrm.out w5 hbw5; obtain ⟨A5, c5, rfl, hs5⟩ := ho5.len)
    | (go_at_call 17; (with_reducible refine hrm5.mono ?_); rintro e w6 ⟨v6, rfl, ho6, hb6⟩; have hT6 := hT5.keep hb6; have hX6 := hX5.keep hb6; have hH6 := hH5.keep hb6; have hbw6 := hbw5.trans (hb6.mono hbw5.size); obtain ⟨A6, c6, rfl, hs6⟩ := ho6.len; have hs56 := hs5.far hb6; have hsame := Lib.hid (law_same (ca := c5) (cb := c6) hs56 hs6 (by omega) (by omega) (decide_eq_true rfl)))
    | (go_at_call 18; (with_reducible refine hsame.out.mono ?_); rintro e w7 ⟨rfl, hb7⟩; have hTS := hT6.keep hb7; have hXS := hX6.keep hb7; have hHS := hH6.keep hb7; have hbS0 := hbw6.trans (hb7.mono hbw6.size); have hsS := hs56.far hb7))
  rw [hnS.out]
  replace hTS := Lib.hid hTS
  replace hXS := Lib.hid hXS
  replace hHS := Lib.hid hHS
  replace hbS0 := Lib.hid hbS0
  replace hsS := Lib.hid hsS
  have hCS := Lib.hid hl.tab
  have hbS := hSb
  have hgt : Hid (g1 < w7.heap.size) := hTS.out.lt
  have hgb : Hid (w.heap.size < w7.heap.size) := hXS.out.lt
  clear hT5 hT6 hX4 hX5 hX6 hH4 hH5 hH6 hTw4 hi1 hi2 x1 x2 x3 x4 x5 y1 y2 y3 y4 m1 m2 m3 m4 m5 n1 n2 n3 n4 hb5 hb6 hb7 hbw5 hbw6 hbww4 hs5 hs6 hs56 ho5 ho6 hsame hrm hrm5 hmk
  go_cut [12, 13, 14, 15] from 53 to 62 (fun sm sd sn sf wx => ∃ (k9 l9 q9 n9 : Nat) (d9 : List Nat) (e9 : Nat) (A9 : Option Addr) (c9 g9 : Nat), RdS B P (W' : Int) (K' : Int) (S.map ptB) S k9 l9 q9 n9 d9 e9 ∧ sm = .pointer (some ⟨g9, 0, none⟩) ∧ Hed wx g9 (k9 : Int) (l9 : Int) (q9 : Int) ∧ sd = .slice A9 d9.length c9 ∧ Sb wx wx.heap.size A9 d9 ∧ sn = .int .i64 (n9 : Int) ∧ sf = .int .i64 (e9 : Int) ∧ Below w7.heap.size w7 wx)
  case first =>
    refine Cl.region_tree (fun b => b < w7.heap.size) 15 (.r 0 <| .r 1 <| .r 2 <| .b 3 10 (.b 4 10 (.r 5 <| .r 6 <| .r 7 <| .r 8 <| .r 9 <| .c 10 <| .c 11 <| .r 12 <| .r 13 <| .r 14 <| .e) (.c 4 <| .r 5 <| .r 6 <| .r 7 <| .r 8 <| .r 9 <| .c 11 <| .r 12 <| .r 13 <| .r 14 <| .e)) (.c 3 <| .c 4 <| .r 5 <| .r 6 <| .r 7 <| .r 8 <| .r 9 <| .c 11 <| .r 12 <| .r 13 <| .r 14 <| .e)) (by kernel_rfl) (by kernel_rfl) ?_
    intro v0 hk0
    have hbk := Cl.Keeps.below hk0
    have hT0 := hTS.out.keep hbk
    have hiA : ∀ y : Cl.Since (fun b => b < w7.heap.size) v0, isTb y.w g1 = true := fun y => (show Tb y.w g1 cs from (y.keeps.block g1 hT0.lt hgt.out).trans hT0).is hCS.out.1
    have hoA : ∀ y : Cl.Since (fun b => b < w7.heap.size) v0, tbOf y.w g1 = cells cs := fun y => (show Tb y.w g1 cs from (y.keeps.block g1 hT0.lt hgt.out).trans hT0).of
    have hX0 := hXS.out.keep hbk
    have x0 : ∀ y : Cl.Since (fun b => b < w7.heap.size) v0, y.w.cell? ⟨w.heap.size, 0, none⟩ = some (.int .i64 B) := fun y => (cell_block (y.keeps.block w.heap.size hX0.lt hgb.out)).trans hX0.c0
    have x1 : ∀ y : Cl.Since (fun b => b < w7.heap.size) v0, y.w.cell? ⟨w.heap.size, 1, none⟩ = some (.int .i64 P) := fun y => (cell_block (y.keeps.block w.heap.size hX0.lt hgb.out)).trans hX0.c1
    have x2 : ∀ y : Cl.Since (fun b => b < w7.heap.size) v0, y.w.cell? ⟨w.heap.size, 2, none⟩ = some (.int .i64 (W' : Int)) := fun y => (cell_block (y.keeps.block w.heap.size hX0.lt hgb.out)).trans hX0.c2
    have x3 : ∀ y : Cl.Since (fun b => b < w7.heap.size) v0, y.w.cell? ⟨w.heap.size, 3, none⟩ = some (.int .i64 (K' : Int)) := fun y => (cell_block (y.keeps.block w.heap.size hX0.lt hgb.out)).trans hX0.c3
    iterate 3 (refine Cl.tree_r rfl ?_; go_big_quiet_step (fail); refine wpQuiet_nil ?_)
    clear hiA hoA hT0 x0 x1 x2 x3 hX0
    replace hbk := Lib.hid hbk
    refine Cl.tree_b rfl rfl ?_ ?_
    · have hpc := lawpts_any (c := c5) (hsS.out.far hbk.out) (by rw [hnS.out]; exact hn6)
      rw [hnS.out] at hpc
      replace hpc := Lib.hid hpc
      go_wp2_with (go_at_call 20; (with_reducible refine hpc.out.mono ?_); rintro e v1 ⟨vp, rfl, hop, hbp⟩)
      refine Cl.way_on (Cl.Keeps.of_below hbp) ?_
      obtain ⟨Ap, cp, rfl, hcp, hpx'⟩ := hop.cx
      have hlp : (S.map ptB).length = nS := by rw [List.length_map, hnS.out]
      rw [hlp]
      have hpx := Lib.hid hpx'
      have hb1 := Lib.hid (hbk.out.trans (hbp.mono hbk.out.size))
      clear hpc hpx' hop hcp hbp hlp
      refine Cl.tree_b rfl rfl ?_ ?_
      · have hrd := read_any hCS.out (B := B) (P := P) (W := (W' : Int)) (K := (K' : Int)) (ss := S) (c := cp) hpx.out (by rw [List.length_map, hnS.out]; omega) (by rw [List.length_map]) (pts_slc hbS.out) hbS.out
        rw [List.length_map, hnS.out] at hrd
        replace hrd := Lib.hid hrd
        go_wp2_with (go_at_call 19; (with_reducible refine hrd.out.mono ?_); rintro e v2 ⟨k9, l9, q9, nn, dd, er, hRd, A9, c9, rfl, hc9, hs8, hbp⟩)
        refine Cl.way_on (Cl.Keeps.of_below hbp) ?_
        have hsd := Lib.hid hs8
        replace hRd := Lib.hid hRd
        have hb2 := Lib.hid (hb1.out.trans (hbp.mono hb1.out.size))
        clear hrd hs8 hbp
        refine Cl.tree_r rfl ?_
        go_big_quiet_step (fail)
        refine wpQuiet_nil ?_
        refine Cl.tree_r rfl ?_
        go_big_quiet_step (fail)
        refine wpQuiet_nil ?_
        refine Cl.tree_r rfl ?_
        go_big_quiet_step (fail)
        refine wpQuiet_nil ?_
        refine Cl.tree_r rfl ?_
        go_big_quiet_step (fail)
        refine wpQuiet_nil ?_
        refine Cl.tree_r rfl ?_
        go_big_quiet_step (fail)
        refine wpQuiet_nil ?_
        refine Cl.tree_c rfl ?_
        go_wp2_with fail
        refine Cl.way_on (Cl.Keeps.of_below (Ge.below_alloc _ _)) ?_
        have hF := Lib.hid (Hed.new v2 (k9 : Int) (l9 : Int) (q9 : Int))
        have hG := Ge.below_alloc v2 (.cells #[.int .i64 (k9 : Int), .int .i64 (l9 : Int), .int .i64 (q9 : Int)] 25)
        have hs9 := Lib.hid (hsd.out.far hG)
        have hb9 := Lib.hid (hb2.out.trans (hG.mono hb2.out.size))
        have hkp := Lib.hid (keeps_fold v2 (.cells #[.int .i64 0, .int .i64 0, .int .i64 0] 25) (.cells #[.int .i64 (k9 : Int), .int .i64 (l9 : Int), .int .i64 (q9 : Int)] 25) hb2.out.size)
        refine Cl.tree_c rfl ?_
        go_wp2_with fail
        refine Cl.way_on hkp.out ?_
        refine Cl.tree_r rfl ?_
        go_big_quiet_step (fail)
        refine wpQuiet_nil ?_
        refine Cl.tree_r rfl ?_
        go_big_quiet_step (fail)
        refine wpQuiet_nil ?_
        refine Cl.tree_r rfl ?_
        go_big_quiet_step (fail)
        refine wpQuiet_nil ?_
        refine Cl.tree_e ?_
        go_wp2_with fail
        go_meet
        exact ⟨k9, l9, q9, nn, dd, er, A9, c9, _, hRd.out, rfl, hF.out, rfl, hs9.out, rfl, rfl, hb9.out⟩
      · go_wp2_with fail
        refine Cl.way_on (Cl.Keeps.of_below (Ge.below_alloc _ _)) ?_
        have hHn := Hdo.new v1 0 0 0
        have hAl := Ge.below_alloc v1 (.cells #[.int .i64 0, .int .i64 0, .int .i64 0] 25)
        have hge : Hid (w7.heap.size ≤ v1.heap.size) := hb1.out.size
        have hba := Lib.hid (hb1.out.trans (hAl.mono hb1.out.size))
        have hxa := Lib.hid (hpx.out.far hAl)
        generalize v1.alloc (.cells #[.int .i64 0, .int .i64 0, .int .i64 0] 25) = va1 at *
        have hH1 := Lib.hid hHn
        clear hHn hAl
        refine Cl.tree_c rfl ?_
        have hrd := read_any hCS.out (B := B) (P := P) (W := (W' : Int)) (K := (K' : Int)) (ss := S) (c := cp) hxa.out (by rw [List.length_map, hnS.out]; omega) (by rw [List.length_map]) (pts_slc hbS.out) hbS.out
        rw [List.length_map, hnS.out] at hrd
        replace hrd := Lib.hid hrd
        go_wp2_with (go_at_call 19; (with_reducible refine hrd.out.mono ?_); rintro e v2 ⟨k9, l9, q9, nn, dd, er, hRd, A9, c9, rfl, hc9, hs8, hbp⟩)
        refine Cl.way_on (Cl.Keeps.of_below hbp) ?_
        have hsd := Lib.hid hs8
        replace hRd := Lib.hid hRd
        have hb2 := Lib.hid (hba.out.trans (hbp.mono hba.out.size))
        have hH2 := Lib.hid (hH1.out.keep hbp)
        clear hrd hs8 hbp
        refine Cl.tree_r rfl ?_
        go_big_quiet_step (fail)
        refine wpQuiet_nil ?_
        refine Cl.tree_r rfl ?_
        go_big_quiet_step (fail)
        refine wpQuiet_nil ?_
        refine Cl.tree_r rfl ?_
        go_big_quiet_step (fail)
        refine wpQuiet_nil ?_
        refine Cl.tree_r rfl ?_
        go_big_quiet_step (fail)
        refine wpQuiet_nil ?_
        refine Cl.tree_r rfl ?_
        go_big_quiet_step (fail)
        refine wpQuiet_nil ?_
        have hF := Lib.hid (hH2.out.set_ (k9 : Int) (l9 : Int) (q9 : Int)).hed
        obtain ⟨h1, h2, h3, h4⟩ := hH2.out.hed
        have hfz := hH2.out.frozen
        have hs9 := Lib.hid (hH2.out.sb3 hsd.out (k9 : Int) (l9 : Int) (q9 : Int))
        have hb9 := Lib.hid (below_set3 hb2.out hge.out (.int .i64 (k9 : Int)) (.int .i64 (l9 : Int)) (.int .i64 (q9 : Int)))
        have hkp := Lib.hid (keeps_set3 (w := v2) hge.out (.int .i64 (k9 : Int)) (.int .i64 (l9 : Int)) (.int .i64 (q9 : Int)))
        refine Cl.tree_c rfl ?_
        go_wp2_with fail
        refine Cl.way_on hkp.out ?_
        clear h1 h2 h3 h4 hfz
        refine Cl.tree_r rfl ?_
        go_big_quiet_step (fail)
        refine wpQuiet_nil ?_
        refine Cl.tree_r rfl ?_
        go_big_quiet_step (fail)
        refine wpQuiet_nil ?_
        refine Cl.tree_r rfl ?_
        go_big_quiet_step (fail)
        refine wpQuiet_nil ?_
        refine Cl.tree_e ?_
        go_wp2_with fail
        go_meet
        exact ⟨k9, l9, q9, nn, dd, er, A9, c9, _, hRd.out, rfl, hF.out, rfl, hs9.out, rfl, rfl, hb9.out⟩
    · go_wp2_with fail
      refine Cl.way_on (Cl.Keeps.of_below (Ge.below_alloc _ _)) ?_
      have hHn := Hdo.new v0 0 0 0
      have hAl := Ge.below_alloc v0 (.cells #[.int .i64 0, .int .i64 0, .int .i64 0] 25)
      have hge : Hid (w7.heap.size ≤ v0.heap.size) := hbk.out.size
      have hba := Lib.hid (hbk.out.trans (hAl.mono hbk.out.size))
      generalize v0.alloc (.cells #[.int .i64 0, .int .i64 0, .int .i64 0] 25) = va0 at *
      have hH0 := Lib.hid hHn
      clear hHn hAl
      refine Cl.tree_c rfl ?_
      have hpc := lawpts_any (c := c5) (hsS.out.far hba.out) (by rw [hnS.out]; exact hn6)
      rw [hnS.out] at hpc
      replace hpc := Lib.hid hpc
      go_wp2_with (go_at_call 20; (with_reducible refine hpc.out.mono ?_); rintro e v1 ⟨vp, rfl, hop, hbp⟩)
      refine Cl.way_on (Cl.Keeps.of_below hbp) ?_
      obtain ⟨Ap, cp, rfl, hcp, hpx'⟩ := hop.cx
      have hlp : (S.map ptB).length = nS := by rw [List.length_map, hnS.out]
      rw [hlp]
      have hpx := Lib.hid hpx'
      have hb1 := Lib.hid (hba.out.trans (hbp.mono hba.out.size))
      have hH1 := Lib.hid (hH0.out.keep hbp)
      clear hpc hpx' hop hcp hbp hlp
      refine Cl.tree_c rfl ?_
      have hrd := read_any hCS.out (B := B) (P := P) (W := (W' : Int)) (K := (K' : Int)) (ss := S) (c := cp) hpx.out (by rw [List.length_map, hnS.out]; omega) (by rw [List.length_map]) (pts_slc hbS.out) hbS.out
      rw [List.length_map, hnS.out] at hrd
      replace hrd := Lib.hid hrd
      go_wp2_with (go_at_call 19; (with_reducible refine hrd.out.mono ?_); rintro e v2 ⟨k9, l9, q9, nn, dd, er, hRd, A9, c9, rfl, hc9, hs8, hbp⟩)
      refine Cl.way_on (Cl.Keeps.of_below hbp) ?_
      have hsd := Lib.hid hs8
      replace hRd := Lib.hid hRd
      have hb2 := Lib.hid (hb1.out.trans (hbp.mono hb1.out.size))
      have hH2 := Lib.hid (hH1.out.keep hbp)
      clear hrd hs8 hbp
      refine Cl.tree_r rfl ?_
      go_big_quiet_step (fail)
      refine wpQuiet_nil ?_
      refine Cl.tree_r rfl ?_
      go_big_quiet_step (fail)
      refine wpQuiet_nil ?_
      refine Cl.tree_r rfl ?_
      go_big_quiet_step (fail)
      refine wpQuiet_nil ?_
      refine Cl.tree_r rfl ?_
      go_big_quiet_step (fail)
      refine wpQuiet_nil ?_
      refine Cl.tree_r rfl ?_
      go_big_quiet_step (fail)
      refine wpQuiet_nil ?_
      have hF := Lib.hid (hH2.out.set_ (k9 : Int) (l9 : Int) (q9 : Int)).hed
      obtain ⟨h1, h2, h3, h4⟩ := hH2.out.hed
      have hfz := hH2.out.frozen
      have hs9 := Lib.hid (hH2.out.sb3 hsd.out (k9 : Int) (l9 : Int) (q9 : Int))
      have hb9 := Lib.hid (below_set3 hb2.out hge.out (.int .i64 (k9 : Int)) (.int .i64 (l9 : Int)) (.int .i64 (q9 : Int)))
      have hkp := Lib.hid (keeps_set3 (w := v2) hge.out (.int .i64 (k9 : Int)) (.int .i64 (l9 : Int)) (.int .i64 (q9 : Int)))
      refine Cl.tree_c rfl ?_
      go_wp2_with fail
      refine Cl.way_on hkp.out ?_
      clear h1 h2 h3 h4 hfz
      refine Cl.tree_r rfl ?_
      go_big_quiet_step (fail)
      refine wpQuiet_nil ?_
      refine Cl.tree_r rfl ?_
      go_big_quiet_step (fail)
      refine wpQuiet_nil ?_
      refine Cl.tree_r rfl ?_
      go_big_quiet_step (fail)
      refine wpQuiet_nil ?_
      refine Cl.tree_e ?_
      go_wp2_with fail
      go_meet
      exact ⟨k9, l9, q9, nn, dd, er, A9, c9, _, hRd.out, rfl, hF.out, rfl, hs9.out, rfl, rfl, hb9.out⟩
  case rest =>
    obtain ⟨k9, l9, q9, n9, d9, e9, A9, c9, g9, hRd, rfl, hG, rfl, hsb, rfl, rfl, hbc⟩ := hcut
    obtain ⟨rfl, rfl, rfl, rfl, rfl, rfl⟩ := hown.out _ _ _ _ _ _ hRd
    have hbw := hbS0.out.trans (hbc.mono hbS0.out.size)
    have hHc := hHS.out.keep hbc
    have hst := str_run hsb c9
    have hst2 := str_run (H.out.far hbw) c
    obtain ⟨y1, y2, y3, y4⟩ := id hG
    obtain ⟨z1, z2, z3, z4⟩ := id hHc
    have hseq := str_eq (bstr d9) wc
    clear hRd hG hHc hsb hbc
    go_wp2_with fail
    go_ret
    exact ⟨rfl, hbw⟩
end Go.Proofs.Ytmchelbmeajcnaa
