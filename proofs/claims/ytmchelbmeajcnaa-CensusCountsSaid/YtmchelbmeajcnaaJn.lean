/- CensusCounts: one cell more out of its square is one more wrong, in its codeword alone, up to eight. -/
import Derived.Test.YtmchelbmeajcnaaJk
import Derived.Test.YtmchelbmeajcnaaMw
namespace Go.Proofs.Ytmchelbmeajcnaa
open Go.RowKit Go.Gf Go.Fl
set_option linter.unusedVariables false
set_option linter.unusedSimpArgs false
set_option maxRecDepth 20000
attribute [local go_sem ↓] exec_load_tb Cl.quiet_since
attribute [local go_sem] tbAt_ptr tbIn_ptr run_store_cpx

/-- how far a point is moved, toward the middle, in quarters -/
def cD (s : Nat) : Int := if 16 ≤ s / 32 % 32 then -24 else 24
/-- where the points lie, of which those that mv names are moved -/
def cZ (S : List Nat) (mv : Nat → Bool) (j : Nat) : Int × Int := if mv j = true then (ofQ (at_ S j / 32) + cD (at_ S j), ofQ (at_ S j)) else ownZ S j
def cX (S : List Nat) (GX GY : Nat → Nat) (mv : Nat → Bool) (j : Nat) : Nat × Nat := if mv j = true then (GX (at_ S j), GY (at_ S j)) else ptB (at_ S j)
/-- how many of codeword r are moved -/
def cM (W n : Nat) (mv : Nat → Bool) (r : Nat) : Nat := bc (fun t => mv (t * W + r)) n
theorem c_off {S : List Nat} (hS : ∀ y ∈ S, y < 1024) (mv : Nat → Bool) (j : Nat) : offZ S (cZ S mv) j = mv j := by
  cases h : mv j
  · have e : offZ S (cZ S mv) j = offZ S (ownZ S) j := by unfold offZ cZ; rw [if_neg (by rw [h]; decide)]
    rw [e, offZ_own hS]
  · have hs := at_lt' hS j
    have e : cZ S mv j = (ofQ (at_ S j / 32) + cD (at_ S j), ofQ (at_ S j)) := by unfold cZ; rw [if_pos h]
    unfold offZ
    rw [e]
    rw [Bool.or_eq_true]
    right
    rw [decide_eq_true_eq]
    intro h2
    dsimp only at h2
    unfold slcQ levQ ofQ cD at h2
    split at h2 <;> omega
theorem c_cnt {S : List Nat} (hS : ∀ y ∈ S, y < 1024) (mv : Nat → Bool) (W n r : Nat) : cntZ S (cZ S mv) W n r = cM W n mv r := bc_congr fun t _ => c_off hS mv _
theorem bc_putT {f : Nat → Bool} {t0 : Nat} (h0 : f t0 = false) (n : Nat) : bc (fun t => if t = t0 then true else f t) n = bc f n + (if t0 < n then 1 else 0) := by
  induction n with
  | zero => simp [bc]
  | succ n ih =>
    have e1 : bc (fun t => if t = t0 then true else f t) (n + 1) = bc (fun t => if t = t0 then true else f t) n + (if (if n = t0 then true else f n) = true then 1 else 0) := rfl
    have e2 : bc f (n + 1) = bc f n + (if f n = true then 1 else 0) := rfl
    rw [e1, e2, ih]
    by_cases e : n = t0
    · subst e
      have a1 : (if n < n then 1 else 0 : Nat) = 0 := if_neg (by omega)
      have a2 : (if n < n + 1 then 1 else 0 : Nat) = 1 := if_pos (by omega)
      rw [a1, a2, h0]; simp
    · have a : (if n = t0 then true else f n) = f n := if_neg e
      have a2 : (if t0 < n + 1 then 1 else 0 : Nat) = if t0 < n then 1 else 0 := by
        by_cases h : t0 < n
        · rw [if_pos h, if_pos (by omega)]
        · rw [if_neg h, if_neg (by omega)]
      rw [a, a2]; omega
/-- one more is moved -/
theorem cM_put {W n k : Nat} {mv : Nat → Bool} (hk : k < W * n) (hW : 0 < W) (h0 : mv k = false) {r : Nat} (hr : r < W) : cM W n (fun j => if j = k then true else mv j) r = if r = k % W then cM W n mv r + 1 else cM W n mv r := by
  unfold cM
  by_cases e : r = k % W
  · rw [if_pos e]
    have hq : k / W * W + r = k := by rw [e, Nat.mul_comm]; exact Nat.div_add_mod k W
    rw [bc_congr (b' := fun t => if t = k / W then true else mv (t * W + r)) fun t _ => ?_, bc_putT (by rw [hq]; exact h0), if_pos (Nat.div_lt_of_lt_mul hk)]
    by_cases et : t = k / W
    · rw [if_pos et, et, hq]
      exact if_pos rfl
    · rw [if_neg et]
      have : t * W + r ≠ k := fun h => et ((divmod_eq hr).1 h).2
      exact if_neg this
  · rw [if_neg e]
    refine bc_congr fun t _ => ?_
    have : t * W + r ≠ k := fun h => e ((divmod_eq hr).1 h).1
    exact if_neg this
theorem q_six : Qt 4618441417868443648 24 := by
  have := Qt.whole (x := 4618441417868443648) (n := 6) ⟨false, 6755399441055744, -50, by decide +kernel, by decide +kernel⟩
  exact this
theorem q_msix : Qt 13841813454723219456 (-24) := by
  have := Qt.whole (x := 13841813454723219456) (n := -6) ⟨true, 6755399441055744, -50, by decide +kernel, by decide +kernel⟩
  exact this
theorem infoB : (Try.prog.info? 4).map (fun i => (i.zero, i.size, i.bytes)) = some (some (.bool false), 1, 1) := by kernel_rfl
/-- a row of noes -/
theorem noes_new (w : World) (n : Nat) : PreV (w.alloc (.cells (madeCells #[.bool false] n) 4)) 4 w.heap.size n (fun _ => .bool false) := by
  refine ⟨madeCells #[.bool false] n, heap_alloc_new w _, fun i hi => ?_⟩
  unfold madeCells
  simp [hi, Nat.mod_one]
set_option maxHeartbeats 64000000 in
theorem counts_law (B P W K : Int) (wB : (Lit.int .i64 B).wf = true) (wP : (Lit.int .i64 P).wf = true) (wW : (Lit.int .i64 W).wf = true) (wK : (Lit.int .i64 K).wf = true)
    (A : Option Addr) (d : List Nat) (c : Nat) (hl : d.length ≤ c) (hc : c ≤ maxLen) (w : World) (hs : Sl w w.heap.size A d) :
    Calls Try.prog 12 #[.agg #[.int .i64 B, .int .i64 P, .int .i64 W, .int .i64 K], .slice A d.length c] w fun e w' => e = .returned (.bool true) ∧ Below w.heap.size w w' := by
  have H := Lib.hid hs
  have hz := zero27
  have hdm : d.length ≤ 9223372036854775807 := by unfold maxLen at hc; omega
  clear hc hs
  obtain ⟨wb, hwb⟩ : ∃ wb, wb = w.alloc (.cells #[.int .i64 B, .int .i64 P, .int .i64 W, .int .i64 K] 23) := ⟨_, rfl⟩
  have hbb : Below w.heap.size w wb := by rw [hwb]; exact Ge.below_alloc w _
  have hX : Ge.Box wb w.heap.size B P W K := by rw [hwb]; exact Ge.Box.new w B P W K
  go_enter Try.func12, Try.ntmps12
  go_wp2_with fail
  rw [← hwb]
  clear hwb
  refine (cawake_any wb).mono ?_
  rintro e w1 ⟨rfl, hb1⟩
  have hX1 := hX.keep hb1
  have hbw1 := hbb.trans (hb1.mono hbb.size)
  clear hX hbb hb1
  obtain ⟨x1, x2, x3, x4, x5⟩ := id hX1
  have hsm := small_any B P W K w1
  have hmg : Hid (∀ w', Calls Try.prog 21 #[.agg #[.int .i64 B, .int .i64 P, .int .i64 W, .int .i64 K]] w' (Ge.Ans w' (.bool (Ge.mayG B P W K)))) := fun w' => Ge.refmay_any B P W K w'
  cases hSM : smB B P W K
  · rw [hSM] at hsm
    replace hsm := Lib.hid hsm
    go_wp2_with (go_at_call 14; (with_reducible refine hsm.out.mono ?_); rintro e w2 ⟨rfl, hb2⟩; have hbw2 := hbw1.trans (hb2.mono hbw1.size); have hX2 := hX1.keep hb2; obtain ⟨y1, y2, y3, y4, y5⟩ := id hX2; have hgm := Lib.hid (hmg.out w2))
    go_ret
    exact ⟨rfl, hbw2⟩
  rw [hSM] at hsm
  replace hsm := Lib.hid hsm
  cases hM : Ge.mayG B P W K
  · rw [hM] at hmg
    go_wp2_with (first | (go_at_call 14; (with_reducible refine hsm.out.mono ?_); rintro e w2 ⟨rfl, hb2⟩; have hbw2 := hbw1.trans (hb2.mono hbw1.size); have hX2 := hX1.keep hb2; obtain ⟨y1, y2, y3, y4, y5⟩ := id hX2; have hgm := Lib.hid (hmg.out w2)) | (go_at_call 21; (with_reducible refine hgm.out.mono ?_); rintro e w3 ⟨rfl, hb3⟩; have hbw3 := hbw2.trans (hb3.mono hbw2.size); have hX3 := hX2.keep hb3; obtain ⟨m1, m2, m3, m4, m5⟩ := id hX3))
    go_ret
    exact ⟨rfl, hbw3⟩
  rw [hM] at hmg
  by_cases hd1 : d.length ≤ 100
  rotate_left
  · have hdd : decide ((100 : Int) < (d.length : Int)) = true := decide_eq_true (by omega)
    go_wp2_with (first | (go_at_call 14; (with_reducible refine hsm.out.mono ?_); rintro e w2 ⟨rfl, hb2⟩; have hbw2 := hbw1.trans (hb2.mono hbw1.size); have hX2 := hX1.keep hb2; obtain ⟨y1, y2, y3, y4, y5⟩ := id hX2; have hgm := Lib.hid (hmg.out w2)) | (go_at_call 21; (with_reducible refine hgm.out.mono ?_); rintro e w3 ⟨rfl, hb3⟩; have hbw3 := hbw2.trans (hb3.mono hbw2.size); have hX3 := hX2.keep hb3; obtain ⟨m1, m2, m3, m4, m5⟩ := id hX3))
    go_ret
    exact ⟨rfl, hbw3⟩
  have hdd : decide ((100 : Int) < (d.length : Int)) = false := decide_eq_false (by omega)
  obtain ⟨W', K', N, rfl, rfl, hN, hW1, hW4, hK1, hK64, h8, h256, hsg, hcg⟩ := mayG_of hM
  obtain ⟨n, hn⟩ : ∃ n, 10 * (N - 8) / 8 = n := ⟨_, rfl⟩
  have hn0 : n ≤ 1000 := by omega
  go_wp2_with (first
    | (go_at_call 14; (with_reducible refine hsm.out.mono ?_); rintro e w2 ⟨rfl, hb2⟩; have hbw2 := hbw1.trans (hb2.mono hbw1.size); have hX2 := hX1.keep hb2; obtain ⟨y1, y2, y3, y4, y5⟩ := id hX2; have hgm := Lib.hid (hmg.out w2))
    | (go_at_call 21; (with_reducible refine hgm.out.mono ?_); rintro e w3 ⟨rfl, hb3⟩; have hbw3 := hbw2.trans (hb3.mono hbw2.size); have hX3 := hX2.keep hb3; obtain ⟨m1, m2, m3, m4, m5⟩ := id hX3))
  have hX3' := Lib.hid hX3
  have hbw3' := Lib.hid hbw3
  clear hX1 hbw1 hX2 hbw2 hX3 hbw3 x1 x2 x3 x4 x5 y1 y2 y3 y4 y5 m1 m2 m3 m4 m5 hb2 hb3 hgm hsm hmg hdd
  have hB : mkB 1 0 9 = true := by decide
  have hE := mkE_ok (n := n) hM hB (by rw [hsg, hn])
  have hDb : ∀ x ∈ List.replicate n 0, x < 256 := fun x hx => by rw [(List.mem_replicate.1 hx).2]; decide
  obtain ⟨S, hS⟩ : ∃ S, mkW B P (W' : Int) (K' : Int) 1 0 9 (List.replicate n 0) = S := ⟨_, rfl⟩
  obtain ⟨k1, l1, q1, e1, e2, e3, hsv, hSe⟩ := mk_okN hN hDb (by rw [List.length_replicate]; exact hE)
  rw [hS] at hSe
  obtain rfl : k1 = 1 := by omega
  obtain rfl : l1 = 0 := by omega
  obtain rfl : q1 = 9 := by omega
  clear e1 e2 e3 hB
  have hL1 : (sayL N 1 0 9 (List.replicate n 0)).length = W' * K' := by rw [say_len (N := N) hsv.2.2.2.2.1 (by omega), hN]
  have hLb : ∀ y ∈ sayL N 1 0 9 (List.replicate n 0), y < 1024 := say_bd hsv.2.1 hsv.2.2.1 hsv.2.2.2.1
  have hSb : ∀ y ∈ S, y < 1024 := by rw [hSe]; exact pageL_bd hL1 hW1 hLb
  obtain ⟨L, hLe⟩ : ∃ L, W' * (K' + 16) = L := ⟨_, rfl⟩
  have hlen : S.length = L := by rw [hSe, ← hLe]; exact pageL_len hL1 hW1
  have hL4 : L ≤ 320 := by rw [← hLe]; exact Nat.mul_le_mul hW4 (show K' + 16 ≤ 80 by omega)
  have hL17 : 17 ≤ L := by rw [← hLe]; exact Nat.mul_le_mul hW1 (show 17 ≤ K' + 16 by omega)
  have hne : S ≠ [] := by intro e; rw [e] at hlen; simp at hlen; omega
  obtain ⟨s0, hs0⟩ : ∃ s0, sayL N 1 0 9 (List.replicate n 0) = s0 := ⟨_, rfl⟩
  rw [hs0] at hSe hL1 hLb
  obtain ⟨nw, hnw⟩ : ∃ nw, K' + 16 = nw := ⟨_, rfl⟩
  have HOF : Hid (∀ (mv : Nat → Bool), (∀ r, r < W' → cM W' nw mv r ≤ 8) → ∀ (cs : List Nat) (hcs : Tab cs) (A : Option Addr) (c : Nat) (xs : List (Nat × Nat)) (w : World), xs.length = L → Quart xs 2000 (cZ S mv) → Cx w w.heap.size A xs → Hid (Calls Try.prog 28 #[.agg (cells cs), .agg #[.int .i64 B, .int .i64 P, .int .i64 (W' : Int), .int .i64 (K' : Int)], .slice A L c] w
      fun e w' => ∃ g f, e = .returned (.tuple #[.slice (some ⟨g, 0, none⟩) W' W', .int .i64 0]) ∧ w.heap.size ≤ g ∧ RowsR w' g W' f (cM W' nw mv) (fun _ => true) W' ∧ Below w.heap.size w w')) := fun mv h8 cs hcs A c xs w hx hq hs => by
    have h := of_Z (S := s0) (n := L) (c := c) (Z := cZ S mv) hcs hM ⟨hW1, hW4⟩ ⟨hK1, hK64⟩ hL1 hLb hLe.symm hx hq hs (fun j hj => by rw [← hSe, c_cnt hSb, hnw]; exact h8 j hj)
    refine h.mono ?_
    rintro e w' ⟨g, f, he, hg, hR, hb'⟩
    refine ⟨g, f, he, hg, ⟨hR.pre, fun j hj => ?_⟩, hb'⟩
    obtain ⟨h1, h2⟩ := hR.each j hj
    rw [← hSe, c_cnt hSb, hnw] at h1
    exact ⟨h1, h2⟩
  have hLW : L = W' * nw := by rw [← hLe, hnw]
  have hmkn : ∀ w' : World, (Instr.makeSlice 26 (.int .i64 (n : Int)) (.int .i64 (n : Int))).run Try.prog w' = .ok (.slice (some ⟨w'.heap.size, 0, none⟩) n n) (w'.alloc (.cells (madeCells #[.int .u8 0] n) 5)) :=
    run_make_row' (P := Try.prog) 26 5 (.int .u8 0) 1 Try.underlying26 info5 rfl .i64 .i64 n (by omega) (by omega)
  replace hLW := Lib.hid hLW
  replace hSb := Lib.hid hSb
  replace hlen := Lib.hid hlen
  clear hSe hL1 hLb hsv hLe hs0
  refine Cl.region_way (fun _ => True) 11 [(0, .r), (1, .r), (2, .r), (3, .c), (4, .c), (5, .c), (6, .r), (7, .r), (8, .r), (9, .r), (10, .r)] (by kernel_rfl) (by kernel_rfl) ?_
  intro v0 hk0
  have hbk := Cl.Keeps.below hk0
  have hX0 := Lib.hid (hX3'.out.keep hbk)
  have hb0 := Lib.hid (hbw3'.out.trans (hbk.mono hbw3'.out.size))
  have x0 : ∀ y : Cl.Since (fun _ => True) v0, y.w.cell? ⟨w.heap.size, 0, none⟩ = some (.int .i64 B) := fun y => (hX0.out.keep (Cl.Keeps.below y.keeps)).c0
  have x1 : ∀ y : Cl.Since (fun _ => True) v0, y.w.cell? ⟨w.heap.size, 1, none⟩ = some (.int .i64 P) := fun y => (hX0.out.keep (Cl.Keeps.below y.keeps)).c1
  have x2 : ∀ y : Cl.Since (fun _ => True) v0, y.w.cell? ⟨w.heap.size, 2, none⟩ = some (.int .i64 (W' : Int)) := fun y => (hX0.out.keep (Cl.Keeps.below y.keeps)).c2
  have x3 : ∀ y : Cl.Since (fun _ => True) v0, y.w.cell? ⟨w.heap.size, 3, none⟩ = some (.int .i64 (K' : Int)) := fun y => (hX0.out.keep (Cl.Keeps.below y.keeps)).c3
  iterate 3 (refine Cl.way_r rfl ?_; go_big_quiet_step (fail); refine wpQuiet_nil ?_)
  have hsz := Ge.refsize_any B P (W' : Int) (K' : Int) v0
  rw [hsg, hn] at hsz
  replace hsz := Lib.hid hsz
  clear x0 x1 x2 x3 hk0 hbk hX3' hbw3'
  refine Cl.way_c rfl ?_
  go_wp2_with (go_at_call 22; (with_reducible refine hsz.out.mono ?_); rintro e v1 ⟨rfl, hb1⟩)
  refine Cl.way_on (Cl.Keeps.of_below hb1) ?_
  have hX1 := Lib.hid (hX0.out.keep hb1)
  have hbw1 := Lib.hid (hb0.out.trans (hb1.mono hb0.out.size))
  clear hX0 hb0 hb1 hsz
  refine Cl.way_c rfl ?_
  go_wp2_with fail
  refine Cl.way_on (Cl.Keeps.of_below (Ge.below_alloc _ _)) ?_
  have hA2 := ab_new v1 n
  have hO := Ge.below_alloc v1 (.cells (madeCells #[.int .u8 0] n) 5)
  have hX2 := Lib.hid (hX1.out.keep hO)
  have hbw2 := Lib.hid (hbw1.out.trans (hO.mono hbw1.out.size))
  generalize v1.alloc (.cells (madeCells #[.int .u8 0] n) 5) = v2 at *
  have hmk := make_rf (B := B) (P := P) (W := (W' : Int)) (K := (K' : Int)) (k := 1) (l := 0) (q := 9) (c := n) (hA2.sb hDb) (by rw [List.length_replicate]; omega)
  rw [List.length_replicate, hE, hS] at hmk
  replace hmk := Lib.hid hmk
  clear hX1 hbw1 hO hA2 hmkn hE hS hDb
  refine Cl.way_c rfl ?_
  go_wp2_with (go_at_call 17; (with_reducible refine hmk.out.mono ?_); rintro e w6 ⟨v6, rfl, ho6, hb6⟩)
  refine Cl.way_on (Cl.Keeps.of_below hb6) ?_
  iterate 5 (refine Cl.way_r rfl ?_; go_big_quiet_step (fail); refine wpQuiet_nil ?_)
  refine Cl.way_end ?_
  have hX6 := Lib.hid (hX2.out.keep hb6)
  have hbw6 := Lib.hid (hbw2.out.trans (hb6.mono hbw2.out.size))
  obtain ⟨A6, c6, rfl, hs6⟩ := ho6.len
  have hpt := Lib.hid (lawpts_any (c := c6) hs6 (by rw [hlen.out]; omega))
  clear hX2 hbw2 hb6 ho6 hs6 hmk
  go_wp2_with (go_at_call 20; (with_reducible refine hpt.out.mono ?_); rintro e w7 ⟨v7, rfl, ho7, hb7⟩; obtain ⟨gp, c7, rfl, hc7, hgp, hp7⟩ := ho7.pre (by intro e; exact hne (List.map_eq_nil_iff.1 e)); rw [List.length_map, hlen.out] at hp7 ⊢)
  refine (make_any _).mono ?_
  rintro e wc ⟨cs, rfl, hlc, hbc⟩
  have hbwc := hbw6.out.trans ((hb7.trans (hbc.mono hb7.size)).mono hbw6.out.size)
  go_upto_region 10 with (refine wpList_store_row rfl 33 _ _ rfl wc.heap.size (cells cs) rfl rfl 33 (cells ZT) (heap_alloc_new wc _) (rsize hlc) (zsize hlc) (cells_one cs) ?_)
  have hSt := St.start (cs := cs) hbwc (cells ZT)
  have hb9 : Below wc.heap.size wc ((wc.alloc (Obj.cells (cells ZT) 33)).setRow wc.heap.size (cells cs)) := below_setRow ((Below.refl _ _).alloc (Nat.le_refl _) _) (Nat.le_refl _) _
  have hbr9 := hbc.trans (hb9.mono hbc.size)
  have hgpc : gp < wc.heap.size := Nat.lt_of_lt_of_le hp7.lt hbc.size
  generalize wc.heap.size = g1 at *
  generalize (wc.alloc (Obj.cells (cells ZT) 33)).setRow g1 (cells cs) = w9 at *
  have hT9 := hSt.tb
  have h69 := hb7.trans (hbr9.mono hb7.size)
  have hX9 := hX6.out.keep h69
  have hp9 := hp7.below hbr9
  have hC := Lib.hid hlc.tab
  have hcs := Lib.hid hlc.1
  obtain ⟨x1, x2, x3, x4, x5⟩ := id hX9
  have hmi : ∀ w' : World, (Instr.makeSlice 48 (.int .i64 (W' : Int)) (.int .i64 (W' : Int))).run Try.prog w' = .ok (.slice (some ⟨w'.heap.size, 0, none⟩) W' W') (w'.alloc (.cells (madeCells #[.int .i64 0] W') 3)) :=
    run_make_row' (P := Try.prog) 48 3 (.int .i64 0) 8 Try.underlying48 infoI rfl .i64 .i64 W' (by omega) (by omega)
  have hmb : ∀ w' : World, (Instr.makeSlice 71 (.int .i64 (L : Int)) (.int .i64 (L : Int))).run Try.prog w' = .ok (.slice (some ⟨w'.heap.size, 0, none⟩) L L) (w'.alloc (.cells (madeCells #[.bool false] L) 4)) :=
    run_make_row' (P := Try.prog) 71 4 (.bool false) 1 Try.underlying71 infoB rfl .i64 .i64 L (by omega) (by omega)
  replace hgp := Lib.hid hgp
  clear hSt hb9 hbwc hbc hbr9 hlc hz hpt hb7 ho7 hc7 hp7 hne
  go_upto_region 11 with fail
  have hmn := nums_new w9 W'
  have hOm := Ge.below_alloc w9 (.cells (madeCells #[.int .i64 0] W') 3)
  have hTm := hT9.keep hOm
  have h6m := h69.trans (hOm.mono h69.size)
  have hpm := hp9.below hOm
  have hg1m : g1 < w9.heap.size := hT9.lt
  generalize w9.alloc (.cells (madeCells #[.int .i64 0] W') 3) = wm at *
  generalize w9.heap.size = gm at *
  clear hX9 hT9 h69 hp9 hOm x1 x2 x3 x4 x5 hmi
  go_upto_region 12 with fail
  have hnn := noes_new wm L
  have hOn := Ge.below_alloc wm (.cells (madeCells #[.bool false] L) 4)
  have hTn := hTm.keep hOn
  have h6n := h6m.trans (hOn.mono h6m.size)
  have hpn := hpm.below hOn
  have hmn' := hmn.below hOn
  have hgmn : gm < wm.heap.size := hmn.lt
  generalize wm.alloc (.cells (madeCells #[.bool false] L) 4) = wn at *
  generalize wm.heap.size = gn at *
  clear hTm h6m hpm hOn hmn hmb
  obtain ⟨GX, hGX⟩ := Classical.axiomOfChoice fun s : Nat => (show ∃ r, floatBits .add .f64 (Go.Proofs.Ytmchelbmeajcnaa.L ((s : Int) / 32)) (if 16 ≤ s / 32 % 32 then 13841813454723219456 else 4618441417868443648) = some r ∧ Qt r (ofQ (s / 32) + cD s) by
    have hb := ofQ_bd (s / 32)
    unfold cD
    split
    · exact qt_add (qt_of s).1 q_msix (by omega)
    · exact qt_add (qt_of s).1 q_six (by omega))
  obtain ⟨GY, hGY⟩ := Classical.axiomOfChoice fun s : Nat => qt_add (qt_of s).2 qt_zero (by have := ofQ_bd s; omega)
  have hGR : ∀ s : Nat, (FloatKind.f64.format.order (Go.Proofs.Ytmchelbmeajcnaa.L ((s : Int) / 32)) 0 == some .gt) = decide (16 ≤ s / 32 % 32) := fun s => by
    have h1 := (qt_of s).1
    by_cases h : 16 ≤ s / 32 % 32
    · rw [qt_ordgt h1 qt_zero (by unfold ofQ; omega), decide_eq_true h]; rfl
    · rw [qt_ordlt h1 qt_zero (by unfold ofQ; omega), decide_eq_false h]; rfl
  have hpn' := hpn.congr (f' := fun j => cpx (cX S GX GY (fun _ => false) j)) (fun j hj => by rw [pts_at (by rw [hlen.out]; exact hj)]; rfl)
  have hcm0 : ∀ r, cM W' nw (fun _ => false) r = 0 := fun r => bc_zero fun _ _ => rfl
  have hmn2 := hmn'.congr (f' := fun r => .int .i64 ((cM W' nw (fun _ => false) r : Nat) : Int)) (fun r _ => by rw [hcm0]; rfl)
  replace hGX := Lib.hid hGX
  replace hGY := Lib.hid hGY
  replace hGR := Lib.hid hGR
  have HC := Lib.hid H.out
  obtain ⟨nc, hnc⟩ : ∃ nc, d.length = nc := ⟨_, rfl⟩
  have hNC := Lib.hid hnc
  rw [hnc] at hd1 hdm ⊢
  clear hpn hmn' hnc hl
  go_wp2_with fail
  go_loopw [11] (fun p wr => ∃ (i : Nat) (mv : Nat → Bool), i ≤ nc ∧ p = .int .i64 i ∧ PreV wr 49 gp L (fun j => cpx (cX S GX GY mv j)) ∧ PreV wr 3 gm W' (fun r => .int .i64 ((cM W' nw mv r : Nat) : Int)) ∧ PreV wr 4 gn L (fun j => .bool (mv j)) ∧ (∀ r, r < W' → cM W' nw mv r ≤ 8) ∧ Tb wr g1 cs ∧ Below w6.heap.size w6 wr) (fun p _ => nc - (intOf p).toNat)
  case atStart => exact ⟨0, fun _ => false, Nat.zero_le _, rfl, hpn', hmn2, hnn, fun r _ => by rw [hcm0]; omega, hTn, h6n⟩
  case round =>
    clear hpn' hmn2 hnn hTn h6n hcm0
    obtain ⟨i, mv, hi, rfl, hP, hQ, hV, h8c, hT, hB⟩ := hrel
    by_cases hlt : i < nc
    · have hiI : (i : Int) < (nc : Int) := by omega
      have hdi : decide (i < nc) = true := decide_eq_true hlt
      have hbr := hbw6.out.trans (hB.mono hbw6.out.size)
      obtain ⟨a, rfl, hab, hca⟩ := (HC.out.far hbr).at_ (i := i) (by rw [hNC.out]; exact hlt)
      rw [← at_get (by rw [hNC.out]; exact hlt)] at hca
      obtain ⟨x, hx⟩ : ∃ x, at_ d i = x := ⟨_, rfl⟩
      rw [hx] at hca
      have hxb : x < 65536 := by rw [← hx]; exact at_lt HC.out.1 (by decide)
      obtain ⟨k, hk⟩ : ∃ k, x % L = k := ⟨_, rfl⟩
      have hkL : k < L := by rw [← hk]; exact Nat.mod_lt _ (by omega)
      have hkI : (x : Int) % (L : Int) = (k : Int) := by rw [← hk]; exact (Int.natCast_emod _ _).symm
      have hkt : (x : Int).tmod (L : Int) = (k : Int) := by rw [Int.tmod_eq_emod_of_nonneg (by omega)]; exact hkI
      obtain ⟨r, hr⟩ : ∃ r, k % W' = r := ⟨_, rfl⟩
      have hrW : r < W' := by rw [← hr]; exact Nat.mod_lt _ (by omega)
      have hrI : (k : Int) % (W' : Int) = (r : Int) := by rw [← hr]; exact (Int.natCast_emod _ _).symm
      have hrt : (k : Int).tmod (W' : Int) = (r : Int) := by rw [Int.tmod_eq_emod_of_nonneg (by omega)]; exact hrI
      have hkLI : (k : Int) < (L : Int) := by omega
      have hrWI : (r : Int) < (W' : Int) := by omega
      have hL0 : ((L : Int) == 0) = false := by simp; omega
      have hW0 : ((W' : Int) == 0) = false := by simp; omega
      have hXr := hX6.out.keep hB
      obtain ⟨x1, x2, x3, x4, x5⟩ := id hXr
      have v0 := hV.cell hkL
      have q0 := hQ.cell hrW
      have hck := h8c r hrW
      obtain ⟨C, hCe⟩ : ∃ C, cM W' nw mv r = C := ⟨_, rfl⟩
      rw [hCe] at q0 hck
      replace hr := Lib.hid hr
      clear hk hx
      cases hmv : mv k
      · rw [hmv] at v0
        by_cases hC8 : 8 ≤ C
        · have hge : decide ((8 : Int) ≤ (C : Int)) = true := decide_eq_true (by omega)
          go_wp2_with fail
          exact ⟨⟨i + 1, mv, by omega, by go_num, hP, hQ, hV, h8c, hT, hB⟩, by simp [intOf]; omega⟩
        · have hge : decide ((8 : Int) ≤ (C : Int)) = false := decide_eq_false (by omega)
          have vf := hV.frozen k
          have hg6 := hgp.out
          go_upto_region 18 with fail
          have hVA := hV.set_ k (.bool true)
          have hQA := hQ.other (g' := gn) (i := k) (.bool true) (by omega)
          have hPA := hP.other (g' := gn) (i := k) (.bool true) (by omega)
          have hTA := hT.other ⟨gn, k, none⟩ (.bool true) (by show g1 ≠ gn; omega)
          have hBA := hB.setCell (show w6.heap.size ≤ gn by omega) (p := ⟨gn, k, none⟩) (.bool true)
          generalize wr.setCell ⟨gn, k, none⟩ (.bool true) = wA at *
          have hXA := hX6.out.keep hBA
          clear hV hQ hP hT hB hXr x1 x2 x3 x4 x5 v0 q0 vf hbr hca hab
          have qA := hQA.cell hrW
          rw [hCe] at qA
          have qf := hQA.frozen r
          obtain ⟨y1, y2, y3, y4, y5⟩ := id hXA
          go_upto_region 19 with fail
          have hQB := hQA.set_ r (.int .i64 ((C : Int) + 1))
          have hVB := hVA.other (g' := gm) (i := r) (.int .i64 ((C : Int) + 1)) (by omega)
          have hPB := hPA.other (g' := gm) (i := r) (.int .i64 ((C : Int) + 1)) (by omega)
          have hTB := hTA.other ⟨gm, r, none⟩ (.int .i64 ((C : Int) + 1)) (by show g1 ≠ gm; omega)
          have hBB := hBA.setCell (show w6.heap.size ≤ gm by omega) (p := ⟨gm, r, none⟩) (.int .i64 ((C : Int) + 1))
          generalize wA.setCell ⟨gm, r, none⟩ (.int .i64 ((C : Int) + 1)) = wB at *
          clear hVA hQA hPA hTA hBA hXA y1 y2 y3 y4 y5 qA qf
          have p0 := hPB.cell hkL
          have pf := hPB.frozen k
          have hkn : k < W' * nw := by rw [← hLW.out]; exact hkL
          obtain ⟨m', hm'⟩ : ∃ m' : Nat → Bool, m' = fun j => if j = k then true else mv j := ⟨_, rfl⟩
          have hmj : ∀ j, m' j = if j = k then true else mv j := fun j => by rw [hm']
          have hcm : ∀ t, t < W' → cM W' nw m' t = if t = r then C + 1 else cM W' nw mv t := fun t ht => by
            rw [hm', cM_put hkn hW1 hmv ht, hr.out]
            by_cases e : t = r
            · rw [if_pos e, if_pos e, e, hCe]
            · rw [if_neg e, if_neg e]
          have h8n : ∀ t, t < W' → cM W' nw m' t ≤ 8 := fun t ht => by
            rw [hcm t ht]
            split
            · omega
            · exact h8c t ht
          have hQC0 := hQB.congr (f' := fun t => .int .i64 ((cM W' nw m' t : Nat) : Int)) (fun t ht => by
            show (if t = r then Value.int .i64 ((C : Int) + 1) else .int .i64 ((cM W' nw mv t : Nat) : Int)) = _
            rw [hcm t ht]
            by_cases e : t = r
            · rw [if_pos e, if_pos e]; rfl
            · rw [if_neg e, if_neg e])
          have hVC0 := hVB.congr (f' := fun j => .bool (m' j)) (fun j _ => by
            show (if j = k then Value.bool true else .bool (mv j)) = Value.bool (m' j)
            rw [hmj]
            by_cases e : j = k
            · rw [if_pos e, if_pos e]
            · rw [if_neg e, if_neg e])
          have hpk : cX S GX GY mv k = ptB (at_ S k) := by unfold cX; rw [if_neg (by rw [hmv]; decide)]
          have hset : ∀ j, (if j = k then cpx (GX (at_ S k), GY (at_ S k)) else cpx (cX S GX GY mv j)) = cpx (cX S GX GY m' j) := fun j => by
            unfold cX
            rw [hmj]
            by_cases e : j = k
            · rw [if_pos e, if_pos e, if_pos rfl, e]
            · rw [if_neg e, if_neg e]
          have hq : Quart ((List.range L).map (cX S GX GY m')) 2000 (cZ S m') := fun j hj => by
            have hj' : j < L := by simpa using hj
            rw [range_at hj']
            have b1 := ofQ_bd (at_ S j / 32)
            have b2 := ofQ_bd (at_ S j)
            unfold cX cZ
            by_cases h : m' j = true
            · rw [if_pos h, if_pos h]
              have g1' := (hGX.out (at_ S j)).2
              have g2' := (hGY.out (at_ S j)).2
              rw [Int.add_zero] at g2'
              refine ⟨g1', g2', ?_, ?_⟩
              · dsimp only
                unfold cD
                split <;> omega
              · dsimp only
                omega
            · rw [if_neg h, if_neg h]
              refine ⟨(qt_of _).1, (qt_of _).2, ?_, ?_⟩ <;> dsimp only [ownZ] <;> omega
          have hxl : ((List.range L).map (cX S GX GY m')).length = L := by simp
          rw [hpk] at p0
          change wB.cell? ⟨gp, k, none⟩ = some (.complex .f64 (Go.Proofs.Ytmchelbmeajcnaa.L (((at_ S k : Nat) : Int) / 32)) (Go.Proofs.Ytmchelbmeajcnaa.L ((at_ S k : Nat) : Int))) at p0
          have hgx := (hGX.out (at_ S k)).1
          have hgy := (hGY.out (at_ S k)).1
          have hgr := hGR.out (at_ S k)
          generalize at_ S k = s at *
          replace hset := Lib.hid hset
          replace hq := Lib.hid hq
          replace hxl := Lib.hid hxl
          replace h8n := Lib.hid h8n
          clear hQB hVB hpk hcm h8c hCe hck hm' hmj
          by_cases hsg2 : 16 ≤ s / 32 % 32
          · rw [if_pos hsg2] at hgx
            rw [decide_eq_true hsg2] at hgr
            have hsum : cSumBits .add .f64 (Go.Proofs.Ytmchelbmeajcnaa.L ((s : Int) / 32)) (Go.Proofs.Ytmchelbmeajcnaa.L (s : Int)) 13841813454723219456 0 = some (GX s, GY s) := by unfold cSumBits; rw [hgx, hgy]; rfl
            have hop := fun (w : World) t => run_complex_sum (P := Try.prog) w .add (Or.inl rfl) t .f64 _ _ _ _ _ _ hsum
            clear hgx hgy hsum hsg2
            go_upto_region 23 with (simp only [hop])
            have hPC := (hPB.set_ k (.complex .f64 (GX s) (GY s))).congr (f' := fun j => cpx (cX S GX GY m' j)) (fun j _ => hset.out j)
            have hQC := hQC0.other (g' := gp) (i := k) (.complex .f64 (GX s) (GY s)) (by omega)
            have hVC := hVC0.other (g' := gp) (i := k) (.complex .f64 (GX s) (GY s)) (by omega)
            have hTC := hTB.other ⟨gp, k, none⟩ (.complex .f64 (GX s) (GY s)) (by show g1 ≠ gp; omega)
            have hBC := hBB.setCell (show w6.heap.size ≤ gp by omega) (p := ⟨gp, k, none⟩) (.complex .f64 (GX s) (GY s))
            generalize wB.setCell ⟨gp, k, none⟩ (.complex .f64 (GX s) (GY s)) = wC at *
            have hXC := hX6.out.keep hBC
            have hcx := Lib.hid (PreV.cx hPC)
            clear hPB hQC0 hVC0 hTB hBB p0 pf hop hgr
            have hof := HOF.out m' h8n.out cs hC.out (some ⟨gp, 0, none⟩) c7 _ wC hxl.out hq.out hcx.out
            have hi1 := hTC.is hcs.out
            have hi2 := hTC.of
            obtain ⟨z1, z2, z3, z4, z5⟩ := id hXC
            go_wp2_with (go_at_call 28; (with_reducible refine hof.out.mono ?_); rintro e wD ⟨gr, fr, rfl, hgr', hRr, hbD⟩; have hXD := hXC.keep hbD; obtain ⟨o1, o2, o3, o4, o5⟩ := id hXD)
            have hPD := hPC.below hbD
            have hQD := hQC.below hbD
            have hVD := hVC.below hbD
            have hTD := hTC.keep hbD
            have hBD := hBC.trans (hbD.mono hBC.size)
            clear hPC hQC hVC hTC hBC hbD hcx hof hi1 hi2 z1 z2 z3 z4 z5 o1 o2 o3 o4 o5 hXC hset hq hxl hgr'
            go_loopw [16] (fun q wq => ∃ j : Nat, j ≤ W' ∧ q = .int .i64 j ∧ Below wD.heap.size wD wq) (fun q _ => W' - (intOf q).toNat)
            case atStart => exact ⟨0, Nat.zero_le _, rfl, Below.refl _ _⟩
            case round =>
              obtain ⟨j, hj, rfl, hBq⟩ := hrel
              have hXq := hXD.keep hBq
              obtain ⟨o1, o2, o3, o4, o5⟩ := id hXq
              by_cases hjt : j < W'
              · have hjI : (j : Int) < (W' : Int) := by omega
                have hdj : decide (j < W') = true := decide_eq_true hjt
                have hRq := hRr.keep hBq
                have k0 := hRq.c0 hjt
                have k1 := hRq.c1 hjt
                have k2 : wr.cell? ⟨gm, j, none⟩ = some (.int .i64 ((cM W' nw m' j : Nat) : Int)) := (hQD.below hBq).cell hjt
                generalize cM W' nw m' j = Cj at *
                have hBd : ∀ k, Below wD.heap.size wD (wr.drewN k) := fun k => below_drewN hBq k
                replace hBd := Lib.hid hBd
                clear hBq hRq
                go_wp2_with fail
                go_quiet (fail)
                go_wp2_with fail
                go_roundw
                case rel => exact ⟨j + 1, by omega, by go_num, by first | exact hBd.out _ | exact hBd.out 0⟩
                case measure => simp [intOf]; omega
              · obtain rfl : j = W' := by omega
                have hdj : decide (j < j) = false := decide_eq_false (Nat.lt_irrefl _)
                go_wp2_with fail
                exact ⟨⟨i + 1, m', by omega, by go_num, hPD.below hBq, hQD.below hBq, hVD.below hBq, h8n.out, hTD.keep hBq, hBD.trans (hBq.mono hBD.size)⟩, by simp [intOf]; omega⟩
          · rw [if_neg hsg2] at hgx
            rw [decide_eq_false hsg2] at hgr
            have hsum : cSumBits .add .f64 (Go.Proofs.Ytmchelbmeajcnaa.L ((s : Int) / 32)) (Go.Proofs.Ytmchelbmeajcnaa.L (s : Int)) 4618441417868443648 0 = some (GX s, GY s) := by unfold cSumBits; rw [hgx, hgy]; rfl
            have hop := fun (w : World) t => run_complex_sum (P := Try.prog) w .add (Or.inl rfl) t .f64 _ _ _ _ _ _ hsum
            clear hgx hgy hsum hsg2
            go_upto_region 23 with (simp only [hop])
            have hPC := (hPB.set_ k (.complex .f64 (GX s) (GY s))).congr (f' := fun j => cpx (cX S GX GY m' j)) (fun j _ => hset.out j)
            have hQC := hQC0.other (g' := gp) (i := k) (.complex .f64 (GX s) (GY s)) (by omega)
            have hVC := hVC0.other (g' := gp) (i := k) (.complex .f64 (GX s) (GY s)) (by omega)
            have hTC := hTB.other ⟨gp, k, none⟩ (.complex .f64 (GX s) (GY s)) (by show g1 ≠ gp; omega)
            have hBC := hBB.setCell (show w6.heap.size ≤ gp by omega) (p := ⟨gp, k, none⟩) (.complex .f64 (GX s) (GY s))
            generalize wB.setCell ⟨gp, k, none⟩ (.complex .f64 (GX s) (GY s)) = wC at *
            have hXC := hX6.out.keep hBC
            have hcx := Lib.hid (PreV.cx hPC)
            clear hPB hQC0 hVC0 hTB hBB p0 pf hop hgr
            have hof := HOF.out m' h8n.out cs hC.out (some ⟨gp, 0, none⟩) c7 _ wC hxl.out hq.out hcx.out
            have hi1 := hTC.is hcs.out
            have hi2 := hTC.of
            obtain ⟨z1, z2, z3, z4, z5⟩ := id hXC
            go_wp2_with (go_at_call 28; (with_reducible refine hof.out.mono ?_); rintro e wD ⟨gr, fr, rfl, hgr', hRr, hbD⟩; have hXD := hXC.keep hbD; obtain ⟨o1, o2, o3, o4, o5⟩ := id hXD)
            have hPD := hPC.below hbD
            have hQD := hQC.below hbD
            have hVD := hVC.below hbD
            have hTD := hTC.keep hbD
            have hBD := hBC.trans (hbD.mono hBC.size)
            clear hPC hQC hVC hTC hBC hbD hcx hof hi1 hi2 z1 z2 z3 z4 z5 o1 o2 o3 o4 o5 hXC hset hq hxl hgr'
            go_loopw [16] (fun q wq => ∃ j : Nat, j ≤ W' ∧ q = .int .i64 j ∧ Below wD.heap.size wD wq) (fun q _ => W' - (intOf q).toNat)
            case atStart => exact ⟨0, Nat.zero_le _, rfl, Below.refl _ _⟩
            case round =>
              obtain ⟨j, hj, rfl, hBq⟩ := hrel
              have hXq := hXD.keep hBq
              obtain ⟨o1, o2, o3, o4, o5⟩ := id hXq
              by_cases hjt : j < W'
              · have hjI : (j : Int) < (W' : Int) := by omega
                have hdj : decide (j < W') = true := decide_eq_true hjt
                have hRq := hRr.keep hBq
                have k0 := hRq.c0 hjt
                have k1 := hRq.c1 hjt
                have k2 : wr.cell? ⟨gm, j, none⟩ = some (.int .i64 ((cM W' nw m' j : Nat) : Int)) := (hQD.below hBq).cell hjt
                generalize cM W' nw m' j = Cj at *
                have hBd : ∀ k, Below wD.heap.size wD (wr.drewN k) := fun k => below_drewN hBq k
                replace hBd := Lib.hid hBd
                clear hBq hRq
                go_wp2_with fail
                go_quiet (fail)
                go_wp2_with fail
                go_roundw
                case rel => exact ⟨j + 1, by omega, by go_num, by first | exact hBd.out _ | exact hBd.out 0⟩
                case measure => simp [intOf]; omega
              · obtain rfl : j = W' := by omega
                have hdj : decide (j < j) = false := decide_eq_false (Nat.lt_irrefl _)
                go_wp2_with fail
                exact ⟨⟨i + 1, m', by omega, by go_num, hPD.below hBq, hQD.below hBq, hVD.below hBq, h8n.out, hTD.keep hBq, hBD.trans (hBq.mono hBD.size)⟩, by simp [intOf]; omega⟩
      · rw [hmv] at v0
        go_wp2_with fail
        exact ⟨⟨i + 1, mv, by omega, by go_num, hP, hQ, hV, h8c, hT, hB⟩, by simp [intOf]; omega⟩
    · obtain rfl : i = nc := by omega
      have hdi : decide (i < i) = false := decide_eq_false (Nat.lt_irrefl _)
      have hfin := Lib.hid (hbw6.out.trans (hB.mono hbw6.out.size))
      go_wp2_with fail
      go_ret
      exact ⟨rfl, hfin.out⟩
end Go.Proofs.Ytmchelbmeajcnaa
