/- FrameTorn: a page of which just the first cells were programmed reads as it was meant, if at most eight cells of each codeword are blank; else not at all. -/
import Derived.Test.YtmchelbmeajcnaaMv
namespace Go.Proofs.Ytmchelbmeajcnaa
open Go.RowKit Go.Gf Go.Fl
set_option linter.unusedVariables false
set_option linter.unusedSimpArgs false
set_option maxRecDepth 20000
attribute [local go_sem ↓] exec_load_tb Cl.quiet_since
attribute [local go_sem] tbAt_ptr tbIn_ptr

attribute [local go_sem] run_store_cpx
theorem infoI : (Try.prog.info? 3).map (fun i => (i.zero, i.size, i.bytes)) = some (some (.int .i64 0), 1, 8) := by kernel_rfl
set_option maxHeartbeats 16000000 in
theorem torn_law (B P W K : Int) (wB : (Lit.int .i64 B).wf = true) (wP : (Lit.int .i64 P).wf = true) (wW : (Lit.int .i64 W).wf = true) (wK : (Lit.int .i64 K).wf = true)
    (A : Option Addr) (d : List Nat) (c : Nat) (hl : d.length ≤ c) (hc : c ≤ maxLen) (kpI : Int) (wkp : (Lit.int .u16 kpI).wf = true) (w : World) (hs : Sb w w.heap.size A d) :
    Calls Try.prog 4 #[.agg #[.int .i64 B, .int .i64 P, .int .i64 W, .int .i64 K], .slice A d.length c, .int .u16 kpI] w fun e w' => e = .returned (.bool true) ∧ Below w.heap.size w w' := by
  have H := Lib.hid hs
  have hz := zero27
  obtain ⟨hkp0, hkp1⟩ := u16_range wkp
  obtain ⟨kp, rfl⟩ : ∃ kp : Nat, kpI = (kp : Int) := ⟨kpI.toNat, (Int.toNat_of_nonneg hkp0).symm⟩
  have hkp : kp < 65536 := by omega
  have hdm : d.length ≤ 9223372036854775807 := by unfold maxLen at hc; omega
  clear hc hs hkp0 hkp1 wkp
  obtain ⟨wb, hwb⟩ : ∃ wb, wb = w.alloc (.cells #[.int .i64 B, .int .i64 P, .int .i64 W, .int .i64 K] 23) := ⟨_, rfl⟩
  have hbb : Below w.heap.size w wb := by rw [hwb]; exact Ge.below_alloc w _
  have hX : Ge.Box wb w.heap.size B P W K := by rw [hwb]; exact Ge.Box.new w B P W K
  go_enter Try.func4, Try.ntmps4
  go_wp2_with fail
  rw [← hwb]
  clear hwb
  refine (awake_any wb).mono ?_
  rintro e w1 ⟨rfl, hb1⟩
  have hX1 := hX.keep hb1
  have hbw1 := hbb.trans (hb1.mono hbb.size)
  clear hX hbb hb1
  obtain ⟨x1, x2, x3, x4, x5⟩ := id hX1
  have hsm := small_any B P W K w1
  have hmg : Hid (∀ w', Calls Try.prog 21 #[.agg #[.int .i64 B, .int .i64 P, .int .i64 W, .int .i64 K]] w' (Ge.Ans w' (.bool (Ge.mayG B P W K)))) := fun w' => Ge.refmay_any B P W K w'
  cases hSM : smB B P W K
  · rw [hSM] at hsm
    replace hsm := Lib.hid hsm
    go_wp2_with (go_at_call 14; (with_reducible refine hsm.out.mono ?_); rintro e w2 ⟨rfl, hb2⟩; have hbw2 := hbw1.trans (hb2.mono hbw1.size); have hX2 := hX1.keep hb2; obtain ⟨y1, y2, y3, y4, y5⟩ := id hX2; have hgm := Lib.hid (hmg.out w2))
    go_ret
    exact ⟨rfl, hbw2⟩
  rw [hSM] at hsm
  replace hsm := Lib.hid hsm
  cases hM : Ge.mayG B P W K
  · rw [hM] at hmg
    go_wp2_with (first | (go_at_call 14; (with_reducible refine hsm.out.mono ?_); rintro e w2 ⟨rfl, hb2⟩; have hbw2 := hbw1.trans (hb2.mono hbw1.size); have hX2 := hX1.keep hb2; obtain ⟨y1, y2, y3, y4, y5⟩ := id hX2; have hgm := Lib.hid (hmg.out w2)) | (go_at_call 21; (with_reducible refine hgm.out.mono ?_); rintro e w3 ⟨rfl, hb3⟩; have hbw3 := hbw2.trans (hb3.mono hbw2.size); have hX3 := hX2.keep hb3; obtain ⟨m1, m2, m3, m4, m5⟩ := id hX3))
    go_ret
    exact ⟨rfl, hbw3⟩
  rw [hM] at hmg
  by_cases hd1 : d.length ≤ 1000
  rotate_left
  · have hdd : decide ((1000 : Int) < (d.length : Int)) = true := decide_eq_true (by omega)
    go_wp2_with (first | (go_at_call 14; (with_reducible refine hsm.out.mono ?_); rintro e w2 ⟨rfl, hb2⟩; have hbw2 := hbw1.trans (hb2.mono hbw1.size); have hX2 := hX1.keep hb2; obtain ⟨y1, y2, y3, y4, y5⟩ := id hX2; have hgm := Lib.hid (hmg.out w2)) | (go_at_call 21; (with_reducible refine hgm.out.mono ?_); rintro e w3 ⟨rfl, hb3⟩; have hbw3 := hbw2.trans (hb3.mono hbw2.size); have hX3 := hX2.keep hb3; obtain ⟨m1, m2, m3, m4, m5⟩ := id hX3))
    go_ret
    exact ⟨rfl, hbw3⟩
  have hdd : decide ((1000 : Int) < (d.length : Int)) = false := decide_eq_false (by omega)
  obtain ⟨W', K', N, rfl, rfl, hN, hW1, hW4, hK1, hK64, h8, h256, hsg, hcg⟩ := mayG_of hM
  obtain ⟨n, hn⟩ : ∃ n, 10 * (N - 8) / 8 = n := ⟨_, rfl⟩
  have hn0 : n ≤ 1000 := by omega
  have hsz : Hid (∀ w', Calls Try.prog 22 #[.agg #[.int .i64 B, .int .i64 P, .int .i64 (W' : Int), .int .i64 (K' : Int)]] w' (Ge.Ans w' (.int .i64 (n : Int)))) := fun w' => by
    have := Ge.refsize_any B P W' K' w'
    rwa [hsg, hn] at this
  have hmk : ∀ w' : World, (Instr.makeSlice 26 (.int .i64 (n : Int)) (.int .i64 (n : Int))).run Try.prog w' = .ok (.slice (some ⟨w'.heap.size, 0, none⟩) n n) (w'.alloc (.cells (madeCells #[.int .u8 0] n) 5)) :=
    run_make_row' (P := Try.prog) 26 5 (.int .u8 0) 1 Try.underlying26 info5 rfl .i64 .i64 n (by omega) (by omega)
  go_wp2_with (first
    | (go_at_call 14; (with_reducible refine hsm.out.mono ?_); rintro e w2 ⟨rfl, hb2⟩; have hbw2 := hbw1.trans (hb2.mono hbw1.size); have hX2 := hX1.keep hb2; obtain ⟨y1, y2, y3, y4, y5⟩ := id hX2; have hgm := Lib.hid (hmg.out w2))
    | (go_at_call 21; (with_reducible refine hgm.out.mono ?_); rintro e w3 ⟨rfl, hb3⟩; have hbw3 := hbw2.trans (hb3.mono hbw2.size); have hX3 := hX2.keep hb3; have hs3 := Lib.hid (hsz.out w3); obtain ⟨m1, m2, m3, m4, m5⟩ := id hX3)
    | (go_at_call 22; (with_reducible refine hs3.out.mono ?_); rintro e w4 ⟨rfl, hb4⟩; have hX4 := hX3.keep hb4; have hbw4 := hbw3.trans (hb4.mono hbw3.size); have hA4 := ab_new w4 n; have hB4 := Ge.below_alloc w4 (.cells (madeCells #[.int .u8 0] n) 5))
    | (refine wpList_copy_bytesG rfl (.tmp 38) (.tmp 39) rfl w4.heap.size n rfl A d c rfl hA4 ((H.out.far hbw4).far hB4) ?_))
  intro w5 hA5 hg5
  have hb5 := below_grown hB4 hg5 (Nat.le_refl _)
  have hX5 := hX4.keep hb5
  have hbw5 := hbw4.trans (hb5.mono hbw4.size)
  generalize w4.heap.size = gb at *
  clear hX1 hbw1 hX2 hbw2 hX3 hbw3 hX4 hbw4 x1 x2 x3 x4 x5 y1 y2 y3 y4 y5 m1 m2 m3 m4 m5 hb2 hb3 hb4 hgm hs3 hsm hmg hsz hdd hmk hA4 hB4 hg5 hb5
  obtain ⟨D, hD⟩ : ∃ D, rm n (at_ d) = D := ⟨_, rfl⟩
  have hDl : D.length = n := by rw [← hD, rm_len]
  have hDb : ∀ x ∈ D, x < 256 := by rw [← hD]; exact rm_mem fun j _ => at_lt H.out.1 (by decide)
  rw [hD] at hA5
  clear hD
  have hB : mkB 2 (d.length : Int) (kp : Int) = true := by
    unfold mkB
    exact decide_eq_true ⟨by decide, by decide, by omega, by omega, by omega, by omega⟩
  have hE := mkE_ok (n := n) hM hB (by rw [hsg, hn])
  obtain ⟨S, hS⟩ : ∃ S, mkW B P (W' : Int) (K' : Int) 2 (d.length : Int) (kp : Int) D = S := ⟨_, rfl⟩
  obtain ⟨k1, l1, q1, e1, e2, e3, hsv, hSe⟩ := mk_okN hN hDb (by rw [hDl]; exact hE)
  rw [hS] at hSe
  obtain rfl : k1 = 2 := by omega
  obtain rfl : l1 = d.length := Int.ofNat.inj e2.symm
  obtain rfl : kp = q1 := Int.ofNat.inj e3
  clear e1 e2 e3 hB
  have hL1 : (sayL N 2 d.length kp D).length = W' * K' := by rw [say_len (N := N) hsv.2.2.2.2.1 (by omega), hN]
  have hSb : ∀ y ∈ S, y < 1024 := by rw [hSe]; exact pageL_bd hL1 hW1 (say_bd hsv.2.1 hsv.2.2.1 hsv.2.2.2.1)
  obtain ⟨L, hLe⟩ : ∃ L, W' * (K' + 16) = L := ⟨_, rfl⟩
  have hlen : S.length = L := by rw [hSe, ← hLe]; exact pageL_len hL1 hW1
  have hL4 : L ≤ 320 := by rw [← hLe]; exact Nat.mul_le_mul hW4 (show K' + 16 ≤ 80 by omega)
  have hL17 : 17 ≤ L := by rw [← hLe]; exact Nat.mul_le_mul hW1 (show 17 ≤ K' + 16 by omega)
  have hne : S ≠ [] := by intro e; rw [e] at hlen; simp at hlen; omega
  have hrm : Hid (∀ w', Ab w' gb D → Calls Try.prog 17 #[.agg #[.int .i64 B, .int .i64 P, .int .i64 (W' : Int), .int .i64 (K' : Int)], .agg #[.int .i64 2, .int .i64 (d.length : Int), .int .i64 (kp : Int)], .slice (some ⟨gb, 0, none⟩) n n] w' (RowV w' S 0)) := fun w' hb => by
    have := make_rf (B := B) (P := P) (W := W') (K := K') (k := 2) (l := (d.length : Int)) (q := (kp : Int)) (c := n) (hb.sb hDb) (by rw [hDl]; omega)
    rw [hDl, hE, hS] at this
    exact this
  obtain ⟨wh, hwh⟩ : ∃ wh, wh = w5.alloc (.cells #[.int .i64 2, .int .i64 (d.length : Int), .int .i64 (kp : Int)] 25) := ⟨_, rfl⟩
  have hbh : Below w5.heap.size w5 wh := by rw [hwh]; exact Ge.below_alloc w5 _
  have hHh : Hed wh w5.heap.size 2 (d.length : Int) (kp : Int) := by rw [hwh]; exact Hed.new w5 _ _ _
  have hXh := hX5.keep hbh
  have hAh := hA5.keep hbh
  have hbwh := hbw5.trans (hbh.mono hbw5.size)
  have hrmh := Lib.hid (hrm.out wh hAh)
  obtain ⟨x1, x2, x3, x4, x5⟩ := id hXh
  obtain ⟨y1, y2, y3, y4⟩ := id hHh
  rw [hwh] at x2 x3 x4 x5 y2 y3 y4 hrmh
  replace hDl := Lib.hid hDl
  replace hlen := Lib.hid hlen
  replace hLe := Lib.hid hLe
  replace hSe := Lib.hid hSe
  clear hS hL1 hE hX5 hA5 hbw5 hbh hn
  obtain ⟨k, hk⟩ : ∃ k, kp % (L + 1) = k := ⟨_, rfl⟩
  have hkL : k ≤ L := by rw [← hk]; have := Nat.mod_lt kp (show 0 < L + 1 by omega); omega
  have hkI : (kp : Int) % ((L : Int) + 1) = (k : Int) := by rw [← hk]; push_cast; rfl
  have hmi : ∀ w' : World, (Instr.makeSlice 48 (.int .i64 (W' : Int)) (.int .i64 (W' : Int))).run Try.prog w' = .ok (.slice (some ⟨w'.heap.size, 0, none⟩) W' W') (w'.alloc (.cells (madeCells #[.int .i64 0] W') 3)) :=
    run_make_row' (P := Try.prog) 48 3 (.int .i64 0) 8 Try.underlying48 infoI rfl .i64 .i64 W' (by omega) (by omega)
  clear hk
  go_wp2_with (first
    | (go_at_call 17; (with_reducible refine hrmh.out.mono ?_); rintro e w6 ⟨v6, rfl, ho6, hb6⟩; rw [← hwh] at hb6; have hX6 := hXh.keep hb6; have hH6 := hHh.keep hb6; have hA6 := hAh.keep hb6; have hbw6 := hbwh.trans (hb6.mono hbwh.size); obtain ⟨A6, c6, rfl, hs6⟩ := ho6.len; have hpt := lawpts_any (c := c6) hs6 (by rw [hlen.out]; omega))
    | (go_at_call 20; (with_reducible refine hpt.mono ?_); rintro e w7 ⟨v7, rfl, ho7, hb7⟩; have hX7 := hX6.keep hb7; obtain ⟨gp, c7, rfl, hc7, hgp, hp7⟩ := ho7.pre (by intro e; exact hne (List.map_eq_nil_iff.1 e)); rw [List.length_map, hlen.out] at hp7 ⊢; obtain ⟨m1, m2, m3, m4, m5⟩ := id hX7))
  have hmn := nums_new w7 W'
  have hba := Ge.below_alloc w7 (.cells (madeCells #[.int .i64 0] W') 3)
  have hgm : gp < w7.heap.size := hp7.lt
  have hp8 := hp7.below hba
  have hb8 : Below w6.heap.size w6 (w7.alloc (.cells (madeCells #[.int .i64 0] W') 3)) := hb7.trans (hba.mono hb7.size)
  have hgm6 : w6.heap.size ≤ w7.heap.size := hb7.size
  generalize w7.alloc (.cells (madeCells #[.int .i64 0] W') 3) = w8 at *
  generalize w7.heap.size = gm at *
  generalize w5.heap.size = gh at *
  obtain ⟨f, hf⟩ : ∃ f, (fun i => decide (k ≤ i)) = f := ⟨_, rfl⟩
  have hm0 : ∀ r, mcR f W' r k = 0 := fun r => by rw [← hf]; exact torn_start k W' r k (Nat.le_refl _)
  have hmx0 : mxR f W' k = 0 := by rw [← hf]; exact torn_most0 k W'
  have hp9 : PreV w8 49 gp L (fun j => cpx (if k ≤ j ∧ j < k then (0, 0) else ptB (at_ S j))) := hp8.congr fun j hj => by
    rw [if_neg (by omega), pts_at (by rw [hlen.out]; exact hj)]
  have hmn9 : PreV w8 3 gm W' (fun r => .int .i64 ((mcR f W' r k : Nat) : Int)) := hmn.congr fun j hj => by rw [hm0]; rfl
  replace hH6 := Lib.hid hH6
  replace hA6 := Lib.hid hA6
  replace hbw6 := Lib.hid hbw6
  replace hX6 := Lib.hid hX6
  replace hgp := Lib.hid hgp
  replace hgm6 := Lib.hid hgm6
  replace hf := Lib.hid hf
  replace hSb := Lib.hid hSb
  have hW0 : ((W' : Int) == 0) = false := by simp; omega
  clear hHh hXh hAh hbwh hwh hb6 hb7 hX7 ho6 ho7 hba hmn hp7 hp8 hs6 m1 m2 m3 m4 m5 x1 x2 x3 x4 x5 y1 y2 y3 y4 hrmh hrm hpt hmi hm0 hc7 hne
  rw [hkI]
  clear hkI
  go_wp2_with fail
  go_loopw [13, 15] (fun m p wr => ∃ i : Nat, k ≤ i ∧ i ≤ L ∧ p = .int .i64 (i : Int) ∧ m = .int .i64 ((mxR f W' i : Nat) : Int) ∧ PreV wr 3 gm W' (fun r => .int .i64 ((mcR f W' r i : Nat) : Int)) ∧ PreV wr 49 gp L (fun j => cpx (if k ≤ j ∧ j < i then (0, 0) else ptB (at_ S j))) ∧ Below w6.heap.size w6 wr) (fun _ p _ => L - (intOf p).toNat)
  case atStart => exact ⟨k, Nat.le_refl _, hkL, rfl, by rw [hmx0]; rfl, hmn9, hp9, hb8⟩
  case round =>
    clear hmn9 hp9 hb8 hmx0
    obtain ⟨i, hki, hiL, rfl, rfl, hm, hp, hB⟩ := hrel
    have hXr := hX6.out.keep hB
    by_cases hlt : i < L
    · have hiI : (i : Int) < (L : Int) := by omega
      have hd : decide (i < L) = true := decide_eq_true hlt
      obtain ⟨r, hr⟩ : ∃ r, i % W' = r := ⟨_, rfl⟩
      have hrW : r < W' := by rw [← hr]; exact Nat.mod_lt _ (by omega)
      have hrI : (i : Int) % (W' : Int) = (r : Int) := by rw [← hr]; rfl
      have hfi : f i = true := by rw [← hf.out]; exact decide_eq_true hki
      have hst := mxR_hit hfi (show 0 < W' by omega)
      have hput := mcR_put (W := W') hfi
      have hcle := mcR_le f W' r i
      rw [hr] at hst hput
      obtain ⟨C, hC⟩ : ∃ C, Hid (mcR f W' r i = C) := ⟨_, Lib.hid rfl⟩
      obtain ⟨M, hMe⟩ : ∃ M, Hid (mxR f W' i = M) := ⟨_, Lib.hid rfl⟩
      have hm1 := (hm.other (i := i) (.complex .f64 0 0) (show gm ≠ gp by omega))
      have hp1 := hp.set_ i (.complex .f64 0 0)
      have hX1 := hXr.other (i := i) (.complex .f64 0 0) (show w.heap.size ≠ gp by have := hgp.out; have := hX6.out.lt; omega)
      have hB1 := hB.setCell (p := ⟨gp, i, none⟩) hgp.out (.complex .f64 0 0)
      have hm2 := hm1.set_ r (.int .i64 ((C : Int) + 1))
      have hp2 := hp1.other (i := r) (.int .i64 ((C : Int) + 1)) (show gp ≠ gm by omega)
      have hX2 := hX1.other (i := r) (.int .i64 ((C : Int) + 1)) (show w.heap.size ≠ gm by have := hgm6.out; have := hX6.out.lt; omega)
      have hB2 := hB1.setCell (p := ⟨gm, r, none⟩) hgm6.out (.int .i64 ((C : Int) + 1))
      have c1 := hp.cell hlt
      have f1 := hp.frozen i
      have c2 := hm1.cell hrW
      have f2 := hm1.frozen r
      have c3 := hm2.cell hrW
      rw [if_pos rfl] at c3
      rw [hC.out] at c2 hcle hst
      rw [hMe.out] at hst ⊢
      obtain ⟨x1, x2, x3, x4, x5⟩ := hXr
      obtain ⟨y1, y2, y3, y4, y5⟩ := hX1
      obtain ⟨z1, z2, z3, z4, z5⟩ := hX2
      replace hst := Lib.hid hst
      replace hput := Lib.hid hput
      replace hm2 := Lib.hid hm2
      replace hp2 := Lib.hid hp2
      replace hB2 := Lib.hid hB2
      clear hm hp hm1 hp1 hB hB1 hfi
      go_wp2_with fail
      refine ⟨⟨i + 1, by omega, by omega, by go_num, ?_, ?_, ?_, hB2.out⟩, by simp [intOf]; omega⟩
      · rw [hst.out]
        congr 1
        split <;> omega
      · refine hm2.out.congr fun j hj => ?_
        have e := congrFun hput.out j
        unfold putN at e
        dsimp only at e
        by_cases hjr : j = r
        · rw [if_pos hjr] at e ⊢
          rw [← e, hC.out]
          rfl
        · rw [if_neg hjr] at e ⊢
          rw [← e]
      · refine hp2.out.congr fun j hj => ?_
        by_cases hji : j = i
        · rw [if_pos hji, if_pos (by omega)]
          rfl
        · rw [if_neg hji]
          congr 1
          by_cases h1 : k ≤ j ∧ j < i
          · rw [if_pos h1, if_pos (by omega)]
          · rw [if_neg h1, if_neg (by omega)]
    · obtain rfl : i = L := by omega
      have hd : decide (i < i) = false := decide_eq_false (Nat.lt_irrefl _)
      have hpX := hp.congr (f' := fun j => cpx (tornX S k j)) fun j hj => by
        unfold tornX
        congr 1
        by_cases h1 : k ≤ j
        · rw [if_pos h1, if_pos ⟨h1, hj⟩]
        · rw [if_neg h1, if_neg (by omega)]
      have hgbd : Hid (w.heap.size < wr.heap.size) := Nat.lt_of_lt_of_le hX6.out.lt hB.size
      have hXS := Lib.hid hXr
      have hxS := Lib.hid hpX.cx
      have hslS := Lib.hid (torn_slc hSb.out k i)
      have hbS := Lib.hid (torn_bd hSb.out k i)
      have hHr := Lib.hid (hH6.out.keep hB)
      have hAr := Lib.hid (hA6.out.keep hB)
      have hbr := Lib.hid (hbw6.out.trans (hB.mono hbw6.out.size))
      obtain ⟨xs, hxs⟩ : ∃ xs, (List.range i).map (tornX S k) = xs := ⟨_, rfl⟩
      obtain ⟨ss, hss⟩ : ∃ ss, rm i (tornS S k) = ss := ⟨_, rfl⟩
      have hlS : Hid (xs.length = i) := by rw [← hxs]; simp [Hid]
      have hnS : Hid (ss.length = i) := by rw [← hss]; exact rm_len _ _
      rw [hxs] at hxS
      rw [hxs, hss] at hslS
      rw [hss] at hbS
      replace hxs := Lib.hid hxs
      replace hss := Lib.hid hss
      obtain ⟨M, hMe⟩ : ∃ M, Hid (mxR f W' i = M) := ⟨_, Lib.hid rfl⟩
      rw [hMe.out]
      have hn6 : i ≤ 100000 := by omega
      clear hm hp hB hXr hpX hX6 hH6 hA6 hbw6 hgp hgm6
      have hgb := hgbd
      go_wp2_with fail
      go_cut [16, 17, 18, 19] from 94 to 102 (fun sm sd sn sf wx => ∃ (k9 l9 q9 n9 : Nat) (d9 : List Nat) (e9 : Nat) (A9 : Option Addr) (c9 g9 : Nat), RdS B P (W' : Int) (K' : Int) xs ss k9 l9 q9 n9 d9 e9 ∧ sm = .pointer (some ⟨g9, 0, none⟩) ∧ Hed wx g9 (k9 : Int) (l9 : Int) (q9 : Int) ∧ sd = .slice A9 d9.length c9 ∧ Sb wx wx.heap.size A9 d9 ∧ sn = .int .i64 (n9 : Int) ∧ sf = .int .i64 (e9 : Int) ∧ Below wr.heap.size wr wx)
      case first =>
        refine Cl.region_tree (fun b => b < wr.heap.size) 14 (.r 1 <| .r 2 <| .b 0 9 (.b 3 9 (.r 4 <| .r 5 <| .r 6 <| .r 7 <| .r 8 <| .c 9 <| .c 10 <| .r 11 <| .r 12 <| .r 13 <| .e) (.c 3 <| .r 4 <| .r 5 <| .r 6 <| .r 7 <| .r 8 <| .c 10 <| .r 11 <| .r 12 <| .r 13 <| .e)) (.c 0 <| .c 3 <| .r 4 <| .r 5 <| .r 6 <| .r 7 <| .r 8 <| .c 10 <| .r 11 <| .r 12 <| .r 13 <| .e)) (by kernel_rfl) (by kernel_rfl) ?_
        intro v0 hk0
        have hbk := Cl.Keeps.below hk0
        have hX0 := hXS.out.keep hbk
        have x0 : ∀ y : Cl.Since (fun b => b < wr.heap.size) v0, y.w.cell? ⟨w.heap.size, 0, none⟩ = some (.int .i64 B) := fun y => (cell_block (y.keeps.block w.heap.size hX0.lt hgb.out)).trans hX0.c0
        have x1 : ∀ y : Cl.Since (fun b => b < wr.heap.size) v0, y.w.cell? ⟨w.heap.size, 1, none⟩ = some (.int .i64 P) := fun y => (cell_block (y.keeps.block w.heap.size hX0.lt hgb.out)).trans hX0.c1
        have x2 : ∀ y : Cl.Since (fun b => b < wr.heap.size) v0, y.w.cell? ⟨w.heap.size, 2, none⟩ = some (.int .i64 (W' : Int)) := fun y => (cell_block (y.keeps.block w.heap.size hX0.lt hgb.out)).trans hX0.c2
        have x3 : ∀ y : Cl.Since (fun b => b < wr.heap.size) v0, y.w.cell? ⟨w.heap.size, 3, none⟩ = some (.int .i64 (K' : Int)) := fun y => (cell_block (y.keeps.block w.heap.size hX0.lt hgb.out)).trans hX0.c3
        iterate 2 (refine Cl.tree_r rfl ?_; go_big_quiet_step (fail); refine wpQuiet_nil ?_)
        clear x0 x1 x2 x3 hX0
        replace hbk := Lib.hid hbk
        have hx0 := Lib.hid (hxS.out.far hbk.out)
        refine Cl.tree_b rfl rfl ?_ ?_
        · go_wp2_with (go_at_call 15; (with_reducible refine (make_any _).mono ?_); rintro e v1 ⟨cs, rfl, hcs, hbp⟩)
          refine Cl.way_on (Cl.Keeps.of_below hbp) ?_
          have hCS := Lib.hid hcs.tab
          have hb1 := Lib.hid (hbk.out.trans (hbp.mono hbk.out.size))
          have hxm := Lib.hid (hx0.out.far hbp)
          clear hcs hbp
          refine Cl.tree_b rfl rfl ?_ ?_
          · have hrd := read_any hCS.out (B := B) (P := P) (W := (W' : Int)) (K := (K' : Int)) (ss := ss) (c := c7) hxm.out (by rw [hlS.out]; omega) (by rw [hnS.out, hlS.out]) hslS.out hbS.out
            rw [hlS.out] at hrd
            replace hrd := Lib.hid hrd
            go_wp2_with (go_at_call 19; (with_reducible refine hrd.out.mono ?_); rintro e v2 ⟨k9, l9, q9, nn, dd, er, hRd, A9, c9, rfl, hc9, hs8, hbp⟩)
            refine Cl.way_on (Cl.Keeps.of_below hbp) ?_
            have hsd := Lib.hid hs8
            replace hRd := Lib.hid hRd
            have hb2 := Lib.hid (hb1.out.trans (hbp.mono hb1.out.size))
            clear hrd hs8 hbp
            refine Cl.tree_r rfl ?_
            go_big_quiet_step (fail)
            refine wpQuiet_nil ?_
            refine Cl.tree_r rfl ?_
            go_big_quiet_step (fail)
            refine wpQuiet_nil ?_
            refine Cl.tree_r rfl ?_
            go_big_quiet_step (fail)
            refine wpQuiet_nil ?_
            refine Cl.tree_r rfl ?_
            go_big_quiet_step (fail)
            refine wpQuiet_nil ?_
            refine Cl.tree_r rfl ?_
            go_big_quiet_step (fail)
            refine wpQuiet_nil ?_
            refine Cl.tree_c rfl ?_
            go_wp2_with fail
            refine Cl.way_on (Cl.Keeps.of_below (Ge.below_alloc _ _)) ?_
            have hF := Lib.hid (Hed.new v2 (k9 : Int) (l9 : Int) (q9 : Int))
            have hG := Ge.below_alloc v2 (.cells #[.int .i64 (k9 : Int), .int .i64 (l9 : Int), .int .i64 (q9 : Int)] 25)
            have hs9 := Lib.hid (hsd.out.far hG)
            have hb9 := Lib.hid (hb2.out.trans (hG.mono hb2.out.size))
            have hkp := Lib.hid (keeps_fold v2 (.cells #[.int .i64 0, .int .i64 0, .int .i64 0] 25) (.cells #[.int .i64 (k9 : Int), .int .i64 (l9 : Int), .int .i64 (q9 : Int)] 25) hb2.out.size)
            refine Cl.tree_c rfl ?_
            go_wp2_with fail
            refine Cl.way_on hkp.out ?_
            refine Cl.tree_r rfl ?_
            go_big_quiet_step (fail)
            refine wpQuiet_nil ?_
            refine Cl.tree_r rfl ?_
            go_big_quiet_step (fail)
            refine wpQuiet_nil ?_
            refine Cl.tree_r rfl ?_
            go_big_quiet_step (fail)
            refine wpQuiet_nil ?_
            refine Cl.tree_e ?_
            go_wp2_with fail
            go_meet
            exact ⟨k9, l9, q9, nn, dd, er, A9, c9, _, hRd.out, rfl, hF.out, rfl, hs9.out, rfl, rfl, hb9.out⟩
          · go_wp2_with fail
            refine Cl.way_on (Cl.Keeps.of_below (Ge.below_alloc _ _)) ?_
            have hHn := Hdo.new v1 0 0 0
            have hAl := Ge.below_alloc v1 (.cells #[.int .i64 0, .int .i64 0, .int .i64 0] 25)
            have hge : Hid (wr.heap.size ≤ v1.heap.size) := hb1.out.size
            have hba := Lib.hid (hb1.out.trans (hAl.mono hb1.out.size))
            have hxa := Lib.hid (hxm.out.far hAl)
            generalize v1.alloc (.cells #[.int .i64 0, .int .i64 0, .int .i64 0] 25) = va1 at *
            have hH1 := Lib.hid hHn
            clear hHn hAl
            refine Cl.tree_c rfl ?_
            have hrd := read_any hCS.out (B := B) (P := P) (W := (W' : Int)) (K := (K' : Int)) (ss := ss) (c := c7) hxa.out (by rw [hlS.out]; omega) (by rw [hnS.out, hlS.out]) hslS.out hbS.out
            rw [hlS.out] at hrd
            replace hrd := Lib.hid hrd
            go_wp2_with (go_at_call 19; (with_reducible refine hrd.out.mono ?_); rintro e v2 ⟨k9, l9, q9, nn, dd, er, hRd, A9, c9, rfl, hc9, hs8, hbp⟩)
            refine Cl.way_on (Cl.Keeps.of_below hbp) ?_
            have hsd := Lib.hid hs8
            replace hRd := Lib.hid hRd
            have hb2 := Lib.hid (hba.out.trans (hbp.mono hba.out.size))
            have hH2 := Lib.hid (hH1.out.keep hbp)
            clear hrd hs8 hbp
            refine Cl.tree_r rfl ?_
            go_big_quiet_step (fail)
            refine wpQuiet_nil ?_
            refine Cl.tree_r rfl ?_
            go_big_quiet_step (fail)
            refine wpQuiet_nil ?_
            refine Cl.tree_r rfl ?_
            go_big_quiet_step (fail)
            refine wpQuiet_nil ?_
            refine Cl.tree_r rfl ?_
            go_big_quiet_step (fail)
            refine wpQuiet_nil ?_
            refine Cl.tree_r rfl ?_
            go_big_quiet_step (fail)
            refine wpQuiet_nil ?_
            have hF := Lib.hid (hH2.out.set_ (k9 : Int) (l9 : Int) (q9 : Int)).hed
            obtain ⟨h1, h2, h3, h4⟩ := hH2.out.hed
            have hfz := hH2.out.frozen
            have hs9 := Lib.hid (hH2.out.sb3 hsd.out (k9 : Int) (l9 : Int) (q9 : Int))
            have hb9 := Lib.hid (below_set3 hb2.out hge.out (.int .i64 (k9 : Int)) (.int .i64 (l9 : Int)) (.int .i64 (q9 : Int)))
            have hkp := Lib.hid (keeps_set3 (w := v2) hge.out (.int .i64 (k9 : Int)) (.int .i64 (l9 : Int)) (.int .i64 (q9 : Int)))
            refine Cl.tree_c rfl ?_
            go_wp2_with fail
            refine Cl.way_on hkp.out ?_
            clear h1 h2 h3 h4 hfz
            refine Cl.tree_r rfl ?_
            go_big_quiet_step (fail)
            refine wpQuiet_nil ?_
            refine Cl.tree_r rfl ?_
            go_big_quiet_step (fail)
            refine wpQuiet_nil ?_
            refine Cl.tree_r rfl ?_
            go_big_quiet_step (fail)
            refine wpQuiet_nil ?_
            refine Cl.tree_e ?_
            go_wp2_with fail
            go_meet
            exact ⟨k9, l9, q9, nn, dd, er, A9, c9, _, hRd.out, rfl, hF.out, rfl, hs9.out, rfl, rfl, hb9.out⟩
        · go_wp2_with fail
          refine Cl.way_on (Cl.Keeps.of_below (Ge.below_alloc _ _)) ?_
          have hHn := Hdo.new v0 0 0 0
          have hAl := Ge.below_alloc v0 (.cells #[.int .i64 0, .int .i64 0, .int .i64 0] 25)
          have hge : Hid (wr.heap.size ≤ v0.heap.size) := hbk.out.size
          have hba := Lib.hid (hbk.out.trans (hAl.mono hbk.out.size))
          have hxa := Lib.hid (hx0.out.far hAl)
          generalize v0.alloc (.cells #[.int .i64 0, .int .i64 0, .int .i64 0] 25) = va0 at *
          have hH0 := Lib.hid hHn
          clear hHn hAl
          refine Cl.tree_c rfl ?_
          go_wp2_with (go_at_call 15; (with_reducible refine (make_any _).mono ?_); rintro e v1 ⟨cs, rfl, hcs, hbp⟩)
          refine Cl.way_on (Cl.Keeps.of_below hbp) ?_
          have hCS := Lib.hid hcs.tab
          have hb1 := Lib.hid (hba.out.trans (hbp.mono hba.out.size))
          have hxm := Lib.hid (hxa.out.far hbp)
          have hH1 := Lib.hid (hH0.out.keep hbp)
          clear hcs hbp
          refine Cl.tree_c rfl ?_
          have hrd := read_any hCS.out (B := B) (P := P) (W := (W' : Int)) (K := (K' : Int)) (ss := ss) (c := c7) hxm.out (by rw [hlS.out]; omega) (by rw [hnS.out, hlS.out]) hslS.out hbS.out
          rw [hlS.out] at hrd
          replace hrd := Lib.hid hrd
          go_wp2_with (go_at_call 19; (with_reducible refine hrd.out.mono ?_); rintro e v2 ⟨k9, l9, q9, nn, dd, er, hRd, A9, c9, rfl, hc9, hs8, hbp⟩)
          refine Cl.way_on (Cl.Keeps.of_below hbp) ?_
          have hsd := Lib.hid hs8
          replace hRd := Lib.hid hRd
          have hb2 := Lib.hid (hb1.out.trans (hbp.mono hb1.out.size))
          have hH2 := Lib.hid (hH1.out.keep hbp)
          clear hrd hs8 hbp
          refine Cl.tree_r rfl ?_
          go_big_quiet_step (fail)
          refine wpQuiet_nil ?_
          refine Cl.tree_r rfl ?_
          go_big_quiet_step (fail)
          refine wpQuiet_nil ?_
          refine Cl.tree_r rfl ?_
          go_big_quiet_step (fail)
          refine wpQuiet_nil ?_
          refine Cl.tree_r rfl ?_
          go_big_quiet_step (fail)
          refine wpQuiet_nil ?_
          refine Cl.tree_r rfl ?_
          go_big_quiet_step (fail)
          refine wpQuiet_nil ?_
          have hF := Lib.hid (hH2.out.set_ (k9 : Int) (l9 : Int) (q9 : Int)).hed
          obtain ⟨h1, h2, h3, h4⟩ := hH2.out.hed
          have hfz := hH2.out.frozen
          have hs9 := Lib.hid (hH2.out.sb3 hsd.out (k9 : Int) (l9 : Int) (q9 : Int))
          have hb9 := Lib.hid (below_set3 hb2.out hge.out (.int .i64 (k9 : Int)) (.int .i64 (l9 : Int)) (.int .i64 (q9 : Int)))
          have hkp := Lib.hid (keeps_set3 (w := v2) hge.out (.int .i64 (k9 : Int)) (.int .i64 (l9 : Int)) (.int .i64 (q9 : Int)))
          refine Cl.tree_c rfl ?_
          go_wp2_with fail
          refine Cl.way_on hkp.out ?_
          clear h1 h2 h3 h4 hfz
          refine Cl.tree_r rfl ?_
          go_big_quiet_step (fail)
          refine wpQuiet_nil ?_
          refine Cl.tree_r rfl ?_
          go_big_quiet_step (fail)
          refine wpQuiet_nil ?_
          refine Cl.tree_r rfl ?_
          go_big_quiet_step (fail)
          refine wpQuiet_nil ?_
          refine Cl.tree_e ?_
          go_wp2_with fail
          go_meet
          exact ⟨k9, l9, q9, nn, dd, er, A9, c9, _, hRd.out, rfl, hF.out, rfl, hs9.out, rfl, rfl, hb9.out⟩
      case rest =>
        obtain ⟨k9, l9, q9, n9, d9, e9, A9, c9, g9, hRd, rfl, hG, rfl, hsb, rfl, rfl, hbc⟩ := hcut
        have hbw := hbr.out.trans (hbc.mono hbr.out.size)
        have hHc := hHr.out.keep hbc
        have hAc := hAr.out.keep hbc
        have hfk : ∀ j, f j = decide (k ≤ j) := fun j => by rw [← hf.out]
        have hoff : ∀ j, j < i → offB (pageL W' (sayL N 2 d.length kp D)) ss (zX xs) j = f j := fun j hj => by
          rw [← hSe.out, ← hxs.out, ← hss.out, torn_off hj, hfk]
        have hzf : ∀ j, j < i → zX xs j = f j := fun j hj => by
          rw [← hxs.out, torn_z hj, hfk]
        by_cases hk0 : k = 0
        · have hbk : blkB xs = true := blkB_true.2 fun j hj => by
            have := hzf j (by rw [← hlS.out]; exact hj)
            rw [hfk, decide_eq_true (by omega)] at this
            exact this
          have he := rd_none hM (by rw [hlS.out, hLe.out]) hbk hRd
          subst he
          subst hk0
          clear hRd hG hHc hAc hsb hbc hoff hzf hfk
          go_wp2_with fail
          go_ret
          exact ⟨rfl, hbw⟩
        · have hkk : ((k : Int) == 0) = false := by simp; omega
          have hbk : blkB xs = false := by
            rw [Bool.eq_false_iff]
            intro e
            have := blkB_true.1 e 0 (by rw [hlS.out]; omega)
            have h2 := hzf 0 (by omega)
            rw [hfk, decide_eq_false (by omega)] at h2
            rw [show zX xs 0 = zP (xA xs 0) from rfl, this] at h2
            cases h2
          by_cases h8M : M ≤ 8
          · have hd8 : decide ((8 : Int) < (M : Int)) = false := decide_eq_false (by omega)
            obtain ⟨rfl, rfl, rfl, hn9, rfl, rfl⟩ := rd_few hM hN hsv hlS.out hLe.out.symm hoff (by rw [hMe.out]; exact h8M) hRd
            rw [hMe.out] at hn9
            subst hn9
            have hst := str_run hsb c9
            have hst2 := str_run (hAc.sb hDb) n
            rw [hDl.out] at hst hst2 ⊢
            obtain ⟨y1, y2, y3, y4⟩ := id hG
            obtain ⟨z1, z2, z3, z4⟩ := id hHc
            have hseq := str_eq (bstr d9) wc
            have hnn : ((n9 : Int) == (n9 : Int)) = true := by simp
            clear hRd hG hHc hAc hsb hbc hoff hzf hfk hbk
            go_wp2_with fail
            go_ret
            exact ⟨rfl, hbw⟩
          · have hd8 : decide ((8 : Int) < (M : Int)) = true := decide_eq_true (by omega)
            obtain ⟨rfl, rfl⟩ := rd_many hM hlS.out hLe.out.symm hzf hbk (by rw [hMe.out]; omega) hRd
            clear hRd hG hHc hAc hsb hbc hoff hzf hfk hbk
            go_wp2_with fail
            go_ret
            exact ⟨rfl, hbw⟩
end Go.Proofs.Ytmchelbmeajcnaa
