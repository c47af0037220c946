/- Statement CodeShort: for all data, any number of noughts ahead and all turns the law returns true. -/
import Derived.Test.YtciafkobnlfpbaaCv
namespace Go.Proofs.Ytciafkobnlfpbaa
open Go.RowKit Go.Gf
attribute [local go_sem ↓] exec_load_tb Cl.quiet_since
attribute [local go_sem] tbAt_ptr tbIn_ptr

set_option maxRecDepth 20000 in
set_option maxHeartbeats 8000000 in
theorem short_law (A : Option Addr) (xs : List Nat) (ca : Nat) (hca : xs.length ≤ ca) (hx : ca ≤ maxLen) (pl : Int) (wpl : (Lit.int .u8 pl).wf = true) (AT : Option Addr) (ts : List (Nat × Nat)) (ct : Nat) (hct : ts.length ≤ ct) (hxt : ct ≤ maxLen) (w : World) (hA : Sl w w.heap.size A xs) (hT : Sp w w.heap.size AT ts) :
    Calls Try.prog 8 #[.slice A xs.length ca, .int .u8 pl, .slice AT ts.length ct] w (Leaves w (.bool true)) := by
  have mx : (xs.length : Int) ≤ 9223372036854775807 := by unfold maxLen at hx; omega
  have mt : (ts.length : Int) ≤ 9223372036854775807 := by unfold maxLen at hxt; omega
  clear hx hxt
  replace hA := Lib.hid hA
  replace hT := Lib.hid hT
  have hz := zero27
  have hpl := u8_bd wpl
  obtain ⟨m, hm⟩ : ∃ m : Nat, pl % 40 = (m : Int) := ⟨(pl % 40).toNat, by omega⟩
  have hm40 : m < 40 := by omega
  have hmk : ∀ w, (Instr.makeSlice 22 (.int .i64 (m : Int)) (.int .i64 (m : Int))).run Try.prog w = .ok (.slice (some ⟨w.heap.size, 0, none⟩) m m) (w.alloc (.cells (madeCells #[.int .u16 0] m) 23)) :=
    run_make_row' (P := Try.prog) 22 23 (.int .u16 0) 2 Try.underlying22 info22 rfl .i64 .i64 m (by omega) (by omega)
  obtain ⟨Wd, hWd⟩ : ∃ Wd, Hid (encW xs = Wd) := ⟨_, Lib.hid rfl⟩
  obtain ⟨E, hEd⟩ : ∃ E, Hid (encE xs = E) := ⟨_, Lib.hid rfl⟩
  have hWl : Hid (Wd.length ≤ 1023) := by rw [← hWd.out]; exact Lib.hid (encW_le xs)
  obtain ⟨b0, e0⟩ : ∃ b0, ((xs.length : Int) == 0) = b0 := ⟨_, rfl⟩
  obtain ⟨b1, e1⟩ : ∃ b1, decide ((60 : Int) < (xs.length : Int)) = b1 := ⟨_, rfl⟩
  obtain ⟨b2, e2⟩ : ∃ b2, decide ((20 : Int) < (ts.length : Int)) = b2 := ⟨_, rfl⟩
  by_cases hsz : 0 < xs.length ∧ xs.length ≤ 60 ∧ ts.length ≤ 20
  · obtain ⟨hl0, hl1, hl2⟩ := hsz
    have lx : xs.length ≤ 1000000 := by omega
    obtain rfl : b0 = false := by rw [← e0, beq_eq_false_iff_ne]; omega
    obtain rfl : b1 = false := by rw [← e1, decide_eq_false_iff_not]; omega
    obtain rfl : b2 = false := by rw [← e2, decide_eq_false_iff_not]; omega
    go_enter Try.func8, Try.ntmps8
    go_wp2_with fail
    have hW : Hid (Below w.heap.size w w) := Lib.hid (Below.refl _ _)
    have hc := awake_any w
    replace hc := Lib.hid hc
    refine hc.out.mono ?_
    rintro e w1 ⟨rfl, hb⟩
    clear hc
    have hW := Lib.hid (hW.out.trans (hb.mono hW.out.size))
    replace hA := Lib.hid (hA.out.far hb)
    replace hT := Lib.hid (hT.out.far hb)
    clear hb
    go_wp2_with fail
    refine (make_any _).mono ?_
    rintro e w2 ⟨cs, rfl, hl, hb⟩
    have hb0 := hW.out.trans (hb.mono hW.out.size)
    replace hA := Lib.hid (hA.out.far hb)
    replace hT := Lib.hid (hT.out.far hb)
    clear hb hW
    go_wp2_with (refine wpList_store_row rfl 28 _ _ rfl w2.heap.size (cells cs) rfl rfl 28 (cells ZT) (heap_alloc_new w2 _) (rsize hl) (zsize hl) (cells_one cs) ?_)
    have hS := St.start (cs := cs) hb0 (cells ZT)
    have hb : Below w2.heap.size w2 ((w2.alloc (Obj.cells (cells ZT) 28)).setRow w2.heap.size (cells cs)) := below_setRow ((Below.refl _ _).alloc (Nat.le_refl _) _) (Nat.le_refl _) _
    replace hA := Lib.hid (hA.out.far hb)
    replace hT := Lib.hid (hT.out.far hb)
    clear hb0 hb
    generalize hg : w2.heap.size = g at hS ⊢
    rw [hg] at hA hT
    generalize (w2.alloc (Obj.cells (cells ZT) 28)).setRow g (cells cs) = w3 at *
    clear hg hz
    have hi := hS.is hl.1
    have ho := hS.of
    go_wp2_with fail
    have hT3 := Lib.hid hT.out
    have hS3 := Lib.hid hS
    have hc := cod_encode (ca := ca) hl hA.out lx hca
    rw [hWd.out, hEd.out] at hc
    replace hc := Lib.hid hc
    refine hc.out.mono ?_
    rintro e w4 ⟨A1, c1, rfl, hc1, h1, hp1, hb⟩
    clear hc
    have hb34 := Lib.hid hb
    have hS := hS.next hb
    have hi := hS.is hl.1
    have ho := hS.of
    replace hA := Lib.hid (hA.out.far hb)
    clear hb
    replace h1 := Lib.hid h1
    by_cases hE0 : E = 0
    · skip
      have hz : ((E : Int) != 0) = false := by simp [hE0]
      have hE1 : encE xs = 0 := by rw [hEd.out]; exact hE0
      clear hE0
      obtain ⟨p1, p2, p3⟩ := encE_inv hE1
      have hWe : Hid (Wd = enc xs) := by rw [← hWd.out]; exact encW_of hE1
      have hn : Hid (Wd.length = xs.length + 16) := by rw [hWe.out]; exact Lib.hid (enc_len xs)
      have hWb : Hid (∀ y ∈ Wd, y < 1024) := by rw [hWe.out]; exact Lib.hid (enc_bd p3)
      have hWne : Hid (Wd ≠ []) := by intro e; have h := hn.out; rw [e] at h; simp at h
      obtain ⟨g1, rfl, hg1, hp1⟩ := hp1 hWne.out
      have hTB : Hid (Sp w4 g1 AT ts) := ⟨hT3.out.1, (hT3.out.keep fun p hp => hb34.out.cell hp).2.imp id fun ⟨a, e, h1, h2⟩ => ⟨a, e, Nat.lt_of_lt_of_le h1 hg1, h2⟩⟩
      have hgT : Hid (g < g1) := Nat.lt_of_lt_of_le (St.lt hS3.out) hg1
      have hL0 : Hid (DecL w4 g1 Wd.length (at_ (tn Wd ts 0)) w4) := DecL.start hp1
      have hL0g : Hid (g1 < w4.heap.size) := hL0.out.2.lt
      have hSa := Lib.hid hS
      clear p3 hp1 hT3 hS3 hb34 h1 hA hS hi ho
      go_wp2_with fail
      go_loopw [10] (fun q wr => ∃ k : Nat, k ≤ ts.length ∧ q = .int .i64 k ∧ DecL w4 g1 Wd.length (at_ (tn Wd ts k)) wr) (fun q _ => ts.length - (intOf q).toNat)
      case atStart => exact ⟨0, Nat.zero_le _, rfl, hL0.out⟩
      case round =>
        clear hL0
        obtain ⟨k, hk, rfl, hL⟩ := hrel
        replace hL := Lib.hid hL
        by_cases hlt : k < ts.length
        · have hkI : (k : Int) < (ts.length : Int) := by omega
          have hd : decide ((k : Int) < (ts.length : Int)) = true := by rw [decide_eq_true_eq]; exact hkI
          obtain ⟨ad, hAT, hadb, hct0⟩ := hTB.out.2.resolve_left (by intro e; rw [e] at hlt; simp at hlt)
          subst hAT
          have hTk := hTB.out.1 ts[k] (List.getElem_mem hlt)
          obtain ⟨T0, hT0⟩ : ∃ T0, Hid (ts[k].1 = T0) := ⟨_, Lib.hid rfl⟩
          obtain ⟨T1, hT1⟩ : ∃ T1, Hid (ts[k].2 = T1) := ⟨_, Lib.hid rfl⟩
          have hT0b : T0 < 65536 := by rw [← hT0.out]; exact hTk.1
          have hT1b : T1 < 65536 := by rw [← hT1.out]; exact hTk.2
          have hW0 : 0 < Wd.length := by have := hn.out; omega
          obtain ⟨p, hp⟩ : ∃ p, Hid (T0 % Wd.length = p) := ⟨_, Lib.hid rfl⟩
          have hpW : p < Wd.length := by rw [← hp.out]; exact Nat.mod_lt _ hW0
          have hpI : (p : Int) < (Wd.length : Int) := by omega
          have hkr : (T0 : Int) % (Wd.length : Int) = (p : Int) := by rw [← hp.out]; exact (Int.natCast_emod _ _).symm
          have hcv := tn_bd hWb.out (ts := ts) k
          obtain ⟨Y, hY⟩ : ∃ Y, Hid (at_ (tn Wd ts k) p = Y) := ⟨_, Lib.hid rfl⟩
          have hY1 : Y < 1024 := by rw [← hY.out]; exact at_lt hcv (by decide)
          obtain ⟨B, hB⟩ : ∃ B : Nat, Hid (T1 % 1024 = B) := ⟨_, Lib.hid rfl⟩
          have hB1 : B < 1024 := by rw [← hB.out]; exact Nat.mod_lt _ (by decide)
          have hmask : bits .and .u16 (T1 : Int) 1023 = (B : Int) := by rw [u16_mask (T1 : Int) (by omega) (by omega), ← hB.out]; rfl
          have hxor : bits .xor .u16 (Y : Int) (B : Int) = ((Y ^^^ B : Nat) : Int) := u16_xor_nat Y B (by omega) (by omega)
          obtain ⟨Z, hZ⟩ : ∃ Z, Hid (Y ^^^ B = Z) := ⟨_, Lib.hid rfl⟩
          rw [hZ.out] at hxor
          have hst : Hid (tn Wd ts (k + 1) = (tn Wd ts k).set p Z) := tn_step hlt (by rw [hT0.out]; exact hp.out) hY.out (by rw [hT1.out, hB.out]; exact hZ.out)
          clear hcv hTk
          go_wp2_with fail
          refine Cl.region_way (fun _ => True) 20 [(0, .r), (1, .r), (2, .r), (3, .r), (4, .r), (5, .r), (6, .r), (7, .r), (8, .r), (9, .r), (10, .r), (11, .r), (12, .r), (13, .r), (14, .r), (15, .r), (16, .r), (17, .r), (18, .r), (19, .r), (20, .z)] (by kernel_rfl) (by kernel_rfl) ?_
          intro w1 hk1
          have HL1 := Lib.hid (hL.out.keeps hk1)
          have hcT : ∀ y : Cl.Since (fun _ => True) w1, y.w.cell? (ad.add (k * 2)) = some (.int .u16 (T0 : Int)) ∧ y.w.cell? (ad.add (k * 2 + 1)) = some (.int .u16 (T1 : Int)) := fun y => by
            have hK := (HL1.out.keeps y.keeps).1
            have hgs : g1 ≤ w4.heap.size := Nat.le_of_lt (hL0g.out)
            have h0 := (hct0 k hlt)
            rw [hT0.out, hT1.out] at h0
            refine ⟨?_, ?_⟩
            · rw [World.cell?_of_block (w := w4) (by rw [add_block]; exact hK.block ad.block (by omega) (by omega))]; exact h0.1
            · rw [World.cell?_of_block (w := w4) (by rw [add_block]; exact hK.block ad.block (by omega) (by omega))]; exact h0.2
          have hcT0 := fun y => (hcT y).1
          have hcT1 := fun y => (hcT y).2
          rw [add_next] at hcT1
          have hcA : ∀ y : Cl.Since (fun _ => True) w1, y.w.cell? ⟨g1, p, none⟩ = some (.int .u16 (Y : Int)) := fun y => by
            rw [← hY.out]
            exact (HL1.out.keeps y.keeps).2.cell hpW
          clear hk1 hcT
          iterate 20 (refine Cl.way_r rfl ?_; go_big_quiet_step (fail); refine wpQuiet_nil ?_)
          refine Cl.way_z rfl ?_
          have hc1w := HL1.out.2.cell hpW
          rw [hY.out] at hc1w
          have hf1w := HL1.out.2.frozen p
          have HL2 : Hid (DecL w4 g1 Wd.length (at_ (tn Wd ts (k + 1))) (w1.setCell ⟨g1, p, none⟩ (.int .u16 (Z : Int)))) := by
            rw [hst.out]
            exact Lib.hid ((HL1.out.set_ p Z).congr fun j _ => by rw [at_set (by rw [tn_len]; exact hpW)])
          clear hcT0 hcT1 hcA hL HL1
          go_wp2_with fail
          refine Cl.Calm.normal ?_
          clear hc1w hf1w
          go_wp2_with fail
          go_roundw
          case rel => exact ⟨k + 1, by omega, by go_num, HL2.out⟩
          case measure => simp [intOf]; omega
        · obtain rfl : k = ts.length := by omega
          have hS := hSa.out.decl hL.out hgT.out
          have hi := hS.is hl.1
          have ho := hS.of
          have hBb : Hid (∀ y ∈ tn Wd ts ts.length, y < 1024) := tn_bd hWb.out _
          have hBl : Hid ((tn Wd ts ts.length).length = Wd.length) := tn_len _
          have hBs := Lib.hid (hL.out.2.row hBl.out fun x hx => by have := hBb.out x hx; omega)
          generalize tn Wd ts ts.length = B at *
          clear hL hk hlt hTB
          have hn0 := below_alloc wr (.cells (madeCells #[.int .u16 0] m) 23)
          have hAz := Lib.hid (hBs.out.far hn0)
          have hOz := Lib.hid (OwnS.made wr m (by unfold maxLen; omega))
          replace hn0 := Lib.hid hn0
          go_wp2_with (refine app_law2 (w0 := wr) rfl (.tmp 72) (.tmp 73) rfl (.slice (some ⟨wr.heap.size, 0, none⟩) m m) (List.replicate m 0) rfl hOz.out hn0.out ⟨g1, 0, none⟩ c1 B (by rw [hBl.out]; rfl) hAz.out (by have := hWl.out; have := hBl.out; simp; omega) ?_)
          intro v1 wa hv hb
          replace hv : OwnS wr wa v1 (front m B) := hv
          obtain ⟨A6, c6, rfl, hc6, h6⟩ := hv.sl
          have hFb : Hid (∀ y ∈ front m B, y < 1024) := front_bd.2 hBb.out
          obtain ⟨L, hFl⟩ : ∃ L, Hid ((front m B).length = L) := ⟨_, Lib.hid rfl⟩
          have hL : Hid (L = m + Wd.length) := by rw [← hFl.out, front_len, hBl.out]; exact Lib.hid rfl
          have hNF : Hid (∀ a, Near (front m B) (front m a) ↔ Near B a) := fun a => near_front
          have hDF : Hid (∀ a, dl (front m a) (front m B) = dl a B) := fun a => dl_front
          obtain ⟨F, hF⟩ : ∃ F, Hid (front m B = F) := ⟨_, Lib.hid rfl⟩
          rw [hF.out] at hFl hFb h6 hc6 hNF hDF ⊢
          rw [hFl.out] at hc6 ⊢
          have hSb := hS.next hb
          have hi := hSb.is hl.1
          have ho := hSb.of
          replace hBs := Lib.hid (hBs.out.far hb)
          replace h6 := Lib.hid h6
          clear hv hn0 hAz hOz hb hS
          have hS := hSb
          clear hSb
          go_wp2_with fail
          have hc := cod_decode (ca := c1) hl hBs.out (by rw [hBl.out]; have := hWl.out; omega) (by rw [hBl.out]; exact hc1)
          rw [hBl.out] at hc
          replace hc := Lib.hid hc
          refine hc.out.mono ?_
          rintro e w1 ⟨ys, nn, f, D1, cy, hD, rfl, hcy, hy, hb⟩
          clear hc
          have hS := hS.next hb
          have hi := hS.is hl.1
          have ho := hS.of
          replace hBs := Lib.hid (hBs.out.far hb)
          replace h6 := Lib.hid (h6.out.far hb)
          clear hb
          replace hy := Lib.hid hy
          replace hy := Lib.hid hy.out.1
          replace hD := Lib.hid hD
          go_wp2_with fail
          have hc := cod_decode (ca := c6) hl h6.out (by rw [hFl.out, hL.out]; have := hWl.out; omega) (by rw [hFl.out]; exact hc6)
          rw [hFl.out] at hc
          replace hc := Lib.hid hc
          refine hc.out.mono ?_
          rintro e w2 ⟨zs, mm, f2, D2, cz, hD2, rfl, hcz, hzs, hb⟩
          clear hc
          have hS := hS.next hb
          have hi := hS.is hl.1
          have ho := hS.of
          replace hBs := Lib.hid (hBs.out.far hb)
          replace h6 := Lib.hid (h6.out.far hb)
          replace hy := Lib.hid (hy.out.far hb)
          clear hb
          replace hzs := Lib.hid hzs
          replace hzs := Lib.hid hzs.out.1
          have hB17 : 17 ≤ B.length := by rw [hBl.out, hn.out]; omega
          have hB1023 : B.length ≤ 1023 := by rw [hBl.out]; exact hWl.out
          have hF17 : 17 ≤ F.length := by rw [hFl.out, hL.out, hn.out]; omega
          have hF1023 : F.length ≤ 1023 := by rw [hFl.out, hL.out, hn.out]; omega
          rcases dec_cases hD.out hB17 hB1023 hBb.out with ⟨rfl, hN, hnn⟩ | ⟨rfl, rfl, rfl, hN⟩
          · skip
            obtain ⟨rfl, hmm, rfl⟩ := dec_of_near hF17 hF1023 hFb.out ((hNF.out ys).2 hN) hD2
            rw [hDF.out, ← hnn] at hmm
            subst hmm
            have hyl : Hid (ys.length = Wd.length) := by rw [hN.len]; exact hBl
            have hyne : ys ≠ [] := by intro e; have h := hyl.out; rw [e, hn.out] at h; simp at h
            obtain ⟨ad, rfl⟩ : ∃ ad, D1 = some ad := by
              rcases hy.out.2 with e | ⟨a, e, _⟩
              · exact absurd e hyne
              · exact ⟨a, e⟩
            have hzl : Hid ((front m ys).length ≤ 1000000) := by rw [front_len, hyl.out]; unfold Hid; have := hWl.out; omega
            have hn0 := below_alloc w2 (.cells (madeCells #[.int .u16 0] m) 23)
            have hAz := Lib.hid (hy.out.far hn0)
            have hOz := Lib.hid (OwnS.made w2 m (by unfold maxLen; omega))
            replace hn0 := Lib.hid hn0
            replace hF17 := Lib.hid hF17
            replace hF1023 := Lib.hid hF1023
            replace hB17 := Lib.hid hB17
            replace hB1023 := Lib.hid hB1023
            clear hD hD2 hN hnn hyne
            go_wp2_with (refine wpList_guarded (by rfl) (app_law2 (w0 := w2) rfl (.tmp 103) (.tmp 104) rfl (.slice (some ⟨w2.heap.size, 0, none⟩) m m) (List.replicate m 0) rfl hOz.out hn0.out ad cy ys rfl hAz.out (by have := hWl.out; have := hyl.out; simp; omega) ?_))
            intro v2 wb hv hb
            replace hv : OwnS _ wb v2 (front m ys) := hv
            obtain ⟨A9, c9, rfl, hc9, h9⟩ := hv.sl
            have hS := hS.next hb
            have hi := hS.is hl.1
            have ho := hS.of
            replace hzs := Lib.hid (hzs.out.far hb)
            replace h9 := Lib.hid h9
            have hcs := Lib.hid (val_same (ca := cz) (cb := c9) (b := true) hzs.out h9.out hzl.out hzl.out (decide_eq_true rfl))
            clear hv hb hn0 hAz hOz hc9
            go_wp2_with (go_at_call 15; (with_reducible refine hcs.out.mono ?_); rintro e wd ⟨rfl, hb7⟩)
            go_ret
            exact ⟨rfl, (hS.next hb7).below⟩
          · skip
            replace hF17 := Lib.hid hF17
            replace hF1023 := Lib.hid hF1023
            replace hB17 := Lib.hid hB17
            replace hB1023 := Lib.hid hB1023
            rcases dec_cases hD2 hF17.out hF1023.out hFb.out with ⟨rfl, hN2, hnn⟩ | ⟨rfl, rfl, rfl, _⟩
            · skip
              have hzl : Hid (zs.length = L) := by rw [hN2.len]; exact hFl
              have hmz : Hid (m < zs.length) := by unfold Hid; rw [hzl.out, hL.out, hn.out]; omega
              have hEnd : Hid (¬ ∀ j, j < m → at_ zs j = 0) := fun h => by
                have e := front_of (Nat.le_of_lt hmz.out) h
                rw [e] at hN2
                exact hN _ ((hNF.out _).1 hN2)
              clear hnn hN hN2 hD hD2
              go_wp2_with fail
              go_loop [18] (fun q => ∃ k : Nat, k ≤ m ∧ Hid (∀ j, j < k → at_ zs j = 0) ∧ q = .int .i64 k) (fun q => m - (intOf q).toNat)
              case atStart => exact ⟨0, Nat.zero_le _, fun j hj => absurd hj (Nat.not_lt_zero _), rfl⟩
              case round =>
                obtain ⟨k, hk, HK, rfl⟩ := hrel
                by_cases hlt : k < m
                · have hkz : k < zs.length := Nat.lt_trans hlt hmz.out
                  have hkI : (k : Int) < (zs.length : Int) := by omega
                  obtain ⟨sd, hSe, _, hcell⟩ := hzs.out.at_ hkz
                  subst hSe
                  obtain ⟨V, hV⟩ : ∃ V, Hid (zs[k] = V) := ⟨_, Lib.hid rfl⟩
                  rw [hV.out] at hcell
                  have hd : decide (k < m) = true := by rw [decide_eq_true_eq]; exact hlt
                  by_cases h0 : V = 0
                  · have hz0 : ((V : Int) != 0) = false := by simp [h0]
                    have HK2 : Hid (∀ j, j < k + 1 → at_ zs j = 0) := fun j hj => by
                      rcases Nat.lt_or_ge j k with h | h
                      · exact HK.out j h
                      · obtain rfl : j = k := by omega
                        rw [at_get hkz, hV.out]; exact h0
                    clear h0 HK
                    go_wp2_with fail
                    go_round
                    case rel => exact ⟨k + 1, by omega, HK2, by go_num⟩
                    case measure => simp [intOf]; omega
                  · have hz0 : ((V : Int) != 0) = true := by simp; omega
                    clear h0 HK
                    go_wp2_with fail
                    go_ret
                    exact ⟨rfl, hS.below⟩
                · obtain rfl : k = m := by omega
                  exact absurd HK.out hEnd.out
            · skip
              go_wp2_with fail
              go_ret
              exact ⟨rfl, hS.below⟩
    · have hz : ((E : Int) != 0) = true := by simp; omega
      go_wp2_with fail
      go_ret
      exact ⟨rfl, hS.below⟩
  · have hor : Hid (b0 = true ∨ b1 = true ∨ b2 = true) := by
      unfold Hid
      rw [← e0, ← e1, ← e2, decide_eq_true_eq, decide_eq_true_eq, beq_iff_eq]
      omega
    clear hsz
    cases b0
    · cases b1
      · obtain rfl : b2 = true := by rcases hor.out with h | h | h <;> first | exact h | cases h
        go_enter Try.func8, Try.ntmps8
        go_wp2_with fail
        refine (awake_any w).mono ?_
        rintro e w1 ⟨rfl, hb⟩
        go_wp2_with fail
        go_ret
        exact ⟨rfl, hb⟩
      · skip
        go_enter Try.func8, Try.ntmps8
        go_wp2_with fail
        refine (awake_any w).mono ?_
        rintro e w1 ⟨rfl, hb⟩
        go_wp2_with fail
        go_ret
        exact ⟨rfl, hb⟩
    · skip
      go_enter Try.func8, Try.ntmps8
      go_wp2_with fail
      refine (awake_any w).mono ?_
      rintro e w1 ⟨rfl, hb⟩
      go_wp2_with fail
      go_ret
      exact ⟨rfl, hb⟩
end Go.Proofs.Ytciafkobnlfpbaa
namespace Go.Proofs.Ytciafkobnlfpbaa.codeShort
open Go.ChangeShapes Go.WideShapes Go.ChangeAt Go.RowKit Go.Gf
set_option linter.unusedVariables false

theorem own : ownKnob Try.prog.godebug = none := by kernel_rfl

theorem walk (A0 : Option Addr) (x0 : List Nat) (c0 : Nat) (l0 : x0.length ≤ c0) (m0 : c0 ≤ maxLen) (a1 : Int) (w1 : (Lit.int .u8 a1).wf = true) (A2 : Option Addr) (x2 : List (Nat × Nat)) (c2 : Nat) (l2 : x2.length ≤ c2) (m2 : c2 ≤ maxLen) (w : World) (s0 : Sl w w.heap.size A0 x0) (s2 : Sp w w.heap.size A2 x2) :
    Calls Try.prog 8 #[.slice A0 x0.length c0, .int .u8 a1, .slice A2 x2.length c2] w fun e w' => e = .returned (.bool true) ∧ Below w.heap.size w w' := short_law A0 x0 c0 l0 m0 a1 w1 A2 x2 c2 l2 m2 w s0 s2

set_option maxRecDepth 100000 in
theorem lifted (os : Os) (started : os.Started) (H : Type) (enc : TypeId × Value → H) :
    ReturnsInHanded {} Try.checked os 8 .any (Rows.codeShortSpec.pre6 enc Try.prog Try.f8 Rows.codeShortRow.domain false) (Rows.codeShortSpec.post enc Try.prog Try.f8 false true false false) := by
  refine returnsInHanded_of_change (C := Try.checked) own started (by kernel_rfl) Try.func8
    (ChangeSpec.witness6 (enc := enc) (C := Try.checked) false ⟨#[], #[.slice none 0 0, .int .u8 0, .slice none 0 0], []⟩ 8 (by kernel_rfl) (by kernel_rfl) (by kernel_rfl) (by kernel_rfl)) ?_
  intro W base args ds gs before hval0 hW hcnd _
  have hval : ∀ (j : Nat) t v, Try.f8.params[j]? = some t → args[j]? = some v → Value.okWide Try.prog W .any base t v := hval0
  have hW' := hW
  obtain ⟨p, q, hA0, hV, rfl, hfz, hnd⟩ := hW
  have hA : DataW.TrodAll enc Try.prog W 0 (fun _ => true) true Try.f8.params.toList args.toList ds p := hA0
  rw [Try.params8] at hA hval
  obtain ⟨v0, vs0, d0, ds0, p0, q0, hargs, rfl, rfl, h0, r0⟩ := trodAll_cons hA
  obtain ⟨v1, vs1, d1, ds1, p1, q1, rfl, rfl, rfl, h1, r1⟩ := trodAll_cons r0
  obtain ⟨v2, vs2, d2, ds2, p2, q2, rfl, rfl, rfl, h2, r2⟩ := trodAll_cons r1
  obtain ⟨rfl, rfl, rfl⟩ := trodAll_nil r2
  obtain rfl : args = #[v0, v1, v2] := by cases args; simp_all
  obtain ⟨rfl, rfl⟩ := trodVars_none hV
  obtain ⟨A0, x0, c0, rfl, l0, m0, s0, t0⟩ := open_sl Try.underlying22 Try.underlying23 (by kernel_rfl : Try.prog.cellsOf 23 = 1) (hval 0 22 v0 rfl rfl) h0
  obtain ⟨a1, rfl, rfl, rfl, w1⟩ := open_int Try.underlying5 (hval 1 5 v1 rfl rfl) h1
  obtain ⟨A2, x2, c2, rfl, l2, m2, s2, t2⟩ := open_slp Try.underlying47 Try.underlying48 Try.underlying23 (by kernel_rfl : Try.prog.cellsOf 48 = 2) (by kernel_rfl : Try.prog.cellsOf 23 = 1) (hval 2 47 v2 rfl rfl) h2
  clear hA0 hval0
  refine (walk A0 x0 c0 l0 m0 a1 w1 A2 x2 c2 l2 m2 W s0 s2).mono fun e W' ⟨he, hg⟩ => ?_
  subst he
  exact ⟨_, rfl, Cl.post_below (pv := []) hW' (fun _ _ _ => (trodAll_cons_mk (shut_bool Try.underlying4 _) trodAll_mk0)) (fun sp hsp => (trodAll_cons_mk (t0 W' hg sp (fun q hq => hsp q (by simp [hq]))) (trodAll_cons_mk (shut_int Try.underlying5 w1) (trodAll_cons_mk (t2 W' hg sp (fun q hq => hsp q (by simp [hq]))) trodAll_mk0)))) (fun _ _ => rfl) rfl
    hg (ok_one (by kernel_rfl) rfl (okWide_bool_mk Try.underlying4 _))⟩

theorem over : Rows.codeShortRow.holds Try.pinned (OpenSpec.ofChange Rows.codeShortSpec) :=
  OpenClaim.holds_of_wide 8 Try.f8 rfl rfl rfl rfl rfl rfl rfl ⟨rfl, rfl, rfl, rfl, rfl⟩ rfl rfl rfl rfl rfl (by kernel_rfl) Try.func8 (by kernel_rfl)
    (of_decide_eq_true (by kernel_rfl)) (by unfold Func.isWrapper; first | (rw [if_pos (by decide +kernel)]; kernel_rfl) | (rw [if_neg (by decide +kernel)]; exact ⟨rfl, rfl⟩))
    (fun os started H enc _ => lifted os started H enc)

/-- THE STATEMENT -/
theorem proved : Rows.CodeShortSaid := over
end Go.Proofs.Ytciafkobnlfpbaa.codeShort
