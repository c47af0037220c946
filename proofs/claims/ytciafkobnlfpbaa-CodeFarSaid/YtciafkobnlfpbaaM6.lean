/- Statement CodeFar: for all data, all other data and all turns the law returns true. -/
import Derived.Test.YtciafkobnlfpbaaCt
namespace Go.Proofs.Ytciafkobnlfpbaa
open Go.RowKit Go.Gf
attribute [local go_sem ↓] exec_load_tb Cl.quiet_since
attribute [local go_sem] tbAt_ptr tbIn_ptr

set_option maxRecDepth 20000 in
set_option maxHeartbeats 8000000 in
theorem far_law (A : Option Addr) (xs : List Nat) (ca : Nat) (hca : xs.length ≤ ca) (hx : ca ≤ maxLen) (Bz : Option Addr) (zs : List Nat) (cz : Nat) (hcz : zs.length ≤ cz) (hxz : cz ≤ maxLen)
    (AT : Option Addr) (ts : List (Nat × Nat)) (ct : Nat) (hct : ts.length ≤ ct) (hxt : ct ≤ maxLen) (w : World) (hA : Sl w w.heap.size A xs) (hZ : Sl w w.heap.size Bz zs) (hT : Sp w w.heap.size AT ts) :
    Calls Try.prog 9 #[.slice A xs.length ca, .slice Bz zs.length cz, .slice AT ts.length ct] w (Leaves w (.bool true)) := by
  have mx : (xs.length : Int) ≤ 9223372036854775807 := by unfold maxLen at hx; omega
  have mz : (zs.length : Int) ≤ 9223372036854775807 := by unfold maxLen at hxz; omega
  have mt : (ts.length : Int) ≤ 9223372036854775807 := by unfold maxLen at hxt; omega
  clear hx hxt hxz
  replace hA := Lib.hid hA
  replace hZ := Lib.hid hZ
  replace hT := Lib.hid hT
  have hz := zero27
  by_cases hcmp : zs.length < xs.length
  · skip
    obtain ⟨dx, hdx⟩ : ∃ dx, Hid (xs.take (zs.length) = dx) := ⟨_, Lib.hid rfl⟩
    obtain ⟨dz, hdz⟩ : ∃ dz, Hid (zs.take (zs.length) = dz) := ⟨_, Lib.hid rfl⟩
    have hdxl : Hid (dx.length = zs.length) := by unfold Hid; rw [← hdx.out, List.length_take]; omega
    have hdzl : Hid (dz.length = zs.length) := by unfold Hid; rw [← hdz.out, List.length_take]; omega
    obtain ⟨W1, hW1d⟩ : ∃ W1, Hid (encW dx = W1) := ⟨_, Lib.hid rfl⟩
    obtain ⟨E1, hE1d⟩ : ∃ E1, Hid (encE dx = E1) := ⟨_, Lib.hid rfl⟩
    obtain ⟨W2, hW2d⟩ : ∃ W2, Hid (encW dz = W2) := ⟨_, Lib.hid rfl⟩
    obtain ⟨E2, hE2d⟩ : ∃ E2, Hid (encE dz = E2) := ⟨_, Lib.hid rfl⟩
    obtain ⟨b0, e0⟩ : ∃ b0, ((zs.length : Int) == 0) = b0 := ⟨_, rfl⟩
    obtain ⟨b1, e1⟩ : ∃ b1, decide ((60 : Int) < (zs.length : Int)) = b1 := ⟨_, rfl⟩
    obtain ⟨b2, e2⟩ : ∃ b2, decide ((30 : Int) < (ts.length : Int)) = b2 := ⟨_, rfl⟩
    by_cases hsz : 0 < zs.length ∧ zs.length ≤ 60 ∧ ts.length ≤ 30
    · obtain ⟨hl0, hl1, hl2⟩ := hsz
      obtain rfl : b0 = false := by rw [← e0, beq_eq_false_iff_ne]; omega
      obtain rfl : b1 = false := by rw [← e1, decide_eq_false_iff_not]; omega
      obtain rfl : b2 = false := by rw [← e2, decide_eq_false_iff_not]; omega
      have hs1 := slice_head A xs.length ca (zs.length) (by omega)
      have hs2 := slice_head Bz zs.length cz (zs.length) (by omega)
      go_enter Try.func9, Try.ntmps9
      go_wp2_with fail
      have hW : Hid (Below w.heap.size w w) := Lib.hid (Below.refl _ _)
      have hc := awake_any w
      replace hc := Lib.hid hc
      refine hc.out.mono ?_
      rintro e w1 ⟨rfl, hb⟩
      clear hc
      have hW := Lib.hid (hW.out.trans (hb.mono hW.out.size))
      replace hA := Lib.hid (hA.out.far hb)
      replace hZ := Lib.hid (hZ.out.far hb)
      replace hT := Lib.hid (hT.out.far hb)
      clear hb
      go_wp2_with fail
      refine (make_any _).mono ?_
      rintro e w2 ⟨cs, rfl, hl, hb⟩
      have hb0 := hW.out.trans (hb.mono hW.out.size)
      replace hA := Lib.hid (hA.out.far hb)
      replace hZ := Lib.hid (hZ.out.far hb)
      replace hT := Lib.hid (hT.out.far hb)
      clear hb hW
      go_wp2_with (refine wpList_store_row rfl 28 _ _ rfl w2.heap.size (cells cs) rfl rfl 28 (cells ZT) (heap_alloc_new w2 _) (rsize hl) (zsize hl) (cells_one cs) ?_)
      have hS := St.start (cs := cs) hb0 (cells ZT)
      have hb : Below w2.heap.size w2 ((w2.alloc (Obj.cells (cells ZT) 28)).setRow w2.heap.size (cells cs)) := below_setRow ((Below.refl _ _).alloc (Nat.le_refl _) _) (Nat.le_refl _) _
      replace hA := Lib.hid (hA.out.far hb)
      replace hZ := Lib.hid (hZ.out.far hb)
      replace hT := Lib.hid (hT.out.far hb)
      clear hb0 hb
      generalize hg : w2.heap.size = g at hS ⊢
      rw [hg] at hA hZ hT
      generalize (w2.alloc (Obj.cells (cells ZT) 28)).setRow g (cells cs) = w3 at *
      clear hg hz
      have hi := hS.is hl.1
      have ho := hS.of
      go_wp2_with fail
      dsimp only [Act.put]
      refine Cl.region_way (fun _ => True) 10 [(0, .r), (1, .r), (2, .r), (3, .r), (4, .c), (5, .r), (6, .r), (7, .r), (8, .r), (9, .r)] (by kernel_rfl) (by kernel_rfl) ?_
      intro w4 hk
      have hb := Cl.Keeps.below hk
      clear hk
      have hS := hS.next hb
      have hi := hS.is hl.1
      have ho := hS.of
      replace hA := Lib.hid (hA.out.far hb)
      replace hZ := Lib.hid (hZ.out.far hb)
      replace hT := Lib.hid (hT.out.far hb)
      clear hb
      have hiA : ∀ y : Cl.Since (fun _ => True) w4, isTb y.w g = true := fun y => (hS.next (Cl.Keeps.below y.keeps)).is hl.1
      have hoA : ∀ y : Cl.Since (fun _ => True) w4, tbOf y.w g = cells cs := fun y => (hS.next (Cl.Keeps.below y.keeps)).of
      iterate 4 (refine Cl.way_r rfl ?_; go_big_quiet_step (fail); refine wpQuiet_nil ?_)
      clear hiA hoA
      refine Cl.way_c rfl ?_
      go_wp2_with fail
      have hc := cod_encode (ca := ca) hl ((hA.out.take (zs.length))) (by rw [List.length_take]; omega) (by rw [List.length_take]; omega)
      rw [hdx.out] at hc
      rw [hdxl.out] at hc
      rw [hW1d.out] at hc
      rw [hE1d.out] at hc
      replace hc := Lib.hid hc
      refine hc.out.mono ?_
      rintro e w5 ⟨A1, c1, rfl, hc1, h1, hp1, hb⟩
      clear hc
      have hbk := Lib.hid hb
      have hS := hS.next hb
      have hi := hS.is hl.1
      have ho := hS.of
      replace hA := Lib.hid (hA.out.far hb)
      replace hZ := Lib.hid (hZ.out.far hb)
      replace hT := Lib.hid (hT.out.far hb)
      clear hb
      replace h1 := Lib.hid h1
      go_wp2_with fail
      refine Cl.way_on (Cl.Keeps.of_below hbk.out) ?_
      clear hbk
      replace hp1 := Lib.hid hp1
      iterate 5 (refine Cl.way_r rfl ?_; go_big_quiet_step (fail); refine wpQuiet_nil ?_)
      refine Cl.way_end ?_
      go_wp2_with fail
      refine Cl.region_way (fun _ => True) 10 [(0, .r), (1, .r), (2, .r), (3, .r), (4, .c), (5, .r), (6, .r), (7, .r), (8, .r), (9, .r)] (by kernel_rfl) (by kernel_rfl) ?_
      intro w6 hk
      have hb := Cl.Keeps.below hk
      clear hk
      have hS := hS.next hb
      have hi := hS.is hl.1
      have ho := hS.of
      replace hA := Lib.hid (hA.out.far hb)
      replace hZ := Lib.hid (hZ.out.far hb)
      replace hT := Lib.hid (hT.out.far hb)
      replace h1 := Lib.hid (h1.out.far hb)
      clear hb
      have hiA : ∀ y : Cl.Since (fun _ => True) w6, isTb y.w g = true := fun y => (hS.next (Cl.Keeps.below y.keeps)).is hl.1
      have hoA : ∀ y : Cl.Since (fun _ => True) w6, tbOf y.w g = cells cs := fun y => (hS.next (Cl.Keeps.below y.keeps)).of
      iterate 4 (refine Cl.way_r rfl ?_; go_big_quiet_step (fail); refine wpQuiet_nil ?_)
      clear hiA hoA
      refine Cl.way_c rfl ?_
      go_wp2_with fail
      have hc := cod_encode (ca := cz) hl ((hZ.out.take (zs.length))) (by rw [List.length_take]; omega) (by rw [List.length_take]; omega)
      rw [hdz.out] at hc
      rw [hdzl.out] at hc
      rw [hW2d.out] at hc
      rw [hE2d.out] at hc
      replace hc := Lib.hid hc
      refine hc.out.mono ?_
      rintro e w7 ⟨A2, c2, rfl, hc2, h2, hp2, hb⟩
      clear hc
      have hbk := Lib.hid hb
      have hS := hS.next hb
      have hi := hS.is hl.1
      have ho := hS.of
      replace hA := Lib.hid (hA.out.far hb)
      replace hZ := Lib.hid (hZ.out.far hb)
      replace hT := Lib.hid (hT.out.far hb)
      replace h1 := Lib.hid (h1.out.far hb)
      clear hb
      replace h2 := Lib.hid h2
      go_wp2_with fail
      refine Cl.way_on (Cl.Keeps.of_below hbk.out) ?_
      clear hbk
      replace hp2 := Lib.hid hp2
      iterate 5 (refine Cl.way_r rfl ?_; go_big_quiet_step (fail); refine wpQuiet_nil ?_)
      refine Cl.way_end ?_
      by_cases hE0 : E1 = 0 ∧ E2 = 0
      · skip
        obtain ⟨hE01, hE02⟩ := hE0
        have hz1 : ((E1 : Int) != 0) = false := by simp [hE01]
        have hz2 : ((E2 : Int) != 0) = false := by simp [hE02]
        have hE1 : encE dx = 0 := by rw [hE1d.out]; exact hE01
        obtain ⟨p11, p21, p31⟩ := encE_inv hE1
        have hWe1 : Hid (W1 = enc dx) := by rw [← hW1d.out]; exact encW_of hE1
        have hn1 : Hid (W1.length = zs.length + 16) := by rw [hWe1.out, ← hdxl.out]; exact Lib.hid (enc_len _)
        have hWb1 : Hid (∀ y ∈ W1, y < 1024) := by rw [hWe1.out]; exact Lib.hid (enc_bd p31)
        have hWc1 : Hid (isCw W1) := by rw [hWe1.out]; exact Lib.hid (enc_cw p31)
        clear p11 p21 p31 hE1
        have hE2 : encE dz = 0 := by rw [hE2d.out]; exact hE02
        obtain ⟨p12, p22, p32⟩ := encE_inv hE2
        have hWe2 : Hid (W2 = enc dz) := by rw [← hW2d.out]; exact encW_of hE2
        have hn2 : Hid (W2.length = zs.length + 16) := by rw [hWe2.out, ← hdzl.out]; exact Lib.hid (enc_len _)
        have hWb2 : Hid (∀ y ∈ W2, y < 1024) := by rw [hWe2.out]; exact Lib.hid (enc_bd p32)
        have hWc2 : Hid (isCw W2) := by rw [hWe2.out]; exact Lib.hid (enc_cw p32)
        clear p12 p22 p32 hE2
        have hn := hn1
        have hWb := hWb1
        have hWne : Hid (W1 ≠ []) := by intro e; have h := hn1.out; rw [e] at h; simp at h
        obtain ⟨g1, rfl, _, _⟩ := hp1.out hWne.out
        have hWl : Hid (W1.length ≤ 1023) := by unfold Hid; rw [hn1.out]; omega
        have hW2l : Hid (W2.length = W1.length) := by unfold Hid; rw [hn1.out, hn2.out]
        clear hE01 hE02 hp1 hp2 hA hZ
        have hn0 := below_alloc w7 (.cells #[] 23)
        have hAz := Lib.hid (h1.out.far hn0)
        have hOz := Lib.hid (OwnS.empty w7)
        replace hn0 := Lib.hid hn0
        go_wp2_with (refine app_law2 (w0 := w7) rfl (.tmp 60) (.tmp 61) rfl (.slice (some ⟨w7.heap.size, 0, none⟩) 0 0) [] rfl hOz.out hn0.out ⟨g1, 0, none⟩ c1 W1 rfl hAz.out (by have := hWl.out; simp; omega) ?_)
        intro v1 wa hv hb
        obtain ⟨g5, c5, rfl, hc5, hg5, hpre⟩ := hv.pre (ys := W1) hWne.out
        have hSa := Lib.hid (hS.next hb)
        have h2B : Hid (Sl wa g5 A2 W2) := (h2.out.below hb).more hg5
        have hTB : Hid (Sp wa g5 AT ts) := ⟨hT.out.1, (hT.out.keep fun p hp => hb.cell hp).2.imp id fun ⟨a, e, h1, h2⟩ => ⟨a, e, Nat.lt_of_lt_of_le h1 hg5, h2⟩⟩
        have hgT : Hid (g < g5) := Nat.lt_of_lt_of_le (St.lt hS) hg5
        have hL0 : Hid (DecL wa g5 W1.length (at_ (tn W1 ts 0)) wa) := DecL.start hpre
        have hL0g : Hid (g5 < wa.heap.size) := hL0.out.2.lt
        clear hv hn0 hAz hOz hb hpre hi ho hS h1 h2 hT
        go_wp2_with fail
        go_loopw [14] (fun q wr => ∃ k : Nat, k ≤ ts.length ∧ q = .int .i64 k ∧ DecL wa g5 W1.length (at_ (tn W1 ts k)) wr) (fun q _ => ts.length - (intOf q).toNat)
        case atStart => exact ⟨0, Nat.zero_le _, rfl, hL0.out⟩
        case round =>
          clear hL0
          obtain ⟨k, hk, rfl, hL⟩ := hrel
          replace hL := Lib.hid hL
          by_cases hlt : k < ts.length
          · have hkI : (k : Int) < (ts.length : Int) := by omega
            have hd : decide ((k : Int) < (ts.length : Int)) = true := by rw [decide_eq_true_eq]; exact hkI
            obtain ⟨ad, hAT, hadb, hct0⟩ := hTB.out.2.resolve_left (by intro e; rw [e] at hlt; simp at hlt)
            subst hAT
            have hTk := hTB.out.1 ts[k] (List.getElem_mem hlt)
            obtain ⟨T0, hT0⟩ : ∃ T0, Hid (ts[k].1 = T0) := ⟨_, Lib.hid rfl⟩
            obtain ⟨T1, hT1⟩ : ∃ T1, Hid (ts[k].2 = T1) := ⟨_, Lib.hid rfl⟩
            have hT0b : T0 < 65536 := by rw [← hT0.out]; exact hTk.1
            have hT1b : T1 < 65536 := by rw [← hT1.out]; exact hTk.2
            have hW0 : 0 < W1.length := by have := hn.out; omega
            obtain ⟨p, hp⟩ : ∃ p, Hid (T0 % W1.length = p) := ⟨_, Lib.hid rfl⟩
            have hpW : p < W1.length := by rw [← hp.out]; exact Nat.mod_lt _ hW0
            have hpI : (p : Int) < (W1.length : Int) := by omega
            have hkr : (T0 : Int) % (W1.length : Int) = (p : Int) := by rw [← hp.out]; exact (Int.natCast_emod _ _).symm
            have hcv := tn_bd hWb.out (ts := ts) k
            obtain ⟨Y, hY⟩ : ∃ Y, Hid (at_ (tn W1 ts k) p = Y) := ⟨_, Lib.hid rfl⟩
            have hY1 : Y < 1024 := by rw [← hY.out]; exact at_lt hcv (by decide)
            obtain ⟨B, hB⟩ : ∃ B : Nat, Hid (T1 % 1024 = B) := ⟨_, Lib.hid rfl⟩
            have hB1 : B < 1024 := by rw [← hB.out]; exact Nat.mod_lt _ (by decide)
            have hmask : bits .and .u16 (T1 : Int) 1023 = (B : Int) := by rw [u16_mask (T1 : Int) (by omega) (by omega), ← hB.out]; rfl
            have hxor : bits .xor .u16 (Y : Int) (B : Int) = ((Y ^^^ B : Nat) : Int) := u16_xor_nat Y B (by omega) (by omega)
            obtain ⟨Z, hZ⟩ : ∃ Z, Hid (Y ^^^ B = Z) := ⟨_, Lib.hid rfl⟩
            rw [hZ.out] at hxor
            have hst : Hid (tn W1 ts (k + 1) = (tn W1 ts k).set p Z) := tn_step hlt (by rw [hT0.out]; exact hp.out) hY.out (by rw [hT1.out, hB.out]; exact hZ.out)
            clear hcv hTk
            go_wp2_with fail
            refine Cl.region_way (fun _ => True) 20 [(0, .r), (1, .r), (2, .r), (3, .r), (4, .r), (5, .r), (6, .r), (7, .r), (8, .r), (9, .r), (10, .r), (11, .r), (12, .r), (13, .r), (14, .r), (15, .r), (16, .r), (17, .r), (18, .r), (19, .r), (20, .z)] (by kernel_rfl) (by kernel_rfl) ?_
            intro w1 hk1
            have HL1 := Lib.hid (hL.out.keeps hk1)
            have hcT : ∀ y : Cl.Since (fun _ => True) w1, y.w.cell? (ad.add (k * 2)) = some (.int .u16 (T0 : Int)) ∧ y.w.cell? (ad.add (k * 2 + 1)) = some (.int .u16 (T1 : Int)) := fun y => by
              have hK := (HL1.out.keeps y.keeps).1
              have hgs : g5 ≤ wa.heap.size := Nat.le_of_lt (hL0g.out)
              have h0 := (hct0 k hlt)
              rw [hT0.out, hT1.out] at h0
              refine ⟨?_, ?_⟩
              · rw [World.cell?_of_block (w := wa) (by rw [add_block]; exact hK.block ad.block (by omega) (by omega))]; exact h0.1
              · rw [World.cell?_of_block (w := wa) (by rw [add_block]; exact hK.block ad.block (by omega) (by omega))]; exact h0.2
            have hcT0 := fun y => (hcT y).1
            have hcT1 := fun y => (hcT y).2
            rw [add_next] at hcT1
            have hcA : ∀ y : Cl.Since (fun _ => True) w1, y.w.cell? ⟨g5, p, none⟩ = some (.int .u16 (Y : Int)) := fun y => by
              rw [← hY.out]
              exact (HL1.out.keeps y.keeps).2.cell hpW
            clear hk1 hcT
            iterate 20 (refine Cl.way_r rfl ?_; go_big_quiet_step (fail); refine wpQuiet_nil ?_)
            refine Cl.way_z rfl ?_
            have hc1w := HL1.out.2.cell hpW
            rw [hY.out] at hc1w
            have hf1w := HL1.out.2.frozen p
            have HL2 : Hid (DecL wa g5 W1.length (at_ (tn W1 ts (k + 1))) (w1.setCell ⟨g5, p, none⟩ (.int .u16 (Z : Int)))) := by
              rw [hst.out]
              exact Lib.hid ((HL1.out.set_ p Z).congr fun j _ => by rw [at_set (by rw [tn_len]; exact hpW)])
            clear hcT0 hcT1 hcA hL HL1
            go_wp2_with fail
            refine Cl.Calm.normal ?_
            clear hc1w hf1w
            go_wp2_with fail
            go_roundw
            case rel => exact ⟨k + 1, by omega, by go_num, HL2.out⟩
            case measure => simp [intOf]; omega
          · obtain rfl : k = ts.length := by omega
            have hS := hSa.out.decl hL.out hgT.out
            have hi := hS.is hl.1
            have ho := hS.of
            have h2 := Lib.hid (hL.out.word h2B.out (Nat.le_refl _) (Nat.le_of_lt hL0g.out))
            have hBb : Hid (∀ y ∈ tn W1 ts ts.length, y < 1024) := tn_bd hWb.out _
            have hBl : Hid ((tn W1 ts ts.length).length = W1.length) := tn_len _
            have hBs := Lib.hid (hL.out.2.row hBl.out fun x hx => by have := hBb.out x hx; omega)
            generalize tn W1 ts ts.length = B at *
            clear hL hk hlt h2B hTB
            go_wp2_with fail
            have hc := cod_decode (ca := c5) hl hBs.out (by rw [hBl.out]; have := hWl.out; omega) (by rw [hBl.out]; exact hc5)
            rw [hBl.out] at hc
            replace hc := Lib.hid hc
            refine hc.out.mono ?_
            rintro e w8 ⟨ys, n, f, D1, c6, hD, rfl, hc6, hy, hb⟩
            clear hc
            have hS := hS.next hb
            have hi := hS.is hl.1
            have ho := hS.of
            replace h2 := Lib.hid (h2.out.far hb)
            replace hBs := Lib.hid (hBs.out.far hb)
            clear hb
            replace hy := Lib.hid hy
            replace hy := Lib.hid hy.out.1
            replace hD := Lib.hid hD
            have hyl := hD.out.len
            have hB17 : 17 ≤ B.length := by rw [hBl.out, hn.out]; omega
            have hB1023 : B.length ≤ 1023 := by rw [hBl.out]; exact hWl.out
            replace hB17 := Lib.hid hB17
            replace hB1023 := Lib.hid hB1023
            go_wp2_with fail
            have hcom : dl B W2 = dl W2 B := dl_comm _ _ (by rw [hBl.out, hW2l.out])
            obtain ⟨dd, hdd⟩ : ∃ dd, Hid (dl W2 B = dd) := ⟨_, Lib.hid rfl⟩
            rw [hdd.out] at hcom
            replace hcom := Lib.hid hcom
            have hnear : Hid (dd ≤ 8 → Near B W2) := fun h => near_of (by rw [hW2l.out, hBl.out]) hWb2.out hWc2.out (by rw [hdd.out]; exact h)
            have hc := cod_dist (ca := c5) (cb := c2) hBs.out h2.out (by have := hB1023.out; omega) (by rw [hW2l.out]; have := hWl.out; omega)
            rw [hcom.out] at hc
            rw [hBl.out] at hc
            replace hc := Lib.hid hc
            refine hc.out.mono ?_
            rintro e w9 ⟨rfl, hb⟩
            clear hc
            have hS := hS.next hb
            have hi := hS.is hl.1
            have ho := hS.of
            replace h2 := Lib.hid (h2.out.far hb)
            replace hBs := Lib.hid (hBs.out.far hb)
            replace hy := Lib.hid (hy.out.far hb)
            clear hb
            rcases dec_cases hD.out hB17.out hB1023.out hBb.out with ⟨rfl, hN, hnn⟩ | ⟨rfl, rfl, rfl, hN⟩
            · clear hnn hD
              by_cases he : ys = W2
              · skip
                have hd8 : dd ≤ 8 := by rw [← hdd.out, ← he]; exact hN.near
                have hd : decide ((dd : Int) ≤ 8) = true := by rw [decide_eq_true_eq]; omega
                replace he := Lib.hid he
                clear hd8 hN
                go_wp2_with fail
                have hc := val_same (ca := c6) (cb := c2) (b := true) hy.out h2.out (by omega) (by rw [hW2l.out]; have := hWl.out; omega) (decide_eq_true he.out)
                replace hc := Lib.hid hc
                clear hy
                clear h2
                refine hc.out.mono ?_
                rintro e w10 ⟨rfl, hb⟩
                clear hc
                have hS := hS.next hb
                have hi := hS.is hl.1
                have ho := hS.of
                replace hBs := Lib.hid (hBs.out.far hb)
                clear hb
                go_wp2_with fail
                go_ret
                exact ⟨rfl, hS.below⟩
              · skip
                have hd8 : ¬ dd ≤ 8 := fun h => he (near_unique hB1023.out hN (hnear.out h))
                have hd : decide ((dd : Int) ≤ 8) = false := by rw [decide_eq_false_iff_not]; omega
                have hd2 : decide ((8 : Int) < (dd : Int)) = true := by rw [decide_eq_true_eq]; omega
                replace he := Lib.hid he
                clear hd8 hN
                go_wp2_with fail
                have hc := val_same (ca := c6) (cb := c2) (b := false) hy.out h2.out (by omega) (by rw [hW2l.out]; have := hWl.out; omega) (decide_eq_false he.out)
                replace hc := Lib.hid hc
                refine hc.out.mono ?_
                rintro e w10 ⟨rfl, hb⟩
                clear hc
                have hS := hS.next hb
                have hi := hS.is hl.1
                have ho := hS.of
                replace h2 := Lib.hid (h2.out.far hb)
                replace hBs := Lib.hid (hBs.out.far hb)
                replace hy := Lib.hid (hy.out.far hb)
                clear hb
                go_wp2_with fail
                have hc := val_same (ca := c6) (cb := c2) (b := false) hy.out h2.out (by omega) (by rw [hW2l.out]; have := hWl.out; omega) (decide_eq_false he.out)
                replace hc := Lib.hid hc
                refine hc.out.mono ?_
                rintro e w11 ⟨rfl, hb⟩
                clear hc
                have hS := hS.next hb
                have hi := hS.is hl.1
                have ho := hS.of
                replace h2 := Lib.hid (h2.out.far hb)
                replace hBs := Lib.hid (hBs.out.far hb)
                replace hy := Lib.hid (hy.out.far hb)
                clear hb
                go_wp2_with fail
                go_ret
                exact ⟨rfl, hS.below⟩
            · skip
              have hd8 : ¬ dd ≤ 8 := fun h => hN _ (hnear.out h)
              have hd2 : decide ((8 : Int) < (dd : Int)) = true := by rw [decide_eq_true_eq]; omega
              clear hd8 hN hD
              go_wp2_with fail
              go_ret
              exact ⟨rfl, hS.below⟩
      · skip
        obtain ⟨z1, hz1⟩ : ∃ z1, ((E1 : Int) != 0) = z1 := ⟨_, rfl⟩
        obtain ⟨z2, hz2⟩ : ∃ z2, ((E2 : Int) != 0) = z2 := ⟨_, rfl⟩
        have hor : Hid (z1 = true ∨ z2 = true) := by
          unfold Hid
          rw [← hz1, ← hz2]
          simp only [bne_iff_ne, ne_eq]
          omega
        clear hE0
        cases z1
        · obtain rfl : z2 = true := by rcases hor.out with h | h <;> first | exact h | cases h
          go_wp2_with fail
          go_ret
          exact ⟨rfl, hS.below⟩
        · go_wp2_with fail
          go_ret
          exact ⟨rfl, hS.below⟩
    · have hor : Hid (b0 = true ∨ b1 = true ∨ b2 = true) := by
        unfold Hid
        rw [← e0, ← e1, ← e2, decide_eq_true_eq, decide_eq_true_eq, beq_iff_eq]
        omega
      clear hsz
      cases b0
      · cases b1
        · obtain rfl : b2 = true := by rcases hor.out with h | h | h <;> first | exact h | cases h
          go_enter Try.func9, Try.ntmps9
          go_wp2_with fail
          refine (awake_any w).mono ?_
          rintro e w1 ⟨rfl, hb⟩
          go_wp2_with fail
          go_ret
          exact ⟨rfl, hb⟩
        · skip
          go_enter Try.func9, Try.ntmps9
          go_wp2_with fail
          refine (awake_any w).mono ?_
          rintro e w1 ⟨rfl, hb⟩
          go_wp2_with fail
          go_ret
          exact ⟨rfl, hb⟩
      · skip
        go_enter Try.func9, Try.ntmps9
        go_wp2_with fail
        refine (awake_any w).mono ?_
        rintro e w1 ⟨rfl, hb⟩
        go_wp2_with fail
        go_ret
        exact ⟨rfl, hb⟩
  · skip
    obtain ⟨dx, hdx⟩ : ∃ dx, Hid (xs.take (xs.length) = dx) := ⟨_, Lib.hid rfl⟩
    obtain ⟨dz, hdz⟩ : ∃ dz, Hid (zs.take (xs.length) = dz) := ⟨_, Lib.hid rfl⟩
    have hdxl : Hid (dx.length = xs.length) := by unfold Hid; rw [← hdx.out, List.length_take]; omega
    have hdzl : Hid (dz.length = xs.length) := by unfold Hid; rw [← hdz.out, List.length_take]; omega
    obtain ⟨W1, hW1d⟩ : ∃ W1, Hid (encW dx = W1) := ⟨_, Lib.hid rfl⟩
    obtain ⟨E1, hE1d⟩ : ∃ E1, Hid (encE dx = E1) := ⟨_, Lib.hid rfl⟩
    obtain ⟨W2, hW2d⟩ : ∃ W2, Hid (encW dz = W2) := ⟨_, Lib.hid rfl⟩
    obtain ⟨E2, hE2d⟩ : ∃ E2, Hid (encE dz = E2) := ⟨_, Lib.hid rfl⟩
    obtain ⟨b0, e0⟩ : ∃ b0, ((xs.length : Int) == 0) = b0 := ⟨_, rfl⟩
    obtain ⟨b1, e1⟩ : ∃ b1, decide ((60 : Int) < (xs.length : Int)) = b1 := ⟨_, rfl⟩
    obtain ⟨b2, e2⟩ : ∃ b2, decide ((30 : Int) < (ts.length : Int)) = b2 := ⟨_, rfl⟩
    by_cases hsz : 0 < xs.length ∧ xs.length ≤ 60 ∧ ts.length ≤ 30
    · obtain ⟨hl0, hl1, hl2⟩ := hsz
      obtain rfl : b0 = false := by rw [← e0, beq_eq_false_iff_ne]; omega
      obtain rfl : b1 = false := by rw [← e1, decide_eq_false_iff_not]; omega
      obtain rfl : b2 = false := by rw [← e2, decide_eq_false_iff_not]; omega
      have hs1 := slice_head A xs.length ca (xs.length) (by omega)
      have hs2 := slice_head Bz zs.length cz (xs.length) (by omega)
      go_enter Try.func9, Try.ntmps9
      go_wp2_with fail
      have hW : Hid (Below w.heap.size w w) := Lib.hid (Below.refl _ _)
      have hc := awake_any w
      replace hc := Lib.hid hc
      refine hc.out.mono ?_
      rintro e w1 ⟨rfl, hb⟩
      clear hc
      have hW := Lib.hid (hW.out.trans (hb.mono hW.out.size))
      replace hA := Lib.hid (hA.out.far hb)
      replace hZ := Lib.hid (hZ.out.far hb)
      replace hT := Lib.hid (hT.out.far hb)
      clear hb
      go_wp2_with fail
      refine (make_any _).mono ?_
      rintro e w2 ⟨cs, rfl, hl, hb⟩
      have hb0 := hW.out.trans (hb.mono hW.out.size)
      replace hA := Lib.hid (hA.out.far hb)
      replace hZ := Lib.hid (hZ.out.far hb)
      replace hT := Lib.hid (hT.out.far hb)
      clear hb hW
      go_wp2_with (refine wpList_store_row rfl 28 _ _ rfl w2.heap.size (cells cs) rfl rfl 28 (cells ZT) (heap_alloc_new w2 _) (rsize hl) (zsize hl) (cells_one cs) ?_)
      have hS := St.start (cs := cs) hb0 (cells ZT)
      have hb : Below w2.heap.size w2 ((w2.alloc (Obj.cells (cells ZT) 28)).setRow w2.heap.size (cells cs)) := below_setRow ((Below.refl _ _).alloc (Nat.le_refl _) _) (Nat.le_refl _) _
      replace hA := Lib.hid (hA.out.far hb)
      replace hZ := Lib.hid (hZ.out.far hb)
      replace hT := Lib.hid (hT.out.far hb)
      clear hb0 hb
      generalize hg : w2.heap.size = g at hS ⊢
      rw [hg] at hA hZ hT
      generalize (w2.alloc (Obj.cells (cells ZT) 28)).setRow g (cells cs) = w3 at *
      clear hg hz
      have hi := hS.is hl.1
      have ho := hS.of
      go_wp2_with fail
      dsimp only [Act.put]
      refine Cl.region_way (fun _ => True) 10 [(0, .r), (1, .r), (2, .r), (3, .r), (4, .c), (5, .r), (6, .r), (7, .r), (8, .r), (9, .r)] (by kernel_rfl) (by kernel_rfl) ?_
      intro w4 hk
      have hb := Cl.Keeps.below hk
      clear hk
      have hS := hS.next hb
      have hi := hS.is hl.1
      have ho := hS.of
      replace hA := Lib.hid (hA.out.far hb)
      replace hZ := Lib.hid (hZ.out.far hb)
      replace hT := Lib.hid (hT.out.far hb)
      clear hb
      have hiA : ∀ y : Cl.Since (fun _ => True) w4, isTb y.w g = true := fun y => (hS.next (Cl.Keeps.below y.keeps)).is hl.1
      have hoA : ∀ y : Cl.Since (fun _ => True) w4, tbOf y.w g = cells cs := fun y => (hS.next (Cl.Keeps.below y.keeps)).of
      iterate 4 (refine Cl.way_r rfl ?_; go_big_quiet_step (fail); refine wpQuiet_nil ?_)
      clear hiA hoA
      refine Cl.way_c rfl ?_
      go_wp2_with fail
      have hc := cod_encode (ca := ca) hl ((hA.out.take (xs.length))) (by rw [List.length_take]; omega) (by rw [List.length_take]; omega)
      rw [hdx.out] at hc
      rw [hdxl.out] at hc
      rw [hW1d.out] at hc
      rw [hE1d.out] at hc
      replace hc := Lib.hid hc
      refine hc.out.mono ?_
      rintro e w5 ⟨A1, c1, rfl, hc1, h1, hp1, hb⟩
      clear hc
      have hbk := Lib.hid hb
      have hS := hS.next hb
      have hi := hS.is hl.1
      have ho := hS.of
      replace hA := Lib.hid (hA.out.far hb)
      replace hZ := Lib.hid (hZ.out.far hb)
      replace hT := Lib.hid (hT.out.far hb)
      clear hb
      replace h1 := Lib.hid h1
      go_wp2_with fail
      refine Cl.way_on (Cl.Keeps.of_below hbk.out) ?_
      clear hbk
      replace hp1 := Lib.hid hp1
      iterate 5 (refine Cl.way_r rfl ?_; go_big_quiet_step (fail); refine wpQuiet_nil ?_)
      refine Cl.way_end ?_
      go_wp2_with fail
      refine Cl.region_way (fun _ => True) 10 [(0, .r), (1, .r), (2, .r), (3, .r), (4, .c), (5, .r), (6, .r), (7, .r), (8, .r), (9, .r)] (by kernel_rfl) (by kernel_rfl) ?_
      intro w6 hk
      have hb := Cl.Keeps.below hk
      clear hk
      have hS := hS.next hb
      have hi := hS.is hl.1
      have ho := hS.of
      replace hA := Lib.hid (hA.out.far hb)
      replace hZ := Lib.hid (hZ.out.far hb)
      replace hT := Lib.hid (hT.out.far hb)
      replace h1 := Lib.hid (h1.out.far hb)
      clear hb
      have hiA : ∀ y : Cl.Since (fun _ => True) w6, isTb y.w g = true := fun y => (hS.next (Cl.Keeps.below y.keeps)).is hl.1
      have hoA : ∀ y : Cl.Since (fun _ => True) w6, tbOf y.w g = cells cs := fun y => (hS.next (Cl.Keeps.below y.keeps)).of
      iterate 4 (refine Cl.way_r rfl ?_; go_big_quiet_step (fail); refine wpQuiet_nil ?_)
      clear hiA hoA
      refine Cl.way_c rfl ?_
      go_wp2_with fail
      have hc := cod_encode (ca := cz) hl ((hZ.out.take (xs.length))) (by rw [List.length_take]; omega) (by rw [List.length_take]; omega)
      rw [hdz.out] at hc
      rw [hdzl.out] at hc
      rw [hW2d.out] at hc
      rw [hE2d.out] at hc
      replace hc := Lib.hid hc
      refine hc.out.mono ?_
      rintro e w7 ⟨A2, c2, rfl, hc2, h2, hp2, hb⟩
      clear hc
      have hbk := Lib.hid hb
      have hS := hS.next hb
      have hi := hS.is hl.1
      have ho := hS.of
      replace hA := Lib.hid (hA.out.far hb)
      replace hZ := Lib.hid (hZ.out.far hb)
      replace hT := Lib.hid (hT.out.far hb)
      replace h1 := Lib.hid (h1.out.far hb)
      clear hb
      replace h2 := Lib.hid h2
      go_wp2_with fail
      refine Cl.way_on (Cl.Keeps.of_below hbk.out) ?_
      clear hbk
      replace hp2 := Lib.hid hp2
      iterate 5 (refine Cl.way_r rfl ?_; go_big_quiet_step (fail); refine wpQuiet_nil ?_)
      refine Cl.way_end ?_
      by_cases hE0 : E1 = 0 ∧ E2 = 0
      · skip
        obtain ⟨hE01, hE02⟩ := hE0
        have hz1 : ((E1 : Int) != 0) = false := by simp [hE01]
        have hz2 : ((E2 : Int) != 0) = false := by simp [hE02]
        have hE1 : encE dx = 0 := by rw [hE1d.out]; exact hE01
        obtain ⟨p11, p21, p31⟩ := encE_inv hE1
        have hWe1 : Hid (W1 = enc dx) := by rw [← hW1d.out]; exact encW_of hE1
        have hn1 : Hid (W1.length = xs.length + 16) := by rw [hWe1.out, ← hdxl.out]; exact Lib.hid (enc_len _)
        have hWb1 : Hid (∀ y ∈ W1, y < 1024) := by rw [hWe1.out]; exact Lib.hid (enc_bd p31)
        have hWc1 : Hid (isCw W1) := by rw [hWe1.out]; exact Lib.hid (enc_cw p31)
        clear p11 p21 p31 hE1
        have hE2 : encE dz = 0 := by rw [hE2d.out]; exact hE02
        obtain ⟨p12, p22, p32⟩ := encE_inv hE2
        have hWe2 : Hid (W2 = enc dz) := by rw [← hW2d.out]; exact encW_of hE2
        have hn2 : Hid (W2.length = xs.length + 16) := by rw [hWe2.out, ← hdzl.out]; exact Lib.hid (enc_len _)
        have hWb2 : Hid (∀ y ∈ W2, y < 1024) := by rw [hWe2.out]; exact Lib.hid (enc_bd p32)
        have hWc2 : Hid (isCw W2) := by rw [hWe2.out]; exact Lib.hid (enc_cw p32)
        clear p12 p22 p32 hE2
        have hn := hn1
        have hWb := hWb1
        have hWne : Hid (W1 ≠ []) := by intro e; have h := hn1.out; rw [e] at h; simp at h
        obtain ⟨g1, rfl, _, _⟩ := hp1.out hWne.out
        have hWl : Hid (W1.length ≤ 1023) := by unfold Hid; rw [hn1.out]; omega
        have hW2l : Hid (W2.length = W1.length) := by unfold Hid; rw [hn1.out, hn2.out]
        clear hE01 hE02 hp1 hp2 hA hZ
        have hn0 := below_alloc w7 (.cells #[] 23)
        have hAz := Lib.hid (h1.out.far hn0)
        have hOz := Lib.hid (OwnS.empty w7)
        replace hn0 := Lib.hid hn0
        go_wp2_with (refine app_law2 (w0 := w7) rfl (.tmp 60) (.tmp 61) rfl (.slice (some ⟨w7.heap.size, 0, none⟩) 0 0) [] rfl hOz.out hn0.out ⟨g1, 0, none⟩ c1 W1 rfl hAz.out (by have := hWl.out; simp; omega) ?_)
        intro v1 wa hv hb
        obtain ⟨g5, c5, rfl, hc5, hg5, hpre⟩ := hv.pre (ys := W1) hWne.out
        have hSa := Lib.hid (hS.next hb)
        have h2B : Hid (Sl wa g5 A2 W2) := (h2.out.below hb).more hg5
        have hTB : Hid (Sp wa g5 AT ts) := ⟨hT.out.1, (hT.out.keep fun p hp => hb.cell hp).2.imp id fun ⟨a, e, h1, h2⟩ => ⟨a, e, Nat.lt_of_lt_of_le h1 hg5, h2⟩⟩
        have hgT : Hid (g < g5) := Nat.lt_of_lt_of_le (St.lt hS) hg5
        have hL0 : Hid (DecL wa g5 W1.length (at_ (tn W1 ts 0)) wa) := DecL.start hpre
        have hL0g : Hid (g5 < wa.heap.size) := hL0.out.2.lt
        clear hv hn0 hAz hOz hb hpre hi ho hS h1 h2 hT
        go_wp2_with fail
        go_loopw [14] (fun q wr => ∃ k : Nat, k ≤ ts.length ∧ q = .int .i64 k ∧ DecL wa g5 W1.length (at_ (tn W1 ts k)) wr) (fun q _ => ts.length - (intOf q).toNat)
        case atStart => exact ⟨0, Nat.zero_le _, rfl, hL0.out⟩
        case round =>
          clear hL0
          obtain ⟨k, hk, rfl, hL⟩ := hrel
          replace hL := Lib.hid hL
          by_cases hlt : k < ts.length
          · have hkI : (k : Int) < (ts.length : Int) := by omega
            have hd : decide ((k : Int) < (ts.length : Int)) = true := by rw [decide_eq_true_eq]; exact hkI
            obtain ⟨ad, hAT, hadb, hct0⟩ := hTB.out.2.resolve_left (by intro e; rw [e] at hlt; simp at hlt)
            subst hAT
            have hTk := hTB.out.1 ts[k] (List.getElem_mem hlt)
            obtain ⟨T0, hT0⟩ : ∃ T0, Hid (ts[k].1 = T0) := ⟨_, Lib.hid rfl⟩
            obtain ⟨T1, hT1⟩ : ∃ T1, Hid (ts[k].2 = T1) := ⟨_, Lib.hid rfl⟩
            have hT0b : T0 < 65536 := by rw [← hT0.out]; exact hTk.1
            have hT1b : T1 < 65536 := by rw [← hT1.out]; exact hTk.2
            have hW0 : 0 < W1.length := by have := hn.out; omega
            obtain ⟨p, hp⟩ : ∃ p, Hid (T0 % W1.length = p) := ⟨_, Lib.hid rfl⟩
            have hpW : p < W1.length := by rw [← hp.out]; exact Nat.mod_lt _ hW0
            have hpI : (p : Int) < (W1.length : Int) := by omega
            have hkr : (T0 : Int) % (W1.length : Int) = (p : Int) := by rw [← hp.out]; exact (Int.natCast_emod _ _).symm
            have hcv := tn_bd hWb.out (ts := ts) k
            obtain ⟨Y, hY⟩ : ∃ Y, Hid (at_ (tn W1 ts k) p = Y) := ⟨_, Lib.hid rfl⟩
            have hY1 : Y < 1024 := by rw [← hY.out]; exact at_lt hcv (by decide)
            obtain ⟨B, hB⟩ : ∃ B : Nat, Hid (T1 % 1024 = B) := ⟨_, Lib.hid rfl⟩
            have hB1 : B < 1024 := by rw [← hB.out]; exact Nat.mod_lt _ (by decide)
            have hmask : bits .and .u16 (T1 : Int) 1023 = (B : Int) := by rw [u16_mask (T1 : Int) (by omega) (by omega), ← hB.out]; rfl
            have hxor : bits .xor .u16 (Y : Int) (B : Int) = ((Y ^^^ B : Nat) : Int) := u16_xor_nat Y B (by omega) (by omega)
            obtain ⟨Z, hZ⟩ : ∃ Z, Hid (Y ^^^ B = Z) := ⟨_, Lib.hid rfl⟩
            rw [hZ.out] at hxor
            have hst : Hid (tn W1 ts (k + 1) = (tn W1 ts k).set p Z) := tn_step hlt (by rw [hT0.out]; exact hp.out) hY.out (by rw [hT1.out, hB.out]; exact hZ.out)
            clear hcv hTk
            go_wp2_with fail
            refine Cl.region_way (fun _ => True) 20 [(0, .r), (1, .r), (2, .r), (3, .r), (4, .r), (5, .r), (6, .r), (7, .r), (8, .r), (9, .r), (10, .r), (11, .r), (12, .r), (13, .r), (14, .r), (15, .r), (16, .r), (17, .r), (18, .r), (19, .r), (20, .z)] (by kernel_rfl) (by kernel_rfl) ?_
            intro w1 hk1
            have HL1 := Lib.hid (hL.out.keeps hk1)
            have hcT : ∀ y : Cl.Since (fun _ => True) w1, y.w.cell? (ad.add (k * 2)) = some (.int .u16 (T0 : Int)) ∧ y.w.cell? (ad.add (k * 2 + 1)) = some (.int .u16 (T1 : Int)) := fun y => by
              have hK := (HL1.out.keeps y.keeps).1
              have hgs : g5 ≤ wa.heap.size := Nat.le_of_lt (hL0g.out)
              have h0 := (hct0 k hlt)
              rw [hT0.out, hT1.out] at h0
              refine ⟨?_, ?_⟩
              · rw [World.cell?_of_block (w := wa) (by rw [add_block]; exact hK.block ad.block (by omega) (by omega))]; exact h0.1
              · rw [World.cell?_of_block (w := wa) (by rw [add_block]; exact hK.block ad.block (by omega) (by omega))]; exact h0.2
            have hcT0 := fun y => (hcT y).1
            have hcT1 := fun y => (hcT y).2
            rw [add_next] at hcT1
            have hcA : ∀ y : Cl.Since (fun _ => True) w1, y.w.cell? ⟨g5, p, none⟩ = some (.int .u16 (Y : Int)) := fun y => by
              rw [← hY.out]
              exact (HL1.out.keeps y.keeps).2.cell hpW
            clear hk1 hcT
            iterate 20 (refine Cl.way_r rfl ?_; go_big_quiet_step (fail); refine wpQuiet_nil ?_)
            refine Cl.way_z rfl ?_
            have hc1w := HL1.out.2.cell hpW
            rw [hY.out] at hc1w
            have hf1w := HL1.out.2.frozen p
            have HL2 : Hid (DecL wa g5 W1.length (at_ (tn W1 ts (k + 1))) (w1.setCell ⟨g5, p, none⟩ (.int .u16 (Z : Int)))) := by
              rw [hst.out]
              exact Lib.hid ((HL1.out.set_ p Z).congr fun j _ => by rw [at_set (by rw [tn_len]; exact hpW)])
            clear hcT0 hcT1 hcA hL HL1
            go_wp2_with fail
            refine Cl.Calm.normal ?_
            clear hc1w hf1w
            go_wp2_with fail
            go_roundw
            case rel => exact ⟨k + 1, by omega, by go_num, HL2.out⟩
            case measure => simp [intOf]; omega
          · obtain rfl : k = ts.length := by omega
            have hS := hSa.out.decl hL.out hgT.out
            have hi := hS.is hl.1
            have ho := hS.of
            have h2 := Lib.hid (hL.out.word h2B.out (Nat.le_refl _) (Nat.le_of_lt hL0g.out))
            have hBb : Hid (∀ y ∈ tn W1 ts ts.length, y < 1024) := tn_bd hWb.out _
            have hBl : Hid ((tn W1 ts ts.length).length = W1.length) := tn_len _
            have hBs := Lib.hid (hL.out.2.row hBl.out fun x hx => by have := hBb.out x hx; omega)
            generalize tn W1 ts ts.length = B at *
            clear hL hk hlt h2B hTB
            go_wp2_with fail
            have hc := cod_decode (ca := c5) hl hBs.out (by rw [hBl.out]; have := hWl.out; omega) (by rw [hBl.out]; exact hc5)
            rw [hBl.out] at hc
            replace hc := Lib.hid hc
            refine hc.out.mono ?_
            rintro e w8 ⟨ys, n, f, D1, c6, hD, rfl, hc6, hy, hb⟩
            clear hc
            have hS := hS.next hb
            have hi := hS.is hl.1
            have ho := hS.of
            replace h2 := Lib.hid (h2.out.far hb)
            replace hBs := Lib.hid (hBs.out.far hb)
            clear hb
            replace hy := Lib.hid hy
            replace hy := Lib.hid hy.out.1
            replace hD := Lib.hid hD
            have hyl := hD.out.len
            have hB17 : 17 ≤ B.length := by rw [hBl.out, hn.out]; omega
            have hB1023 : B.length ≤ 1023 := by rw [hBl.out]; exact hWl.out
            replace hB17 := Lib.hid hB17
            replace hB1023 := Lib.hid hB1023
            go_wp2_with fail
            have hcom : dl B W2 = dl W2 B := dl_comm _ _ (by rw [hBl.out, hW2l.out])
            obtain ⟨dd, hdd⟩ : ∃ dd, Hid (dl W2 B = dd) := ⟨_, Lib.hid rfl⟩
            rw [hdd.out] at hcom
            replace hcom := Lib.hid hcom
            have hnear : Hid (dd ≤ 8 → Near B W2) := fun h => near_of (by rw [hW2l.out, hBl.out]) hWb2.out hWc2.out (by rw [hdd.out]; exact h)
            have hc := cod_dist (ca := c5) (cb := c2) hBs.out h2.out (by have := hB1023.out; omega) (by rw [hW2l.out]; have := hWl.out; omega)
            rw [hcom.out] at hc
            rw [hBl.out] at hc
            replace hc := Lib.hid hc
            refine hc.out.mono ?_
            rintro e w9 ⟨rfl, hb⟩
            clear hc
            have hS := hS.next hb
            have hi := hS.is hl.1
            have ho := hS.of
            replace h2 := Lib.hid (h2.out.far hb)
            replace hBs := Lib.hid (hBs.out.far hb)
            replace hy := Lib.hid (hy.out.far hb)
            clear hb
            rcases dec_cases hD.out hB17.out hB1023.out hBb.out with ⟨rfl, hN, hnn⟩ | ⟨rfl, rfl, rfl, hN⟩
            · clear hnn hD
              by_cases he : ys = W2
              · skip
                have hd8 : dd ≤ 8 := by rw [← hdd.out, ← he]; exact hN.near
                have hd : decide ((dd : Int) ≤ 8) = true := by rw [decide_eq_true_eq]; omega
                replace he := Lib.hid he
                clear hd8 hN
                go_wp2_with fail
                have hc := val_same (ca := c6) (cb := c2) (b := true) hy.out h2.out (by omega) (by rw [hW2l.out]; have := hWl.out; omega) (decide_eq_true he.out)
                replace hc := Lib.hid hc
                clear hy
                clear h2
                refine hc.out.mono ?_
                rintro e w10 ⟨rfl, hb⟩
                clear hc
                have hS := hS.next hb
                have hi := hS.is hl.1
                have ho := hS.of
                replace hBs := Lib.hid (hBs.out.far hb)
                clear hb
                go_wp2_with fail
                go_ret
                exact ⟨rfl, hS.below⟩
              · skip
                have hd8 : ¬ dd ≤ 8 := fun h => he (near_unique hB1023.out hN (hnear.out h))
                have hd : decide ((dd : Int) ≤ 8) = false := by rw [decide_eq_false_iff_not]; omega
                have hd2 : decide ((8 : Int) < (dd : Int)) = true := by rw [decide_eq_true_eq]; omega
                replace he := Lib.hid he
                clear hd8 hN
                go_wp2_with fail
                have hc := val_same (ca := c6) (cb := c2) (b := false) hy.out h2.out (by omega) (by rw [hW2l.out]; have := hWl.out; omega) (decide_eq_false he.out)
                replace hc := Lib.hid hc
                refine hc.out.mono ?_
                rintro e w10 ⟨rfl, hb⟩
                clear hc
                have hS := hS.next hb
                have hi := hS.is hl.1
                have ho := hS.of
                replace h2 := Lib.hid (h2.out.far hb)
                replace hBs := Lib.hid (hBs.out.far hb)
                replace hy := Lib.hid (hy.out.far hb)
                clear hb
                go_wp2_with fail
                have hc := val_same (ca := c6) (cb := c2) (b := false) hy.out h2.out (by omega) (by rw [hW2l.out]; have := hWl.out; omega) (decide_eq_false he.out)
                replace hc := Lib.hid hc
                refine hc.out.mono ?_
                rintro e w11 ⟨rfl, hb⟩
                clear hc
                have hS := hS.next hb
                have hi := hS.is hl.1
                have ho := hS.of
                replace h2 := Lib.hid (h2.out.far hb)
                replace hBs := Lib.hid (hBs.out.far hb)
                replace hy := Lib.hid (hy.out.far hb)
                clear hb
                go_wp2_with fail
                go_ret
                exact ⟨rfl, hS.below⟩
            · skip
              have hd8 : ¬ dd ≤ 8 := fun h => hN _ (hnear.out h)
              have hd2 : decide ((8 : Int) < (dd : Int)) = true := by rw [decide_eq_true_eq]; omega
              clear hd8 hN hD
              go_wp2_with fail
              go_ret
              exact ⟨rfl, hS.below⟩
      · skip
        obtain ⟨z1, hz1⟩ : ∃ z1, ((E1 : Int) != 0) = z1 := ⟨_, rfl⟩
        obtain ⟨z2, hz2⟩ : ∃ z2, ((E2 : Int) != 0) = z2 := ⟨_, rfl⟩
        have hor : Hid (z1 = true ∨ z2 = true) := by
          unfold Hid
          rw [← hz1, ← hz2]
          simp only [bne_iff_ne, ne_eq]
          omega
        clear hE0
        cases z1
        · obtain rfl : z2 = true := by rcases hor.out with h | h <;> first | exact h | cases h
          go_wp2_with fail
          go_ret
          exact ⟨rfl, hS.below⟩
        · go_wp2_with fail
          go_ret
          exact ⟨rfl, hS.below⟩
    · have hor : Hid (b0 = true ∨ b1 = true ∨ b2 = true) := by
        unfold Hid
        rw [← e0, ← e1, ← e2, decide_eq_true_eq, decide_eq_true_eq, beq_iff_eq]
        omega
      clear hsz
      cases b0
      · cases b1
        · obtain rfl : b2 = true := by rcases hor.out with h | h | h <;> first | exact h | cases h
          go_enter Try.func9, Try.ntmps9
          go_wp2_with fail
          refine (awake_any w).mono ?_
          rintro e w1 ⟨rfl, hb⟩
          go_wp2_with fail
          go_ret
          exact ⟨rfl, hb⟩
        · skip
          go_enter Try.func9, Try.ntmps9
          go_wp2_with fail
          refine (awake_any w).mono ?_
          rintro e w1 ⟨rfl, hb⟩
          go_wp2_with fail
          go_ret
          exact ⟨rfl, hb⟩
      · skip
        go_enter Try.func9, Try.ntmps9
        go_wp2_with fail
        refine (awake_any w).mono ?_
        rintro e w1 ⟨rfl, hb⟩
        go_wp2_with fail
        go_ret
        exact ⟨rfl, hb⟩
end Go.Proofs.Ytciafkobnlfpbaa
namespace Go.Proofs.Ytciafkobnlfpbaa.codeFar
open Go.ChangeShapes Go.WideShapes Go.ChangeAt Go.RowKit Go.Gf
set_option linter.unusedVariables false

theorem own : ownKnob Try.prog.godebug = none := by kernel_rfl

theorem walk (A0 : Option Addr) (x0 : List Nat) (c0 : Nat) (l0 : x0.length ≤ c0) (m0 : c0 ≤ maxLen) (A1 : Option Addr) (x1 : List Nat) (c1 : Nat) (l1 : x1.length ≤ c1) (m1 : c1 ≤ maxLen) (A2 : Option Addr) (x2 : List (Nat × Nat)) (c2 : Nat) (l2 : x2.length ≤ c2) (m2 : c2 ≤ maxLen) (w : World) (s0 : Sl w w.heap.size A0 x0) (s1 : Sl w w.heap.size A1 x1) (s2 : Sp w w.heap.size A2 x2) :
    Calls Try.prog 9 #[.slice A0 x0.length c0, .slice A1 x1.length c1, .slice A2 x2.length c2] w fun e w' => e = .returned (.bool true) ∧ Below w.heap.size w w' := far_law A0 x0 c0 l0 m0 A1 x1 c1 l1 m1 A2 x2 c2 l2 m2 w s0 s1 s2

set_option maxRecDepth 100000 in
theorem lifted (os : Os) (started : os.Started) (H : Type) (enc : TypeId × Value → H) :
    ReturnsInHanded {} Try.checked os 9 .any (Rows.codeFarSpec.pre6 enc Try.prog Try.f9 Rows.codeFarRow.domain false) (Rows.codeFarSpec.post enc Try.prog Try.f9 false true false false) := by
  refine returnsInHanded_of_change (C := Try.checked) own started (by kernel_rfl) Try.func9
    (ChangeSpec.witness6 (enc := enc) (C := Try.checked) false ⟨#[], #[.slice none 0 0, .slice none 0 0, .slice none 0 0], []⟩ 8 (by kernel_rfl) (by kernel_rfl) (by kernel_rfl) (by kernel_rfl)) ?_
  intro W base args ds gs before hval0 hW hcnd _
  have hval : ∀ (j : Nat) t v, Try.f9.params[j]? = some t → args[j]? = some v → Value.okWide Try.prog W .any base t v := hval0
  have hW' := hW
  obtain ⟨p, q, hA0, hV, rfl, hfz, hnd⟩ := hW
  have hA : DataW.TrodAll enc Try.prog W 0 (fun _ => true) true Try.f9.params.toList args.toList ds p := hA0
  rw [Try.params9] at hA hval
  obtain ⟨v0, vs0, d0, ds0, p0, q0, hargs, rfl, rfl, h0, r0⟩ := trodAll_cons hA
  obtain ⟨v1, vs1, d1, ds1, p1, q1, rfl, rfl, rfl, h1, r1⟩ := trodAll_cons r0
  obtain ⟨v2, vs2, d2, ds2, p2, q2, rfl, rfl, rfl, h2, r2⟩ := trodAll_cons r1
  obtain ⟨rfl, rfl, rfl⟩ := trodAll_nil r2
  obtain rfl : args = #[v0, v1, v2] := by cases args; simp_all
  obtain ⟨rfl, rfl⟩ := trodVars_none hV
  obtain ⟨A0, x0, c0, rfl, l0, m0, s0, t0⟩ := open_sl Try.underlying22 Try.underlying23 (by kernel_rfl : Try.prog.cellsOf 23 = 1) (hval 0 22 v0 rfl rfl) h0
  obtain ⟨A1, x1, c1, rfl, l1, m1, s1, t1⟩ := open_sl Try.underlying22 Try.underlying23 (by kernel_rfl : Try.prog.cellsOf 23 = 1) (hval 1 22 v1 rfl rfl) h1
  obtain ⟨A2, x2, c2, rfl, l2, m2, s2, t2⟩ := open_slp Try.underlying47 Try.underlying48 Try.underlying23 (by kernel_rfl : Try.prog.cellsOf 48 = 2) (by kernel_rfl : Try.prog.cellsOf 23 = 1) (hval 2 47 v2 rfl rfl) h2
  clear hA0 hval0
  refine (walk A0 x0 c0 l0 m0 A1 x1 c1 l1 m1 A2 x2 c2 l2 m2 W s0 s1 s2).mono fun e W' ⟨he, hg⟩ => ?_
  subst he
  exact ⟨_, rfl, Cl.post_below (pv := []) hW' (fun _ _ _ => (trodAll_cons_mk (shut_bool Try.underlying4 _) trodAll_mk0)) (fun sp hsp => (trodAll_cons_mk (t0 W' hg sp (fun q hq => hsp q (by simp [hq]))) (trodAll_cons_mk (t1 W' hg sp (fun q hq => hsp q (by simp [hq]))) (trodAll_cons_mk (t2 W' hg sp (fun q hq => hsp q (by simp [hq]))) trodAll_mk0)))) (fun _ _ => rfl) rfl
    hg (ok_one (by kernel_rfl) rfl (okWide_bool_mk Try.underlying4 _))⟩

theorem over : Rows.codeFarRow.holds Try.pinned (OpenSpec.ofChange Rows.codeFarSpec) :=
  OpenClaim.holds_of_wide 9 Try.f9 rfl rfl rfl rfl rfl rfl rfl ⟨rfl, rfl, rfl, rfl, rfl⟩ rfl rfl rfl rfl rfl (by kernel_rfl) Try.func9 (by kernel_rfl)
    (of_decide_eq_true (by kernel_rfl)) (by unfold Func.isWrapper; first | (rw [if_pos (by decide +kernel)]; kernel_rfl) | (rw [if_neg (by decide +kernel)]; exact ⟨rfl, rfl⟩))
    (fun os started H enc _ => lifted os started H enc)

/-- THE STATEMENT -/
theorem proved : Rows.CodeFarSaid := over
end Go.Proofs.Ytciafkobnlfpbaa.codeFar
