/- Statement CodeSums: for all data, all other data and any number the law returns true. -/
import Derived.Test.YtciafkobnlfpbaaCs
namespace Go.Proofs.Ytciafkobnlfpbaa
open Go.RowKit Go.Gf
attribute [local go_sem ↓] exec_load_tb Cl.quiet_since
attribute [local go_sem] tbAt_ptr tbIn_ptr

set_option maxRecDepth 20000 in
set_option maxHeartbeats 8000000 in
theorem sums_law (A : Option Addr) (xs : List Nat) (ca : Nat) (hca : xs.length ≤ ca) (hx : ca ≤ maxLen) (Bz : Option Addr) (zs : List Nat) (cz : Nat) (hcz : zs.length ≤ cz) (hxz : cz ≤ maxLen)
    (fz : Int) (wfz : (Lit.int .u16 fz).wf = true) (w : World) (hA : Sl w w.heap.size A xs) (hZ : Sl w w.heap.size Bz zs) :
    Calls Try.prog 7 #[.slice A xs.length ca, .slice Bz zs.length cz, .int .u16 fz] w (Leaves w (.bool true)) := by
  have mx : (xs.length : Int) ≤ 9223372036854775807 := by unfold maxLen at hx; omega
  have mz : (zs.length : Int) ≤ 9223372036854775807 := by unfold maxLen at hxz; omega
  clear hx hxz
  replace hA := Lib.hid hA
  replace hZ := Lib.hid hZ
  have hz := zero27
  have hfz := u16_bd wfz
  obtain ⟨F, hF⟩ : ∃ F, Hid (fz.toNat % 1024 = F) := ⟨_, Lib.hid rfl⟩
  have hF1 : F < 1024 := by rw [← hF.out]; exact Nat.mod_lt _ (by decide)
  by_cases hcmp : zs.length < xs.length
  · skip
    obtain ⟨dx, hdx⟩ : ∃ dx, Hid (xs.take (zs.length) = dx) := ⟨_, Lib.hid rfl⟩
    obtain ⟨dz, hdz⟩ : ∃ dz, Hid (zs.take (zs.length) = dz) := ⟨_, Lib.hid rfl⟩
    have hdxl : Hid (dx.length = zs.length) := by unfold Hid; rw [← hdx.out, List.length_take]; omega
    have hdzl : Hid (dz.length = zs.length) := by unfold Hid; rw [← hdz.out, List.length_take]; omega
    obtain ⟨W1, hW1d⟩ : ∃ W1, Hid (encW dx = W1) := ⟨_, Lib.hid rfl⟩
    obtain ⟨E1, hE1d⟩ : ∃ E1, Hid (encE dx = E1) := ⟨_, Lib.hid rfl⟩
    obtain ⟨W2, hW2d⟩ : ∃ W2, Hid (encW dz = W2) := ⟨_, Lib.hid rfl⟩
    obtain ⟨E2, hE2d⟩ : ∃ E2, Hid (encE dz = E2) := ⟨_, Lib.hid rfl⟩
    obtain ⟨b0, e0⟩ : ∃ b0, ((zs.length : Int) == 0) = b0 := ⟨_, rfl⟩
    obtain ⟨b1, e1⟩ : ∃ b1, decide ((100 : Int) < (zs.length : Int)) = b1 := ⟨_, rfl⟩
    by_cases hsz : 0 < zs.length ∧ zs.length ≤ 100
    · obtain ⟨hl0, hl1⟩ := hsz
      obtain rfl : b0 = false := by rw [← e0, beq_eq_false_iff_ne]; omega
      obtain rfl : b1 = false := by rw [← e1, decide_eq_false_iff_not]; omega
      have hn0x : Hid (0 < xs.length) := by unfold Hid; omega
      have hn0z : Hid (0 < zs.length) := by unfold Hid; omega
      have hs1 := slice_head A xs.length ca (zs.length) (by omega)
      have hs2 := slice_head Bz zs.length cz (zs.length) (by omega)
      go_enter Try.func7, Try.ntmps7
      go_wp2_with fail
      have hW : Hid (Below w.heap.size w w) := Lib.hid (Below.refl _ _)
      have hc := awake_any w
      replace hc := Lib.hid hc
      refine hc.out.mono ?_
      rintro e w1 ⟨rfl, hb⟩
      clear hc
      have hW := Lib.hid (hW.out.trans (hb.mono hW.out.size))
      replace hA := Lib.hid (hA.out.far hb)
      replace hZ := Lib.hid (hZ.out.far hb)
      clear hb
      go_wp2_with fail
      refine (make_any _).mono ?_
      rintro e w2 ⟨cs, rfl, hl, hb⟩
      have hb0 := hW.out.trans (hb.mono hW.out.size)
      replace hA := Lib.hid (hA.out.far hb)
      replace hZ := Lib.hid (hZ.out.far hb)
      clear hb hW
      go_wp2_with (refine wpList_store_row rfl 28 _ _ rfl w2.heap.size (cells cs) rfl rfl 28 (cells ZT) (heap_alloc_new w2 _) (rsize hl) (zsize hl) (cells_one cs) ?_)
      have hS := St.start (cs := cs) hb0 (cells ZT)
      have hb : Below w2.heap.size w2 ((w2.alloc (Obj.cells (cells ZT) 28)).setRow w2.heap.size (cells cs)) := below_setRow ((Below.refl _ _).alloc (Nat.le_refl _) _) (Nat.le_refl _) _
      replace hA := Lib.hid (hA.out.far hb)
      replace hZ := Lib.hid (hZ.out.far hb)
      clear hb0 hb
      generalize hg : w2.heap.size = g at hS ⊢
      rw [hg] at hA hZ
      generalize (w2.alloc (Obj.cells (cells ZT) 28)).setRow g (cells cs) = w3 at *
      clear hg hz
      have hi := hS.is hl.1
      have ho := hS.of
      go_wp2_with fail
      dsimp only [Act.put]
      refine Cl.region_way (fun _ => True) 10 [(0, .r), (1, .r), (2, .r), (3, .r), (4, .c), (5, .r), (6, .r), (7, .r), (8, .r), (9, .r)] (by kernel_rfl) (by kernel_rfl) ?_
      intro w4 hk
      have hb := Cl.Keeps.below hk
      clear hk
      have hS := hS.next hb
      have hi := hS.is hl.1
      have ho := hS.of
      replace hA := Lib.hid (hA.out.far hb)
      replace hZ := Lib.hid (hZ.out.far hb)
      clear hb
      have hiA : ∀ y : Cl.Since (fun _ => True) w4, isTb y.w g = true := fun y => (hS.next (Cl.Keeps.below y.keeps)).is hl.1
      have hoA : ∀ y : Cl.Since (fun _ => True) w4, tbOf y.w g = cells cs := fun y => (hS.next (Cl.Keeps.below y.keeps)).of
      iterate 4 (refine Cl.way_r rfl ?_; go_big_quiet_step (fail); refine wpQuiet_nil ?_)
      clear hiA hoA
      refine Cl.way_c rfl ?_
      go_wp2_with fail
      have hc := cod_encode (ca := ca) hl ((hA.out.take (zs.length))) (by rw [List.length_take]; omega) (by rw [List.length_take]; omega)
      rw [hdx.out] at hc
      rw [hdxl.out] at hc
      rw [hW1d.out] at hc
      rw [hE1d.out] at hc
      replace hc := Lib.hid hc
      refine hc.out.mono ?_
      rintro e w5 ⟨A1, c1, rfl, hc1, h1, -, hb⟩
      clear hc
      have hbk := Lib.hid hb
      have hS := hS.next hb
      have hi := hS.is hl.1
      have ho := hS.of
      replace hA := Lib.hid (hA.out.far hb)
      replace hZ := Lib.hid (hZ.out.far hb)
      clear hb
      replace h1 := Lib.hid h1
      go_wp2_with fail
      refine Cl.way_on (Cl.Keeps.of_below hbk.out) ?_
      clear hbk
      iterate 5 (refine Cl.way_r rfl ?_; go_big_quiet_step (fail); refine wpQuiet_nil ?_)
      refine Cl.way_end ?_
      go_wp2_with fail
      refine Cl.region_way (fun _ => True) 10 [(0, .r), (1, .r), (2, .r), (3, .r), (4, .c), (5, .r), (6, .r), (7, .r), (8, .r), (9, .r)] (by kernel_rfl) (by kernel_rfl) ?_
      intro w6 hk
      have hb := Cl.Keeps.below hk
      clear hk
      have hS := hS.next hb
      have hi := hS.is hl.1
      have ho := hS.of
      replace hA := Lib.hid (hA.out.far hb)
      replace hZ := Lib.hid (hZ.out.far hb)
      replace h1 := Lib.hid (h1.out.far hb)
      clear hb
      have hiA : ∀ y : Cl.Since (fun _ => True) w6, isTb y.w g = true := fun y => (hS.next (Cl.Keeps.below y.keeps)).is hl.1
      have hoA : ∀ y : Cl.Since (fun _ => True) w6, tbOf y.w g = cells cs := fun y => (hS.next (Cl.Keeps.below y.keeps)).of
      iterate 4 (refine Cl.way_r rfl ?_; go_big_quiet_step (fail); refine wpQuiet_nil ?_)
      clear hiA hoA
      refine Cl.way_c rfl ?_
      go_wp2_with fail
      have hc := cod_encode (ca := cz) hl ((hZ.out.take (zs.length))) (by rw [List.length_take]; omega) (by rw [List.length_take]; omega)
      rw [hdz.out] at hc
      rw [hdzl.out] at hc
      rw [hW2d.out] at hc
      rw [hE2d.out] at hc
      replace hc := Lib.hid hc
      refine hc.out.mono ?_
      rintro e w7 ⟨A2, c2, rfl, hc2, h2, -, hb⟩
      clear hc
      have hbk := Lib.hid hb
      have hS := hS.next hb
      have hi := hS.is hl.1
      have ho := hS.of
      replace hA := Lib.hid (hA.out.far hb)
      replace hZ := Lib.hid (hZ.out.far hb)
      replace h1 := Lib.hid (h1.out.far hb)
      clear hb
      replace h2 := Lib.hid h2
      go_wp2_with fail
      refine Cl.way_on (Cl.Keeps.of_below hbk.out) ?_
      clear hbk
      iterate 5 (refine Cl.way_r rfl ?_; go_big_quiet_step (fail); refine wpQuiet_nil ?_)
      refine Cl.way_end ?_
      by_cases hE0 : E1 = 0 ∧ E2 = 0
      · skip
        obtain ⟨hE01, hE02⟩ := hE0
        have hz1 : ((E1 : Int) != 0) = false := by simp [hE01]
        have hz2 : ((E2 : Int) != 0) = false := by simp [hE02]
        have hE1 : encE dx = 0 := by rw [hE1d.out]; exact hE01
        obtain ⟨p11, p21, p31⟩ := encE_inv hE1
        have hWe1 : Hid (W1 = enc dx) := by rw [← hW1d.out]; exact encW_of hE1
        have hn1 : Hid (W1.length = zs.length + 16) := by rw [hWe1.out, ← hdxl.out]; exact Lib.hid (enc_len _)
        have hWb1 : Hid (∀ y ∈ W1, y < 1024) := by rw [hWe1.out]; exact Lib.hid (enc_bd p31)
        replace p31 := Lib.hid p31
        clear p11 p21 hE1
        have hE2 : encE dz = 0 := by rw [hE2d.out]; exact hE02
        obtain ⟨p12, p22, p32⟩ := encE_inv hE2
        have hWe2 : Hid (W2 = enc dz) := by rw [← hW2d.out]; exact encW_of hE2
        have hn2 : Hid (W2.length = zs.length + 16) := by rw [hWe2.out, ← hdzl.out]; exact Lib.hid (enc_len _)
        have hWb2 : Hid (∀ y ∈ W2, y < 1024) := by rw [hWe2.out]; exact Lib.hid (enc_bd p32)
        replace p32 := Lib.hid p32
        clear p12 p22 hE2
        have hW2l : Hid (W2.length = W1.length) := by unfold Hid; rw [hn1.out, hn2.out]
        obtain ⟨ad1, rfl⟩ : ∃ ad, A1 = some ad := by
          rcases h1.out.2 with e | ⟨a, e, _⟩
          · have h := hn1.out; rw [e] at h; simp at h
          · exact ⟨a, e⟩
        obtain ⟨ad2, rfl⟩ : ∃ ad, A2 = some ad := by
          rcases h2.out.2 with e | ⟨a, e, _⟩
          · have h := hn2.out; rw [e] at h; simp at h
          · exact ⟨a, e⟩
        obtain ⟨ada, rfl⟩ : ∃ ad, A = some ad := by
          rcases hA.out.2 with e | ⟨a, e, _⟩
          · rw [e] at hn0x; exact absurd hn0x.out (by simp)
          · exact ⟨a, e⟩
        obtain ⟨adz, rfl⟩ : ∃ ad, Bz = some ad := by
          rcases hZ.out.2 with e | ⟨a, e, _⟩
          · rw [e] at hn0z; exact absurd hn0z.out (by simp)
          · exact ⟨a, e⟩
        clear hE01 hE02
        obtain ⟨fs, hfs⟩ : ∃ fs : Nat → Nat, Hid (∀ j, fs j = at_ W1 j ^^^ at_ W2 j) := ⟨_, Lib.hid fun _ => rfl⟩
        obtain ⟨fd, hfd⟩ : ∃ fd : Nat → Nat, Hid (∀ j, fd j = at_ dx j ^^^ at_ dz j) := ⟨_, Lib.hid fun _ => rfl⟩
        obtain ⟨ft, hft⟩ : ∃ ft : Nat → Nat, Hid (∀ j, ft j = gm (at_ W1 j) F) := ⟨_, Lib.hid fun _ => rfl⟩
        obtain ⟨fe, hfe⟩ : ∃ fe : Nat → Nat, Hid (∀ j, fe j = gm (at_ dx j) F) := ⟨_, Lib.hid fun _ => rfl⟩
        have hSL := Lib.hid hS
        clear hS hi ho
        have hR0 : Hid (Rows4 w7 w7 (.slice none 0 0) (.slice none 0 0) (.slice none 0 0) (.slice none 0 0) (rm 0 fs) (rm (min 0 (zs.length)) fd) (rm 0 ft) (rm (min 0 (zs.length)) fe)) := by
          rw [Nat.zero_min]
          exact Lib.hid (Rows4.start w7)
        go_wp2_with fail
        go_loopw [13, 14, 15, 16, 17] (fun v1 v2 v3 v4 q wr => ∃ k : Nat, k ≤ W1.length ∧ q = .int .i64 k ∧ Rows4 w7 wr v1 v2 v3 v4 (rm k fs) (rm (min k (zs.length)) fd) (rm k ft) (rm (min k (zs.length)) fe)) (fun _ _ _ _ q _ => W1.length - (intOf q).toNat)
        case atStart => exact ⟨0, Nat.zero_le _, rfl, hR0.out⟩
        case round =>
          clear hR0
          obtain ⟨k, hk, rfl, hR⟩ := hrel
          replace hR := Lib.hid hR
          have hWl : W1.length ≤ 1023 := by rw [hn1.out]; omega
          by_cases hlt : k < W1.length
          · skip
            have hkI : (k : Int) < (W1.length : Int) := by omega
            have hd : decide (k < W1.length) = true := by rw [decide_eq_true_eq]; exact hlt
            have hk2I : (k : Int) < (W2.length : Int) := by rw [hW2l.out]; exact hkI
            obtain ⟨Xs, hXs⟩ : ∃ X : Nat, Hid (at_ W1 k = X) := ⟨_, Lib.hid rfl⟩
            obtain ⟨Ys, hYs⟩ : ∃ Y : Nat, Hid (at_ W2 k = Y) := ⟨_, Lib.hid rfl⟩
            have hX1s : Xs < 1024 := by rw [← hXs.out]; exact at_lt hWb1.out (by decide)
            have hY1s : Ys < 1024 := by rw [← hYs.out]; exact at_lt hWb2.out (by decide)
            have hxors : bits .xor .u16 (Xs : Int) (Ys : Int) = ((Xs ^^^ Ys : Nat) : Int) := u16_xor_nat Xs Ys (by omega) (by omega)
            obtain ⟨Zs, hZs⟩ : ∃ Z : Nat, Hid (Xs ^^^ Ys = Z) := ⟨_, Lib.hid rfl⟩
            have hZ1s : Zs < 1024 := by rw [← hZs.out]; exact xor_lt hX1s hY1s
            rw [hZs.out] at hxors
            obtain ⟨Ms, hMs⟩ : ∃ M : Nat, Hid (gm Xs F = M) := ⟨_, Lib.hid rfl⟩
            have hM1s : Ms < 1024 := by rw [← hMs.out]; exact gm_lt _ hX1s
            have hMuls : Hid (MulIs Xs fz Ms) := mulIs (by omega) (by omega) hfz.1 hfz.2 (by
              unfold mulI
              rw [Int.toNat_natCast, Nat.mod_eq_of_lt hX1s, hF.out, hMs.out])
            have hlas : Hid (rm k fs ++ [Zs] = rm (k + 1) fs) := by
              unfold Hid
              rw [rm_succ, hfs.out, hXs.out, hYs.out, hZs.out]
            have hlbs : Hid (rm k ft ++ [Ms] = rm (k + 1) ft) := by
              unfold Hid
              rw [rm_succ, hft.out, hXs.out, hMs.out]
            obtain ⟨_, e, hP0, hP1⟩ := h1.out.at_ hlt
            injection e with e
            subst e
            rw [← at_get hlt, hXs.out] at hP1
            obtain ⟨_, e, hQ0, hQ1⟩ := h2.out.at_ (show k < W2.length by rw [hW2l.out]; exact hlt)
            injection e with e
            subst e
            rw [← at_get (by rw [hW2l.out]; exact hlt), hYs.out] at hQ1
            replace hP0 := Lib.hid hP0
            replace hP1 := Lib.hid hP1
            replace hQ0 := Lib.hid hQ0
            replace hQ1 := Lib.hid hQ1
            go_wp2_with fail
            refine Cl.region_way0 (fun b => b < w7.heap.size) 24 [(0, .r), (1, .r), (2, .r), (3, .r), (4, .r), (5, .r), (6, .r), (7, .r), (8, .r), (9, .r), (12, .r), (13, .r), (14, .r), (15, .r), (16, .r), (17, .r), (18, .r), (10, .c), (11, .c), (19, .c), (20, .c), (21, .c), (22, .r), (23, .r)] (by kernel_rfl) (by kernel_rfl) ?_
            intro was hks
            have hR1s := Lib.hid (hR.out.keep (Cl.Keeps.below hks))
            have hS1s := Lib.hid (hSL.out.next hR1s.out.be)
            have hcX : ∀ y : Cl.Since (fun b => b < w7.heap.size) was, y.w.cell? (ad1.add k) = some (.int .u16 ((Xs : Nat) : Int)) := fun y => by
              rw [y.cell (by rw [add_block]; exact Nat.lt_of_lt_of_le hP0.out hR1s.out.be.size) (by rw [add_block]; exact hP0.out), hR1s.out.be.cell (by rw [add_block]; exact hP0.out)]
              exact hP1.out
            have hcY : ∀ y : Cl.Since (fun b => b < w7.heap.size) was, y.w.cell? (ad2.add k) = some (.int .u16 ((Ys : Nat) : Int)) := fun y => by
              rw [y.cell (by rw [add_block]; exact Nat.lt_of_lt_of_le hQ0.out hR1s.out.be.size) (by rw [add_block]; exact hQ0.out), hR1s.out.be.cell (by rw [add_block]; exact hQ0.out)]
              exact hQ1.out
            have hiA : ∀ y : Cl.Since (fun b => b < w7.heap.size) was, isTb y.w g = true := fun y => (show Tb y.w g cs from (y.keeps.block g hS1s.out.lt hSL.out.lt).trans hS1s.out.tb).is hl.1
            have hoA : ∀ y : Cl.Since (fun b => b < w7.heap.size) was, tbOf y.w g = cells cs := fun y => (show Tb y.w g cs from (y.keeps.block g hS1s.out.lt hSL.out.lt).trans hS1s.out.tb).of
            iterate 17 (refine Cl.way_r rfl ?_; go_big_quiet_step (fail); refine wpQuiet_nil ?_)
            clear hks hcX hcY hiA hoA hS1s
            refine Cl.way_c rfl ?_
            have hq := sl_new was (.cells #[.int .u16 ((Zs : Nat) : Int)] 23) [Zs] was.heap.size rfl rfl (by simp; omega)
            have hb2 := below_alloc was (.cells #[.int .u16 ((Zs : Nat) : Int)] 23)
            go_wp2_with fail
            refine Cl.way_on (Cl.Keeps.of_below hb2) ?_
            have hR2 := hR1s.out.keep hb2
            generalize was.alloc (.cells #[.int .u16 ((Zs : Nat) : Int)] 23) = wbs at hq hb2 hR2 ⊢
            generalize was.heap.size = gbs at hq ⊢
            have hR2p := Lib.hid (hR2)
            clear hb2 hR2
            refine Cl.way_c rfl ?_
            refine app_law3 (w0 := w7) rfl (.tmp 64) (.tmp 74) rfl u13 (rm k fs) rfl hR2p.out.o1 hR2p.out.be.size ⟨gbs, 0, none⟩ 1 [Zs] rfl hq (by rw [rm_len]; simp; omega) ?_
            intro vas wcs hv hg hn
            have hR3 := hR2p.out.step hv hg hn
            rw [hlas.out] at hR3
            have hK := hR2p.out.kept hg
            replace hR3 := Lib.hid hR3
            replace hK := Lib.hid hK
            clear hv hg hn hR2p hq hR1s
            go_wp2_with fail
            refine Cl.way_on hK.out ?_
            clear hK
            refine Cl.way_c rfl ?_
            go_wp2_with (go_at_call 23; (with_reducible refine (hMuls.out.at cs _).mono ?_); rintro e wds ⟨rfl, hb4⟩)
            refine Cl.way_on (Cl.Keeps.of_below hb4) ?_
            have hR4 := Lib.hid (hR3.out.keep hb4)
            clear hb4 hR3
            refine Cl.way_c rfl ?_
            have hq := sl_new wds (.cells #[.int .u16 ((Ms : Nat) : Int)] 23) [Ms] wds.heap.size rfl rfl (by simp; omega)
            have hb2 := below_alloc wds (.cells #[.int .u16 ((Ms : Nat) : Int)] 23)
            go_wp2_with fail
            refine Cl.way_on (Cl.Keeps.of_below hb2) ?_
            have hR2 := hR4.out.keep hb2
            generalize wds.alloc (.cells #[.int .u16 ((Ms : Nat) : Int)] 23) = wes at hq hb2 hR2 ⊢
            generalize wds.heap.size = gds at hq ⊢
            have hR2p := Lib.hid (hR2.s13)
            clear hb2 hR2
            refine Cl.way_c rfl ?_
            refine app_law3 (w0 := w7) rfl (.tmp 76) (.tmp 84) rfl u15 (rm k ft) rfl hR2p.out.o1 hR2p.out.be.size ⟨gds, 0, none⟩ 1 [Ms] rfl hq (by rw [rm_len]; simp; omega) ?_
            intro vbs wfs hv hg hn
            have hR3 := hR2p.out.step hv hg hn
            rw [hlbs.out] at hR3
            have hK := hR2p.out.kept hg
            have hRs := Lib.hid (hR3.s13)
            replace hK := Lib.hid hK
            clear hv hg hn hR2p hq hR3 hR4
            go_wp2_with fail
            refine Cl.way_on hK.out ?_
            clear hK
            iterate 2 (refine Cl.way_r rfl ?_; go_big_quiet_step (fail); refine wpQuiet_nil ?_)
            refine Cl.way_end ?_
            clear hP0 hP1 hQ0 hQ1 hR
            by_cases hkn : k < zs.length
            · skip
              have hd2 : decide (k < zs.length) = true := by rw [decide_eq_true_eq]; exact hkn
              have hkxI : (k : Int) < (xs.length : Int) := by omega
              have hkzI : (k : Int) < (zs.length : Int) := by omega
              have hkx : k < xs.length := by omega
              have hkz : k < zs.length := by omega
              have hdx1 : at_ dx k = xs[k] := by
                have : k < dx.length := by rw [hdxl.out]; exact hkn
                rw [at_get this]
                simp [← hdx.out]
              have hdz1 : at_ dz k = zs[k] := by
                have : k < dz.length := by rw [hdzl.out]; exact hkn
                rw [at_get this]
                simp [← hdz.out]
              have hmin : min k (zs.length) = k := Nat.min_eq_left (Nat.le_of_lt hkn)
              rw [hmin] at hRs
              obtain ⟨Xd, hXd⟩ : ∃ X : Nat, Hid (at_ dx k = X) := ⟨_, Lib.hid rfl⟩
              obtain ⟨Yd, hYd⟩ : ∃ Y : Nat, Hid (at_ dz k = Y) := ⟨_, Lib.hid rfl⟩
              have hX1d : Xd < 1024 := by rw [← hXd.out]; exact at_lt p31.out (by decide)
              have hY1d : Yd < 1024 := by rw [← hYd.out]; exact at_lt p32.out (by decide)
              have hxord : bits .xor .u16 (Xd : Int) (Yd : Int) = ((Xd ^^^ Yd : Nat) : Int) := u16_xor_nat Xd Yd (by omega) (by omega)
              obtain ⟨Zd, hZd⟩ : ∃ Z : Nat, Hid (Xd ^^^ Yd = Z) := ⟨_, Lib.hid rfl⟩
              have hZ1d : Zd < 1024 := by rw [← hZd.out]; exact xor_lt hX1d hY1d
              rw [hZd.out] at hxord
              obtain ⟨Md, hMd⟩ : ∃ M : Nat, Hid (gm Xd F = M) := ⟨_, Lib.hid rfl⟩
              have hM1d : Md < 1024 := by rw [← hMd.out]; exact gm_lt _ hX1d
              have hMuld : Hid (MulIs Xd fz Md) := mulIs (by omega) (by omega) hfz.1 hfz.2 (by
                unfold mulI
                rw [Int.toNat_natCast, Nat.mod_eq_of_lt hX1d, hF.out, hMd.out])
              have hlad : Hid (rm k fd ++ [Zd] = rm (k + 1) fd) := by
                unfold Hid
                rw [rm_succ, hfd.out, hXd.out, hYd.out, hZd.out]
              have hlbd : Hid (rm k fe ++ [Md] = rm (k + 1) fe) := by
                unfold Hid
                rw [rm_succ, hfe.out, hXd.out, hMd.out]
              obtain ⟨_, e, hP0, hP1⟩ := hA.out.at_ hkx
              injection e with e
              subst e
              rw [← hdx1, hXd.out] at hP1
              obtain ⟨_, e, hQ0, hQ1⟩ := hZ.out.at_ hkz
              injection e with e
              subst e
              rw [← hdz1, hYd.out] at hQ1
              replace hP0 := Lib.hid hP0
              replace hP1 := Lib.hid hP1
              replace hQ0 := Lib.hid hQ0
              replace hQ1 := Lib.hid hQ1
              clear hdx1 hdz1 hmin
              go_wp2_with fail
              refine Cl.region_way0 (fun b => b < w7.heap.size) 24 [(0, .r), (1, .r), (2, .r), (3, .r), (4, .r), (5, .r), (6, .r), (7, .r), (8, .r), (9, .r), (12, .r), (13, .r), (14, .r), (15, .r), (16, .r), (17, .r), (18, .r), (10, .c), (11, .c), (19, .c), (20, .c), (21, .c), (22, .r), (23, .r)] (by kernel_rfl) (by kernel_rfl) ?_
              intro wad hkd
              have hR1d := Lib.hid (hRs.out.keep (Cl.Keeps.below hkd))
              have hS1d := Lib.hid (hSL.out.next hR1d.out.be)
              have hcX : ∀ y : Cl.Since (fun b => b < w7.heap.size) wad, y.w.cell? (ada.add k) = some (.int .u16 ((Xd : Nat) : Int)) := fun y => by
                rw [y.cell (by rw [add_block]; exact Nat.lt_of_lt_of_le hP0.out hR1d.out.be.size) (by rw [add_block]; exact hP0.out), hR1d.out.be.cell (by rw [add_block]; exact hP0.out)]
                exact hP1.out
              have hcY : ∀ y : Cl.Since (fun b => b < w7.heap.size) wad, y.w.cell? (adz.add k) = some (.int .u16 ((Yd : Nat) : Int)) := fun y => by
                rw [y.cell (by rw [add_block]; exact Nat.lt_of_lt_of_le hQ0.out hR1d.out.be.size) (by rw [add_block]; exact hQ0.out), hR1d.out.be.cell (by rw [add_block]; exact hQ0.out)]
                exact hQ1.out
              have hiA : ∀ y : Cl.Since (fun b => b < w7.heap.size) wad, isTb y.w g = true := fun y => (show Tb y.w g cs from (y.keeps.block g hS1d.out.lt hSL.out.lt).trans hS1d.out.tb).is hl.1
              have hoA : ∀ y : Cl.Since (fun b => b < w7.heap.size) wad, tbOf y.w g = cells cs := fun y => (show Tb y.w g cs from (y.keeps.block g hS1d.out.lt hSL.out.lt).trans hS1d.out.tb).of
              iterate 17 (refine Cl.way_r rfl ?_; go_big_quiet_step (fail); refine wpQuiet_nil ?_)
              clear hkd hcX hcY hiA hoA hS1d
              refine Cl.way_c rfl ?_
              have hq := sl_new wad (.cells #[.int .u16 ((Zd : Nat) : Int)] 23) [Zd] wad.heap.size rfl rfl (by simp; omega)
              have hb2 := below_alloc wad (.cells #[.int .u16 ((Zd : Nat) : Int)] 23)
              go_wp2_with fail
              refine Cl.way_on (Cl.Keeps.of_below hb2) ?_
              have hR2 := hR1d.out.keep hb2
              generalize wad.alloc (.cells #[.int .u16 ((Zd : Nat) : Int)] 23) = wbd at hq hb2 hR2 ⊢
              generalize wad.heap.size = gbd at hq ⊢
              have hR2p := Lib.hid (hR2.s12)
              clear hb2 hR2
              refine Cl.way_c rfl ?_
              refine app_law3 (w0 := w7) rfl (.tmp 89) (.tmp 99) rfl u14 (rm k fd) rfl hR2p.out.o1 hR2p.out.be.size ⟨gbd, 0, none⟩ 1 [Zd] rfl hq (by rw [rm_len]; simp; omega) ?_
              intro vad wcd hv hg hn
              have hR3 := hR2p.out.step hv hg hn
              rw [hlad.out] at hR3
              have hK := hR2p.out.kept hg
              replace hR3 := Lib.hid hR3
              replace hK := Lib.hid hK
              clear hv hg hn hR2p hq hR1d
              go_wp2_with fail
              refine Cl.way_on hK.out ?_
              clear hK
              refine Cl.way_c rfl ?_
              go_wp2_with (go_at_call 23; (with_reducible refine (hMuld.out.at cs _).mono ?_); rintro e wdd ⟨rfl, hb4⟩)
              refine Cl.way_on (Cl.Keeps.of_below hb4) ?_
              have hR4 := Lib.hid (hR3.out.keep hb4)
              clear hb4 hR3
              refine Cl.way_c rfl ?_
              have hq := sl_new wdd (.cells #[.int .u16 ((Md : Nat) : Int)] 23) [Md] wdd.heap.size rfl rfl (by simp; omega)
              have hb2 := below_alloc wdd (.cells #[.int .u16 ((Md : Nat) : Int)] 23)
              go_wp2_with fail
              refine Cl.way_on (Cl.Keeps.of_below hb2) ?_
              have hR2 := hR4.out.keep hb2
              generalize wdd.alloc (.cells #[.int .u16 ((Md : Nat) : Int)] 23) = wed at hq hb2 hR2 ⊢
              generalize wdd.heap.size = gdd at hq ⊢
              have hR2p := Lib.hid (hR2.s12.s14)
              clear hb2 hR2
              refine Cl.way_c rfl ?_
              refine app_law3 (w0 := w7) rfl (.tmp 101) (.tmp 109) rfl u16 (rm k fe) rfl hR2p.out.o1 hR2p.out.be.size ⟨gdd, 0, none⟩ 1 [Md] rfl hq (by rw [rm_len]; simp; omega) ?_
              intro vbd wfd hv hg hn
              have hR3 := hR2p.out.step hv hg hn
              rw [hlbd.out] at hR3
              have hK := hR2p.out.kept hg
              have hRd := Lib.hid (hR3.s14)
              replace hK := Lib.hid hK
              clear hv hg hn hR2p hq hR3 hR4
              go_wp2_with fail
              refine Cl.way_on hK.out ?_
              clear hK
              iterate 2 (refine Cl.way_r rfl ?_; go_big_quiet_step (fail); refine wpQuiet_nil ?_)
              refine Cl.way_end ?_
              clear hP0 hP1 hQ0 hQ1 hRs
              go_wp2_with fail
              go_roundw
              case rel => exact ⟨k + 1, by omega, by go_num, by rw [show min (k + 1) (zs.length) = k + 1 from Nat.min_eq_left (by omega)]; exact hRd.out⟩
              case measure => simp [intOf]; omega
            · skip
              have hd2 : decide (k < zs.length) = false := by rw [decide_eq_false_iff_not]; exact hkn
              have hm1 : min k (zs.length) = zs.length := Nat.min_eq_right (by omega)
              have hm2 : min (k + 1) (zs.length) = zs.length := Nat.min_eq_right (by omega)
              rw [hm1] at hRs
              replace hm2 := Lib.hid hm2
              clear hm1
              go_wp2_with fail
              go_roundw
              case rel => exact ⟨k + 1, by omega, by go_num, by rw [hm2.out]; exact hRs.out⟩
              case measure => simp [intOf]; omega
          · skip
            obtain rfl : k = W1.length := by omega
            rw [show min W1.length (zs.length) = zs.length from Nat.min_eq_right (by have := hn1.out; omega)] at hR
            have e1 : rm W1.length fs = xw W1 W2 := rm_congr fun j _ => hfs.out j
            have e3 : rm W1.length ft = sw F W1 := rm_congr fun j _ => hft.out j
            have e2 : rm (zs.length) fd = xw dx dz := by
              unfold xw
              rw [hdxl.out]
              exact rm_congr fun j _ => hfd.out j
            have e4 : rm (zs.length) fe = sw F dx := by
              unfold sw
              rw [hdxl.out]
              exact rm_congr fun j _ => hfe.out j
            rw [e1, e2, e3, e4] at hR
            have hlxz : dx.length = dz.length := by rw [hdxl.out, hdzl.out]
            have hda := xw_bd p31.out p32.out
            have hdt := sw_bd (s := F) p31.out
            have hE5 : encE (xw dx dz) = 0 := encE_of (by rw [xw_len, hdxl.out]; omega) (by rw [xw_len, hdxl.out]; omega) hda
            have hE6 : encE (sw F dx) = 0 := encE_of (by rw [sw_len, hdxl.out]; omega) (by rw [sw_len, hdxl.out]; omega) hdt
            have hW5 : encW (xw dx dz) = xw W1 W2 := by rw [encW_of hE5, enc_xor hlxz (by rw [hdxl.out]; omega) p31.out p32.out, hWe1.out, hWe2.out]
            have hW6 : encW (sw F dx) = sw F W1 := by rw [encW_of hE6, enc_scale (by rw [hdxl.out]; omega) p31.out hF1, hWe1.out]
            have l5 : (xw dx dz).length ≤ 1000000 := by rw [xw_len, hdxl.out]; omega
            have l6 : (sw F dx).length ≤ 1000000 := by rw [sw_len, hdxl.out]; omega
            have l7 : (xw W1 W2).length ≤ 1000000 := by rw [xw_len]; omega
            have l8 : (sw F W1).length ≤ 1000000 := by rw [sw_len]; omega
            generalize xw dx dz = DA at *
            generalize sw F dx = DT at *
            generalize xw W1 W2 = SU at *
            generalize sw F W1 = TI at *
            obtain ⟨A13, c13, rfl, hc13, h13⟩ := hR.out.o1.sl
            obtain ⟨A14, c14, rfl, hc14, h14⟩ := hR.out.o2.sl
            obtain ⟨A15, c15, rfl, hc15, h15⟩ := hR.out.o3.sl
            obtain ⟨A16, c16, rfl, hc16, h16⟩ := hR.out.o4.sl
            have hS := hSL.out.next hR.out.be
            have hi := hS.is hl.1
            have ho := hS.of
            replace hE5 := Lib.hid hE5
            replace hE6 := Lib.hid hE6
            replace hW5 := Lib.hid hW5
            replace hW6 := Lib.hid hW6
            replace l5 := Lib.hid l5
            replace l6 := Lib.hid l6
            replace l7 := Lib.hid l7
            replace l8 := Lib.hid l8
            replace h13 := Lib.hid h13
            replace h14 := Lib.hid h14
            replace h15 := Lib.hid h15
            replace h16 := Lib.hid h16
            clear hR e1 e2 e3 e4 hlxz hda hdt hk hlt
            go_wp2_with fail
            have hc := cod_encode (ca := c14) hl h14.out l5.out hc14
            rw [hW5.out] at hc
            rw [hE5.out] at hc
            replace hc := Lib.hid hc
            refine hc.out.mono ?_
            rintro e w31 ⟨A20, c20, rfl, hc20, h20, -, hb⟩
            clear hc
            have hS := hS.next hb
            have hi := hS.is hl.1
            have ho := hS.of
            replace h13 := Lib.hid (h13.out.far hb)
            replace h14 := Lib.hid (h14.out.far hb)
            replace h15 := Lib.hid (h15.out.far hb)
            replace h16 := Lib.hid (h16.out.far hb)
            clear hb
            replace h20 := Lib.hid h20
            go_wp2_with fail
            have hc := cod_encode (ca := c16) hl h16.out l6.out hc16
            rw [hW6.out] at hc
            rw [hE6.out] at hc
            replace hc := Lib.hid hc
            refine hc.out.mono ?_
            rintro e w32 ⟨A21, c21, rfl, hc21, h21, -, hb⟩
            clear hc
            have hS := hS.next hb
            have hi := hS.is hl.1
            have ho := hS.of
            replace h13 := Lib.hid (h13.out.far hb)
            replace h14 := Lib.hid (h14.out.far hb)
            replace h15 := Lib.hid (h15.out.far hb)
            replace h16 := Lib.hid (h16.out.far hb)
            replace h20 := Lib.hid (h20.out.far hb)
            clear hb
            replace h21 := Lib.hid h21
            go_wp2_with fail
            have hc := val_same (ca := c20) (cb := c13) (b := true) h20.out h13.out l7.out l7.out (decide_eq_true rfl)
            replace hc := Lib.hid hc
            clear h20
            clear h13
            refine hc.out.mono ?_
            rintro e w33 ⟨rfl, hb⟩
            clear hc
            have hS := hS.next hb
            have hi := hS.is hl.1
            have ho := hS.of
            replace h14 := Lib.hid (h14.out.far hb)
            replace h15 := Lib.hid (h15.out.far hb)
            replace h16 := Lib.hid (h16.out.far hb)
            replace h21 := Lib.hid (h21.out.far hb)
            clear hb
            go_wp2_with fail
            have hc := val_same (ca := c21) (cb := c15) (b := true) h21.out h15.out l8.out l8.out (decide_eq_true rfl)
            replace hc := Lib.hid hc
            clear h21
            clear h15
            refine hc.out.mono ?_
            rintro e w34 ⟨rfl, hb⟩
            clear hc
            have hS := hS.next hb
            have hi := hS.is hl.1
            have ho := hS.of
            replace h14 := Lib.hid (h14.out.far hb)
            replace h16 := Lib.hid (h16.out.far hb)
            clear hb
            go_wp2_with fail
            go_ret
            exact ⟨rfl, hS.below⟩
      · skip
        obtain ⟨z1, hz1⟩ : ∃ z1, ((E1 : Int) != 0) = z1 := ⟨_, rfl⟩
        obtain ⟨z2, hz2⟩ : ∃ z2, ((E2 : Int) != 0) = z2 := ⟨_, rfl⟩
        have hor : Hid (z1 = true ∨ z2 = true) := by
          unfold Hid
          rw [← hz1, ← hz2]
          simp only [bne_iff_ne, ne_eq]
          omega
        clear hE0
        cases z1
        · obtain rfl : z2 = true := by rcases hor.out with h | h <;> first | exact h | cases h
          go_wp2_with fail
          go_ret
          exact ⟨rfl, hS.below⟩
        · go_wp2_with fail
          go_ret
          exact ⟨rfl, hS.below⟩
    · have hor : Hid (b0 = true ∨ b1 = true) := by
        unfold Hid
        rw [← e0, ← e1, decide_eq_true_eq, beq_iff_eq]
        omega
      clear hsz
      cases b0
      · obtain rfl : b1 = true := by rcases hor.out with h | h <;> first | exact h | cases h
        go_enter Try.func7, Try.ntmps7
        go_wp2_with fail
        refine (awake_any w).mono ?_
        rintro e w1 ⟨rfl, hb⟩
        go_wp2_with fail
        go_ret
        exact ⟨rfl, hb⟩
      · skip
        go_enter Try.func7, Try.ntmps7
        go_wp2_with fail
        refine (awake_any w).mono ?_
        rintro e w1 ⟨rfl, hb⟩
        go_wp2_with fail
        go_ret
        exact ⟨rfl, hb⟩
  · skip
    obtain ⟨dx, hdx⟩ : ∃ dx, Hid (xs.take (xs.length) = dx) := ⟨_, Lib.hid rfl⟩
    obtain ⟨dz, hdz⟩ : ∃ dz, Hid (zs.take (xs.length) = dz) := ⟨_, Lib.hid rfl⟩
    have hdxl : Hid (dx.length = xs.length) := by unfold Hid; rw [← hdx.out, List.length_take]; omega
    have hdzl : Hid (dz.length = xs.length) := by unfold Hid; rw [← hdz.out, List.length_take]; omega
    obtain ⟨W1, hW1d⟩ : ∃ W1, Hid (encW dx = W1) := ⟨_, Lib.hid rfl⟩
    obtain ⟨E1, hE1d⟩ : ∃ E1, Hid (encE dx = E1) := ⟨_, Lib.hid rfl⟩
    obtain ⟨W2, hW2d⟩ : ∃ W2, Hid (encW dz = W2) := ⟨_, Lib.hid rfl⟩
    obtain ⟨E2, hE2d⟩ : ∃ E2, Hid (encE dz = E2) := ⟨_, Lib.hid rfl⟩
    obtain ⟨b0, e0⟩ : ∃ b0, ((xs.length : Int) == 0) = b0 := ⟨_, rfl⟩
    obtain ⟨b1, e1⟩ : ∃ b1, decide ((100 : Int) < (xs.length : Int)) = b1 := ⟨_, rfl⟩
    by_cases hsz : 0 < xs.length ∧ xs.length ≤ 100
    · obtain ⟨hl0, hl1⟩ := hsz
      obtain rfl : b0 = false := by rw [← e0, beq_eq_false_iff_ne]; omega
      obtain rfl : b1 = false := by rw [← e1, decide_eq_false_iff_not]; omega
      have hn0x : Hid (0 < xs.length) := by unfold Hid; omega
      have hn0z : Hid (0 < zs.length) := by unfold Hid; omega
      have hs1 := slice_head A xs.length ca (xs.length) (by omega)
      have hs2 := slice_head Bz zs.length cz (xs.length) (by omega)
      go_enter Try.func7, Try.ntmps7
      go_wp2_with fail
      have hW : Hid (Below w.heap.size w w) := Lib.hid (Below.refl _ _)
      have hc := awake_any w
      replace hc := Lib.hid hc
      refine hc.out.mono ?_
      rintro e w1 ⟨rfl, hb⟩
      clear hc
      have hW := Lib.hid (hW.out.trans (hb.mono hW.out.size))
      replace hA := Lib.hid (hA.out.far hb)
      replace hZ := Lib.hid (hZ.out.far hb)
      clear hb
      go_wp2_with fail
      refine (make_any _).mono ?_
      rintro e w2 ⟨cs, rfl, hl, hb⟩
      have hb0 := hW.out.trans (hb.mono hW.out.size)
      replace hA := Lib.hid (hA.out.far hb)
      replace hZ := Lib.hid (hZ.out.far hb)
      clear hb hW
      go_wp2_with (refine wpList_store_row rfl 28 _ _ rfl w2.heap.size (cells cs) rfl rfl 28 (cells ZT) (heap_alloc_new w2 _) (rsize hl) (zsize hl) (cells_one cs) ?_)
      have hS := St.start (cs := cs) hb0 (cells ZT)
      have hb : Below w2.heap.size w2 ((w2.alloc (Obj.cells (cells ZT) 28)).setRow w2.heap.size (cells cs)) := below_setRow ((Below.refl _ _).alloc (Nat.le_refl _) _) (Nat.le_refl _) _
      replace hA := Lib.hid (hA.out.far hb)
      replace hZ := Lib.hid (hZ.out.far hb)
      clear hb0 hb
      generalize hg : w2.heap.size = g at hS ⊢
      rw [hg] at hA hZ
      generalize (w2.alloc (Obj.cells (cells ZT) 28)).setRow g (cells cs) = w3 at *
      clear hg hz
      have hi := hS.is hl.1
      have ho := hS.of
      go_wp2_with fail
      dsimp only [Act.put]
      refine Cl.region_way (fun _ => True) 10 [(0, .r), (1, .r), (2, .r), (3, .r), (4, .c), (5, .r), (6, .r), (7, .r), (8, .r), (9, .r)] (by kernel_rfl) (by kernel_rfl) ?_
      intro w4 hk
      have hb := Cl.Keeps.below hk
      clear hk
      have hS := hS.next hb
      have hi := hS.is hl.1
      have ho := hS.of
      replace hA := Lib.hid (hA.out.far hb)
      replace hZ := Lib.hid (hZ.out.far hb)
      clear hb
      have hiA : ∀ y : Cl.Since (fun _ => True) w4, isTb y.w g = true := fun y => (hS.next (Cl.Keeps.below y.keeps)).is hl.1
      have hoA : ∀ y : Cl.Since (fun _ => True) w4, tbOf y.w g = cells cs := fun y => (hS.next (Cl.Keeps.below y.keeps)).of
      iterate 4 (refine Cl.way_r rfl ?_; go_big_quiet_step (fail); refine wpQuiet_nil ?_)
      clear hiA hoA
      refine Cl.way_c rfl ?_
      go_wp2_with fail
      have hc := cod_encode (ca := ca) hl ((hA.out.take (xs.length))) (by rw [List.length_take]; omega) (by rw [List.length_take]; omega)
      rw [hdx.out] at hc
      rw [hdxl.out] at hc
      rw [hW1d.out] at hc
      rw [hE1d.out] at hc
      replace hc := Lib.hid hc
      refine hc.out.mono ?_
      rintro e w5 ⟨A1, c1, rfl, hc1, h1, -, hb⟩
      clear hc
      have hbk := Lib.hid hb
      have hS := hS.next hb
      have hi := hS.is hl.1
      have ho := hS.of
      replace hA := Lib.hid (hA.out.far hb)
      replace hZ := Lib.hid (hZ.out.far hb)
      clear hb
      replace h1 := Lib.hid h1
      go_wp2_with fail
      refine Cl.way_on (Cl.Keeps.of_below hbk.out) ?_
      clear hbk
      iterate 5 (refine Cl.way_r rfl ?_; go_big_quiet_step (fail); refine wpQuiet_nil ?_)
      refine Cl.way_end ?_
      go_wp2_with fail
      refine Cl.region_way (fun _ => True) 10 [(0, .r), (1, .r), (2, .r), (3, .r), (4, .c), (5, .r), (6, .r), (7, .r), (8, .r), (9, .r)] (by kernel_rfl) (by kernel_rfl) ?_
      intro w6 hk
      have hb := Cl.Keeps.below hk
      clear hk
      have hS := hS.next hb
      have hi := hS.is hl.1
      have ho := hS.of
      replace hA := Lib.hid (hA.out.far hb)
      replace hZ := Lib.hid (hZ.out.far hb)
      replace h1 := Lib.hid (h1.out.far hb)
      clear hb
      have hiA : ∀ y : Cl.Since (fun _ => True) w6, isTb y.w g = true := fun y => (hS.next (Cl.Keeps.below y.keeps)).is hl.1
      have hoA : ∀ y : Cl.Since (fun _ => True) w6, tbOf y.w g = cells cs := fun y => (hS.next (Cl.Keeps.below y.keeps)).of
      iterate 4 (refine Cl.way_r rfl ?_; go_big_quiet_step (fail); refine wpQuiet_nil ?_)
      clear hiA hoA
      refine Cl.way_c rfl ?_
      go_wp2_with fail
      have hc := cod_encode (ca := cz) hl ((hZ.out.take (xs.length))) (by rw [List.length_take]; omega) (by rw [List.length_take]; omega)
      rw [hdz.out] at hc
      rw [hdzl.out] at hc
      rw [hW2d.out] at hc
      rw [hE2d.out] at hc
      replace hc := Lib.hid hc
      refine hc.out.mono ?_
      rintro e w7 ⟨A2, c2, rfl, hc2, h2, -, hb⟩
      clear hc
      have hbk := Lib.hid hb
      have hS := hS.next hb
      have hi := hS.is hl.1
      have ho := hS.of
      replace hA := Lib.hid (hA.out.far hb)
      replace hZ := Lib.hid (hZ.out.far hb)
      replace h1 := Lib.hid (h1.out.far hb)
      clear hb
      replace h2 := Lib.hid h2
      go_wp2_with fail
      refine Cl.way_on (Cl.Keeps.of_below hbk.out) ?_
      clear hbk
      iterate 5 (refine Cl.way_r rfl ?_; go_big_quiet_step (fail); refine wpQuiet_nil ?_)
      refine Cl.way_end ?_
      by_cases hE0 : E1 = 0 ∧ E2 = 0
      · skip
        obtain ⟨hE01, hE02⟩ := hE0
        have hz1 : ((E1 : Int) != 0) = false := by simp [hE01]
        have hz2 : ((E2 : Int) != 0) = false := by simp [hE02]
        have hE1 : encE dx = 0 := by rw [hE1d.out]; exact hE01
        obtain ⟨p11, p21, p31⟩ := encE_inv hE1
        have hWe1 : Hid (W1 = enc dx) := by rw [← hW1d.out]; exact encW_of hE1
        have hn1 : Hid (W1.length = xs.length + 16) := by rw [hWe1.out, ← hdxl.out]; exact Lib.hid (enc_len _)
        have hWb1 : Hid (∀ y ∈ W1, y < 1024) := by rw [hWe1.out]; exact Lib.hid (enc_bd p31)
        replace p31 := Lib.hid p31
        clear p11 p21 hE1
        have hE2 : encE dz = 0 := by rw [hE2d.out]; exact hE02
        obtain ⟨p12, p22, p32⟩ := encE_inv hE2
        have hWe2 : Hid (W2 = enc dz) := by rw [← hW2d.out]; exact encW_of hE2
        have hn2 : Hid (W2.length = xs.length + 16) := by rw [hWe2.out, ← hdzl.out]; exact Lib.hid (enc_len _)
        have hWb2 : Hid (∀ y ∈ W2, y < 1024) := by rw [hWe2.out]; exact Lib.hid (enc_bd p32)
        replace p32 := Lib.hid p32
        clear p12 p22 hE2
        have hW2l : Hid (W2.length = W1.length) := by unfold Hid; rw [hn1.out, hn2.out]
        obtain ⟨ad1, rfl⟩ : ∃ ad, A1 = some ad := by
          rcases h1.out.2 with e | ⟨a, e, _⟩
          · have h := hn1.out; rw [e] at h; simp at h
          · exact ⟨a, e⟩
        obtain ⟨ad2, rfl⟩ : ∃ ad, A2 = some ad := by
          rcases h2.out.2 with e | ⟨a, e, _⟩
          · have h := hn2.out; rw [e] at h; simp at h
          · exact ⟨a, e⟩
        obtain ⟨ada, rfl⟩ : ∃ ad, A = some ad := by
          rcases hA.out.2 with e | ⟨a, e, _⟩
          · rw [e] at hn0x; exact absurd hn0x.out (by simp)
          · exact ⟨a, e⟩
        obtain ⟨adz, rfl⟩ : ∃ ad, Bz = some ad := by
          rcases hZ.out.2 with e | ⟨a, e, _⟩
          · rw [e] at hn0z; exact absurd hn0z.out (by simp)
          · exact ⟨a, e⟩
        clear hE01 hE02
        obtain ⟨fs, hfs⟩ : ∃ fs : Nat → Nat, Hid (∀ j, fs j = at_ W1 j ^^^ at_ W2 j) := ⟨_, Lib.hid fun _ => rfl⟩
        obtain ⟨fd, hfd⟩ : ∃ fd : Nat → Nat, Hid (∀ j, fd j = at_ dx j ^^^ at_ dz j) := ⟨_, Lib.hid fun _ => rfl⟩
        obtain ⟨ft, hft⟩ : ∃ ft : Nat → Nat, Hid (∀ j, ft j = gm (at_ W1 j) F) := ⟨_, Lib.hid fun _ => rfl⟩
        obtain ⟨fe, hfe⟩ : ∃ fe : Nat → Nat, Hid (∀ j, fe j = gm (at_ dx j) F) := ⟨_, Lib.hid fun _ => rfl⟩
        have hSL := Lib.hid hS
        clear hS hi ho
        have hR0 : Hid (Rows4 w7 w7 (.slice none 0 0) (.slice none 0 0) (.slice none 0 0) (.slice none 0 0) (rm 0 fs) (rm (min 0 (xs.length)) fd) (rm 0 ft) (rm (min 0 (xs.length)) fe)) := by
          rw [Nat.zero_min]
          exact Lib.hid (Rows4.start w7)
        go_wp2_with fail
        go_loopw [13, 14, 15, 16, 17] (fun v1 v2 v3 v4 q wr => ∃ k : Nat, k ≤ W1.length ∧ q = .int .i64 k ∧ Rows4 w7 wr v1 v2 v3 v4 (rm k fs) (rm (min k (xs.length)) fd) (rm k ft) (rm (min k (xs.length)) fe)) (fun _ _ _ _ q _ => W1.length - (intOf q).toNat)
        case atStart => exact ⟨0, Nat.zero_le _, rfl, hR0.out⟩
        case round =>
          clear hR0
          obtain ⟨k, hk, rfl, hR⟩ := hrel
          replace hR := Lib.hid hR
          have hWl : W1.length ≤ 1023 := by rw [hn1.out]; omega
          by_cases hlt : k < W1.length
          · skip
            have hkI : (k : Int) < (W1.length : Int) := by omega
            have hd : decide (k < W1.length) = true := by rw [decide_eq_true_eq]; exact hlt
            have hk2I : (k : Int) < (W2.length : Int) := by rw [hW2l.out]; exact hkI
            obtain ⟨Xs, hXs⟩ : ∃ X : Nat, Hid (at_ W1 k = X) := ⟨_, Lib.hid rfl⟩
            obtain ⟨Ys, hYs⟩ : ∃ Y : Nat, Hid (at_ W2 k = Y) := ⟨_, Lib.hid rfl⟩
            have hX1s : Xs < 1024 := by rw [← hXs.out]; exact at_lt hWb1.out (by decide)
            have hY1s : Ys < 1024 := by rw [← hYs.out]; exact at_lt hWb2.out (by decide)
            have hxors : bits .xor .u16 (Xs : Int) (Ys : Int) = ((Xs ^^^ Ys : Nat) : Int) := u16_xor_nat Xs Ys (by omega) (by omega)
            obtain ⟨Zs, hZs⟩ : ∃ Z : Nat, Hid (Xs ^^^ Ys = Z) := ⟨_, Lib.hid rfl⟩
            have hZ1s : Zs < 1024 := by rw [← hZs.out]; exact xor_lt hX1s hY1s
            rw [hZs.out] at hxors
            obtain ⟨Ms, hMs⟩ : ∃ M : Nat, Hid (gm Xs F = M) := ⟨_, Lib.hid rfl⟩
            have hM1s : Ms < 1024 := by rw [← hMs.out]; exact gm_lt _ hX1s
            have hMuls : Hid (MulIs Xs fz Ms) := mulIs (by omega) (by omega) hfz.1 hfz.2 (by
              unfold mulI
              rw [Int.toNat_natCast, Nat.mod_eq_of_lt hX1s, hF.out, hMs.out])
            have hlas : Hid (rm k fs ++ [Zs] = rm (k + 1) fs) := by
              unfold Hid
              rw [rm_succ, hfs.out, hXs.out, hYs.out, hZs.out]
            have hlbs : Hid (rm k ft ++ [Ms] = rm (k + 1) ft) := by
              unfold Hid
              rw [rm_succ, hft.out, hXs.out, hMs.out]
            obtain ⟨_, e, hP0, hP1⟩ := h1.out.at_ hlt
            injection e with e
            subst e
            rw [← at_get hlt, hXs.out] at hP1
            obtain ⟨_, e, hQ0, hQ1⟩ := h2.out.at_ (show k < W2.length by rw [hW2l.out]; exact hlt)
            injection e with e
            subst e
            rw [← at_get (by rw [hW2l.out]; exact hlt), hYs.out] at hQ1
            replace hP0 := Lib.hid hP0
            replace hP1 := Lib.hid hP1
            replace hQ0 := Lib.hid hQ0
            replace hQ1 := Lib.hid hQ1
            go_wp2_with fail
            refine Cl.region_way0 (fun b => b < w7.heap.size) 24 [(0, .r), (1, .r), (2, .r), (3, .r), (4, .r), (5, .r), (6, .r), (7, .r), (8, .r), (9, .r), (12, .r), (13, .r), (14, .r), (15, .r), (16, .r), (17, .r), (18, .r), (10, .c), (11, .c), (19, .c), (20, .c), (21, .c), (22, .r), (23, .r)] (by kernel_rfl) (by kernel_rfl) ?_
            intro was hks
            have hR1s := Lib.hid (hR.out.keep (Cl.Keeps.below hks))
            have hS1s := Lib.hid (hSL.out.next hR1s.out.be)
            have hcX : ∀ y : Cl.Since (fun b => b < w7.heap.size) was, y.w.cell? (ad1.add k) = some (.int .u16 ((Xs : Nat) : Int)) := fun y => by
              rw [y.cell (by rw [add_block]; exact Nat.lt_of_lt_of_le hP0.out hR1s.out.be.size) (by rw [add_block]; exact hP0.out), hR1s.out.be.cell (by rw [add_block]; exact hP0.out)]
              exact hP1.out
            have hcY : ∀ y : Cl.Since (fun b => b < w7.heap.size) was, y.w.cell? (ad2.add k) = some (.int .u16 ((Ys : Nat) : Int)) := fun y => by
              rw [y.cell (by rw [add_block]; exact Nat.lt_of_lt_of_le hQ0.out hR1s.out.be.size) (by rw [add_block]; exact hQ0.out), hR1s.out.be.cell (by rw [add_block]; exact hQ0.out)]
              exact hQ1.out
            have hiA : ∀ y : Cl.Since (fun b => b < w7.heap.size) was, isTb y.w g = true := fun y => (show Tb y.w g cs from (y.keeps.block g hS1s.out.lt hSL.out.lt).trans hS1s.out.tb).is hl.1
            have hoA : ∀ y : Cl.Since (fun b => b < w7.heap.size) was, tbOf y.w g = cells cs := fun y => (show Tb y.w g cs from (y.keeps.block g hS1s.out.lt hSL.out.lt).trans hS1s.out.tb).of
            iterate 17 (refine Cl.way_r rfl ?_; go_big_quiet_step (fail); refine wpQuiet_nil ?_)
            clear hks hcX hcY hiA hoA hS1s
            refine Cl.way_c rfl ?_
            have hq := sl_new was (.cells #[.int .u16 ((Zs : Nat) : Int)] 23) [Zs] was.heap.size rfl rfl (by simp; omega)
            have hb2 := below_alloc was (.cells #[.int .u16 ((Zs : Nat) : Int)] 23)
            go_wp2_with fail
            refine Cl.way_on (Cl.Keeps.of_below hb2) ?_
            have hR2 := hR1s.out.keep hb2
            generalize was.alloc (.cells #[.int .u16 ((Zs : Nat) : Int)] 23) = wbs at hq hb2 hR2 ⊢
            generalize was.heap.size = gbs at hq ⊢
            have hR2p := Lib.hid (hR2)
            clear hb2 hR2
            refine Cl.way_c rfl ?_
            refine app_law3 (w0 := w7) rfl (.tmp 64) (.tmp 74) rfl u13 (rm k fs) rfl hR2p.out.o1 hR2p.out.be.size ⟨gbs, 0, none⟩ 1 [Zs] rfl hq (by rw [rm_len]; simp; omega) ?_
            intro vas wcs hv hg hn
            have hR3 := hR2p.out.step hv hg hn
            rw [hlas.out] at hR3
            have hK := hR2p.out.kept hg
            replace hR3 := Lib.hid hR3
            replace hK := Lib.hid hK
            clear hv hg hn hR2p hq hR1s
            go_wp2_with fail
            refine Cl.way_on hK.out ?_
            clear hK
            refine Cl.way_c rfl ?_
            go_wp2_with (go_at_call 23; (with_reducible refine (hMuls.out.at cs _).mono ?_); rintro e wds ⟨rfl, hb4⟩)
            refine Cl.way_on (Cl.Keeps.of_below hb4) ?_
            have hR4 := Lib.hid (hR3.out.keep hb4)
            clear hb4 hR3
            refine Cl.way_c rfl ?_
            have hq := sl_new wds (.cells #[.int .u16 ((Ms : Nat) : Int)] 23) [Ms] wds.heap.size rfl rfl (by simp; omega)
            have hb2 := below_alloc wds (.cells #[.int .u16 ((Ms : Nat) : Int)] 23)
            go_wp2_with fail
            refine Cl.way_on (Cl.Keeps.of_below hb2) ?_
            have hR2 := hR4.out.keep hb2
            generalize wds.alloc (.cells #[.int .u16 ((Ms : Nat) : Int)] 23) = wes at hq hb2 hR2 ⊢
            generalize wds.heap.size = gds at hq ⊢
            have hR2p := Lib.hid (hR2.s13)
            clear hb2 hR2
            refine Cl.way_c rfl ?_
            refine app_law3 (w0 := w7) rfl (.tmp 76) (.tmp 84) rfl u15 (rm k ft) rfl hR2p.out.o1 hR2p.out.be.size ⟨gds, 0, none⟩ 1 [Ms] rfl hq (by rw [rm_len]; simp; omega) ?_
            intro vbs wfs hv hg hn
            have hR3 := hR2p.out.step hv hg hn
            rw [hlbs.out] at hR3
            have hK := hR2p.out.kept hg
            have hRs := Lib.hid (hR3.s13)
            replace hK := Lib.hid hK
            clear hv hg hn hR2p hq hR3 hR4
            go_wp2_with fail
            refine Cl.way_on hK.out ?_
            clear hK
            iterate 2 (refine Cl.way_r rfl ?_; go_big_quiet_step (fail); refine wpQuiet_nil ?_)
            refine Cl.way_end ?_
            clear hP0 hP1 hQ0 hQ1 hR
            by_cases hkn : k < xs.length
            · skip
              have hd2 : decide (k < xs.length) = true := by rw [decide_eq_true_eq]; exact hkn
              have hkxI : (k : Int) < (xs.length : Int) := by omega
              have hkzI : (k : Int) < (zs.length : Int) := by omega
              have hkx : k < xs.length := by omega
              have hkz : k < zs.length := by omega
              have hdx1 : at_ dx k = xs[k] := by
                have : k < dx.length := by rw [hdxl.out]; exact hkn
                rw [at_get this]
                simp [← hdx.out]
              have hdz1 : at_ dz k = zs[k] := by
                have : k < dz.length := by rw [hdzl.out]; exact hkn
                rw [at_get this]
                simp [← hdz.out]
              have hmin : min k (xs.length) = k := Nat.min_eq_left (Nat.le_of_lt hkn)
              rw [hmin] at hRs
              obtain ⟨Xd, hXd⟩ : ∃ X : Nat, Hid (at_ dx k = X) := ⟨_, Lib.hid rfl⟩
              obtain ⟨Yd, hYd⟩ : ∃ Y : Nat, Hid (at_ dz k = Y) := ⟨_, Lib.hid rfl⟩
              have hX1d : Xd < 1024 := by rw [← hXd.out]; exact at_lt p31.out (by decide)
              have hY1d : Yd < 1024 := by rw [← hYd.out]; exact at_lt p32.out (by decide)
              have hxord : bits .xor .u16 (Xd : Int) (Yd : Int) = ((Xd ^^^ Yd : Nat) : Int) := u16_xor_nat Xd Yd (by omega) (by omega)
              obtain ⟨Zd, hZd⟩ : ∃ Z : Nat, Hid (Xd ^^^ Yd = Z) := ⟨_, Lib.hid rfl⟩
              have hZ1d : Zd < 1024 := by rw [← hZd.out]; exact xor_lt hX1d hY1d
              rw [hZd.out] at hxord
              obtain ⟨Md, hMd⟩ : ∃ M : Nat, Hid (gm Xd F = M) := ⟨_, Lib.hid rfl⟩
              have hM1d : Md < 1024 := by rw [← hMd.out]; exact gm_lt _ hX1d
              have hMuld : Hid (MulIs Xd fz Md) := mulIs (by omega) (by omega) hfz.1 hfz.2 (by
                unfold mulI
                rw [Int.toNat_natCast, Nat.mod_eq_of_lt hX1d, hF.out, hMd.out])
              have hlad : Hid (rm k fd ++ [Zd] = rm (k + 1) fd) := by
                unfold Hid
                rw [rm_succ, hfd.out, hXd.out, hYd.out, hZd.out]
              have hlbd : Hid (rm k fe ++ [Md] = rm (k + 1) fe) := by
                unfold Hid
                rw [rm_succ, hfe.out, hXd.out, hMd.out]
              obtain ⟨_, e, hP0, hP1⟩ := hA.out.at_ hkx
              injection e with e
              subst e
              rw [← hdx1, hXd.out] at hP1
              obtain ⟨_, e, hQ0, hQ1⟩ := hZ.out.at_ hkz
              injection e with e
              subst e
              rw [← hdz1, hYd.out] at hQ1
              replace hP0 := Lib.hid hP0
              replace hP1 := Lib.hid hP1
              replace hQ0 := Lib.hid hQ0
              replace hQ1 := Lib.hid hQ1
              clear hdx1 hdz1 hmin
              go_wp2_with fail
              refine Cl.region_way0 (fun b => b < w7.heap.size) 24 [(0, .r), (1, .r), (2, .r), (3, .r), (4, .r), (5, .r), (6, .r), (7, .r), (8, .r), (9, .r), (12, .r), (13, .r), (14, .r), (15, .r), (16, .r), (17, .r), (18, .r), (10, .c), (11, .c), (19, .c), (20, .c), (21, .c), (22, .r), (23, .r)] (by kernel_rfl) (by kernel_rfl) ?_
              intro wad hkd
              have hR1d := Lib.hid (hRs.out.keep (Cl.Keeps.below hkd))
              have hS1d := Lib.hid (hSL.out.next hR1d.out.be)
              have hcX : ∀ y : Cl.Since (fun b => b < w7.heap.size) wad, y.w.cell? (ada.add k) = some (.int .u16 ((Xd : Nat) : Int)) := fun y => by
                rw [y.cell (by rw [add_block]; exact Nat.lt_of_lt_of_le hP0.out hR1d.out.be.size) (by rw [add_block]; exact hP0.out), hR1d.out.be.cell (by rw [add_block]; exact hP0.out)]
                exact hP1.out
              have hcY : ∀ y : Cl.Since (fun b => b < w7.heap.size) wad, y.w.cell? (adz.add k) = some (.int .u16 ((Yd : Nat) : Int)) := fun y => by
                rw [y.cell (by rw [add_block]; exact Nat.lt_of_lt_of_le hQ0.out hR1d.out.be.size) (by rw [add_block]; exact hQ0.out), hR1d.out.be.cell (by rw [add_block]; exact hQ0.out)]
                exact hQ1.out
              have hiA : ∀ y : Cl.Since (fun b => b < w7.heap.size) wad, isTb y.w g = true := fun y => (show Tb y.w g cs from (y.keeps.block g hS1d.out.lt hSL.out.lt).trans hS1d.out.tb).is hl.1
              have hoA : ∀ y : Cl.Since (fun b => b < w7.heap.size) wad, tbOf y.w g = cells cs := fun y => (show Tb y.w g cs from (y.keeps.block g hS1d.out.lt hSL.out.lt).trans hS1d.out.tb).of
              iterate 17 (refine Cl.way_r rfl ?_; go_big_quiet_step (fail); refine wpQuiet_nil ?_)
              clear hkd hcX hcY hiA hoA hS1d
              refine Cl.way_c rfl ?_
              have hq := sl_new wad (.cells #[.int .u16 ((Zd : Nat) : Int)] 23) [Zd] wad.heap.size rfl rfl (by simp; omega)
              have hb2 := below_alloc wad (.cells #[.int .u16 ((Zd : Nat) : Int)] 23)
              go_wp2_with fail
              refine Cl.way_on (Cl.Keeps.of_below hb2) ?_
              have hR2 := hR1d.out.keep hb2
              generalize wad.alloc (.cells #[.int .u16 ((Zd : Nat) : Int)] 23) = wbd at hq hb2 hR2 ⊢
              generalize wad.heap.size = gbd at hq ⊢
              have hR2p := Lib.hid (hR2.s12)
              clear hb2 hR2
              refine Cl.way_c rfl ?_
              refine app_law3 (w0 := w7) rfl (.tmp 89) (.tmp 99) rfl u14 (rm k fd) rfl hR2p.out.o1 hR2p.out.be.size ⟨gbd, 0, none⟩ 1 [Zd] rfl hq (by rw [rm_len]; simp; omega) ?_
              intro vad wcd hv hg hn
              have hR3 := hR2p.out.step hv hg hn
              rw [hlad.out] at hR3
              have hK := hR2p.out.kept hg
              replace hR3 := Lib.hid hR3
              replace hK := Lib.hid hK
              clear hv hg hn hR2p hq hR1d
              go_wp2_with fail
              refine Cl.way_on hK.out ?_
              clear hK
              refine Cl.way_c rfl ?_
              go_wp2_with (go_at_call 23; (with_reducible refine (hMuld.out.at cs _).mono ?_); rintro e wdd ⟨rfl, hb4⟩)
              refine Cl.way_on (Cl.Keeps.of_below hb4) ?_
              have hR4 := Lib.hid (hR3.out.keep hb4)
              clear hb4 hR3
              refine Cl.way_c rfl ?_
              have hq := sl_new wdd (.cells #[.int .u16 ((Md : Nat) : Int)] 23) [Md] wdd.heap.size rfl rfl (by simp; omega)
              have hb2 := below_alloc wdd (.cells #[.int .u16 ((Md : Nat) : Int)] 23)
              go_wp2_with fail
              refine Cl.way_on (Cl.Keeps.of_below hb2) ?_
              have hR2 := hR4.out.keep hb2
              generalize wdd.alloc (.cells #[.int .u16 ((Md : Nat) : Int)] 23) = wed at hq hb2 hR2 ⊢
              generalize wdd.heap.size = gdd at hq ⊢
              have hR2p := Lib.hid (hR2.s12.s14)
              clear hb2 hR2
              refine Cl.way_c rfl ?_
              refine app_law3 (w0 := w7) rfl (.tmp 101) (.tmp 109) rfl u16 (rm k fe) rfl hR2p.out.o1 hR2p.out.be.size ⟨gdd, 0, none⟩ 1 [Md] rfl hq (by rw [rm_len]; simp; omega) ?_
              intro vbd wfd hv hg hn
              have hR3 := hR2p.out.step hv hg hn
              rw [hlbd.out] at hR3
              have hK := hR2p.out.kept hg
              have hRd := Lib.hid (hR3.s14)
              replace hK := Lib.hid hK
              clear hv hg hn hR2p hq hR3 hR4
              go_wp2_with fail
              refine Cl.way_on hK.out ?_
              clear hK
              iterate 2 (refine Cl.way_r rfl ?_; go_big_quiet_step (fail); refine wpQuiet_nil ?_)
              refine Cl.way_end ?_
              clear hP0 hP1 hQ0 hQ1 hRs
              go_wp2_with fail
              go_roundw
              case rel => exact ⟨k + 1, by omega, by go_num, by rw [show min (k + 1) (xs.length) = k + 1 from Nat.min_eq_left (by omega)]; exact hRd.out⟩
              case measure => simp [intOf]; omega
            · skip
              have hd2 : decide (k < xs.length) = false := by rw [decide_eq_false_iff_not]; exact hkn
              have hm1 : min k (xs.length) = xs.length := Nat.min_eq_right (by omega)
              have hm2 : min (k + 1) (xs.length) = xs.length := Nat.min_eq_right (by omega)
              rw [hm1] at hRs
              replace hm2 := Lib.hid hm2
              clear hm1
              go_wp2_with fail
              go_roundw
              case rel => exact ⟨k + 1, by omega, by go_num, by rw [hm2.out]; exact hRs.out⟩
              case measure => simp [intOf]; omega
          · skip
            obtain rfl : k = W1.length := by omega
            rw [show min W1.length (xs.length) = xs.length from Nat.min_eq_right (by have := hn1.out; omega)] at hR
            have e1 : rm W1.length fs = xw W1 W2 := rm_congr fun j _ => hfs.out j
            have e3 : rm W1.length ft = sw F W1 := rm_congr fun j _ => hft.out j
            have e2 : rm (xs.length) fd = xw dx dz := by
              unfold xw
              rw [hdxl.out]
              exact rm_congr fun j _ => hfd.out j
            have e4 : rm (xs.length) fe = sw F dx := by
              unfold sw
              rw [hdxl.out]
              exact rm_congr fun j _ => hfe.out j
            rw [e1, e2, e3, e4] at hR
            have hlxz : dx.length = dz.length := by rw [hdxl.out, hdzl.out]
            have hda := xw_bd p31.out p32.out
            have hdt := sw_bd (s := F) p31.out
            have hE5 : encE (xw dx dz) = 0 := encE_of (by rw [xw_len, hdxl.out]; omega) (by rw [xw_len, hdxl.out]; omega) hda
            have hE6 : encE (sw F dx) = 0 := encE_of (by rw [sw_len, hdxl.out]; omega) (by rw [sw_len, hdxl.out]; omega) hdt
            have hW5 : encW (xw dx dz) = xw W1 W2 := by rw [encW_of hE5, enc_xor hlxz (by rw [hdxl.out]; omega) p31.out p32.out, hWe1.out, hWe2.out]
            have hW6 : encW (sw F dx) = sw F W1 := by rw [encW_of hE6, enc_scale (by rw [hdxl.out]; omega) p31.out hF1, hWe1.out]
            have l5 : (xw dx dz).length ≤ 1000000 := by rw [xw_len, hdxl.out]; omega
            have l6 : (sw F dx).length ≤ 1000000 := by rw [sw_len, hdxl.out]; omega
            have l7 : (xw W1 W2).length ≤ 1000000 := by rw [xw_len]; omega
            have l8 : (sw F W1).length ≤ 1000000 := by rw [sw_len]; omega
            generalize xw dx dz = DA at *
            generalize sw F dx = DT at *
            generalize xw W1 W2 = SU at *
            generalize sw F W1 = TI at *
            obtain ⟨A13, c13, rfl, hc13, h13⟩ := hR.out.o1.sl
            obtain ⟨A14, c14, rfl, hc14, h14⟩ := hR.out.o2.sl
            obtain ⟨A15, c15, rfl, hc15, h15⟩ := hR.out.o3.sl
            obtain ⟨A16, c16, rfl, hc16, h16⟩ := hR.out.o4.sl
            have hS := hSL.out.next hR.out.be
            have hi := hS.is hl.1
            have ho := hS.of
            replace hE5 := Lib.hid hE5
            replace hE6 := Lib.hid hE6
            replace hW5 := Lib.hid hW5
            replace hW6 := Lib.hid hW6
            replace l5 := Lib.hid l5
            replace l6 := Lib.hid l6
            replace l7 := Lib.hid l7
            replace l8 := Lib.hid l8
            replace h13 := Lib.hid h13
            replace h14 := Lib.hid h14
            replace h15 := Lib.hid h15
            replace h16 := Lib.hid h16
            clear hR e1 e2 e3 e4 hlxz hda hdt hk hlt
            go_wp2_with fail
            have hc := cod_encode (ca := c14) hl h14.out l5.out hc14
            rw [hW5.out] at hc
            rw [hE5.out] at hc
            replace hc := Lib.hid hc
            refine hc.out.mono ?_
            rintro e w31 ⟨A20, c20, rfl, hc20, h20, -, hb⟩
            clear hc
            have hS := hS.next hb
            have hi := hS.is hl.1
            have ho := hS.of
            replace h13 := Lib.hid (h13.out.far hb)
            replace h14 := Lib.hid (h14.out.far hb)
            replace h15 := Lib.hid (h15.out.far hb)
            replace h16 := Lib.hid (h16.out.far hb)
            clear hb
            replace h20 := Lib.hid h20
            go_wp2_with fail
            have hc := cod_encode (ca := c16) hl h16.out l6.out hc16
            rw [hW6.out] at hc
            rw [hE6.out] at hc
            replace hc := Lib.hid hc
            refine hc.out.mono ?_
            rintro e w32 ⟨A21, c21, rfl, hc21, h21, -, hb⟩
            clear hc
            have hS := hS.next hb
            have hi := hS.is hl.1
            have ho := hS.of
            replace h13 := Lib.hid (h13.out.far hb)
            replace h14 := Lib.hid (h14.out.far hb)
            replace h15 := Lib.hid (h15.out.far hb)
            replace h16 := Lib.hid (h16.out.far hb)
            replace h20 := Lib.hid (h20.out.far hb)
            clear hb
            replace h21 := Lib.hid h21
            go_wp2_with fail
            have hc := val_same (ca := c20) (cb := c13) (b := true) h20.out h13.out l7.out l7.out (decide_eq_true rfl)
            replace hc := Lib.hid hc
            clear h20
            clear h13
            refine hc.out.mono ?_
            rintro e w33 ⟨rfl, hb⟩
            clear hc
            have hS := hS.next hb
            have hi := hS.is hl.1
            have ho := hS.of
            replace h14 := Lib.hid (h14.out.far hb)
            replace h15 := Lib.hid (h15.out.far hb)
            replace h16 := Lib.hid (h16.out.far hb)
            replace h21 := Lib.hid (h21.out.far hb)
            clear hb
            go_wp2_with fail
            have hc := val_same (ca := c21) (cb := c15) (b := true) h21.out h15.out l8.out l8.out (decide_eq_true rfl)
            replace hc := Lib.hid hc
            clear h21
            clear h15
            refine hc.out.mono ?_
            rintro e w34 ⟨rfl, hb⟩
            clear hc
            have hS := hS.next hb
            have hi := hS.is hl.1
            have ho := hS.of
            replace h14 := Lib.hid (h14.out.far hb)
            replace h16 := Lib.hid (h16.out.far hb)
            clear hb
            go_wp2_with fail
            go_ret
            exact ⟨rfl, hS.below⟩
      · skip
        obtain ⟨z1, hz1⟩ : ∃ z1, ((E1 : Int) != 0) = z1 := ⟨_, rfl⟩
        obtain ⟨z2, hz2⟩ : ∃ z2, ((E2 : Int) != 0) = z2 := ⟨_, rfl⟩
        have hor : Hid (z1 = true ∨ z2 = true) := by
          unfold Hid
          rw [← hz1, ← hz2]
          simp only [bne_iff_ne, ne_eq]
          omega
        clear hE0
        cases z1
        · obtain rfl : z2 = true := by rcases hor.out with h | h <;> first | exact h | cases h
          go_wp2_with fail
          go_ret
          exact ⟨rfl, hS.below⟩
        · go_wp2_with fail
          go_ret
          exact ⟨rfl, hS.below⟩
    · have hor : Hid (b0 = true ∨ b1 = true) := by
        unfold Hid
        rw [← e0, ← e1, decide_eq_true_eq, beq_iff_eq]
        omega
      clear hsz
      cases b0
      · obtain rfl : b1 = true := by rcases hor.out with h | h <;> first | exact h | cases h
        go_enter Try.func7, Try.ntmps7
        go_wp2_with fail
        refine (awake_any w).mono ?_
        rintro e w1 ⟨rfl, hb⟩
        go_wp2_with fail
        go_ret
        exact ⟨rfl, hb⟩
      · skip
        go_enter Try.func7, Try.ntmps7
        go_wp2_with fail
        refine (awake_any w).mono ?_
        rintro e w1 ⟨rfl, hb⟩
        go_wp2_with fail
        go_ret
        exact ⟨rfl, hb⟩
end Go.Proofs.Ytciafkobnlfpbaa
namespace Go.Proofs.Ytciafkobnlfpbaa.codeSums
open Go.ChangeShapes Go.WideShapes Go.ChangeAt Go.RowKit Go.Gf
set_option linter.unusedVariables false

theorem own : ownKnob Try.prog.godebug = none := by kernel_rfl

theorem walk (A0 : Option Addr) (x0 : List Nat) (c0 : Nat) (l0 : x0.length ≤ c0) (m0 : c0 ≤ maxLen) (A1 : Option Addr) (x1 : List Nat) (c1 : Nat) (l1 : x1.length ≤ c1) (m1 : c1 ≤ maxLen) (a2 : Int) (w2 : (Lit.int .u16 a2).wf = true) (w : World) (s0 : Sl w w.heap.size A0 x0) (s1 : Sl w w.heap.size A1 x1) :
    Calls Try.prog 7 #[.slice A0 x0.length c0, .slice A1 x1.length c1, .int .u16 a2] w fun e w' => e = .returned (.bool true) ∧ Below w.heap.size w w' := sums_law A0 x0 c0 l0 m0 A1 x1 c1 l1 m1 a2 w2 w s0 s1

set_option maxRecDepth 100000 in
theorem lifted (os : Os) (started : os.Started) (H : Type) (enc : TypeId × Value → H) :
    ReturnsInHanded {} Try.checked os 7 .any (Rows.codeSumsSpec.pre6 enc Try.prog Try.f7 Rows.codeSumsRow.domain false) (Rows.codeSumsSpec.post enc Try.prog Try.f7 false true false false) := by
  refine returnsInHanded_of_change (C := Try.checked) own started (by kernel_rfl) Try.func7
    (ChangeSpec.witness6 (enc := enc) (C := Try.checked) false ⟨#[], #[.slice none 0 0, .slice none 0 0, .int .u16 0], []⟩ 8 (by kernel_rfl) (by kernel_rfl) (by kernel_rfl) (by kernel_rfl)) ?_
  intro W base args ds gs before hval0 hW hcnd _
  have hval : ∀ (j : Nat) t v, Try.f7.params[j]? = some t → args[j]? = some v → Value.okWide Try.prog W .any base t v := hval0
  have hW' := hW
  obtain ⟨p, q, hA0, hV, rfl, hfz, hnd⟩ := hW
  have hA : DataW.TrodAll enc Try.prog W 0 (fun _ => true) true Try.f7.params.toList args.toList ds p := hA0
  rw [Try.params7] at hA hval
  obtain ⟨v0, vs0, d0, ds0, p0, q0, hargs, rfl, rfl, h0, r0⟩ := trodAll_cons hA
  obtain ⟨v1, vs1, d1, ds1, p1, q1, rfl, rfl, rfl, h1, r1⟩ := trodAll_cons r0
  obtain ⟨v2, vs2, d2, ds2, p2, q2, rfl, rfl, rfl, h2, r2⟩ := trodAll_cons r1
  obtain ⟨rfl, rfl, rfl⟩ := trodAll_nil r2
  obtain rfl : args = #[v0, v1, v2] := by cases args; simp_all
  obtain ⟨rfl, rfl⟩ := trodVars_none hV
  obtain ⟨A0, x0, c0, rfl, l0, m0, s0, t0⟩ := open_sl Try.underlying22 Try.underlying23 (by kernel_rfl : Try.prog.cellsOf 23 = 1) (hval 0 22 v0 rfl rfl) h0
  obtain ⟨A1, x1, c1, rfl, l1, m1, s1, t1⟩ := open_sl Try.underlying22 Try.underlying23 (by kernel_rfl : Try.prog.cellsOf 23 = 1) (hval 1 22 v1 rfl rfl) h1
  obtain ⟨a2, rfl, rfl, rfl, w2⟩ := open_int Try.underlying23 (hval 2 23 v2 rfl rfl) h2
  clear hA0 hval0
  refine (walk A0 x0 c0 l0 m0 A1 x1 c1 l1 m1 a2 w2 W s0 s1).mono fun e W' ⟨he, hg⟩ => ?_
  subst he
  exact ⟨_, rfl, Cl.post_below (pv := []) hW' (fun _ _ _ => (trodAll_cons_mk (shut_bool Try.underlying4 _) trodAll_mk0)) (fun sp hsp => (trodAll_cons_mk (t0 W' hg sp (fun q hq => hsp q (by simp [hq]))) (trodAll_cons_mk (t1 W' hg sp (fun q hq => hsp q (by simp [hq]))) (trodAll_cons_mk (shut_int Try.underlying23 w2) trodAll_mk0)))) (fun _ _ => rfl) rfl
    hg (ok_one (by kernel_rfl) rfl (okWide_bool_mk Try.underlying4 _))⟩

theorem over : Rows.codeSumsRow.holds Try.pinned (OpenSpec.ofChange Rows.codeSumsSpec) :=
  OpenClaim.holds_of_wide 7 Try.f7 rfl rfl rfl rfl rfl rfl rfl ⟨rfl, rfl, rfl, rfl, rfl⟩ rfl rfl rfl rfl rfl (by kernel_rfl) Try.func7 (by kernel_rfl)
    (of_decide_eq_true (by kernel_rfl)) (by unfold Func.isWrapper; first | (rw [if_pos (by decide +kernel)]; kernel_rfl) | (rw [if_neg (by decide +kernel)]; exact ⟨rfl, rfl⟩))
    (fun os started H enc _ => lifted os started H enc)

/-- THE STATEMENT -/
theorem proved : Rows.CodeSumsSaid := over
end Go.Proofs.Ytciafkobnlfpbaa.codeSums
