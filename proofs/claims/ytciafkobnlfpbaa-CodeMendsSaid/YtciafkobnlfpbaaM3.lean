/- Statement CodeMends: for all data and all turns the law returns true. -/
import Derived.Test.YtciafkobnlfpbaaCt
namespace Go.Proofs.Ytciafkobnlfpbaa
open Go.RowKit Go.Gf
attribute [local go_sem ↓] exec_load_tb Cl.quiet_since
attribute [local go_sem] tbAt_ptr tbIn_ptr

set_option maxRecDepth 20000 in
set_option maxHeartbeats 4000000 in
theorem mends_law (A : Option Addr) (xs : List Nat) (ca : Nat) (hca : xs.length ≤ ca) (hx : ca ≤ maxLen) (AT : Option Addr) (ts : List (Nat × Nat)) (ct : Nat) (hct : ts.length ≤ ct) (hxt : ct ≤ maxLen) (w : World) (hA : Sl w w.heap.size A xs) (hT : Sp w w.heap.size AT ts) :
    Calls Try.prog 5 #[.slice A xs.length ca, .slice AT ts.length ct] w (Leaves w (.bool true)) := by
  have mx : (xs.length : Int) ≤ 9223372036854775807 := by unfold maxLen at hx; omega
  have mt : (ts.length : Int) ≤ 9223372036854775807 := by unfold maxLen at hxt; omega
  clear hx hxt
  replace hA := Lib.hid hA
  replace hT := Lib.hid hT
  have hz := zero27
  obtain ⟨Wd, hWd⟩ : ∃ Wd, Hid (encW xs = Wd) := ⟨_, Lib.hid rfl⟩
  obtain ⟨E, hEd⟩ : ∃ E, Hid (encE xs = E) := ⟨_, Lib.hid rfl⟩
  have hWl : Hid (Wd.length ≤ 1023) := by rw [← hWd.out]; exact Lib.hid (encW_le xs)
  obtain ⟨b1, e1⟩ : ∃ b1, decide ((150 : Int) < (xs.length : Int)) = b1 := ⟨_, rfl⟩
  obtain ⟨b2, e2⟩ : ∃ b2, decide ((60 : Int) < (ts.length : Int)) = b2 := ⟨_, rfl⟩
  by_cases hsz : xs.length ≤ 150 ∧ ts.length ≤ 60
  · obtain ⟨hl1, hl2⟩ := hsz
    have lx : xs.length ≤ 1000000 := by omega
    obtain rfl : b1 = false := by rw [← e1, decide_eq_false_iff_not]; omega
    obtain rfl : b2 = false := by rw [← e2, decide_eq_false_iff_not]; omega
    go_enter Try.func5, Try.ntmps5
    go_wp2_with fail
    have hW : Hid (Below w.heap.size w w) := Lib.hid (Below.refl _ _)
    have hc := awake_any w
    replace hc := Lib.hid hc
    refine hc.out.mono ?_
    rintro e w1 ⟨rfl, hb⟩
    clear hc
    have hW := Lib.hid (hW.out.trans (hb.mono hW.out.size))
    replace hA := Lib.hid (hA.out.far hb)
    replace hT := Lib.hid (hT.out.far hb)
    clear hb
    go_wp2_with fail
    refine (make_any _).mono ?_
    rintro e w2 ⟨cs, rfl, hl, hb⟩
    have hb0 := hW.out.trans (hb.mono hW.out.size)
    replace hA := Lib.hid (hA.out.far hb)
    replace hT := Lib.hid (hT.out.far hb)
    clear hb hW
    go_wp2_with (refine wpList_store_row rfl 28 _ _ rfl w2.heap.size (cells cs) rfl rfl 28 (cells ZT) (heap_alloc_new w2 _) (rsize hl) (zsize hl) (cells_one cs) ?_)
    have hS := St.start (cs := cs) hb0 (cells ZT)
    have hb : Below w2.heap.size w2 ((w2.alloc (Obj.cells (cells ZT) 28)).setRow w2.heap.size (cells cs)) := below_setRow ((Below.refl _ _).alloc (Nat.le_refl _) _) (Nat.le_refl _) _
    replace hA := Lib.hid (hA.out.far hb)
    replace hT := Lib.hid (hT.out.far hb)
    clear hb0 hb
    generalize hg : w2.heap.size = g at hS ⊢
    rw [hg] at hA hT
    generalize (w2.alloc (Obj.cells (cells ZT) 28)).setRow g (cells cs) = w3 at *
    clear hg hz
    have hi := hS.is hl.1
    have ho := hS.of
    go_wp2_with fail
    have hc := cod_encode (ca := ca) hl hA.out lx hca
    rw [hWd.out] at hc
    rw [hEd.out] at hc
    replace hc := Lib.hid hc
    refine hc.out.mono ?_
    rintro e w4 ⟨A1, c1, rfl, hc1, h1, hp1, hb⟩
    clear hc
    have hS := hS.next hb
    have hi := hS.is hl.1
    have ho := hS.of
    replace hA := Lib.hid (hA.out.far hb)
    replace hT := Lib.hid (hT.out.far hb)
    clear hb
    replace h1 := Lib.hid h1
    by_cases hE0 : E = 0
    · skip
      have hz : ((E : Int) != 0) = false := by simp [hE0]
      have hE1 : encE xs = 0 := by rw [hEd.out]; exact hE0
      clear hE0
      obtain ⟨p1, p2, p3⟩ := encE_inv hE1
      have hWe : Hid (Wd = enc xs) := by rw [← hWd.out]; exact encW_of hE1
      have hn : Hid (Wd.length = xs.length + 16) := by rw [hWe.out]; exact Lib.hid (enc_len xs)
      have hWb : Hid (∀ y ∈ Wd, y < 1024) := by rw [hWe.out]; exact Lib.hid (enc_bd p3)
      have hWc : Hid (isCw Wd) := by rw [hWe.out]; exact Lib.hid (enc_cw p3)
      have hWne : Hid (Wd ≠ []) := by intro e; have h := hn.out; rw [e] at h; simp at h
      obtain ⟨g1, rfl, _, hp1⟩ := hp1 hWne.out
      replace p3 := Lib.hid p3
      replace hp1 := Lib.hid hp1
      have hn0 := below_alloc w4 (.cells #[] 23)
      have hAz := Lib.hid (h1.out.far hn0)
      have hOz := Lib.hid (OwnS.empty w4)
      replace hn0 := Lib.hid hn0
      go_wp2_with (refine app_law2 (w0 := w4) rfl (.tmp 35) (.tmp 36) rfl (.slice (some ⟨w4.heap.size, 0, none⟩) 0 0) [] rfl hOz.out hn0.out ⟨g1, 0, none⟩ c1 Wd rfl hAz.out (by have := hWl.out; simp; omega) ?_)
      intro v1 wa hv hb
      obtain ⟨g5, c5, rfl, hc5, hg5, hpre⟩ := hv.pre (ys := Wd) hWne.out
      have hg5T := hg5
      have hSa := Lib.hid (hS.next hb)
      have h1B : Hid (Sl wa g5 (some ⟨g1, 0, none⟩) Wd) := (h1.out.below hb).more hg5
      have hTB : Hid (Sp wa g5 AT ts) := ⟨hT.out.1, (hT.out.keep fun p hp => hb.cell hp).2.imp id fun ⟨a, e, h1, h2⟩ => ⟨a, e, Nat.lt_of_lt_of_le h1 hg5, h2⟩⟩
      have hgT : Hid (g < g5) := Nat.lt_of_lt_of_le (St.lt hS) hg5
      have hL0 : Hid (DecL wa g5 Wd.length (at_ (tn Wd ts 0)) wa) := DecL.start hpre
      have hBa := Lib.hid (hS.next hb).below
      clear hv hn0 hAz hOz hb hpre hi ho hS h1 hA hT
      go_wp2_with fail
      have hL0g : Hid (g5 < wa.heap.size) := hL0.out.2.lt
      go_loopw [9] (fun q wr => ∃ k : Nat, k ≤ ts.length ∧ q = .int .i64 k ∧ DecL wa g5 Wd.length (at_ (tn Wd ts k)) wr) (fun q _ => ts.length - (intOf q).toNat)
      case atStart => exact ⟨0, Nat.zero_le _, rfl, hL0.out⟩
      case round =>
        clear hL0
        obtain ⟨k, hk, rfl, hL⟩ := hrel
        replace hL := Lib.hid hL
        by_cases hlt : k < ts.length
        · have hkI : (k : Int) < (ts.length : Int) := by omega
          have hd : decide ((k : Int) < (ts.length : Int)) = true := by rw [decide_eq_true_eq]; exact hkI
          obtain ⟨ad, hAT, hadb, hct0⟩ := hTB.out.2.resolve_left (by intro e; rw [e] at hlt; simp at hlt)
          subst hAT
          have hTk := hTB.out.1 ts[k] (List.getElem_mem hlt)
          obtain ⟨T0, hT0⟩ : ∃ T0, Hid (ts[k].1 = T0) := ⟨_, Lib.hid rfl⟩
          obtain ⟨T1, hT1⟩ : ∃ T1, Hid (ts[k].2 = T1) := ⟨_, Lib.hid rfl⟩
          have hT0b : T0 < 65536 := by rw [← hT0.out]; exact hTk.1
          have hT1b : T1 < 65536 := by rw [← hT1.out]; exact hTk.2
          have hW0 : 0 < Wd.length := by have := hn.out; omega
          obtain ⟨p, hp⟩ : ∃ p, Hid (T0 % Wd.length = p) := ⟨_, Lib.hid rfl⟩
          have hpW : p < Wd.length := by rw [← hp.out]; exact Nat.mod_lt _ hW0
          have hpI : (p : Int) < (Wd.length : Int) := by omega
          have hkr : (T0 : Int) % (Wd.length : Int) = (p : Int) := by rw [← hp.out]; exact (Int.natCast_emod _ _).symm
          have hcv := tn_bd hWb.out (ts := ts) k
          obtain ⟨Y, hY⟩ : ∃ Y, Hid (at_ (tn Wd ts k) p = Y) := ⟨_, Lib.hid rfl⟩
          have hY1 : Y < 1024 := by rw [← hY.out]; exact at_lt hcv (by decide)
          obtain ⟨B, hB⟩ : ∃ B : Nat, Hid (T1 % 1024 = B) := ⟨_, Lib.hid rfl⟩
          have hB1 : B < 1024 := by rw [← hB.out]; exact Nat.mod_lt _ (by decide)
          have hmask : bits .and .u16 (T1 : Int) 1023 = (B : Int) := by rw [u16_mask (T1 : Int) (by omega) (by omega), ← hB.out]; rfl
          have hxor : bits .xor .u16 (Y : Int) (B : Int) = ((Y ^^^ B : Nat) : Int) := u16_xor_nat Y B (by omega) (by omega)
          obtain ⟨Z, hZ⟩ : ∃ Z, Hid (Y ^^^ B = Z) := ⟨_, Lib.hid rfl⟩
          rw [hZ.out] at hxor
          have hst : Hid (tn Wd ts (k + 1) = (tn Wd ts k).set p Z) := tn_step hlt (by rw [hT0.out]; exact hp.out) hY.out (by rw [hT1.out, hB.out]; exact hZ.out)
          clear hcv hTk
          go_wp2_with fail
          refine Cl.region_way (fun _ => True) 20 [(0, .r), (1, .r), (2, .r), (3, .r), (4, .r), (5, .r), (6, .r), (7, .r), (8, .r), (9, .r), (10, .r), (11, .r), (12, .r), (13, .r), (14, .r), (15, .r), (16, .r), (17, .r), (18, .r), (19, .r), (20, .z)] (by kernel_rfl) (by kernel_rfl) ?_
          intro w1 hk1
          have HL1 := Lib.hid (hL.out.keeps hk1)
          have hcT : ∀ y : Cl.Since (fun _ => True) w1, y.w.cell? (ad.add (k * 2)) = some (.int .u16 (T0 : Int)) ∧ y.w.cell? (ad.add (k * 2 + 1)) = some (.int .u16 (T1 : Int)) := fun y => by
            have hK := (HL1.out.keeps y.keeps).1
            have hgs : g5 ≤ wa.heap.size := Nat.le_of_lt (hL0g.out)
            have h0 := (hct0 k hlt)
            rw [hT0.out, hT1.out] at h0
            refine ⟨?_, ?_⟩
            · rw [World.cell?_of_block (w := wa) (by rw [add_block]; exact hK.block ad.block (by omega) (by omega))]; exact h0.1
            · rw [World.cell?_of_block (w := wa) (by rw [add_block]; exact hK.block ad.block (by omega) (by omega))]; exact h0.2
          have hcT0 := fun y => (hcT y).1
          have hcT1 := fun y => (hcT y).2
          rw [add_next] at hcT1
          have hcA : ∀ y : Cl.Since (fun _ => True) w1, y.w.cell? ⟨g5, p, none⟩ = some (.int .u16 (Y : Int)) := fun y => by
            rw [← hY.out]
            exact (HL1.out.keeps y.keeps).2.cell hpW
          clear hk1 hcT
          iterate 20 (refine Cl.way_r rfl ?_; go_big_quiet_step (fail); refine wpQuiet_nil ?_)
          refine Cl.way_z rfl ?_
          have hc1w := HL1.out.2.cell hpW
          rw [hY.out] at hc1w
          have hf1w := HL1.out.2.frozen p
          have HL2 : Hid (DecL wa g5 Wd.length (at_ (tn Wd ts (k + 1))) (w1.setCell ⟨g5, p, none⟩ (.int .u16 (Z : Int)))) := by
            rw [hst.out]
            exact Lib.hid ((HL1.out.set_ p Z).congr fun j _ => by rw [at_set (by rw [tn_len]; exact hpW)])
          clear hcT0 hcT1 hcA hL HL1
          go_wp2_with fail
          refine Cl.Calm.normal ?_
          clear hc1w hf1w
          go_wp2_with fail
          go_roundw
          case rel => exact ⟨k + 1, by omega, by go_num, HL2.out⟩
          case measure => simp [intOf]; omega
        · obtain rfl : k = ts.length := by omega
          have hS := hSa.out.decl hL.out hgT.out
          have hi := hS.is hl.1
          have ho := hS.of
          have h1 := Lib.hid (hL.out.word h1B.out (Nat.le_refl _) (Nat.le_of_lt hL0g.out))
          have hBb : Hid (∀ y ∈ tn Wd ts ts.length, y < 1024) := tn_bd hWb.out _
          have hBl : Hid ((tn Wd ts ts.length).length = Wd.length) := tn_len _
          have hBs := Lib.hid (hL.out.2.row hBl.out fun x hx => by have := hBb.out x hx; omega)
          generalize tn Wd ts ts.length = B at *
          clear hL hk hlt h1B hTB
          go_wp2_with fail
          have hc := cod_decode (ca := c5) hl hBs.out (by rw [hBl.out]; have := hWl.out; omega) (by rw [hBl.out]; exact hc5)
          rw [hBl.out] at hc
          replace hc := Lib.hid hc
          refine hc.out.mono ?_
          rintro e w5 ⟨ys, n, f, D1, c6, hD, rfl, hc6, hy, hb⟩
          clear hc
          have hS := hS.next hb
          have hi := hS.is hl.1
          have ho := hS.of
          replace h1 := Lib.hid (h1.out.far hb)
          replace hBs := Lib.hid (hBs.out.far hb)
          clear hb
          replace hy := Lib.hid hy
          replace hy := Lib.hid hy.out.1
          replace hD := Lib.hid hD
          have hyl := hD.out.len
          have hB17 : 17 ≤ B.length := by rw [hBl.out, hn.out]; omega
          have hB1023 : B.length ≤ 1023 := by rw [hBl.out]; exact hWl.out
          replace hB17 := Lib.hid hB17
          replace hB1023 := Lib.hid hB1023
          go_wp2_with fail
          obtain ⟨dd, hdd⟩ : ∃ dd, Hid (dl Wd B = dd) := ⟨_, Lib.hid rfl⟩
          have hc := cod_dist (ca := c1) (cb := c5) h1.out hBs.out (by have := hWl.out; omega) (by have := hB1023.out; omega)
          rw [hdd.out] at hc
          rw [hBl.out] at hc
          replace hc := Lib.hid hc
          refine hc.out.mono ?_
          rintro e w6 ⟨rfl, hb⟩
          clear hc
          have hS := hS.next hb
          have hi := hS.is hl.1
          have ho := hS.of
          replace h1 := Lib.hid (h1.out.far hb)
          replace hBs := Lib.hid (hBs.out.far hb)
          replace hy := Lib.hid (hy.out.far hb)
          clear hb
          by_cases h8 : dd ≤ 8
          · have hd : decide ((dd : Int) ≤ 8) = true := by rw [decide_eq_true_eq]; omega
            obtain ⟨rfl, hnn, rfl⟩ := dec_of_near hB17.out hB1023.out hBb.out (near_of hBl.out.symm hWb.out hWc.out (by rw [hdd.out]; exact h8)) hD.out
            rw [hdd.out] at hnn
            subst hnn
            clear h8 hD
            go_wp2_with fail
            have hc := val_same (ca := c6) (cb := c1) (b := true) hy.out h1.out (by have := hWl.out; omega) (by have := hWl.out; omega) (decide_eq_true rfl)
            replace hc := Lib.hid hc
            clear hy
            clear h1
            refine hc.out.mono ?_
            rintro e w7 ⟨rfl, hb⟩
            clear hc
            have hS := hS.next hb
            have hi := hS.is hl.1
            have ho := hS.of
            replace hBs := Lib.hid (hBs.out.far hb)
            clear hb
            go_wp2_with fail
            go_ret
            exact ⟨rfl, hS.below⟩
          · skip
            have hd : decide ((dd : Int) ≤ 8) = false := by rw [decide_eq_false_iff_not]; omega
            rcases dec_cases hD.out hB17.out hB1023.out hBb.out with ⟨rfl, hN, hnn⟩ | ⟨rfl, rfl, rfl, _⟩
            · skip
              have hn8 : n ≤ 8 := by rw [hnn]; exact hN.near
              have hns := Lib.hid hnn
              have hdn : decide ((n : Int) ≤ 8) = true := by rw [decide_eq_true_eq]; omega
              have hyW : ys.length = Wd.length := by rw [hN.len]; exact hBl.out
              have hS0 : Hid (∀ i, i < 16 → at_ (sums ys) i = 0) := fun i hi => sums_nought hN.cw hi
              have hySl := Lib.hid (sums_len16 ys)
              replace hyW := Lib.hid hyW
              clear hnn hN hD
              go_wp2_with fail
              have hc := cod_syn (ca := c6) hl hy.out (by omega) hc6
              replace hc := Lib.hid hc
              refine hc.out.mono ?_
              rintro e w7 ⟨S1, s1, rfl, hs1, h5, hb⟩
              clear hc
              have hS := hS.next hb
              have hi := hS.is hl.1
              have ho := hS.of
              replace h1 := Lib.hid (h1.out.far hb)
              replace hBs := Lib.hid (hBs.out.far hb)
              replace hy := Lib.hid (hy.out.far hb)
              clear hb
              replace h5 := Lib.hid h5
              generalize sums ys = Sm at *
              rw [hySl.out]
              have hSl := hySl
              go_wp2_with fail
              go_loop [15] (fun q => ∃ k : Nat, k ≤ 16 ∧ q = .int .i64 k) (fun q => 16 - (intOf q).toNat)
              case atStart => exact ⟨0, Nat.zero_le _, rfl⟩
              case round =>
                obtain ⟨k, hk, rfl⟩ := hrel
                by_cases hlt : k < 16
                · obtain ⟨sd, hSe, _, hcell⟩ := h5.out.at_ (i := k) (by rw [hSl.out]; exact hlt)
                  subst hSe
                  have h0 := hS0.out k hlt
                  rw [at_get (by rw [hSl.out]; exact hlt)] at h0
                  rw [h0] at hcell
                  have hd : decide ((k : Int) < 16) = true := by rw [decide_eq_true_eq]; omega
                  have hkI : (k : Int) < 16 := by omega
                  clear h0
                  go_wp2_with fail
                  go_round
                  case rel => exact ⟨k + 1, by omega, by go_num⟩
                  case measure => simp [intOf]; omega
                · obtain rfl : k = 16 := by omega
                  have hds := cod_dist (ca := c6) (cb := c5) hy.out hBs.out (by omega) (by have := hB1023.out; omega)
                  rw [← hns.out, hBl.out] at hds
                  replace hds := Lib.hid hds
                  have hyWI : ((ys.length : Int) == (Wd.length : Int)) = true := by rw [hyW.out]; simp
                  go_wp2_with (go_at_call 19; (with_reducible refine hds.out.mono ?_); rintro e wd ⟨rfl, hb7⟩)
                  go_ret
                  exact ⟨rfl, (hS.next hb7).below⟩
            · skip
              go_wp2_with fail
              go_ret
              exact ⟨rfl, hS.below⟩
    · have hz : ((E : Int) != 0) = true := by simp; omega
      go_wp2_with fail
      go_ret
      exact ⟨rfl, hS.below⟩
  · have hor : Hid (b1 = true ∨ b2 = true) := by
      unfold Hid
      rw [← e1, ← e2, decide_eq_true_eq, decide_eq_true_eq]
      omega
    clear hsz
    cases b1
    · obtain rfl : b2 = true := by rcases hor.out with h | h <;> first | exact h | cases h
      go_enter Try.func5, Try.ntmps5
      go_wp2_with fail
      refine (awake_any w).mono ?_
      rintro e w1 ⟨rfl, hb⟩
      go_wp2_with fail
      go_ret
      exact ⟨rfl, hb⟩
    · go_enter Try.func5, Try.ntmps5
      go_wp2_with fail
      refine (awake_any w).mono ?_
      rintro e w1 ⟨rfl, hb⟩
      go_wp2_with fail
      go_ret
      exact ⟨rfl, hb⟩
end Go.Proofs.Ytciafkobnlfpbaa
namespace Go.Proofs.Ytciafkobnlfpbaa.codeMends
open Go.ChangeShapes Go.WideShapes Go.ChangeAt Go.RowKit Go.Gf
set_option linter.unusedVariables false

theorem own : ownKnob Try.prog.godebug = none := by kernel_rfl

theorem walk (A0 : Option Addr) (x0 : List Nat) (c0 : Nat) (l0 : x0.length ≤ c0) (m0 : c0 ≤ maxLen) (A1 : Option Addr) (x1 : List (Nat × Nat)) (c1 : Nat) (l1 : x1.length ≤ c1) (m1 : c1 ≤ maxLen) (w : World) (s0 : Sl w w.heap.size A0 x0) (s1 : Sp w w.heap.size A1 x1) :
    Calls Try.prog 5 #[.slice A0 x0.length c0, .slice A1 x1.length c1] w fun e w' => e = .returned (.bool true) ∧ Below w.heap.size w w' := mends_law A0 x0 c0 l0 m0 A1 x1 c1 l1 m1 w s0 s1

set_option maxRecDepth 100000 in
theorem lifted (os : Os) (started : os.Started) (H : Type) (enc : TypeId × Value → H) :
    ReturnsInHanded {} Try.checked os 5 .any (Rows.codeMendsSpec.pre6 enc Try.prog Try.f5 Rows.codeMendsRow.domain false) (Rows.codeMendsSpec.post enc Try.prog Try.f5 false true false false) := by
  refine returnsInHanded_of_change (C := Try.checked) own started (by kernel_rfl) Try.func5
    (ChangeSpec.witness6 (enc := enc) (C := Try.checked) false ⟨#[], #[.slice none 0 0, .slice none 0 0], []⟩ 8 (by kernel_rfl) (by kernel_rfl) (by kernel_rfl) (by kernel_rfl)) ?_
  intro W base args ds gs before hval0 hW hcnd _
  have hval : ∀ (j : Nat) t v, Try.f5.params[j]? = some t → args[j]? = some v → Value.okWide Try.prog W .any base t v := hval0
  have hW' := hW
  obtain ⟨p, q, hA0, hV, rfl, hfz, hnd⟩ := hW
  have hA : DataW.TrodAll enc Try.prog W 0 (fun _ => true) true Try.f5.params.toList args.toList ds p := hA0
  rw [Try.params5] at hA hval
  obtain ⟨v0, vs0, d0, ds0, p0, q0, hargs, rfl, rfl, h0, r0⟩ := trodAll_cons hA
  obtain ⟨v1, vs1, d1, ds1, p1, q1, rfl, rfl, rfl, h1, r1⟩ := trodAll_cons r0
  obtain ⟨rfl, rfl, rfl⟩ := trodAll_nil r1
  obtain rfl : args = #[v0, v1] := by cases args; simp_all
  obtain ⟨rfl, rfl⟩ := trodVars_none hV
  obtain ⟨A0, x0, c0, rfl, l0, m0, s0, t0⟩ := open_sl Try.underlying22 Try.underlying23 (by kernel_rfl : Try.prog.cellsOf 23 = 1) (hval 0 22 v0 rfl rfl) h0
  obtain ⟨A1, x1, c1, rfl, l1, m1, s1, t1⟩ := open_slp Try.underlying47 Try.underlying48 Try.underlying23 (by kernel_rfl : Try.prog.cellsOf 48 = 2) (by kernel_rfl : Try.prog.cellsOf 23 = 1) (hval 1 47 v1 rfl rfl) h1
  clear hA0 hval0
  refine (walk A0 x0 c0 l0 m0 A1 x1 c1 l1 m1 W s0 s1).mono fun e W' ⟨he, hg⟩ => ?_
  subst he
  exact ⟨_, rfl, Cl.post_below (pv := []) hW' (fun _ _ _ => (trodAll_cons_mk (shut_bool Try.underlying4 _) trodAll_mk0)) (fun sp hsp => (trodAll_cons_mk (t0 W' hg sp (fun q hq => hsp q (by simp [hq]))) (trodAll_cons_mk (t1 W' hg sp (fun q hq => hsp q (by simp [hq]))) trodAll_mk0))) (fun _ _ => rfl) rfl
    hg (ok_one (by kernel_rfl) rfl (okWide_bool_mk Try.underlying4 _))⟩

theorem over : Rows.codeMendsRow.holds Try.pinned (OpenSpec.ofChange Rows.codeMendsSpec) :=
  OpenClaim.holds_of_wide 5 Try.f5 rfl rfl rfl rfl rfl rfl rfl ⟨rfl, rfl, rfl, rfl, rfl⟩ rfl rfl rfl rfl rfl (by kernel_rfl) Try.func5 (by kernel_rfl)
    (of_decide_eq_true (by kernel_rfl)) (by unfold Func.isWrapper; first | (rw [if_pos (by decide +kernel)]; kernel_rfl) | (rw [if_neg (by decide +kernel)]; exact ⟨rfl, rfl⟩))
    (fun os started H enc _ => lifted os started H enc)

/-- THE STATEMENT -/
theorem proved : Rows.CodeMendsSaid := over
end Go.Proofs.Ytciafkobnlfpbaa.codeMends
