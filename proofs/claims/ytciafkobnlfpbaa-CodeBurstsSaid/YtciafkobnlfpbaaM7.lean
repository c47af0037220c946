/- Statement CodeBursts: for all data, any place and any eight numbers the law returns true. -/
import Derived.Test.YtciafkobnlfpbaaCu
namespace Go.Proofs.Ytciafkobnlfpbaa
open Go.RowKit Go.Gf
attribute [local go_sem ↓] exec_load_tb Cl.quiet_since
attribute [local go_sem] tbAt_ptr tbIn_ptr

set_option maxRecDepth 20000 in
set_option maxHeartbeats 8000000 in
theorem bursts_law (A : Option Addr) (xs : List Nat) (ca : Nat) (hca : xs.length ≤ ca) (hx : ca ≤ maxLen) (pl : Int) (wpl : (Lit.int .u8 pl).wf = true) (bs : List Nat) (hbl : bs.length = 8) (hbb : ∀ b ∈ bs, b < 65536) (w : World) (hA : Sl w w.heap.size A xs) :
    Calls Try.prog 10 #[.slice A xs.length ca, .int .u8 pl, .agg (bs.map uv).toArray] w (Leaves w (.bool true)) := by
  have mx : (xs.length : Int) ≤ 9223372036854775807 := by unfold maxLen at hx; omega
  clear hx
  replace hA := Lib.hid hA
  replace hbl := Lib.hid hbl
  have hz := zero27
  have hpl := u8_bd wpl
  obtain ⟨p, hp⟩ : ∃ p : Nat, Hid (pl = (p : Int)) := ⟨pl.toNat, Lib.hid (Int.toNat_of_nonneg hpl.1).symm⟩
  obtain ⟨Wd, hWd⟩ : ∃ Wd, Hid (encW xs = Wd) := ⟨_, Lib.hid rfl⟩
  obtain ⟨E, hEd⟩ : ∃ E, Hid (encE xs = E) := ⟨_, Lib.hid rfl⟩
  have hWl : Hid (Wd.length ≤ 1023) := by rw [← hWd.out]; exact Lib.hid (encW_le xs)
  obtain ⟨b1, e1⟩ : ∃ b1, ((xs.length : Int) == 0) = b1 := ⟨_, rfl⟩
  obtain ⟨b2, e2⟩ : ∃ b2, decide ((100 : Int) < (xs.length : Int)) = b2 := ⟨_, rfl⟩
  have hRow : Row8 (w.alloc (.cells (bs.map uv).toArray 54)) w.heap.size bs := heap_alloc_new w _
  have hBW := below_alloc w (.cells (bs.map uv).toArray 54)
  have hA := Lib.hid (hA.out.far hBW)
  generalize hAg : (bs.map uv).toArray = Ag at *
  go_enter Try.func10, Try.ntmps10
  go_wp2_with fail
  generalize w.alloc (.cells Ag 54) = W at *
  clear hAg
  have hW := Lib.hid hBW
  have h8 := Lib.hid hRow
  have hg8 : Hid (w.heap.size < W.heap.size) := hRow.lt
  generalize hg80 : w.heap.size = g8 at h8 hg8 ⊢
  replace hg80 := Lib.hid hg80
  clear hBW hRow
  have hW0 := hW
  rw [← hg80.out]
  by_cases hsz : 0 < xs.length ∧ xs.length ≤ 100
  · obtain ⟨hl1, hl2⟩ := hsz
    have lx : xs.length ≤ 1000000 := by omega
    obtain rfl : b1 = false := by rw [← e1, beq_eq_false_iff_ne]; omega
    obtain rfl : b2 = false := by rw [← e2, decide_eq_false_iff_not]; omega
    rw [hg80.out]
    clear hW
    have hW := Lib.hid (Below.refl W.heap.size W)
    have hc := awake_any W
    replace hc := Lib.hid hc
    refine hc.out.mono ?_
    rintro e w1 ⟨rfl, hb⟩
    clear hc
    have hW := Lib.hid (hW.out.trans (hb.mono hW.out.size))
    replace hA := Lib.hid (hA.out.far hb)
    replace h8 := Lib.hid (h8.out.far hb)
    clear hb
    go_wp2_with fail
    refine (make_any _).mono ?_
    rintro e w2 ⟨cs, rfl, hl, hb⟩
    have hb0 := hW.out.trans (hb.mono hW.out.size)
    replace hA := Lib.hid (hA.out.far hb)
    replace h8 := Lib.hid (h8.out.far hb)
    clear hb hW
    go_wp2_with (refine wpList_store_row rfl 28 _ _ rfl w2.heap.size (cells cs) rfl rfl 28 (cells ZT) (heap_alloc_new w2 _) (rsize hl) (zsize hl) (cells_one cs) ?_)
    have hS := St.start (cs := cs) hb0 (cells ZT)
    have hb : Below w2.heap.size w2 ((w2.alloc (Obj.cells (cells ZT) 28)).setRow w2.heap.size (cells cs)) := below_setRow ((Below.refl _ _).alloc (Nat.le_refl _) _) (Nat.le_refl _) _
    replace hA := Lib.hid (hA.out.far hb)
    replace h8 := Lib.hid (h8.out.far hb)
    clear hb0 hb
    generalize hg : w2.heap.size = g at hS ⊢
    rw [hg] at hA h8
    generalize (w2.alloc (Obj.cells (cells ZT) 28)).setRow g (cells cs) = w3 at *
    clear hg hz
    have hi := hS.is hl.1
    have ho := hS.of
    go_wp2_with fail
    have hc := cod_encode (ca := ca) hl hA.out lx hca
    rw [hWd.out] at hc
    rw [hEd.out] at hc
    replace hc := Lib.hid hc
    refine hc.out.mono ?_
    rintro e w4 ⟨A1, c1, rfl, hc1, h1, hp1, hb⟩
    clear hc
    have hS := hS.next hb
    have hi := hS.is hl.1
    have ho := hS.of
    replace hA := Lib.hid (hA.out.far hb)
    replace h8 := Lib.hid (h8.out.far hb)
    clear hb
    replace h1 := Lib.hid h1
    by_cases hE0 : E = 0
    · skip
      have hz : ((E : Int) != 0) = false := by simp [hE0]
      have hE1 : encE xs = 0 := by rw [hEd.out]; exact hE0
      clear hE0
      obtain ⟨p1, p2, p3⟩ := encE_inv hE1
      have hWe : Hid (Wd = enc xs) := by rw [← hWd.out]; exact encW_of hE1
      have hn : Hid (Wd.length = xs.length + 16) := by rw [hWe.out]; exact Lib.hid (enc_len xs)
      have hWb : Hid (∀ y ∈ Wd, y < 1024) := by rw [hWe.out]; exact Lib.hid (enc_bd p3)
      have hWc : Hid (isCw Wd) := by rw [hWe.out]; exact Lib.hid (enc_cw p3)
      have hWne : Hid (Wd ≠ []) := by intro e; have h := hn.out; rw [e] at h; simp at h
      obtain ⟨g1, rfl, _, _⟩ := hp1 hWne.out
      clear p3 hp1
      have hn0 := below_alloc w4 (.cells #[] 23)
      have hAz := Lib.hid (h1.out.far hn0)
      have hOz := Lib.hid (OwnS.empty w4)
      replace hn0 := Lib.hid hn0
      go_wp2_with (refine app_law2 (w0 := w4) rfl (.tmp 36) (.tmp 37) rfl (.slice (some ⟨w4.heap.size, 0, none⟩) 0 0) [] rfl hOz.out hn0.out ⟨g1, 0, none⟩ c1 Wd rfl hAz.out (by have := hWl.out; simp; omega) ?_)
      intro v1 wa hv hb
      obtain ⟨g5, c5, rfl, hc5, hg5, hpre⟩ := hv.pre (ys := Wd) hWne.out
      have hSa := Lib.hid (hS.next hb)
      have h1B : Hid (Sl wa g5 (some ⟨g1, 0, none⟩) Wd) := (h1.out.below hb).more hg5
      have h8a := Lib.hid (h8.out.far hb)
      have h85 : Hid (g8 < g5) := Nat.lt_of_lt_of_le h8.out.lt hg5
      have hgT : Hid (g < g5) := Nat.lt_of_lt_of_le (St.lt hS) hg5
      have hL0 : Hid (DecL wa g5 Wd.length (at_ (tn Wd (bp p bs) 0)) wa) := DecL.start hpre
      have hL0g : Hid (g5 < wa.heap.size) := hL0.out.2.lt
      have hW17 : Hid (17 ≤ Wd.length) := by unfold Hid; rw [hn.out]; omega
      clear hv hn0 hAz hOz hb hpre hi ho hS h1 h8 hA
      go_wp2_with fail
      go_loopw [11, 12] (fun cn q wr => ∃ k : Nat, k ≤ 8 ∧ q = .int .i64 k ∧ cn = .int .i64 ((nb bs k : Nat) : Int) ∧ DecL wa g5 Wd.length (at_ (tn Wd (bp p bs) k)) wr) (fun _ q _ => 8 - (intOf q).toNat)
      case atStart => exact ⟨0, Nat.zero_le _, rfl, rfl, hL0.out⟩
      case round =>
        clear hL0
        obtain ⟨k, hk, rfl, rfl, hL⟩ := hrel
        replace hL := Lib.hid hL
        have hnbl := nb_le bs k
        by_cases hlt : k < 8
        · have hkI : (k : Int) < 8 := by omega
          have hd : decide ((k : Int) < 8) = true := by rw [decide_eq_true_eq]; exact hkI
          have hkb : k < bs.length := by rw [hbl.out]; exact hlt
          obtain ⟨T1, hT1⟩ : ∃ T1, Hid (bs.getD k 0 = T1) := ⟨_, Lib.hid rfl⟩
          have hT1b : T1 < 65536 := by
            rw [← hT1.out]
            have : bs.getD k 0 = bs[k] := by simp [List.getD, hkb]
            rw [this]; exact hbb _ (List.getElem_mem hkb)
          have hW0 : 0 < Wd.length := by have := hW17.out; omega
          obtain ⟨q, hq⟩ : ∃ q, Hid ((p + k) % Wd.length = q) := ⟨_, Lib.hid rfl⟩
          have hqW : q < Wd.length := by rw [← hq.out]; exact Nat.mod_lt _ hW0
          have hqI : (q : Int) < (Wd.length : Int) := by omega
          have hkr : (pl + (k : Int)) % (Wd.length : Int) = (q : Int) := by
            have h1 := hp.out
            rw [show pl + (k : Int) = ((p + k : Nat) : Int) by omega, ← Int.natCast_emod, hq.out]
          have hcv := tn_bd hWb.out (ts := bp p bs) k
          obtain ⟨Y, hY⟩ : ∃ Y, Hid (at_ (tn Wd (bp p bs) k) q = Y) := ⟨_, Lib.hid rfl⟩
          have hY1 : Y < 1024 := by rw [← hY.out]; exact at_lt hcv (by decide)
          obtain ⟨B, hB⟩ : ∃ B : Nat, Hid (T1 % 1024 = B) := ⟨_, Lib.hid rfl⟩
          have hB1 : B < 1024 := by rw [← hB.out]; exact Nat.mod_lt _ (by decide)
          have hmask : bits .and .u16 (T1 : Int) 1023 = (B : Int) := by rw [u16_mask (T1 : Int) (by omega) (by omega), ← hB.out]; rfl
          have hxor : bits .xor .u16 (Y : Int) (B : Int) = ((Y ^^^ B : Nat) : Int) := u16_xor_nat Y B (by omega) (by omega)
          obtain ⟨Z, hZ⟩ : ∃ Z, Hid (Y ^^^ B = Z) := ⟨_, Lib.hid rfl⟩
          rw [hZ.out] at hxor
          have hst : Hid (tn Wd (bp p bs) (k + 1) = (tn Wd (bp p bs) k).set q Z) := bp_step hkb (by rw [hT1.out]; exact hB.out) hq.out hY.out hZ.out
          have hnb : Hid (nb bs (k + 1) = nb bs k + if B = 0 then 0 else 1) := by
            rw [← hB.out, ← hT1.out]; rfl
          have h8r := (hL.out.keeps (Cl.Keeps.refl _ _)).1.block g8 h8a.out.lt (by have := h85.out; omega)
          have h8w : Row8 wr g8 bs := h8r.trans h8a.out
          have hc8 := h8w.cell hkb
          rw [hT1.out] at hc8
          clear hcv h8r
          replace h8w := Lib.hid h8w
          cases hB0 : decide (B = 0)
          · have hb0 : ((B : Int) != 0) = true := by have := of_decide_eq_false hB0; simp; omega
            have hn2 : Hid (nb bs (k + 1) = nb bs k + 1) := by unfold Hid; rw [hnb.out, if_neg (of_decide_eq_false hB0)]
            clear hB0 hnb
            go_wp2_with fail
            refine Cl.region_way (fun _ => True) 10 [(0, .r), (1, .r), (2, .r), (3, .r), (4, .r), (5, .r), (6, .r), (7, .r), (8, .r), (9, .r), (10, .z)] (by kernel_rfl) (by kernel_rfl) ?_
            intro w1 hk1
            have HL1 := Lib.hid (hL.out.keeps hk1)
            have h8w1 := Lib.hid (h8w.out.far (Cl.Keeps.below hk1))
            have hcA : ∀ y : Cl.Since (fun _ => True) w1, y.w.cell? ⟨g5, q, none⟩ = some (.int .u16 (Y : Int)) := fun y => by
              rw [← hY.out]
              exact (HL1.out.keeps y.keeps).2.cell hqW
            have hc8 : ∀ y : Cl.Since (fun _ => True) w1, y.w.cell? ⟨g8, k, none⟩ = some (.int .u16 (T1 : Int)) := fun y => by
              rw [← hT1.out]
              exact (h8w1.out.far (Cl.Keeps.below y.keeps)).cell hkb
            clear hk1
            iterate 10 (refine Cl.way_r rfl ?_; go_big_quiet_step (fail); refine wpQuiet_nil ?_)
            refine Cl.way_z rfl ?_
            have hc1w := HL1.out.2.cell hqW
            rw [hY.out] at hc1w
            have hf1w := HL1.out.2.frozen q
            have HL2 : Hid (DecL wa g5 Wd.length (at_ (tn Wd (bp p bs) (k + 1))) (w1.setCell ⟨g5, q, none⟩ (.int .u16 (Z : Int)))) := by
              rw [hst.out]
              exact Lib.hid ((HL1.out.set_ q Z).congr fun j _ => by rw [at_set (by rw [tn_len]; exact hqW)])
            clear hcA hc8 hL HL1
            go_wp2_with fail
            refine Cl.Calm.normal ?_
            clear hc1w hf1w
            go_wp2_with fail
            go_roundw
            case rel => exact ⟨k + 1, by omega, by go_num, by rw [hn2.out]; go_num, HL2.out⟩
            case measure => simp [intOf]; omega
          · have hb0 : ((B : Int) != 0) = false := by have := of_decide_eq_true hB0; simp [this]
            have hn2 : Hid (nb bs (k + 1) = nb bs k) := by unfold Hid; rw [hnb.out, if_pos (of_decide_eq_true hB0), Nat.add_zero]
            clear hB0 hnb
            go_wp2_with fail
            refine Cl.region_way (fun _ => True) 10 [(0, .r), (1, .r), (2, .r), (3, .r), (4, .r), (5, .r), (6, .r), (7, .r), (8, .r), (9, .r), (10, .z)] (by kernel_rfl) (by kernel_rfl) ?_
            intro w1 hk1
            have HL1 := Lib.hid (hL.out.keeps hk1)
            have h8w1 := Lib.hid (h8w.out.far (Cl.Keeps.below hk1))
            have hcA : ∀ y : Cl.Since (fun _ => True) w1, y.w.cell? ⟨g5, q, none⟩ = some (.int .u16 (Y : Int)) := fun y => by
              rw [← hY.out]
              exact (HL1.out.keeps y.keeps).2.cell hqW
            have hc8 : ∀ y : Cl.Since (fun _ => True) w1, y.w.cell? ⟨g8, k, none⟩ = some (.int .u16 (T1 : Int)) := fun y => by
              rw [← hT1.out]
              exact (h8w1.out.far (Cl.Keeps.below y.keeps)).cell hkb
            clear hk1
            iterate 10 (refine Cl.way_r rfl ?_; go_big_quiet_step (fail); refine wpQuiet_nil ?_)
            refine Cl.way_z rfl ?_
            have hc1w := HL1.out.2.cell hqW
            rw [hY.out] at hc1w
            have hf1w := HL1.out.2.frozen q
            have HL2 : Hid (DecL wa g5 Wd.length (at_ (tn Wd (bp p bs) (k + 1))) (w1.setCell ⟨g5, q, none⟩ (.int .u16 (Z : Int)))) := by
              rw [hst.out]
              exact Lib.hid ((HL1.out.set_ q Z).congr fun j _ => by rw [at_set (by rw [tn_len]; exact hqW)])
            clear hcA hc8 hL HL1
            go_wp2_with fail
            refine Cl.Calm.normal ?_
            clear hc1w hf1w
            go_wp2_with fail
            go_roundw
            case rel => exact ⟨k + 1, by omega, by go_num, by rw [hn2.out], HL2.out⟩
            case measure => simp [intOf]; omega
        · obtain rfl : k = 8 := by omega
          have hS := hSa.out.decl hL.out hgT.out
          have hi := hS.is hl.1
          have ho := hS.of
          have h1 := Lib.hid (hL.out.word h1B.out (Nat.le_refl _) (Nat.le_of_lt hL0g.out))
          have hBb : Hid (∀ y ∈ tn Wd (bp p bs) 8, y < 1024) := tn_bd hWb.out _
          have hBl : Hid ((tn Wd (bp p bs) 8).length = Wd.length) := tn_len _
          have hBs := Lib.hid (hL.out.2.row hBl.out fun x hx => by have := hBb.out x hx; omega)
          have hdl := Lib.hid (bp_dl (p := p) hW17.out hbl.out 8 (Nat.le_refl _)).1
          obtain ⟨nn, hnn⟩ : ∃ nn, Hid (nb bs 8 = nn) := ⟨_, Lib.hid rfl⟩
          rw [hnn.out] at hdl hnbl ⊢
          generalize tn Wd (bp p bs) 8 = B at *
          clear hL hk hlt h1B h8a
          go_wp2_with fail
          have hc := cod_decode (ca := c5) hl hBs.out (by rw [hBl.out]; have := hWl.out; omega) (by rw [hBl.out]; exact hc5)
          rw [hBl.out] at hc
          replace hc := Lib.hid hc
          refine hc.out.mono ?_
          rintro e w5 ⟨ys, n, f, D1, c6, hD, rfl, hc6, hy, hb⟩
          clear hc
          have hS := hS.next hb
          have hi := hS.is hl.1
          have ho := hS.of
          replace h1 := Lib.hid (h1.out.far hb)
          replace hBs := Lib.hid (hBs.out.far hb)
          clear hb
          replace hy := Lib.hid hy
          replace hy := Lib.hid hy.out.1
          have hB17 : 17 ≤ B.length := by rw [hBl.out]; exact hW17.out
          have hB1023 : B.length ≤ 1023 := by rw [hBl.out]; exact hWl.out
          obtain ⟨rfl, hnd, rfl⟩ := dec_of_near hB17 hB1023 hBb.out (near_of hBl.out.symm hWb.out hWc.out (by rw [hdl.out]; exact hnbl)) hD
          rw [hdl.out] at hnd
          subst hnd
          clear hD hdl
          go_wp2_with fail
          have hc := val_same (ca := c6) (cb := c1) (b := true) hy.out h1.out (by have := hWl.out; omega) (by have := hWl.out; omega) (decide_eq_true rfl)
          replace hc := Lib.hid hc
          clear hy
          clear h1
          refine hc.out.mono ?_
          rintro e w6 ⟨rfl, hb⟩
          clear hc
          have hS := hS.next hb
          have hi := hS.is hl.1
          have ho := hS.of
          replace hBs := Lib.hid (hBs.out.far hb)
          clear hb
          go_wp2_with fail
          go_ret
          have hSS := hS.below
          exact ⟨rfl, hW0.out.trans (hSS.mono hW0.out.size)⟩
    · have hz : ((E : Int) != 0) = true := by simp; omega
      go_wp2_with fail
      go_ret
      have hSS := hS.below
      exact ⟨rfl, hW0.out.trans (hSS.mono hW0.out.size)⟩
  · have hor : Hid (b1 = true ∨ b2 = true) := by
      unfold Hid
      rw [← e1, ← e2, decide_eq_true_eq, beq_iff_eq]
      omega
    clear hsz
    cases b1
    · obtain rfl : b2 = true := by rcases hor.out with h | h <;> first | exact h | cases h
      refine (awake_any W).mono ?_
      rintro e w1 ⟨rfl, hb⟩
      go_wp2_with fail
      go_ret
      exact ⟨rfl, hW.out.trans (hb.mono hW.out.size)⟩
    · refine (awake_any W).mono ?_
      rintro e w1 ⟨rfl, hb⟩
      go_wp2_with fail
      go_ret
      exact ⟨rfl, hW.out.trans (hb.mono hW.out.size)⟩
end Go.Proofs.Ytciafkobnlfpbaa
namespace Go.Proofs.Ytciafkobnlfpbaa.codeBursts
open Go.ChangeShapes Go.WideShapes Go.ChangeAt Go.RowKit Go.Gf
set_option linter.unusedVariables false

theorem own : ownKnob Try.prog.godebug = none := by kernel_rfl

theorem walk (A0 : Option Addr) (x0 : List Nat) (c0 : Nat) (l0 : x0.length ≤ c0) (m0 : c0 ≤ maxLen) (a1 : Int) (w1 : (Lit.int .u8 a1).wf = true) (x2 : List Nat) (l2 : x2.length = 8) (m2 : ∀ b ∈ x2, b < 65536) (w : World) (s0 : Sl w w.heap.size A0 x0) :
    Calls Try.prog 10 #[.slice A0 x0.length c0, .int .u8 a1, .agg (x2.map uv).toArray] w fun e w' => e = .returned (.bool true) ∧ Below w.heap.size w w' := bursts_law A0 x0 c0 l0 m0 a1 w1 x2 l2 m2 w s0

set_option maxRecDepth 100000 in
theorem lifted (os : Os) (started : os.Started) (H : Type) (enc : TypeId × Value → H) :
    ReturnsInHanded {} Try.checked os 10 .any (Rows.codeBurstsSpec.pre6 enc Try.prog Try.f10 Rows.codeBurstsRow.domain false) (Rows.codeBurstsSpec.post enc Try.prog Try.f10 false true false false) := by
  refine returnsInHanded_of_change (C := Try.checked) own started (by kernel_rfl) Try.func10
    (ChangeSpec.witness6 (enc := enc) (C := Try.checked) false ⟨#[], #[.slice none 0 0, .int .u8 0, .agg #[.int .u16 0, .int .u16 0, .int .u16 0, .int .u16 0, .int .u16 0, .int .u16 0, .int .u16 0, .int .u16 0]], []⟩ 8 (by kernel_rfl) (by kernel_rfl) (by kernel_rfl) (by kernel_rfl)) ?_
  intro W base args ds gs before hval0 hW hcnd _
  have hval : ∀ (j : Nat) t v, Try.f10.params[j]? = some t → args[j]? = some v → Value.okWide Try.prog W .any base t v := hval0
  have hW' := hW
  obtain ⟨p, q, hA0, hV, rfl, hfz, hnd⟩ := hW
  have hA : DataW.TrodAll enc Try.prog W 0 (fun _ => true) true Try.f10.params.toList args.toList ds p := hA0
  rw [Try.params10] at hA hval
  obtain ⟨v0, vs0, d0, ds0, p0, q0, hargs, rfl, rfl, h0, r0⟩ := trodAll_cons hA
  obtain ⟨v1, vs1, d1, ds1, p1, q1, rfl, rfl, rfl, h1, r1⟩ := trodAll_cons r0
  obtain ⟨v2, vs2, d2, ds2, p2, q2, rfl, rfl, rfl, h2, r2⟩ := trodAll_cons r1
  obtain ⟨rfl, rfl, rfl⟩ := trodAll_nil r2
  obtain rfl : args = #[v0, v1, v2] := by cases args; simp_all
  obtain ⟨rfl, rfl⟩ := trodVars_none hV
  obtain ⟨A0, x0, c0, rfl, l0, m0, s0, t0⟩ := open_sl Try.underlying22 Try.underlying23 (by kernel_rfl : Try.prog.cellsOf 23 = 1) (hval 0 22 v0 rfl rfl) h0
  obtain ⟨a1, rfl, rfl, rfl, w1⟩ := open_int Try.underlying5 (hval 1 5 v1 rfl rfl) h1
  obtain ⟨x2, rfl, l2, m2, t2⟩ := open_arr8 Try.underlying54 Try.underlying23 (by kernel_rfl : Try.prog.cellsOf 54 = 8) (by kernel_rfl : Try.prog.cellsOf 23 = 1) (hval 2 54 v2 rfl rfl) h2
  clear hA0 hval0
  refine (walk A0 x0 c0 l0 m0 a1 w1 x2 l2 m2 W s0).mono fun e W' ⟨he, hg⟩ => ?_
  subst he
  exact ⟨_, rfl, Cl.post_below (pv := []) hW' (fun _ _ _ => (trodAll_cons_mk (shut_bool Try.underlying4 _) trodAll_mk0)) (fun sp hsp => (trodAll_cons_mk (t0 W' hg sp (fun q hq => hsp q (by simp [hq]))) (trodAll_cons_mk (shut_int Try.underlying5 w1) (trodAll_cons_mk (t2 W' hg sp (fun q hq => hsp q (by simp [hq]))) trodAll_mk0)))) (fun _ _ => rfl) rfl
    hg (ok_one (by kernel_rfl) rfl (okWide_bool_mk Try.underlying4 _))⟩

theorem over : Rows.codeBurstsRow.holds Try.pinned (OpenSpec.ofChange Rows.codeBurstsSpec) :=
  OpenClaim.holds_of_wide 10 Try.f10 rfl rfl rfl rfl rfl rfl rfl ⟨rfl, rfl, rfl, rfl, rfl⟩ rfl rfl rfl rfl rfl (by kernel_rfl) Try.func10 (by kernel_rfl)
    (of_decide_eq_true (by kernel_rfl)) (by unfold Func.isWrapper; first | (rw [if_pos (by decide +kernel)]; kernel_rfl) | (rw [if_neg (by decide +kernel)]; exact ⟨rfl, rfl⟩))
    (fun os started H enc _ => lifted os started H enc)

/-- THE STATEMENT -/
theorem proved : Rows.CodeBurstsSaid := over
end Go.Proofs.Ytciafkobnlfpbaa.codeBursts
