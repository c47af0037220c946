/- Statement CodeEncodes: for all data, any place and any number the law returns true. -/
import Derived.Test.YtciafkobnlfpbaaCn
namespace Go.Proofs.Ytciafkobnlfpbaa
open Go.RowKit Go.Gf
attribute [local go_sem ↓] exec_load_tb Cl.quiet_since
attribute [local go_sem] tbAt_ptr tbIn_ptr

set_option maxRecDepth 20000 in
set_option maxHeartbeats 4000000 in
theorem encodes_law (A : Option Addr) (xs : List Nat) (ca : Nat) (hca : xs.length ≤ ca) (hx : ca ≤ maxLen) (pl : Int) (wpl : (Lit.int .u8 pl).wf = true) (bz : Int) (wbz : (Lit.int .u16 bz).wf = true) (w : World) (hA : Sl w w.heap.size A xs) :
    Calls Try.prog 3 #[.slice A xs.length ca, .int .u8 pl, .int .u16 bz] w (Leaves w (.bool true)) := by
  have mx : (xs.length : Int) ≤ 9223372036854775807 := by unfold maxLen at hx; omega
  clear hx
  replace hA := Lib.hid hA
  have hz := zero27
  obtain ⟨Wd, hWd⟩ : ∃ Wd, Hid (encW xs = Wd) := ⟨_, Lib.hid rfl⟩
  obtain ⟨E, hEd⟩ : ∃ E, Hid (encE xs = E) := ⟨_, Lib.hid rfl⟩
  have hWl : Hid (Wd.length ≤ 1023) := by rw [← hWd.out]; exact Lib.hid (encW_le xs)
  by_cases hl1 : xs.length ≤ 200
  · have lx : xs.length ≤ 1000000 := by omega
    have d1 : decide ((200 : Int) < (xs.length : Int)) = false := by rw [decide_eq_false_iff_not]; omega
    go_enter Try.func3, Try.ntmps3
    go_wp2_with fail
    have hW : Hid (Below w.heap.size w w) := Lib.hid (Below.refl _ _)
    have hc := awake_any w
    replace hc := Lib.hid hc
    refine hc.out.mono ?_
    rintro e w1 ⟨rfl, hb⟩
    clear hc
    have hW := Lib.hid (hW.out.trans (hb.mono hW.out.size))
    replace hA := Lib.hid (hA.out.far hb)
    clear hb
    go_wp2_with fail
    refine (make_any _).mono ?_
    rintro e w2 ⟨cs, rfl, hl, hb⟩
    have hb0 := hW.out.trans (hb.mono hW.out.size)
    replace hA := Lib.hid (hA.out.far hb)
    clear hb hW
    go_wp2_with (refine wpList_store_row rfl 28 _ _ rfl w2.heap.size (cells cs) rfl rfl 28 (cells ZT) (heap_alloc_new w2 _) (rsize hl) (zsize hl) (cells_one cs) ?_)
    have hS := St.start (cs := cs) hb0 (cells ZT)
    have hb : Below w2.heap.size w2 ((w2.alloc (Obj.cells (cells ZT) 28)).setRow w2.heap.size (cells cs)) := below_setRow ((Below.refl _ _).alloc (Nat.le_refl _) _) (Nat.le_refl _) _
    replace hA := Lib.hid (hA.out.far hb)
    clear hb0 hb
    generalize hg : w2.heap.size = g at hS ⊢
    rw [hg] at hA
    generalize (w2.alloc (Obj.cells (cells ZT) 28)).setRow g (cells cs) = w3 at *
    clear hg hz
    have hi := hS.is hl.1
    have ho := hS.of
    go_wp2_with fail
    have hc := cod_encode (ca := ca) hl hA.out lx hca
    rw [hWd.out] at hc
    rw [hEd.out] at hc
    replace hc := Lib.hid hc
    refine hc.out.mono ?_
    rintro e w4 ⟨A1, c1, rfl, hc1, h1, -, hb⟩
    clear hc
    have hS := hS.next hb
    have hi := hS.is hl.1
    have ho := hS.of
    replace hA := Lib.hid (hA.out.far hb)
    clear hb
    replace h1 := Lib.hid h1
    go_wp2_with fail
    have hc := refenc_any A ca xs w4 hA.out lx
    rw [hWd.out] at hc
    rw [hEd.out] at hc
    replace hc := Lib.hid hc
    refine hc.out.mono ?_
    rintro e w5 ⟨A2, c2, rfl, hc2, h2, hb⟩
    clear hc
    have hS := hS.next hb
    have hi := hS.is hl.1
    have ho := hS.of
    replace hA := Lib.hid (hA.out.far hb)
    replace h1 := Lib.hid (h1.out.far hb)
    clear hb
    replace h2 := Lib.hid h2
    go_wp2_with fail
    have hc := val_same (ca := c1) (cb := c2) (b := true) h1.out h2.out (by have := hWl.out; omega) (by have := hWl.out; omega) (decide_eq_true rfl)
    replace hc := Lib.hid hc
    clear h2
    refine hc.out.mono ?_
    rintro e w6 ⟨rfl, hb⟩
    clear hc
    have hS := hS.next hb
    have hi := hS.is hl.1
    have ho := hS.of
    replace hA := Lib.hid (hA.out.far hb)
    replace h1 := Lib.hid (h1.out.far hb)
    clear hb
    go_wp2_with fail
    have hc := cod_gen (w := w6) hl
    replace hc := Lib.hid hc
    refine hc.out.mono ?_
    rintro e w7 ⟨A3, c3, rfl, hc3, h3, hb⟩
    clear hc
    have hS := hS.next hb
    have hi := hS.is hl.1
    have ho := hS.of
    replace hA := Lib.hid (hA.out.far hb)
    replace h1 := Lib.hid (h1.out.far hb)
    clear hb
    replace h3 := Lib.hid h3
    go_wp2_with fail
    have hc := refgen_any w7
    replace hc := Lib.hid hc
    refine hc.out.mono ?_
    rintro e w8 ⟨A4, c4, rfl, hc4, h4, hb⟩
    clear hc
    have hS := hS.next hb
    have hi := hS.is hl.1
    have ho := hS.of
    replace hA := Lib.hid (hA.out.far hb)
    replace h1 := Lib.hid (h1.out.far hb)
    replace h3 := Lib.hid (h3.out.far hb)
    clear hb
    replace h4 := Lib.hid h4
    go_wp2_with fail
    have hc := val_same (ca := c3) (cb := c4) (b := true) h3.out h4.out (by rw [gens_len]; decide) (by rw [gens_len]; decide) (decide_eq_true rfl)
    replace hc := Lib.hid hc
    clear h3
    clear h4
    refine hc.out.mono ?_
    rintro e w9 ⟨rfl, hb⟩
    clear hc
    have hS := hS.next hb
    have hi := hS.is hl.1
    have ho := hS.of
    replace hA := Lib.hid (hA.out.far hb)
    replace h1 := Lib.hid (h1.out.far hb)
    clear hb
    by_cases hE0 : E = 0
    · skip
      have hz : ((E : Int) != 0) = false := by simp [hE0]
      have hE1 : encE xs = 0 := by rw [hEd.out]; exact hE0
      clear hE0
      obtain ⟨p1, p2, p3⟩ := encE_inv hE1
      have hWe : Hid (Wd = enc xs) := by rw [← hWd.out]; exact encW_of hE1
      have hxne : Hid (xs ≠ []) := by intro e; rw [e] at p1; simp at p1
      obtain ⟨ad, rfl⟩ : ∃ ad, A = some ad := by
        rcases hA.out.2 with e | ⟨a, e, _⟩
        · exact absurd e hxne.out
        · exact ⟨a, e⟩
      have hpl := u8_bd wpl
      have hbz := u16_bd wbz
      obtain ⟨kx, hkx0⟩ : ∃ kx : Nat, Hid (kx = pl.toNat % xs.length) := ⟨_, Lib.hid rfl⟩
      have hkx : Hid (kx < xs.length) := by rw [hkx0.out]; exact Lib.hid (Nat.mod_lt _ p1)
      have hkr : pl % (xs.length : Int) = (kx : Int) := by
        rw [hkx0.out, Int.natCast_emod, Int.toNat_of_nonneg hpl.1]
      have hkxI : (kx : Int) < (xs.length : Int) := by have := hkx.out; omega
      obtain ⟨Y, hY⟩ : ∃ Y, Hid (at_ xs kx = Y) := ⟨_, Lib.hid rfl⟩
      have hY1 : Y < 1024 := by rw [← hY.out]; exact at_lt p3 (by decide)
      obtain ⟨B, hB⟩ : ∃ B : Nat, bz % 1024 = (B : Int) := ⟨(bz % 1024).toNat, by omega⟩
      have hB1 : B < 1024 := by omega
      have hmask : bits .and .u16 bz 1023 = (B : Int) := by rw [u16_mask bz hbz.1 hbz.2, hB]
      have hxor : bits .xor .u16 (Y : Int) (B : Int) = ((Y ^^^ B : Nat) : Int) := u16_xor_nat Y B (by omega) (by omega)
      obtain ⟨Z, hZ⟩ : ∃ Z, Hid (Y ^^^ B = Z) := ⟨_, Lib.hid rfl⟩
      have hZ1 : Z < 1024 := by rw [← hZ.out]; exact xor_lt hY1 hB1
      rw [hZ.out] at hxor
      obtain ⟨ys, hys⟩ : ∃ ys, Hid (xs.set kx Z = ys) := ⟨_, Lib.hid rfl⟩
      have hyl : Hid (ys.length = xs.length) := by rw [← hys.out]; exact Lib.hid List.length_set
      have hyb : Hid (∀ y ∈ ys, y < 1024) := by rw [← hys.out]; exact Lib.hid (set_bd p3 hZ1)
      have hEy : encE ys = 0 := encE_of (by rw [hyl.out]; exact p1) (by rw [hyl.out]; exact p2) hyb.out
      have hWy : Hid (encW ys = enc ys) := encW_of hEy
      have hfar : Hid (B ≠ 0 → 16 < dl (enc xs) (enc ys)) := fun h0 => by
        rw [← hys.out]
        refine enc_far p2 p3 hkx.out hZ1 fun e => h0 ?_
        rw [← at_get hkx.out, hY.out, ← hZ.out] at e
        have e2 : Y ^^^ (Y ^^^ B) = Y ^^^ Y := by rw [e]
        rwa [← Nat.xor_assoc, Nat.xor_self, Nat.zero_xor] at e2
      obtain ⟨Wy, hWyd⟩ : ∃ Wy, Hid (enc ys = Wy) := ⟨_, Lib.hid rfl⟩
      have hWyl : Hid (Wy.length ≤ 1000000) := by rw [← hWyd.out, enc_len, hyl.out]; unfold Hid; omega
      rw [hWyd.out] at hWy hfar
      rw [← hWe.out] at hfar
      replace hEy := Lib.hid hEy
      clear hbz hB
      replace p3 := Lib.hid p3
      go_wp2_with fail
      have hc := cod_syn (ca := c1) hl h1.out (by have := hWl.out; omega) hc1
      replace hc := Lib.hid hc
      refine hc.out.mono ?_
      rintro e w10 ⟨S1, s1, rfl, hs1, h5, hb⟩
      clear hc
      have hS := hS.next hb
      have hi := hS.is hl.1
      have ho := hS.of
      replace hA := Lib.hid (hA.out.far hb)
      replace h1 := Lib.hid (h1.out.far hb)
      clear hb
      replace h5 := Lib.hid h5
      obtain ⟨Sm, hSm⟩ : ∃ Sm, Hid (sums Wd = Sm) := ⟨_, Lib.hid rfl⟩
      have hSl : Sm.length = 16 := by rw [← hSm.out]; exact sums_len16 _
      have hS0 : Hid (∀ i, i < 16 → at_ Sm i = 0) := by rw [← hSm.out, hWe.out]; exact Lib.hid fun i hi => sums_nought (enc_cw p3.out) hi
      rw [hSm.out] at h5 hs1 ⊢
      rw [hSl]
      clear hSm
      go_wp2_with fail
      go_loop [13] (fun q => ∃ k : Nat, k ≤ 16 ∧ q = .int .i64 k) (fun q => 16 - (intOf q).toNat)
      case atStart => exact ⟨0, Nat.zero_le _, rfl⟩
      case round =>
        obtain ⟨k, hk, rfl⟩ := hrel
        by_cases hlt : k < 16
        · obtain ⟨sd, hSe, _, hcell⟩ := h5.out.at_ (i := k) (by omega)
          subst hSe
          have h0 := hS0.out k hlt
          rw [at_get (by omega)] at h0
          rw [h0] at hcell
          have hd : decide ((k : Int) < 16) = true := by rw [decide_eq_true_eq]; omega
          have hkI : (k : Int) < 16 := by omega
          clear h0
          go_wp2_with fail
          go_round
          case rel => exact ⟨k + 1, by omega, by go_num⟩
          case measure => simp [intOf]; omega
        · obtain rfl : k = 16 := by omega
          have hn0 := below_alloc w10 (.cells #[] 23)
          have hAz := Lib.hid (hA.out.far hn0)
          have hOz := Lib.hid (OwnS.empty w10)
          replace hn0 := Lib.hid hn0
          go_wp2_with (refine app_law2 (w0 := w10) rfl (.tmp 66) (.tmp 67) rfl (.slice (some ⟨w10.heap.size, 0, none⟩) 0 0) [] rfl hOz.out hn0.out ad ca xs rfl hAz.out (by simp; omega) ?_)
          intro v1 wa hv hb
          obtain ⟨g5, c5, rfl, hc5, hg5, hpre⟩ := hv.pre (ys := xs) hxne.out
          clear hv hn0 hAz hOz
          have hS0 := Lib.hid hS
          have h10 := Lib.hid h1.out
          have hb0 := Lib.hid hb
          have hcell := hpre.cell hkx.out
          have hfz := hpre.frozen kx
          rw [hY.out] at hcell
          have hpre2 := (hpre.setl rfl hkx.out Z)
          rw [hys.out] at hpre2
          have hb : Below w10.heap.size w10 (wa.setCell ⟨g5, kx, none⟩ (.int .u16 (Z : Int))) := hb0.out.setCell (p := ⟨g5, kx, none⟩) hg5 _
          have hi := (hS0.out.next hb).is hl.1
          have ho := (hS0.out.next hb).of
          have hS := hS0.out.next hb
          have h1s := Lib.hid (h10.out.far hb)
          have hsy := Lib.hid (hpre2.row hyl.out fun x hx => by have := hyb.out x hx; omega)
          replace hpre := Lib.hid hpre
          replace hb := Lib.hid hb
          replace hpre2 := Lib.hid hpre2
          go_wp2_with fail
          have hc := cod_encode (ca := c5) hl hsy.out (by rw [hyl.out]; exact lx) (by rw [hyl.out]; exact hc5)
          rw [hyl.out, hWy.out, hEy.out] at hc
          replace hc := Lib.hid hc
          generalize wa.setCell ⟨g5, kx, none⟩ (.int .u16 (Z : Int)) = wb at *
          refine hc.out.mono ?_
          rintro e wc ⟨A6, c6, rfl, hc6, h6, -, hb6⟩
          have hS := hS.next hb6
          have h1s := Lib.hid (h1s.out.far hb6)
          replace h6 := Lib.hid h6
          clear hc hb6 hi ho hcell hfz
          by_cases hB0 : B = 0
          · have hb0 : ((B : Int) == 0) = true := by simp [hB0]
            clear hB0
            go_wp2_with fail
            go_ret
            exact ⟨rfl, hS.below⟩
          · have hb0 : ((B : Int) == 0) = false := by simp; omega
            have hf2 := hfar.out hB0
            have hds := cod_dist (ca := c1) (cb := c6) h1s.out h6.out (by have := hWl.out; omega) hWyl.out
            obtain ⟨dd, hdd⟩ : ∃ dd, Hid (dl Wd Wy = dd) := ⟨_, Lib.hid rfl⟩
            rw [hdd.out] at hds hf2
            have hd : decide ((16 : Int) < (dd : Int)) = true := by rw [decide_eq_true_eq]; omega
            replace hds := Lib.hid hds
            clear hB0 hf2
            go_wp2_with (go_at_call 19; (with_reducible refine hds.out.mono ?_); rintro e wd ⟨rfl, hb7⟩)
            go_ret
            exact ⟨rfl, (hS.next hb7).below⟩
    · have hz : ((E : Int) != 0) = true := by simp; omega
      go_wp2_with fail
      go_ret
      exact ⟨rfl, hS.below⟩
  · have d1 : decide ((200 : Int) < (xs.length : Int)) = true := by rw [decide_eq_true_eq]; omega
    go_enter Try.func3, Try.ntmps3
    go_wp2_with fail
    refine (awake_any w).mono ?_
    rintro e w1 ⟨rfl, hb⟩
    go_wp2_with fail
    go_ret
    exact ⟨rfl, hb⟩
end Go.Proofs.Ytciafkobnlfpbaa
namespace Go.Proofs.Ytciafkobnlfpbaa.codeEncodes
open Go.ChangeShapes Go.WideShapes Go.ChangeAt Go.RowKit Go.Gf
set_option linter.unusedVariables false

theorem own : ownKnob Try.prog.godebug = none := by kernel_rfl

theorem walk (A0 : Option Addr) (x0 : List Nat) (c0 : Nat) (l0 : x0.length ≤ c0) (m0 : c0 ≤ maxLen) (a1 : Int) (w1 : (Lit.int .u8 a1).wf = true) (a2 : Int) (w2 : (Lit.int .u16 a2).wf = true) (w : World) (s0 : Sl w w.heap.size A0 x0) :
    Calls Try.prog 3 #[.slice A0 x0.length c0, .int .u8 a1, .int .u16 a2] w fun e w' => e = .returned (.bool true) ∧ Below w.heap.size w w' := encodes_law A0 x0 c0 l0 m0 a1 w1 a2 w2 w s0

set_option maxRecDepth 100000 in
theorem lifted (os : Os) (started : os.Started) (H : Type) (enc : TypeId × Value → H) :
    ReturnsInHanded {} Try.checked os 3 .any (Rows.codeEncodesSpec.pre6 enc Try.prog Try.f3 Rows.codeEncodesRow.domain false) (Rows.codeEncodesSpec.post enc Try.prog Try.f3 false true false false) := by
  refine returnsInHanded_of_change (C := Try.checked) own started (by kernel_rfl) Try.func3
    (ChangeSpec.witness6 (enc := enc) (C := Try.checked) false ⟨#[], #[.slice none 0 0, .int .u8 0, .int .u16 0], []⟩ 8 (by kernel_rfl) (by kernel_rfl) (by kernel_rfl) (by kernel_rfl)) ?_
  intro W base args ds gs before hval0 hW hcnd _
  have hval : ∀ (j : Nat) t v, Try.f3.params[j]? = some t → args[j]? = some v → Value.okWide Try.prog W .any base t v := hval0
  have hW' := hW
  obtain ⟨p, q, hA0, hV, rfl, hfz, hnd⟩ := hW
  have hA : DataW.TrodAll enc Try.prog W 0 (fun _ => true) true Try.f3.params.toList args.toList ds p := hA0
  rw [Try.params3] at hA hval
  obtain ⟨v0, vs0, d0, ds0, p0, q0, hargs, rfl, rfl, h0, r0⟩ := trodAll_cons hA
  obtain ⟨v1, vs1, d1, ds1, p1, q1, rfl, rfl, rfl, h1, r1⟩ := trodAll_cons r0
  obtain ⟨v2, vs2, d2, ds2, p2, q2, rfl, rfl, rfl, h2, r2⟩ := trodAll_cons r1
  obtain ⟨rfl, rfl, rfl⟩ := trodAll_nil r2
  obtain rfl : args = #[v0, v1, v2] := by cases args; simp_all
  obtain ⟨rfl, rfl⟩ := trodVars_none hV
  obtain ⟨A0, x0, c0, rfl, l0, m0, s0, t0⟩ := open_sl Try.underlying22 Try.underlying23 (by kernel_rfl : Try.prog.cellsOf 23 = 1) (hval 0 22 v0 rfl rfl) h0
  obtain ⟨a1, rfl, rfl, rfl, w1⟩ := open_int Try.underlying5 (hval 1 5 v1 rfl rfl) h1
  obtain ⟨a2, rfl, rfl, rfl, w2⟩ := open_int Try.underlying23 (hval 2 23 v2 rfl rfl) h2
  clear hA0 hval0
  refine (walk A0 x0 c0 l0 m0 a1 w1 a2 w2 W s0).mono fun e W' ⟨he, hg⟩ => ?_
  subst he
  exact ⟨_, rfl, Cl.post_below (pv := []) hW' (fun _ _ _ => (trodAll_cons_mk (shut_bool Try.underlying4 _) trodAll_mk0)) (fun sp hsp => (trodAll_cons_mk (t0 W' hg sp (fun q hq => hsp q (by simp [hq]))) (trodAll_cons_mk (shut_int Try.underlying5 w1) (trodAll_cons_mk (shut_int Try.underlying23 w2) trodAll_mk0)))) (fun _ _ => rfl) rfl
    hg (ok_one (by kernel_rfl) rfl (okWide_bool_mk Try.underlying4 _))⟩

theorem over : Rows.codeEncodesRow.holds Try.pinned (OpenSpec.ofChange Rows.codeEncodesSpec) :=
  OpenClaim.holds_of_wide 3 Try.f3 rfl rfl rfl rfl rfl rfl rfl ⟨rfl, rfl, rfl, rfl, rfl⟩ rfl rfl rfl rfl rfl (by kernel_rfl) Try.func3 (by kernel_rfl)
    (of_decide_eq_true (by kernel_rfl)) (by unfold Func.isWrapper; first | (rw [if_pos (by decide +kernel)]; kernel_rfl) | (rw [if_neg (by decide +kernel)]; exact ⟨rfl, rfl⟩))
    (fun os started H enc _ => lifted os started H enc)

/-- THE STATEMENT -/
theorem proved : Rows.CodeEncodesSaid := over
end Go.Proofs.Ytciafkobnlfpbaa.codeEncodes
