/- Statement PackPacks: for all bytes, all symbols and any number the law returns true. -/
import Derived.Test.YtoogdhnkihdkgaaBn
namespace Go.Proofs.Ytoogdhnkihdkgaa
open Go.RowKit Go.Gf

set_option maxRecDepth 20000 in
set_option maxHeartbeats 4000000 in
theorem packs_law (A : Option Addr) (xs : List Nat) (ca : Nat) (hca : xs.length ≤ ca) (hx : ca ≤ maxLen) (B : Option Addr) (zs : List Nat) (cb : Nat) (hcb : zs.length ≤ cb) (hxb : cb ≤ maxLen) (n : Int) (_wn : (Lit.int .i64 n).wf = true)
    (w : World) (hA : Sb w w.heap.size A xs) (hB : Sl w w.heap.size B zs) :
    Calls Try.prog 3 #[.slice A xs.length ca, .slice B zs.length cb, .int .i64 n] w (Ans w (.bool true)) := by
  have mx : (xs.length : Int) ≤ 9223372036854775807 := by unfold maxLen at hx; omega
  have mz : (zs.length : Int) ≤ 9223372036854775807 := by unfold maxLen at hxb; omega
  clear hx hxb
  replace hA := Lib.hid hA
  replace hB := Lib.hid hB
  have haw := Lib.hid (pawake_any w)
  obtain ⟨b1, e1⟩ : ∃ b1, decide ((2000 : Int) < (xs.length : Int)) = b1 := ⟨_, rfl⟩
  obtain ⟨b2, e2⟩ : ∃ b2, decide ((2000 : Int) < (zs.length : Int)) = b2 := ⟨_, rfl⟩
  by_cases hsz : xs.length ≤ 2000 ∧ zs.length ≤ 2000
  · obtain ⟨hl1, hl2⟩ := hsz
    obtain rfl : b1 = false := by rw [← e1, decide_eq_false_iff_not]; omega
    obtain rfl : b2 = false := by rw [← e2, decide_eq_false_iff_not]; omega
    obtain ⟨p1, p2⟩ := upk_back hA.out.1
    have hpl : Hid ((pk xs).length ≤ 1000000) := pk_le (by omega)
    have hPk : Hid (∀ {A : Option Addr} {c : Nat} {w : World}, Sl w w.heap.size A (pk xs) → Calls Try.prog 10 #[.slice A (pk xs).length c, .int .i64 (xs.length : Int)] w (RowB w xs 0)) := fun {A c w} h => by
      have := pak_unpack (n := (xs.length : Int)) (c := c) h hpl.out
      rwa [p1, p2] at this
    have hPa : Hid (∀ {A : Option Addr} {c : Nat} {w : World}, Sb w w.heap.size A xs → Calls Try.prog 9 #[.slice A xs.length c] w (RowP w (pk xs))) := fun h => pak_pack h (by omega)
    have hPr : Hid (∀ {A : Option Addr} {c : Nat} {w : World}, Sb w w.heap.size A xs → Calls Try.prog 13 #[.slice A xs.length c] w (RowP w (pk xs))) := fun h => (refpack_any _ _ _ _ h (by omega)).mono fun _ _ h => h.rowP (pk_u16 xs) hpl.out
    have hU : Hid (∀ {A : Option Addr} {c : Nat} {w : World}, Sl w w.heap.size A zs → Calls Try.prog 10 #[.slice A zs.length c, .int .i64 n] w (RowB w (upkW zs n) (upkE zs n))) := fun h => pak_unpack h (by omega)
    have hV : Hid (∀ {A : Option Addr} {c : Nat} {w : World}, Sl w w.heap.size A zs → Calls Try.prog 11 #[.slice A zs.length c, .int .i64 n] w (RowB w (upkW zs n) (upkE zs n))) := fun h => refunpack_any _ _ _ _ _ h (by omega)
    clear p1 p2
    generalize pk xs = PK at *
    generalize upkW zs n = U at *
    generalize upkE zs n = F at *
    obtain ⟨sn, hsn⟩ : ∃ k : Nat, Hid (symN (clampN n) = k) := ⟨_, Lib.hid rfl⟩
    obtain ⟨bn, hbn⟩ : ∃ k : Nat, Hid (bytN (clampN n) = k) := ⟨_, Lib.hid rfl⟩
    obtain ⟨S1, hS1⟩ : ∃ S, Hid (bstr xs = S) := ⟨_, Lib.hid rfl⟩
    obtain ⟨S2, hS2⟩ : ∃ S, Hid (bstr U = S) := ⟨_, Lib.hid rfl⟩
    have hse := str_eq S1
    have hse2 := str_eq S2
    go_enter Try.func3, Try.ntmps3
    go_wp2_with (first
      | (go_at_call 8; (with_reducible refine haw.out.mono ?_); rintro e w1 ⟨rfl, hb⟩; have hb1 := Lib.hid hb; have hA1 := Lib.hid (hA.out.far hb); have hB1 := Lib.hid (hB.out.far hb); have hc1 := Lib.hid (hPa.out (c := ca) hA1.out); clear hb)
      | (go_at_call 9; (with_reducible refine hc1.out.mono ?_); rintro e w2 ⟨v, rfl, ho, hb⟩; obtain ⟨X, cx, rfl, hcx, hX⟩ := ho.sl; have hb2 := Lib.hid (hb1.out.trans (hb.mono hb1.out.size)); have hA2 := Lib.hid (hA1.out.far hb); have hB2 := Lib.hid (hB1.out.far hb); have hc2 := Lib.hid (hPk.out (c := cx) hX); replace hX := Lib.hid hX; clear hb ho hc1)
      | (go_at_call 10; (with_reducible refine hc2.out.mono ?_); rintro e w3 ⟨Y, cy, rfl, hcy, hY, hb⟩; have hb3 := Lib.hid (hb2.out.trans (hb.mono hb2.out.size)); have hA3 := Lib.hid (hA2.out.far hb); have hB3 := Lib.hid (hB2.out.far hb); have hX3 := Lib.hid (hX.out.far hb); have hc3 := Lib.hid (hU.out (c := cb) hB3.out); replace hY := Lib.hid hY; clear hb hc2)
      | (go_at_call 10; (with_reducible refine hc3.out.mono ?_); rintro e w4 ⟨Z, cz, rfl, hcz, hZ, hb⟩; have hb4 := Lib.hid (hb3.out.trans (hb.mono hb3.out.size)); have hA4 := Lib.hid (hA3.out.far hb); have hB4 := Lib.hid (hB3.out.far hb); have hX4 := Lib.hid (hX3.out.far hb); have hY4 := Lib.hid (hY.out.far hb); have hc4 := Lib.hid (hV.out (c := cb) hB4.out); replace hZ := Lib.hid hZ; clear hb hc3)
      | (go_at_call 11; (with_reducible refine hc4.out.mono ?_); rintro e w5 ⟨V, cv, rfl, hcv, hVv, hb⟩; have hb5 := Lib.hid (hb4.out.trans (hb.mono hb4.out.size)); have hA5 := Lib.hid (hA4.out.far hb); have hX5 := Lib.hid (hX4.out.far hb); have hY5 := Lib.hid (hY4.out.far hb); have hZ5 := Lib.hid (hZ.out.far hb); have hc5 := Lib.hid (hPr.out (c := ca) hA5.out); replace hVv := Lib.hid hVv; clear hb hc4)
      | (go_at_call 13; (with_reducible refine hc5.out.mono ?_); rintro e w6 ⟨v6, rfl, ho, hb⟩; obtain ⟨X6, cx6, rfl, hcx6, hX6⟩ := ho.sl; have hb6 := Lib.hid (hb5.out.trans (hb.mono hb5.out.size)); have hA6 := Lib.hid (hA5.out.far hb); have hX56 := Lib.hid (hX5.out.far hb); have hY6 := Lib.hid (hY5.out.far hb); have hZ6 := Lib.hid (hZ5.out.far hb); have hV6 := Lib.hid (hVv.out.far hb); have hc6 := Lib.hid (ans_same (ca := cx) (cb := cx6) (b := true) hX56.out hX6 hpl.out hpl.out (decide_eq_true rfl)); clear hb ho hc5)
      | (go_at_call 12; (with_reducible refine hc6.out.mono ?_); rintro e w7 ⟨rfl, hb⟩; have hb7 := Lib.hid (hb6.out.trans (hb.mono hb6.out.size)); have t1 := str_run (hY6.out.far hb) cy; have t2 := str_run (hA6.out.far hb) ca; have t3 := str_run (hZ6.out.far hb) cz; have t4 := str_run (hV6.out.far hb) cv; rw [hS1.out] at t1 t2; rw [hS2.out] at t3 t4; have hc7 := pak_symbols (n := n) (w := w7); rw [hsn.out] at hc7; replace hc7 := Lib.hid hc7; clear hb hc6)
      | (go_at_call 14; (with_reducible refine hc7.out.mono ?_); rintro e w8 ⟨rfl, hb⟩; have hb8 := Lib.hid (hb7.out.trans (hb.mono hb7.out.size)); have hc8 := refsymbols_any n w8; rw [hsn.out] at hc8; replace hc8 := Lib.hid hc8; clear hb hc7)
      | (go_at_call 15; (with_reducible refine hc8.out.mono ?_); rintro e w9 ⟨rfl, rfl⟩; have hc9 := pak_bytes (n := n) (w := w8); rw [hbn.out] at hc9; replace hc9 := Lib.hid hc9; clear hc8)
      | (go_at_call 16; (with_reducible refine hc9.out.mono ?_); rintro e w10 ⟨rfl, hb⟩; have hb10 := Lib.hid (hb8.out.trans (hb.mono hb8.out.size)); have hc10 := refbytes_any n w10; rw [hbn.out] at hc10; replace hc10 := Lib.hid hc10; clear hb hc9)
      | (go_at_call 17; (with_reducible refine hc10.out.mono ?_); rintro e w11 ⟨rfl, rfl⟩))
    go_ret
    exact ⟨rfl, hb10.out⟩
  · have hor : Hid (b1 = true ∨ b2 = true) := by
      unfold Hid
      rw [← e1, ← e2, decide_eq_true_eq, decide_eq_true_eq]
      omega
    clear hsz
    cases b1
    · obtain rfl : b2 = true := by rcases hor.out with h | h <;> first | exact h | cases h
      go_enter Try.func3, Try.ntmps3
      go_wp2_with (go_at_call 8; (with_reducible refine haw.out.mono ?_); rintro e w1 ⟨rfl, hb⟩)
      go_ret
      exact ⟨rfl, hb⟩
    · go_enter Try.func3, Try.ntmps3
      go_wp2_with (go_at_call 8; (with_reducible refine haw.out.mono ?_); rintro e w1 ⟨rfl, hb⟩)
      go_ret
      exact ⟨rfl, hb⟩
end Go.Proofs.Ytoogdhnkihdkgaa
namespace Go.Proofs.Ytoogdhnkihdkgaa.packPacks
open Go.ChangeShapes Go.WideShapes Go.ChangeAt Go.RowKit Go.Gf
set_option linter.unusedVariables false

theorem own : ownKnob Try.prog.godebug = none := by kernel_rfl

theorem walk (A0 : Option Addr) (x0 : List Nat) (c0 : Nat) (l0 : x0.length ≤ c0) (m0 : c0 ≤ maxLen) (A1 : Option Addr) (x1 : List Nat) (c1 : Nat) (l1 : x1.length ≤ c1) (m1 : c1 ≤ maxLen) (a2 : Int) (w2 : (Lit.int .i64 a2).wf = true) (w : World) (s0 : Sb w w.heap.size A0 x0) (s1 : Sl w w.heap.size A1 x1) :
    Calls Try.prog 3 #[.slice A0 x0.length c0, .slice A1 x1.length c1, .int .i64 a2] w fun e w' => e = .returned (.bool true) ∧ Below w.heap.size w w' := packs_law A0 x0 c0 l0 m0 A1 x1 c1 l1 m1 a2 w2 w s0 s1

set_option maxRecDepth 100000 in
theorem lifted (os : Os) (started : os.Started) (H : Type) (enc : TypeId × Value → H) :
    ReturnsInHanded {} Try.checked os 3 .any (Rows.packPacksSpec.pre6 enc Try.prog Try.f3 Rows.packPacksRow.domain false) (Rows.packPacksSpec.post enc Try.prog Try.f3 false true false false) := by
  refine returnsInHanded_of_change (C := Try.checked) own started (by kernel_rfl) Try.func3
    (ChangeSpec.witness6 (enc := enc) (C := Try.checked) false ⟨#[], #[.slice none 0 0, .slice none 0 0, .int .i64 0], []⟩ 8 (by kernel_rfl) (by kernel_rfl) (by kernel_rfl) (by kernel_rfl)) ?_
  intro W base args ds gs before hval0 hW hcnd _
  have hval : ∀ (j : Nat) t v, Try.f3.params[j]? = some t → args[j]? = some v → Value.okWide Try.prog W .any base t v := hval0
  have hW' := hW
  obtain ⟨p, q, hA0, hV, rfl, hfz, hnd⟩ := hW
  have hA : DataW.TrodAll enc Try.prog W 0 (fun _ => true) true Try.f3.params.toList args.toList ds p := hA0
  rw [Try.params3] at hA hval
  obtain ⟨v0, vs0, d0, ds0, p0, q0, hargs, rfl, rfl, h0, r0⟩ := trodAll_cons hA
  obtain ⟨v1, vs1, d1, ds1, p1, q1, rfl, rfl, rfl, h1, r1⟩ := trodAll_cons r0
  obtain ⟨v2, vs2, d2, ds2, p2, q2, rfl, rfl, rfl, h2, r2⟩ := trodAll_cons r1
  obtain ⟨rfl, rfl, rfl⟩ := trodAll_nil r2
  obtain rfl : args = #[v0, v1, v2] := by cases args; simp_all
  obtain ⟨rfl, rfl⟩ := trodVars_none hV
  obtain ⟨A0, x0, c0, rfl, l0, m0, s0, t0⟩ := open_sb Try.underlying22 Try.underlying5 (by kernel_rfl : Try.prog.cellsOf 5 = 1) (hval 0 22 v0 rfl rfl) h0
  obtain ⟨A1, x1, c1, rfl, l1, m1, s1, t1⟩ := open_sl Try.underlying23 Try.underlying34 (by kernel_rfl : Try.prog.cellsOf 34 = 1) (hval 1 23 v1 rfl rfl) h1
  obtain ⟨a2, rfl, rfl, rfl, w2⟩ := open_int Try.underlying3 (hval 2 3 v2 rfl rfl) h2
  clear hA0 hval0
  refine (walk A0 x0 c0 l0 m0 A1 x1 c1 l1 m1 a2 w2 W s0 s1).mono fun e W' ⟨he, hg⟩ => ?_
  subst he
  exact ⟨_, rfl, Cl.post_below (pv := []) hW' (fun _ _ _ => (trodAll_cons_mk (shut_bool Try.underlying4 _) trodAll_mk0)) (fun sp hsp => (trodAll_cons_mk (t0 W' hg sp (fun q hq => hsp q (by simp [hq]))) (trodAll_cons_mk (t1 W' hg sp (fun q hq => hsp q (by simp [hq]))) (trodAll_cons_mk (shut_int Try.underlying3 w2) trodAll_mk0)))) (fun _ _ => rfl) rfl
    hg (ok_one (by kernel_rfl) rfl (okWide_bool_mk Try.underlying4 _))⟩

theorem over : Rows.packPacksRow.holds Try.pinned (OpenSpec.ofChange Rows.packPacksSpec) :=
  OpenClaim.holds_of_wide 3 Try.f3 rfl rfl rfl rfl rfl rfl rfl ⟨rfl, rfl, rfl, rfl, rfl⟩ rfl rfl rfl rfl rfl (by kernel_rfl) Try.func3 (by kernel_rfl)
    (of_decide_eq_true (by kernel_rfl)) (by unfold Func.isWrapper; first | (rw [if_pos (by decide +kernel)]; kernel_rfl) | (rw [if_neg (by decide +kernel)]; exact ⟨rfl, rfl⟩))
    (fun os started H enc _ => lifted os started H enc)

/-- THE STATEMENT -/
theorem proved : Rows.PackPacksSaid := over
end Go.Proofs.Ytoogdhnkihdkgaa.packPacks
