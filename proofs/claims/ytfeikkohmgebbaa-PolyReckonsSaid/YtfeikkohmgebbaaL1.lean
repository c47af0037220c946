/- Statement PolyReckons: for every two polynomials and every number the law returns true. -/
import Derived.Test.YtfeikkohmgebbaaAw
import Derived.Test.YtfeikkohmgebbaaSq
namespace Go.Proofs.Ytfeikkohmgebbaa
open Go.RowKit Go.Gf
attribute [local go_sem ↓] exec_load_tb Cl.quiet_since
attribute [local go_sem] tbAt_ptr tbIn_ptr

set_option maxRecDepth 20000 in
set_option maxHeartbeats 4000000 in
theorem reckons_law (A : Option Addr) (xs : List Nat) (ca : Nat) (hca : xs.length ≤ ca) (hx : ca ≤ maxLen) (B : Option Addr) (ys : List Nat) (cb : Nat) (hcb : ys.length ≤ cb) (hy : cb ≤ maxLen) (x : Int) (wx : (Lit.int .u16 x).wf = true) (w : World)
    (hA : Sl w w.heap.size A xs) (hB : Sl w w.heap.size B ys) :
    Calls Try.prog 3 #[.slice A xs.length ca, .slice B ys.length cb, .int .u16 x] w (Leaves w (.bool true)) := by
  obtain ⟨x0, x1⟩ := u16_bd wx
  have mx : (xs.length : Int) ≤ 9223372036854775807 := by unfold maxLen at hx; omega
  have my : (ys.length : Int) ≤ 9223372036854775807 := by unfold maxLen at hy; omega
  clear hx hy
  replace hA := Lib.hid hA
  replace hB := Lib.hid hB
  by_cases hl1 : xs.length ≤ 200 ∧ ys.length ≤ 200
  · obtain ⟨l1, l2⟩ := hl1
    have lx : xs.length ≤ 1000000 := by omega
    have ly : ys.length ≤ 1000000 := by omega
    have d1 : decide ((200 : Int) < (xs.length : Int)) = false := by rw [decide_eq_false_iff_not]; omega
    have d2 : decide ((200 : Int) < (ys.length : Int)) = false := by rw [decide_eq_false_iff_not]; omega
    have b1 := Lib.hid (show (tr xs).length ≤ 1000000 from Nat.le_trans (tr_len xs) lx)
    have b2 := Lib.hid (show (padd xs ys).length ≤ 1000000 from Nat.le_trans (padd_le xs ys) (by omega))
    have b3 := Lib.hid (show (pmul xs ys).length ≤ 1000000 from Nat.le_trans (pmul_le xs ys) (by omega))
    have b4 := Lib.hid (show (qq xs ys).length ≤ 1000000 from Nat.le_trans (qq_le xs ys) (by omega))
    have b5 := Lib.hid (show (rr xs ys).length ≤ 1000000 from Nat.le_trans (rr_le xs ys) (by omega))
    have b6 := Lib.hid (show (slope xs).length ≤ 1000000 from Nat.le_trans (slope_le xs) (by omega))
    obtain ⟨ok, hok⟩ : ∃ ok, Hid (decide (tr ys ≠ []) = ok) := ⟨_, Lib.hid rfl⟩
    obtain ⟨X, hX⟩ : ∃ X, Hid (x.toNat % 1024 = X) := ⟨_, Lib.hid rfl⟩
    have hX1 : X < 1024 := by rw [← hX.out]; omega
    have hz := zero27
    have hmask : bits .and .u16 x 1023 = (X : Int) := by rw [u16_mask x x0 x1, ← hX.out]; omega
    go_enter Try.func3, Try.ntmps3
    go_wp2_with fail
    have hW : Hid (Below w.heap.size w w) := Lib.hid (Below.refl _ _)
    have hc := awake_any w
    replace hc := Lib.hid hc
    refine hc.out.mono ?_
    rintro e w1 ⟨rfl, hb⟩
    clear hc
    have hW := Lib.hid (hW.out.trans (hb.mono hW.out.size))
    replace hA := Lib.hid (hA.out.far hb)
    replace hB := Lib.hid (hB.out.far hb)
    clear hb
    go_wp2_with fail
    refine (make_any _).mono ?_
    rintro e w2 ⟨cs, rfl, hl, hb⟩
    have hb0 := hW.out.trans (hb.mono hW.out.size)
    replace hA := Lib.hid (hA.out.far hb)
    replace hB := Lib.hid (hB.out.far hb)
    clear hb hW
    go_wp2_with (refine wpList_store_row rfl 28 _ _ rfl w2.heap.size (cells cs) rfl rfl 28 (cells ZT) (heap_alloc_new w2 _) (rsize hl) (zsize hl) (cells_one cs) ?_)
    have hS := St.start (cs := cs) hb0 (cells ZT)
    have hb : Below w2.heap.size w2 ((w2.alloc (Obj.cells (cells ZT) 28)).setRow w2.heap.size (cells cs)) := below_setRow ((Below.refl _ _).alloc (Nat.le_refl _) _) (Nat.le_refl _) _
    replace hA := Lib.hid (hA.out.far hb)
    replace hB := Lib.hid (hB.out.far hb)
    clear hb0 hb
    generalize hg : w2.heap.size = g at hS ⊢
    rw [hg] at hA hB
    generalize (w2.alloc (Obj.cells (cells ZT) 28)).setRow g (cells cs) = w3 at *
    clear hg hz
    have hi := hS.is hl.1
    have ho := hS.of
    go_wp2_with fail
    have hc := row_div (ok := ok) (ca := ca) hl hA.out hB.out lx ly hcb hok.out
    replace hc := Lib.hid hc
    refine hc.out.mono ?_
    rintro e w4 ⟨A1, c1, A2, c2, rfl, _, _, hq, hr, hb⟩
    clear hc
    have hS := hS.next hb
    have hi := hS.is hl.1
    have ho := hS.of
    replace hA := Lib.hid (hA.out.far hb)
    replace hB := Lib.hid (hB.out.far hb)
    clear hb
    replace hq := Lib.hid hq
    replace hr := Lib.hid hr
    go_wp2_with fail
    have hc := row_rdiv (ok := ok) (ca := ca) (cb := cb) hA.out hB.out lx ly hok.out
    replace hc := Lib.hid hc
    refine hc.out.mono ?_
    rintro e w5 ⟨A3, c3, A4, c4, rfl, hu, hv, hb⟩
    clear hc
    have hS := hS.next hb
    have hi := hS.is hl.1
    have ho := hS.of
    replace hA := Lib.hid (hA.out.far hb)
    replace hB := Lib.hid (hB.out.far hb)
    replace hq := Lib.hid (hq.out.far hb)
    replace hr := Lib.hid (hr.out.far hb)
    clear hb
    replace hu := Lib.hid hu
    replace hv := Lib.hid hv
    go_wp2_with fail
    have hc := row_trim (ca := ca) hA.out lx
    replace hc := Lib.hid hc
    refine hc.out.mono ?_
    rintro e w6 ⟨Am, rfl, hm, hb⟩
    clear hc
    have hS := hS.next hb
    have hi := hS.is hl.1
    have ho := hS.of
    replace hA := Lib.hid (hA.out.far hb)
    replace hB := Lib.hid (hB.out.far hb)
    replace hq := Lib.hid (hq.out.far hb)
    replace hr := Lib.hid (hr.out.far hb)
    replace hu := Lib.hid (hu.out.far hb)
    replace hv := Lib.hid (hv.out.far hb)
    clear hb
    replace hm := Lib.hid hm
    go_wp2_with fail
    have hc := row_rtrim (ca := ca) hA.out lx
    replace hc := Lib.hid hc
    refine hc.out.mono ?_
    rintro e w7 ⟨An, rfl, hn, hb⟩
    clear hc
    have hS := hS.next hb
    have hi := hS.is hl.1
    have ho := hS.of
    replace hA := Lib.hid (hA.out.far hb)
    replace hB := Lib.hid (hB.out.far hb)
    replace hq := Lib.hid (hq.out.far hb)
    replace hr := Lib.hid (hr.out.far hb)
    replace hu := Lib.hid (hu.out.far hb)
    replace hv := Lib.hid (hv.out.far hb)
    replace hm := Lib.hid (hm.out.far hb)
    clear hb
    replace hn := Lib.hid hn
    go_wp2_with fail
    have hc := val_same (ca := (tr xs).length) (cb := (tr xs).length) (b := true) hm.out hn.out b1.out b1.out (decide_eq_true rfl)
    replace hc := Lib.hid hc
    clear hm
    clear hn
    refine hc.out.mono ?_
    rintro e w8 ⟨rfl, hb⟩
    clear hc
    have hS := hS.next hb
    have hi := hS.is hl.1
    have ho := hS.of
    replace hA := Lib.hid (hA.out.far hb)
    replace hB := Lib.hid (hB.out.far hb)
    replace hq := Lib.hid (hq.out.far hb)
    replace hr := Lib.hid (hr.out.far hb)
    replace hu := Lib.hid (hu.out.far hb)
    replace hv := Lib.hid (hv.out.far hb)
    clear hb
    go_wp2_with fail
    have hc := row_add (ca := ca) (cb := cb) hA.out hB.out lx ly
    replace hc := Lib.hid hc
    refine hc.out.mono ?_
    rintro e w9 ⟨Am, rfl, hm, hb⟩
    clear hc
    have hS := hS.next hb
    have hi := hS.is hl.1
    have ho := hS.of
    replace hA := Lib.hid (hA.out.far hb)
    replace hB := Lib.hid (hB.out.far hb)
    replace hq := Lib.hid (hq.out.far hb)
    replace hr := Lib.hid (hr.out.far hb)
    replace hu := Lib.hid (hu.out.far hb)
    replace hv := Lib.hid (hv.out.far hb)
    clear hb
    replace hm := Lib.hid hm
    go_wp2_with fail
    have hc := row_radd (ca := ca) (cb := cb) hA.out hB.out lx ly
    replace hc := Lib.hid hc
    refine hc.out.mono ?_
    rintro e w10 ⟨An, rfl, hn, hb⟩
    clear hc
    have hS := hS.next hb
    have hi := hS.is hl.1
    have ho := hS.of
    replace hA := Lib.hid (hA.out.far hb)
    replace hB := Lib.hid (hB.out.far hb)
    replace hq := Lib.hid (hq.out.far hb)
    replace hr := Lib.hid (hr.out.far hb)
    replace hu := Lib.hid (hu.out.far hb)
    replace hv := Lib.hid (hv.out.far hb)
    replace hm := Lib.hid (hm.out.far hb)
    clear hb
    replace hn := Lib.hid hn
    go_wp2_with fail
    have hc := val_same (ca := (padd xs ys).length) (cb := (padd xs ys).length) (b := true) hm.out hn.out b2.out b2.out (decide_eq_true rfl)
    replace hc := Lib.hid hc
    clear hm
    clear hn
    refine hc.out.mono ?_
    rintro e w11 ⟨rfl, hb⟩
    clear hc
    have hS := hS.next hb
    have hi := hS.is hl.1
    have ho := hS.of
    replace hA := Lib.hid (hA.out.far hb)
    replace hB := Lib.hid (hB.out.far hb)
    replace hq := Lib.hid (hq.out.far hb)
    replace hr := Lib.hid (hr.out.far hb)
    replace hu := Lib.hid (hu.out.far hb)
    replace hv := Lib.hid (hv.out.far hb)
    clear hb
    go_wp2_with fail
    have hc := row_mul hl hA.out hB.out lx ly hca hcb
    replace hc := Lib.hid hc
    refine hc.out.mono ?_
    rintro e w12 ⟨Am, rfl, hm, hb⟩
    clear hc
    have hS := hS.next hb
    have hi := hS.is hl.1
    have ho := hS.of
    replace hA := Lib.hid (hA.out.far hb)
    replace hB := Lib.hid (hB.out.far hb)
    replace hq := Lib.hid (hq.out.far hb)
    replace hr := Lib.hid (hr.out.far hb)
    replace hu := Lib.hid (hu.out.far hb)
    replace hv := Lib.hid (hv.out.far hb)
    clear hb
    replace hm := Lib.hid hm
    go_wp2_with fail
    have hc := row_rmul (ca := ca) (cb := cb) hA.out hB.out lx ly
    replace hc := Lib.hid hc
    refine hc.out.mono ?_
    rintro e w13 ⟨An, rfl, hn, hb⟩
    clear hc
    have hS := hS.next hb
    have hi := hS.is hl.1
    have ho := hS.of
    replace hA := Lib.hid (hA.out.far hb)
    replace hB := Lib.hid (hB.out.far hb)
    replace hq := Lib.hid (hq.out.far hb)
    replace hr := Lib.hid (hr.out.far hb)
    replace hu := Lib.hid (hu.out.far hb)
    replace hv := Lib.hid (hv.out.far hb)
    replace hm := Lib.hid (hm.out.far hb)
    clear hb
    replace hn := Lib.hid hn
    go_wp2_with fail
    have hc := val_same (ca := (pmul xs ys).length) (cb := (pmul xs ys).length) (b := true) hm.out hn.out b3.out b3.out (decide_eq_true rfl)
    replace hc := Lib.hid hc
    clear hm
    clear hn
    refine hc.out.mono ?_
    rintro e w14 ⟨rfl, hb⟩
    clear hc
    have hS := hS.next hb
    have hi := hS.is hl.1
    have ho := hS.of
    replace hA := Lib.hid (hA.out.far hb)
    replace hB := Lib.hid (hB.out.far hb)
    replace hq := Lib.hid (hq.out.far hb)
    replace hr := Lib.hid (hr.out.far hb)
    replace hu := Lib.hid (hu.out.far hb)
    replace hv := Lib.hid (hv.out.far hb)
    clear hb
    go_wp2_with fail
    have hc := val_same (ca := c1) (cb := c3) (b := true) hq.out hu.out b4.out b4.out (decide_eq_true rfl)
    replace hc := Lib.hid hc
    clear hq
    clear hu
    refine hc.out.mono ?_
    rintro e w15 ⟨rfl, hb⟩
    clear hc
    have hS := hS.next hb
    have hi := hS.is hl.1
    have ho := hS.of
    replace hA := Lib.hid (hA.out.far hb)
    replace hB := Lib.hid (hB.out.far hb)
    replace hr := Lib.hid (hr.out.far hb)
    replace hv := Lib.hid (hv.out.far hb)
    clear hb
    go_wp2_with fail
    have hc := val_same (ca := c2) (cb := c4) (b := true) hr.out hv.out b5.out b5.out (decide_eq_true rfl)
    replace hc := Lib.hid hc
    clear hr
    clear hv
    refine hc.out.mono ?_
    rintro e w16 ⟨rfl, hb⟩
    clear hc
    have hS := hS.next hb
    have hi := hS.is hl.1
    have ho := hS.of
    replace hA := Lib.hid (hA.out.far hb)
    replace hB := Lib.hid (hB.out.far hb)
    clear hb
    go_wp2_with fail
    have hc := val_at (ca := ca) (x := x) hl hA.out lx x0 x1
    rw [hX.out] at hc
    replace hc := Lib.hid hc
    refine hc.out.mono ?_
    rintro e w17 ⟨rfl, hb⟩
    clear hc
    have hS := hS.next hb
    have hi := hS.is hl.1
    have ho := hS.of
    replace hA := Lib.hid (hA.out.far hb)
    replace hB := Lib.hid (hB.out.far hb)
    clear hb
    go_wp2_with fail
    have hc := val_rat (ca := ca) (x := X) hA.out lx hX1
    replace hc := Lib.hid hc
    refine hc.out.mono ?_
    rintro e w18 ⟨rfl, hb⟩
    clear hc
    have hS := hS.next hb
    have hi := hS.is hl.1
    have ho := hS.of
    replace hA := Lib.hid (hA.out.far hb)
    replace hB := Lib.hid (hB.out.far hb)
    clear hb
    go_wp2_with fail
    have hc := row_slope (ca := ca) hA.out lx
    replace hc := Lib.hid hc
    refine hc.out.mono ?_
    rintro e w19 ⟨Am, rfl, hm, hb⟩
    clear hc
    have hS := hS.next hb
    have hi := hS.is hl.1
    have ho := hS.of
    replace hA := Lib.hid (hA.out.far hb)
    replace hB := Lib.hid (hB.out.far hb)
    clear hb
    replace hm := Lib.hid hm
    go_wp2_with fail
    have hc := row_rslope (ca := ca) hA.out lx
    replace hc := Lib.hid hc
    refine hc.out.mono ?_
    rintro e w20 ⟨An, rfl, hn, hb⟩
    clear hc
    have hS := hS.next hb
    have hi := hS.is hl.1
    have ho := hS.of
    replace hA := Lib.hid (hA.out.far hb)
    replace hB := Lib.hid (hB.out.far hb)
    replace hm := Lib.hid (hm.out.far hb)
    clear hb
    replace hn := Lib.hid hn
    go_wp2_with fail
    have hc := val_same (ca := (slope xs).length) (cb := (slope xs).length) (b := true) hm.out hn.out b6.out b6.out (decide_eq_true rfl)
    replace hc := Lib.hid hc
    clear hm
    clear hn
    refine hc.out.mono ?_
    rintro e w21 ⟨rfl, hb⟩
    clear hc
    have hS := hS.next hb
    have hi := hS.is hl.1
    have ho := hS.of
    replace hA := Lib.hid (hA.out.far hb)
    replace hB := Lib.hid (hB.out.far hb)
    clear hb
    go_wp2_with fail
    go_ret
    exact ⟨rfl, hS.below⟩
  · have e : Hid (200 < xs.length ∨ 200 < ys.length) := by unfold Hid; omega
    cases d1 : decide ((200 : Int) < (xs.length : Int)) <;> cases d2 : decide ((200 : Int) < (ys.length : Int))
    · rw [decide_eq_false_iff_not] at d1 d2
      have := e.out
      omega
    all_goals
      clear hl1
      go_enter Try.func3, Try.ntmps3
      go_wp2_with fail
      refine (awake_any w).mono ?_
      rintro e w1 ⟨rfl, hb⟩
      go_wp2_with fail
      go_ret
      exact ⟨rfl, hb⟩
end Go.Proofs.Ytfeikkohmgebbaa
namespace Go.Proofs.Ytfeikkohmgebbaa.polyReckons
open Go.ChangeShapes Go.WideShapes Go.ChangeAt Go.RowKit Go.Gf
set_option linter.unusedVariables false

theorem own : ownKnob Try.prog.godebug = none := by kernel_rfl

theorem walk (A0 : Option Addr) (x0 : List Nat) (c0 : Nat) (l0 : x0.length ≤ c0) (m0 : c0 ≤ maxLen) (A1 : Option Addr) (x1 : List Nat) (c1 : Nat) (l1 : x1.length ≤ c1) (m1 : c1 ≤ maxLen) (a2 : Int) (w2 : (Lit.int .u16 a2).wf = true) (w : World) (s0 : Sl w w.heap.size A0 x0) (s1 : Sl w w.heap.size A1 x1) :
    Calls Try.prog 3 #[.slice A0 x0.length c0, .slice A1 x1.length c1, .int .u16 a2] w fun e w' => e = .returned (.bool true) ∧ Below w.heap.size w w' := reckons_law A0 x0 c0 l0 m0 A1 x1 c1 l1 m1 a2 w2 w s0 s1

set_option maxRecDepth 100000 in
theorem lifted (os : Os) (started : os.Started) (H : Type) (enc : TypeId × Value → H) :
    ReturnsInHanded {} Try.checked os 3 .any (Rows.polyReckonsSpec.pre6 enc Try.prog Try.f3 Rows.polyReckonsRow.domain false) (Rows.polyReckonsSpec.post enc Try.prog Try.f3 false true false false) := by
  refine returnsInHanded_of_change (C := Try.checked) own started (by kernel_rfl) Try.func3
    (ChangeSpec.witness6 (enc := enc) (C := Try.checked) false ⟨#[], #[.slice none 0 0, .slice none 0 0, .int .u16 0], []⟩ 8 (by kernel_rfl) (by kernel_rfl) (by kernel_rfl) (by kernel_rfl)) ?_
  intro W base args ds gs before hval0 hW hcnd _
  have hval : ∀ (j : Nat) t v, Try.f3.params[j]? = some t → args[j]? = some v → Value.okWide Try.prog W .any base t v := hval0
  have hW' := hW
  obtain ⟨p, q, hA0, hV, rfl, hfz, hnd⟩ := hW
  have hA : DataW.TrodAll enc Try.prog W 0 (fun _ => true) true Try.f3.params.toList args.toList ds p := hA0
  rw [Try.params3] at hA hval
  obtain ⟨v0, vs0, d0, ds0, p0, q0, hargs, rfl, rfl, h0, r0⟩ := trodAll_cons hA
  obtain ⟨v1, vs1, d1, ds1, p1, q1, rfl, rfl, rfl, h1, r1⟩ := trodAll_cons r0
  obtain ⟨v2, vs2, d2, ds2, p2, q2, rfl, rfl, rfl, h2, r2⟩ := trodAll_cons r1
  obtain ⟨rfl, rfl, rfl⟩ := trodAll_nil r2
  obtain rfl : args = #[v0, v1, v2] := by cases args; simp_all
  obtain ⟨rfl, rfl⟩ := trodVars_none hV
  obtain ⟨A0, x0, c0, rfl, l0, m0, s0, t0⟩ := open_sl Try.underlying22 Try.underlying23 (by kernel_rfl : Try.prog.cellsOf 23 = 1) (hval 0 22 v0 rfl rfl) h0
  obtain ⟨A1, x1, c1, rfl, l1, m1, s1, t1⟩ := open_sl Try.underlying22 Try.underlying23 (by kernel_rfl : Try.prog.cellsOf 23 = 1) (hval 1 22 v1 rfl rfl) h1
  obtain ⟨a2, rfl, rfl, rfl, w2⟩ := open_int Try.underlying23 (hval 2 23 v2 rfl rfl) h2
  clear hA0 hval0
  refine (walk A0 x0 c0 l0 m0 A1 x1 c1 l1 m1 a2 w2 W s0 s1).mono fun e W' ⟨he, hg⟩ => ?_
  subst he
  exact ⟨_, rfl, Cl.post_below (pv := []) hW' (fun _ _ _ => (trodAll_cons_mk (shut_bool Try.underlying4 _) trodAll_mk0)) (fun sp hsp => (trodAll_cons_mk (t0 W' hg sp (fun q hq => hsp q (by simp [hq]))) (trodAll_cons_mk (t1 W' hg sp (fun q hq => hsp q (by simp [hq]))) (trodAll_cons_mk (shut_int Try.underlying23 w2) trodAll_mk0)))) (fun _ _ => rfl) rfl
    hg (ok_one (by kernel_rfl) rfl (okWide_bool_mk Try.underlying4 _))⟩

theorem over : Rows.polyReckonsRow.holds Try.pinned (OpenSpec.ofChange Rows.polyReckonsSpec) :=
  OpenClaim.holds_of_wide 3 Try.f3 rfl rfl rfl rfl rfl rfl rfl ⟨rfl, rfl, rfl, rfl, rfl⟩ rfl rfl rfl rfl rfl (by kernel_rfl) Try.func3 (by kernel_rfl)
    (of_decide_eq_true (by kernel_rfl)) (by unfold Func.isWrapper; first | (rw [if_pos (by decide +kernel)]; kernel_rfl) | (rw [if_neg (by decide +kernel)]; exact ⟨rfl, rfl⟩))
    (fun os started H enc _ => lifted os started H enc)

/-- THE STATEMENT -/
theorem proved : Rows.PolyReckonsSaid := over
end Go.Proofs.Ytfeikkohmgebbaa.polyReckons
