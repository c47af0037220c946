/- Statement PolyDegrees: for every two polynomials the law returns true. -/
import Derived.Test.YtfeikkohmgebbaaAw
import Derived.Test.YtfeikkohmgebbaaSq
namespace Go.Proofs.Ytfeikkohmgebbaa
open Go.RowKit Go.Gf
attribute [local go_sem ↓] exec_load_tb Cl.quiet_since
attribute [local go_sem] tbAt_ptr tbIn_ptr

set_option maxRecDepth 20000 in
set_option maxHeartbeats 8000000 in
theorem degrees_core (A : Option Addr) (xs : List Nat) (ca : Nat) (hca : xs.length ≤ ca) (B : Option Addr) (ys : List Nat) (cb : Nat) (hcb : ys.length ≤ cb) (l1 : xs.length ≤ 100) (l2 : ys.length ≤ 100) (w : World)
    (hA : Hid (Sl w w.heap.size A xs)) (hB : Hid (Sl w w.heap.size B ys)) (p q e : Bool) (mx : Nat) (l3 : (tr xs).length ≤ 100) (l4 : (tr ys).length ≤ 100)
    (h1 : decide (0 < (tr xs).length) = p) (h2 : decide (0 < (tr ys).length) = q) (h3 : (((tr xs).length : Int) != ((tr ys).length : Int)) = e)
    (hmx : (if (tr xs).length < (tr ys).length then ((tr ys).length : Int) else ((tr xs).length : Int)) = (mx : Int))
    (haa : Hid ((p && q) = true → (((pmul xs ys).length : Int) != ((tr xs).length : Int) + ((tr ys).length : Int) - 1) = false)) (hbb : Hid ((p && q) = false → (((pmul xs ys).length : Int) != 0) = false))
    (h4 : decide (mx < (padd xs ys).length) = false) (h5 : Hid (e = true → (((padd xs ys).length : Int) != (mx : Int)) = false))
    (hok : Hid (decide (tr ys ≠ []) = q)) (hno : Hid (q = false → (((tr ys).length : Int) == 0) = true ∧ (((qq xs ys).length : Int) == 0) = true ∧ (((rr xs ys).length : Int) == 0) = true))
    (hye : Hid (q = true → decide ((rr xs ys).length < (tr ys).length) = true ∧ (if (0 : Int) < ((tr xs).length : Int) - ((tr ys).length : Int) + 1 then ((tr xs).length : Int) - ((tr ys).length : Int) + 1 else 0) = ((qq xs ys).length : Int))) :
    Calls Try.prog 8 #[.slice A xs.length ca, .slice B ys.length cb] w (Leaves w (.bool true)) := by
  have lx : xs.length ≤ 1000000 := by omega
  have ly : ys.length ≤ 1000000 := by omega
  have d1 : decide ((100 : Int) < (xs.length : Int)) = false := by rw [decide_eq_false_iff_not]; omega
  have d2 : decide ((100 : Int) < (ys.length : Int)) = false := by rw [decide_eq_false_iff_not]; omega
  have hz := zero27
  have b3 := pmul_le xs ys
  have b4 := qq_le xs ys
  have b5 := rr_le xs ys
  have b6 := padd_le xs ys
  have k3 : (pmul xs ys).length ≤ 1000000 := by omega
  have k4 : (qq xs ys).length ≤ 1000000 := by omega
  have k5 : (rr xs ys).length ≤ 1000000 := by omega
  have k6 : (padd xs ys).length ≤ 1000000 := by omega
  clear b3 b4 b5 b6
  go_enter Try.func8, Try.ntmps8
  go_wp2_with fail
  have hW : Hid (Below w.heap.size w w) := Lib.hid (Below.refl _ _)
  have hc := awake_any w
  replace hc := Lib.hid hc
  refine hc.out.mono ?_
  rintro e w1 ⟨rfl, hb⟩
  clear hc
  have hW := Lib.hid (hW.out.trans (hb.mono hW.out.size))
  replace hA := Lib.hid (hA.out.far hb)
  replace hB := Lib.hid (hB.out.far hb)
  clear hb
  go_wp2_with fail
  refine (make_any _).mono ?_
  rintro e w2 ⟨cs, rfl, hl, hb⟩
  have hb0 := hW.out.trans (hb.mono hW.out.size)
  replace hA := Lib.hid (hA.out.far hb)
  replace hB := Lib.hid (hB.out.far hb)
  clear hb hW
  go_wp2_with (refine wpList_store_row rfl 28 _ _ rfl w2.heap.size (cells cs) rfl rfl 28 (cells ZT) (heap_alloc_new w2 _) (rsize hl) (zsize hl) (cells_one cs) ?_)
  have hS := St.start (cs := cs) hb0 (cells ZT)
  have hb : Below w2.heap.size w2 ((w2.alloc (Obj.cells (cells ZT) 28)).setRow w2.heap.size (cells cs)) := below_setRow ((Below.refl _ _).alloc (Nat.le_refl _) _) (Nat.le_refl _) _
  replace hA := Lib.hid (hA.out.far hb)
  replace hB := Lib.hid (hB.out.far hb)
  clear hb0 hb
  generalize hg : w2.heap.size = g at hS ⊢
  rw [hg] at hA hB
  generalize (w2.alloc (Obj.cells (cells ZT) 28)).setRow g (cells cs) = w3 at *
  clear hg hz
  have hi := hS.is hl.1
  have ho := hS.of
  go_wp2_with fail
  have hc := row_trim (ca := ca) hA.out lx
  replace hc := Lib.hid hc
  refine hc.out.mono ?_
  rintro e w4 ⟨Am, rfl, hm, hb⟩
  clear hc
  have hS := hS.next hb
  have hi := hS.is hl.1
  have ho := hS.of
  replace hA := Lib.hid (hA.out.far hb)
  replace hB := Lib.hid (hB.out.far hb)
  clear hb
  replace hm := Lib.hid hm
  go_wp2_with fail
  have hc := row_trim (ca := cb) hB.out ly
  replace hc := Lib.hid hc
  refine hc.out.mono ?_
  rintro e w5 ⟨An, rfl, hn, hb⟩
  clear hc
  have hS := hS.next hb
  have hi := hS.is hl.1
  have ho := hS.of
  replace hA := Lib.hid (hA.out.far hb)
  replace hB := Lib.hid (hB.out.far hb)
  replace hm := Lib.hid (hm.out.far hb)
  clear hb
  replace hn := Lib.hid hn
  go_wp2_with fail
  have hc := row_mul hl hA.out hB.out lx ly hca hcb
  replace hc := Lib.hid hc
  refine hc.out.mono ?_
  rintro e w6 ⟨Ap, rfl, hp, hb⟩
  clear hc
  have hS := hS.next hb
  have hi := hS.is hl.1
  have ho := hS.of
  replace hA := Lib.hid (hA.out.far hb)
  replace hB := Lib.hid (hB.out.far hb)
  replace hm := Lib.hid (hm.out.far hb)
  replace hn := Lib.hid (hn.out.far hb)
  clear hb
  replace hp := Lib.hid hp
  go_wp2_with fail
  have hc := row_add (ca := ca) (cb := cb) hA.out hB.out lx ly
  replace hc := Lib.hid hc
  refine hc.out.mono ?_
  rintro e w7 ⟨As, rfl, hs, hb⟩
  clear hc
  have hS := hS.next hb
  have hi := hS.is hl.1
  have ho := hS.of
  replace hA := Lib.hid (hA.out.far hb)
  replace hB := Lib.hid (hB.out.far hb)
  replace hm := Lib.hid (hm.out.far hb)
  replace hn := Lib.hid (hn.out.far hb)
  replace hp := Lib.hid (hp.out.far hb)
  clear hb
  replace hs := Lib.hid hs
  cases p <;> cases q <;> cases e
  all_goals
    first
      | have ha' := haa.out rfl
      | have ha' := hbb.out rfl
    first
      | obtain ⟨n1, n2, n3⟩ := hno.out rfl
      | obtain ⟨n1, n2⟩ := hye.out rfl
    try have h5' := h5.out rfl
    clear haa hbb hno hye h5
    go_wp2_with fail
    have hc := row_div (ca := ca) hl hA.out hB.out lx ly hcb hok.out
    replace hc := Lib.hid hc
    refine hc.out.mono ?_
    rintro e w8 ⟨A1, c1, A2, c2, rfl, _, _, hq, hr, hb⟩
    clear hc
    have hS := hS.next hb
    have hi := hS.is hl.1
    have ho := hS.of
    replace hA := Lib.hid (hA.out.far hb)
    replace hB := Lib.hid (hB.out.far hb)
    replace hm := Lib.hid (hm.out.far hb)
    replace hn := Lib.hid (hn.out.far hb)
    replace hp := Lib.hid (hp.out.far hb)
    replace hs := Lib.hid (hs.out.far hb)
    clear hb
    replace hq := Lib.hid hq
    replace hr := Lib.hid hr
    go_wp2_with fail
    go_ret
    exact ⟨rfl, hS.below⟩

theorem len_pos {l : List Nat} : l ≠ [] ↔ 0 < l.length := by cases l <;> simp
set_option maxRecDepth 20000 in
set_option maxHeartbeats 4000000 in
theorem degrees_law (A : Option Addr) (xs : List Nat) (ca : Nat) (hca : xs.length ≤ ca) (hx : ca ≤ maxLen) (B : Option Addr) (ys : List Nat) (cb : Nat) (hcb : ys.length ≤ cb) (hy : cb ≤ maxLen) (w : World)
    (hA : Sl w w.heap.size A xs) (hB : Sl w w.heap.size B ys) :
    Calls Try.prog 8 #[.slice A xs.length ca, .slice B ys.length cb] w (Leaves w (.bool true)) := by
  have mx : (xs.length : Int) ≤ 9223372036854775807 := by unfold maxLen at hx; omega
  have my : (ys.length : Int) ≤ 9223372036854775807 := by unfold maxLen at hy; omega
  clear hx hy
  by_cases hl1 : xs.length ≤ 100 ∧ ys.length ≤ 100
  · obtain ⟨l1, l2⟩ := hl1
    have l3 := tr_len xs
    have l4 := tr_len ys
    have hadd := padd_len xs ys
    rw [tr_padd] at hadd
    have hok : decide (tr ys ≠ []) = decide (0 < (tr ys).length) := by
      rw [decide_eq_decide, len_pos]
    refine degrees_core A xs ca hca B ys cb hcb l1 l2 w (Lib.hid hA) (Lib.hid hB) _ _ _ (max (tr xs).length (tr ys).length) (by omega) (by omega) rfl rfl rfl (by split <;> omega) ?_ ?_ ?_ ?_ (Lib.hid hok) ?_ ?_
    · intro h
      simp only [Bool.and_eq_true, decide_eq_true_eq] at h
      have := pmul_len (p := xs) (q := ys) (by omega) (len_pos.2 (by omega)) (len_pos.2 (by omega))
      rw [bne_eq_false_iff_eq]; omega
    · intro h
      have : pmul xs ys = [] := by
        unfold pmul
        rw [if_pos]
        simp only [Bool.and_eq_false_iff, decide_eq_false_iff_not] at h
        omega
      rw [this]; rfl
    · rw [decide_eq_false_iff_not]; omega
    · intro h
      rw [bne_iff_ne] at h
      have := padd_len_ne (p := xs) (q := ys) (by omega)
      rw [bne_eq_false_iff_eq]; omega
    · intro h
      rw [decide_eq_false_iff_not] at h
      have h0 : tr ys = [] := List.eq_nil_of_length_eq_zero (by omega)
      refine ⟨by rw [h0]; rfl, ?_, ?_⟩
      · unfold qq; rw [if_pos h0]; rfl
      · unfold rr; rw [if_pos h0]; rfl
    · intro h
      rw [decide_eq_true_eq] at h
      have h0 : tr ys ≠ [] := len_pos.2 (by omega)
      refine ⟨?_, ?_⟩
      · unfold rr; rw [if_neg h0, decide_eq_true_eq]; exact prem_len h0
      · unfold qq; rw [if_neg h0, pquo_len h0]
        unfold divN
        split <;> omega
  · have e : Hid (100 < xs.length ∨ 100 < ys.length) := by unfold Hid; omega
    cases d1 : decide ((100 : Int) < (xs.length : Int)) <;> cases d2 : decide ((100 : Int) < (ys.length : Int))
    · rw [decide_eq_false_iff_not] at d1 d2
      have := e.out
      omega
    all_goals
      clear hl1
      go_enter Try.func8, Try.ntmps8
      go_wp2_with fail
      refine (awake_any w).mono ?_
      rintro e w1 ⟨rfl, hb⟩
      go_wp2_with fail
      go_ret
      exact ⟨rfl, hb⟩
end Go.Proofs.Ytfeikkohmgebbaa
namespace Go.Proofs.Ytfeikkohmgebbaa.polyDegrees
open Go.ChangeShapes Go.WideShapes Go.ChangeAt Go.RowKit Go.Gf
set_option linter.unusedVariables false

theorem own : ownKnob Try.prog.godebug = none := by kernel_rfl

theorem walk (A0 : Option Addr) (x0 : List Nat) (c0 : Nat) (l0 : x0.length ≤ c0) (m0 : c0 ≤ maxLen) (A1 : Option Addr) (x1 : List Nat) (c1 : Nat) (l1 : x1.length ≤ c1) (m1 : c1 ≤ maxLen) (w : World) (s0 : Sl w w.heap.size A0 x0) (s1 : Sl w w.heap.size A1 x1) :
    Calls Try.prog 8 #[.slice A0 x0.length c0, .slice A1 x1.length c1] w fun e w' => e = .returned (.bool true) ∧ Below w.heap.size w w' := degrees_law A0 x0 c0 l0 m0 A1 x1 c1 l1 m1 w s0 s1

set_option maxRecDepth 100000 in
theorem lifted (os : Os) (started : os.Started) (H : Type) (enc : TypeId × Value → H) :
    ReturnsInHanded {} Try.checked os 8 .any (Rows.polyDegreesSpec.pre6 enc Try.prog Try.f8 Rows.polyDegreesRow.domain false) (Rows.polyDegreesSpec.post enc Try.prog Try.f8 false true false false) := by
  refine returnsInHanded_of_change (C := Try.checked) own started (by kernel_rfl) Try.func8
    (ChangeSpec.witness6 (enc := enc) (C := Try.checked) false ⟨#[], #[.slice none 0 0, .slice none 0 0], []⟩ 8 (by kernel_rfl) (by kernel_rfl) (by kernel_rfl) (by kernel_rfl)) ?_
  intro W base args ds gs before hval0 hW hcnd _
  have hval : ∀ (j : Nat) t v, Try.f8.params[j]? = some t → args[j]? = some v → Value.okWide Try.prog W .any base t v := hval0
  have hW' := hW
  obtain ⟨p, q, hA0, hV, rfl, hfz, hnd⟩ := hW
  have hA : DataW.TrodAll enc Try.prog W 0 (fun _ => true) true Try.f8.params.toList args.toList ds p := hA0
  rw [Try.params8] at hA hval
  obtain ⟨v0, vs0, d0, ds0, p0, q0, hargs, rfl, rfl, h0, r0⟩ := trodAll_cons hA
  obtain ⟨v1, vs1, d1, ds1, p1, q1, rfl, rfl, rfl, h1, r1⟩ := trodAll_cons r0
  obtain ⟨rfl, rfl, rfl⟩ := trodAll_nil r1
  obtain rfl : args = #[v0, v1] := by cases args; simp_all
  obtain ⟨rfl, rfl⟩ := trodVars_none hV
  obtain ⟨A0, x0, c0, rfl, l0, m0, s0, t0⟩ := open_sl Try.underlying22 Try.underlying23 (by kernel_rfl : Try.prog.cellsOf 23 = 1) (hval 0 22 v0 rfl rfl) h0
  obtain ⟨A1, x1, c1, rfl, l1, m1, s1, t1⟩ := open_sl Try.underlying22 Try.underlying23 (by kernel_rfl : Try.prog.cellsOf 23 = 1) (hval 1 22 v1 rfl rfl) h1
  clear hA0 hval0
  refine (walk A0 x0 c0 l0 m0 A1 x1 c1 l1 m1 W s0 s1).mono fun e W' ⟨he, hg⟩ => ?_
  subst he
  exact ⟨_, rfl, Cl.post_below (pv := []) hW' (fun _ _ _ => (trodAll_cons_mk (shut_bool Try.underlying4 _) trodAll_mk0)) (fun sp hsp => (trodAll_cons_mk (t0 W' hg sp (fun q hq => hsp q (by simp [hq]))) (trodAll_cons_mk (t1 W' hg sp (fun q hq => hsp q (by simp [hq]))) trodAll_mk0))) (fun _ _ => rfl) rfl
    hg (ok_one (by kernel_rfl) rfl (okWide_bool_mk Try.underlying4 _))⟩

theorem over : Rows.polyDegreesRow.holds Try.pinned (OpenSpec.ofChange Rows.polyDegreesSpec) :=
  OpenClaim.holds_of_wide 8 Try.f8 rfl rfl rfl rfl rfl rfl rfl ⟨rfl, rfl, rfl, rfl, rfl⟩ rfl rfl rfl rfl rfl (by kernel_rfl) Try.func8 (by kernel_rfl)
    (of_decide_eq_true (by kernel_rfl)) (by unfold Func.isWrapper; first | (rw [if_pos (by decide +kernel)]; kernel_rfl) | (rw [if_neg (by decide +kernel)]; exact ⟨rfl, rfl⟩))
    (fun os started H enc _ => lifted os started H enc)

/-- THE STATEMENT -/
theorem proved : Rows.PolyDegreesSaid := over
end Go.Proofs.Ytfeikkohmgebbaa.polyDegrees
