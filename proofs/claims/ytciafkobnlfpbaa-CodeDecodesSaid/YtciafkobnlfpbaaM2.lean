/- Statement CodeDecodes: for every word the law returns true. -/
import Derived.Test.YtciafkobnlfpbaaCn
namespace Go.Proofs.Ytciafkobnlfpbaa
open Go.RowKit Go.Gf
attribute [local go_sem ↓] exec_load_tb Cl.quiet_since
attribute [local go_sem] tbAt_ptr tbIn_ptr

set_option maxRecDepth 20000 in
set_option maxHeartbeats 4000000 in
theorem decodes_law (A : Option Addr) (xs : List Nat) (ca : Nat) (hca : xs.length ≤ ca) (hx : ca ≤ maxLen) (w : World) (hA : Sl w w.heap.size A xs) :
    Calls Try.prog 4 #[.slice A xs.length ca] w (Leaves w (.bool true)) := by
  have mx : (xs.length : Int) ≤ 9223372036854775807 := by unfold maxLen at hx; omega
  clear hx
  replace hA := Lib.hid hA
  have hz := zero27
  have hsl := Lib.hid (show (sums xs).length = 16 by unfold sums; exact rm_len _ _)
  by_cases hl1 : xs.length ≤ 120
  · have lx : xs.length ≤ 1000000 := by omega
    have d1 : decide ((120 : Int) < (xs.length : Int)) = false := by rw [decide_eq_false_iff_not]; omega
    go_enter Try.func4, Try.ntmps4
    go_wp2_with fail
    have hW : Hid (Below w.heap.size w w) := Lib.hid (Below.refl _ _)
    have hc := awake_any w
    replace hc := Lib.hid hc
    refine hc.out.mono ?_
    rintro e w1 ⟨rfl, hb⟩
    clear hc
    have hW := Lib.hid (hW.out.trans (hb.mono hW.out.size))
    replace hA := Lib.hid (hA.out.far hb)
    clear hb
    go_wp2_with fail
    refine (make_any _).mono ?_
    rintro e w2 ⟨cs, rfl, hl, hb⟩
    have hb0 := hW.out.trans (hb.mono hW.out.size)
    replace hA := Lib.hid (hA.out.far hb)
    clear hb hW
    go_wp2_with (refine wpList_store_row rfl 28 _ _ rfl w2.heap.size (cells cs) rfl rfl 28 (cells ZT) (heap_alloc_new w2 _) (rsize hl) (zsize hl) (cells_one cs) ?_)
    have hS := St.start (cs := cs) hb0 (cells ZT)
    have hb : Below w2.heap.size w2 ((w2.alloc (Obj.cells (cells ZT) 28)).setRow w2.heap.size (cells cs)) := below_setRow ((Below.refl _ _).alloc (Nat.le_refl _) _) (Nat.le_refl _) _
    replace hA := Lib.hid (hA.out.far hb)
    clear hb0 hb
    generalize hg : w2.heap.size = g at hS ⊢
    rw [hg] at hA
    generalize (w2.alloc (Obj.cells (cells ZT) 28)).setRow g (cells cs) = w3 at *
    clear hg hz
    have hi := hS.is hl.1
    have ho := hS.of
    go_wp2_with fail
    have hc := cod_decode (ca := ca) hl hA.out lx hca
    replace hc := Lib.hid hc
    refine hc.out.mono ?_
    rintro e w4 ⟨ys, n, f, D1, c1, hD, rfl, hc1, hy, hb⟩
    clear hc
    have hS := hS.next hb
    have hi := hS.is hl.1
    have ho := hS.of
    replace hA := Lib.hid (hA.out.far hb)
    clear hb
    replace hy := Lib.hid hy
    have hyl := hD.len
    replace hy := Lib.hid hy.out.1
    replace hD := Lib.hid hD
    go_wp2_with fail
    have hc := refdec_any A ca xs w4 hA.out lx
    replace hc := Lib.hid hc
    refine hc.out.mono ?_
    rintro e w5 ⟨zs, m, f2, D2, c2, hD2, rfl, hc2, hv, hb⟩
    clear hc
    have hS := hS.next hb
    have hi := hS.is hl.1
    have ho := hS.of
    replace hA := Lib.hid (hA.out.far hb)
    replace hy := Lib.hid (hy.out.far hb)
    clear hb
    replace hv := Lib.hid hv
    obtain ⟨rfl, rfl, rfl⟩ := hD.out.unique hD2
    clear hD2 hD
    go_wp2_with fail
    have hc := cod_syn (ca := ca) hl hA.out lx hca
    replace hc := Lib.hid hc
    refine hc.out.mono ?_
    rintro e w6 ⟨S1, s1, rfl, hs1, hp, hb⟩
    clear hc
    have hS := hS.next hb
    have hi := hS.is hl.1
    have ho := hS.of
    replace hA := Lib.hid (hA.out.far hb)
    replace hy := Lib.hid (hy.out.far hb)
    replace hv := Lib.hid (hv.out.far hb)
    clear hb
    replace hp := Lib.hid hp
    go_wp2_with fail
    have hc := refsyn_any A ca xs w6 hA.out lx
    replace hc := Lib.hid hc
    refine hc.out.mono ?_
    rintro e w7 ⟨S2, s2, rfl, hs2, hq, hb⟩
    clear hc
    have hS := hS.next hb
    have hi := hS.is hl.1
    have ho := hS.of
    replace hA := Lib.hid (hA.out.far hb)
    replace hy := Lib.hid (hy.out.far hb)
    replace hv := Lib.hid (hv.out.far hb)
    replace hp := Lib.hid (hp.out.far hb)
    clear hb
    replace hq := Lib.hid hq
    go_wp2_with fail
    have hc := val_same (ca := c1) (cb := c2) (b := true) hy.out hv.out (by omega) (by omega) (decide_eq_true rfl)
    replace hc := Lib.hid hc
    clear hy
    clear hv
    refine hc.out.mono ?_
    rintro e w8 ⟨rfl, hb⟩
    clear hc
    have hS := hS.next hb
    have hi := hS.is hl.1
    have ho := hS.of
    replace hA := Lib.hid (hA.out.far hb)
    replace hp := Lib.hid (hp.out.far hb)
    replace hq := Lib.hid (hq.out.far hb)
    clear hb
    go_wp2_with fail
    have hc := val_same (ca := s1) (cb := s2) (b := true) hp.out hq.out (by rw [hsl.out]; decide) (by rw [hsl.out]; decide) (decide_eq_true rfl)
    replace hc := Lib.hid hc
    clear hp
    clear hq
    refine hc.out.mono ?_
    rintro e w9 ⟨rfl, hb⟩
    clear hc
    have hS := hS.next hb
    have hi := hS.is hl.1
    have ho := hS.of
    replace hA := Lib.hid (hA.out.far hb)
    clear hb
    go_wp2_with fail
    go_ret
    exact ⟨rfl, hS.below⟩
  · have d1 : decide ((120 : Int) < (xs.length : Int)) = true := by rw [decide_eq_true_eq]; omega
    go_enter Try.func4, Try.ntmps4
    go_wp2_with fail
    refine (awake_any w).mono ?_
    rintro e w1 ⟨rfl, hb⟩
    go_wp2_with fail
    go_ret
    exact ⟨rfl, hb⟩
end Go.Proofs.Ytciafkobnlfpbaa
namespace Go.Proofs.Ytciafkobnlfpbaa.codeDecodes
open Go.ChangeShapes Go.WideShapes Go.ChangeAt Go.RowKit Go.Gf
set_option linter.unusedVariables false

theorem own : ownKnob Try.prog.godebug = none := by kernel_rfl

theorem walk (A0 : Option Addr) (x0 : List Nat) (c0 : Nat) (l0 : x0.length ≤ c0) (m0 : c0 ≤ maxLen) (w : World) (s0 : Sl w w.heap.size A0 x0) :
    Calls Try.prog 4 #[.slice A0 x0.length c0] w fun e w' => e = .returned (.bool true) ∧ Below w.heap.size w w' := decodes_law A0 x0 c0 l0 m0 w s0

set_option maxRecDepth 100000 in
theorem lifted (os : Os) (started : os.Started) (H : Type) (enc : TypeId × Value → H) :
    ReturnsInHanded {} Try.checked os 4 .any (Rows.codeDecodesSpec.pre6 enc Try.prog Try.f4 Rows.codeDecodesRow.domain false) (Rows.codeDecodesSpec.post enc Try.prog Try.f4 false true false false) := by
  refine returnsInHanded_of_change (C := Try.checked) own started (by kernel_rfl) Try.func4
    (ChangeSpec.witness6 (enc := enc) (C := Try.checked) false ⟨#[], #[.slice none 0 0], []⟩ 8 (by kernel_rfl) (by kernel_rfl) (by kernel_rfl) (by kernel_rfl)) ?_
  intro W base args ds gs before hval0 hW hcnd _
  have hval : ∀ (j : Nat) t v, Try.f4.params[j]? = some t → args[j]? = some v → Value.okWide Try.prog W .any base t v := hval0
  have hW' := hW
  obtain ⟨p, q, hA0, hV, rfl, hfz, hnd⟩ := hW
  have hA : DataW.TrodAll enc Try.prog W 0 (fun _ => true) true Try.f4.params.toList args.toList ds p := hA0
  rw [Try.params4] at hA hval
  obtain ⟨v0, vs0, d0, ds0, p0, q0, hargs, rfl, rfl, h0, r0⟩ := trodAll_cons hA
  obtain ⟨rfl, rfl, rfl⟩ := trodAll_nil r0
  obtain rfl : args = #[v0] := by cases args; simp_all
  obtain ⟨rfl, rfl⟩ := trodVars_none hV
  obtain ⟨A0, x0, c0, rfl, l0, m0, s0, t0⟩ := open_sl Try.underlying22 Try.underlying23 (by kernel_rfl : Try.prog.cellsOf 23 = 1) (hval 0 22 v0 rfl rfl) h0
  clear hA0 hval0
  refine (walk A0 x0 c0 l0 m0 W s0).mono fun e W' ⟨he, hg⟩ => ?_
  subst he
  exact ⟨_, rfl, Cl.post_below (pv := []) hW' (fun _ _ _ => (trodAll_cons_mk (shut_bool Try.underlying4 _) trodAll_mk0)) (fun sp hsp => (trodAll_cons_mk (t0 W' hg sp (fun q hq => hsp q (by simp [hq]))) trodAll_mk0)) (fun _ _ => rfl) rfl
    hg (ok_one (by kernel_rfl) rfl (okWide_bool_mk Try.underlying4 _))⟩

theorem over : Rows.codeDecodesRow.holds Try.pinned (OpenSpec.ofChange Rows.codeDecodesSpec) :=
  OpenClaim.holds_of_wide 4 Try.f4 rfl rfl rfl rfl rfl rfl rfl ⟨rfl, rfl, rfl, rfl, rfl⟩ rfl rfl rfl rfl rfl (by kernel_rfl) Try.func4 (by kernel_rfl)
    (of_decide_eq_true (by kernel_rfl)) (by unfold Func.isWrapper; first | (rw [if_pos (by decide +kernel)]; kernel_rfl) | (rw [if_neg (by decide +kernel)]; exact ⟨rfl, rfl⟩))
    (fun os started H enc _ => lifted os started H enc)

/-- THE STATEMENT -/
theorem proved : Rows.CodeDecodesSaid := over
end Go.Proofs.Ytciafkobnlfpbaa.codeDecodes
