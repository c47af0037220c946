/- Statement FieldInverse: for every two symbols the law returns true. -/
import Derived.Test.YtignmhjnjcpnnaaFb
import Derived.Test.YtignmhjnjcpnnaaX2
namespace Go.Proofs.Ytignmhjnjcpnnaa
open Go.RowKit Go.Gf
attribute [local go_sem ↓] exec_load_tb Cl.quiet_after
attribute [local go_sem] tbAt_ptr tbIn_ptr

set_option maxRecDepth 20000 in
set_option maxHeartbeats 2000000 in
theorem inverse_no (a b X Y M : Int) (ok is : Bool) (w : World)
    (i1 : InvIs a X ok) (i2 : InvIs b Y is) (m1 : MulIs a b M) (i3 : InvIs M 0 false) (ho : (ok && is) = false) :
    Calls Try.prog 8 #[.int .u16 a, .int .u16 b] w fun e w' => e = .returned (.bool true) ∧ Below w.heap.size w w' := by
  have hz := zero27
  cases ok <;> cases is <;> (try (exact absurd ho (by decide))) <;> clear ho
  all_goals
    go_enter Try.func8, Try.ntmps8
    go_wp2_with fail
    refine (awake_any _).mono ?_
    rintro e w0 ⟨rfl, hb0⟩
    go_wp2_with fail
    refine (make_any _).mono ?_
    rintro e w1 ⟨cs, rfl, hl, hb1⟩
    have hb := hb0.trans (hb1.mono hb0.size)
    clear hb0 hb1
    go_wp2_with (first
      | (refine wpList_store_row rfl 27 _ _ rfl w1.heap.size (cells cs) rfl rfl 27 (cells ZT) (heap_alloc_new w1 _) (rsize hl) (zsize hl) (cells_one cs) ?_; have hS := St.start (cs := cs) hb (cells ZT); generalize hg : w1.heap.size = g at hS ⊢; generalize (w1.alloc (Obj.cells (cells ZT) 27)).setRow g (cells cs) = w2 at hS ⊢; have hi := hS.is hl.1; have ho := hS.of; clear hb hg hz w1)
      | (go_at_call 12; first
          | (with_reducible refine (i1.at hl _).mono ?_)
          | (with_reducible refine (i2.at hl _).mono ?_)
          | (with_reducible refine (i3.at hl _).mono ?_)
         rintro e w2 ⟨rfl, hb⟩; have hS := hS.next hb; have hi := hS.is hl.1; have ho := hS.of; clear hb)
      | (go_at_call 13; first
          | (with_reducible refine (m1.at cs _).mono ?_)
         rintro e w2 ⟨rfl, hb⟩; have hS := hS.next hb; have hi := hS.is hl.1; have ho := hS.of; clear hb))
    have hiA := hS.isA hl.1
    have hoA := hS.ofA
    refine Cl.region_after_at w2.heap.size (by kernel_rfl) lex8_6 (by kernel_rfl) ?_
    try simp only [List.append]
    repeat (go_big_quiet_step (first
      | (go_at_call 12; first
          | (with_reducible exact Cl.after_of (Nat.le_refl _) (i1.at hl _))
          | (with_reducible exact Cl.after_of (Nat.le_refl _) (i2.at hl _))
          | (with_reducible exact Cl.after_of (Nat.le_refl _) (i3.at hl _)))
      | (go_at_call 13; first
          | (with_reducible exact Cl.after_of (Nat.le_refl _) (m1.at cs _)))))
    refine wpQuiet_nil ?_
    rintro _ ⟨x, rfl⟩
    have hS := hS.after x
    clear hiA hoA 
    generalize x.w = w2 at hS ⊢
    have hi := hS.is hl.1; have ho := hS.of
    go_wp2_with fail
    go_ret
    exact ⟨rfl, hS.below⟩

set_option maxRecDepth 20000 in
set_option maxHeartbeats 2000000 in
theorem inverse_yes (a b A X Y M Z : Int) (bk : Bool) (w : World) (mA : bits .and .u16 a 1023 = A)
    (i1 : InvIs a X true) (i2 : InvIs b Y true) (m1 : MulIs a b M) (i3 : InvIs M Z true) (i4 : InvIs X A bk) (m2 : MulIs X Y Z) (m3 : MulIs M Y A) :
    Calls Try.prog 8 #[.int .u16 a, .int .u16 b] w fun e w' => e = .returned (.bool true) ∧ Below w.heap.size w w' := by
  have hz := zero27
  · go_enter Try.func8, Try.ntmps8
    go_wp2_with fail
    refine (awake_any _).mono ?_
    rintro e w0 ⟨rfl, hb0⟩
    go_wp2_with fail
    refine (make_any _).mono ?_
    rintro e w1 ⟨cs, rfl, hl, hb1⟩
    have hb := hb0.trans (hb1.mono hb0.size)
    clear hb0 hb1
    go_wp2_with (first
      | (refine wpList_store_row rfl 27 _ _ rfl w1.heap.size (cells cs) rfl rfl 27 (cells ZT) (heap_alloc_new w1 _) (rsize hl) (zsize hl) (cells_one cs) ?_; have hS := St.start (cs := cs) hb (cells ZT); generalize hg : w1.heap.size = g at hS ⊢; generalize (w1.alloc (Obj.cells (cells ZT) 27)).setRow g (cells cs) = w2 at hS ⊢; have hi := hS.is hl.1; have ho := hS.of; clear hb hg hz w1)
      | (go_at_call 12; first
          | (with_reducible refine (i1.at hl _).mono ?_)
          | (with_reducible refine (i2.at hl _).mono ?_)
          | (with_reducible refine (i3.at hl _).mono ?_)
          | (with_reducible refine (i4.at hl _).mono ?_)
         rintro e w2 ⟨rfl, hb⟩; have hS := hS.next hb; have hi := hS.is hl.1; have ho := hS.of; clear hb)
      | (go_at_call 13; first
          | (with_reducible refine (m1.at cs _).mono ?_)
          | (with_reducible refine (m2.at cs _).mono ?_)
          | (with_reducible refine (m3.at cs _).mono ?_)
         rintro e w2 ⟨rfl, hb⟩; have hS := hS.next hb; have hi := hS.is hl.1; have ho := hS.of; clear hb))
    have hiA := hS.isA hl.1
    have hoA := hS.ofA
    refine Cl.region_after_at w2.heap.size (by kernel_rfl) lex8_6 (by kernel_rfl) ?_
    try simp only [List.append]
    repeat (go_big_quiet_step (first
      | (go_at_call 12; first
          | (with_reducible exact Cl.after_of (Nat.le_refl _) (i1.at hl _))
          | (with_reducible exact Cl.after_of (Nat.le_refl _) (i2.at hl _))
          | (with_reducible exact Cl.after_of (Nat.le_refl _) (i3.at hl _))
          | (with_reducible exact Cl.after_of (Nat.le_refl _) (i4.at hl _)))
      | (go_at_call 13; first
          | (with_reducible exact Cl.after_of (Nat.le_refl _) (m1.at cs _))
          | (with_reducible exact Cl.after_of (Nat.le_refl _) (m2.at cs _))
          | (with_reducible exact Cl.after_of (Nat.le_refl _) (m3.at cs _)))))
    refine wpQuiet_nil ?_
    rintro _ ⟨x, rfl⟩
    have hS := hS.after x
    clear hiA hoA 
    generalize x.w = w2 at hS ⊢
    have hi := hS.is hl.1; have ho := hS.of
    go_wp2_with (first
      | (go_at_call 12; first
          | (with_reducible refine (i1.at hl _).mono ?_)
          | (with_reducible refine (i2.at hl _).mono ?_)
          | (with_reducible refine (i3.at hl _).mono ?_)
          | (with_reducible refine (i4.at hl _).mono ?_)
         rintro e w2 ⟨rfl, hb⟩; have hS := hS.next hb; have hi := hS.is hl.1; have ho := hS.of; clear hb)
      | (go_at_call 13; first
          | (with_reducible refine (m1.at cs _).mono ?_)
          | (with_reducible refine (m2.at cs _).mono ?_)
          | (with_reducible refine (m3.at cs _).mono ?_)
         rintro e w2 ⟨rfl, hb⟩; have hS := hS.next hb; have hi := hS.is hl.1; have ho := hS.of; clear hb))
    have hiA := hS.isA hl.1
    have hoA := hS.ofA
    refine Cl.region_after_at w2.heap.size (by kernel_rfl) lex8_10 (by kernel_rfl) ?_
    try simp only [List.append]
    repeat (go_big_quiet_step (first
      | (go_at_call 12; first
          | (with_reducible exact Cl.after_of (Nat.le_refl _) (i1.at hl _))
          | (with_reducible exact Cl.after_of (Nat.le_refl _) (i2.at hl _))
          | (with_reducible exact Cl.after_of (Nat.le_refl _) (i3.at hl _))
          | (with_reducible exact Cl.after_of (Nat.le_refl _) (i4.at hl _)))
      | (go_at_call 13; first
          | (with_reducible exact Cl.after_of (Nat.le_refl _) (m1.at cs _))
          | (with_reducible exact Cl.after_of (Nat.le_refl _) (m2.at cs _))
          | (with_reducible exact Cl.after_of (Nat.le_refl _) (m3.at cs _)))))
    refine wpQuiet_nil ?_
    rintro _ ⟨x, rfl⟩
    have hS := hS.after x
    clear hiA hoA 
    generalize x.w = w2 at hS ⊢
    have hi := hS.is hl.1; have ho := hS.of
    go_wp2_with fail
    go_ret
    exact ⟨rfl, hS.below⟩

theorem mulI_mod (a b : Int) (h0 : 0 ≤ a) (h1 : 0 ≤ b) : mulI a b = mulI (a % 1024) (b % 1024) := by
  unfold mulI
  rw [show (a % 1024).toNat % 1024 = a.toNat % 1024 by omega, show (b % 1024).toNat % 1024 = b.toNat % 1024 by omega]
theorem invI_mod (a : Int) (h0 : 0 ≤ a) : invI a = invI (a % 1024) := by
  unfold invI
  rw [show (a % 1024).toNat % 1024 = a.toNat % 1024 by omega]
theorem inverse_law (a : Int) (wa : (Lit.int .u16 a).wf = true) (b : Int) (wb : (Lit.int .u16 b).wf = true) (w : World) :
    Calls Try.prog 8 #[.int .u16 a, .int .u16 b] w fun e w' => e = .returned (.bool true) ∧ Below w.heap.size w w' := by
  obtain ⟨a0, a1⟩ := u16_bd wa
  obtain ⟨b0, b1⟩ := u16_bd wb
  have bM := mulI_bd a b
  rcases cases_exp (a := a % 1024) (by omega) (by omega) with hA | ⟨i, i0, i1, hA⟩
  · have hM : mulI a b = 0 := by rw [mulI_mod a b a0 b0, hA, zero_mulI]
    refine inverse_no a b _ _ _ (a % 1024 != 0) (b % 1024 != 0) w (invIs a0 a1 rfl rfl) (invIs b0 b1 rfl rfl) (mulIs a0 a1 b0 b1 rfl) ?_ (by simp [hA])
    rw [hM]; exact invIs (by omega) (by omega) (by decide +kernel) rfl
  · rcases cases_exp (a := b % 1024) (by omega) (by omega) with hB | ⟨j, j0, j1, hB⟩
    · have hM : mulI a b = 0 := by rw [mulI_mod a b a0 b0, hB, mulI_zero]
      refine inverse_no a b _ _ _ (a % 1024 != 0) (b % 1024 != 0) w (invIs a0 a1 rfl rfl) (invIs b0 b1 rfl rfl) (mulIs a0 a1 b0 b1 rfl) ?_ (by simp [hB])
      rw [hM]; exact invIs (by omega) (by omega) (by decide +kernel) rfl
    · have bi := expI_bd i
      have bj := expI_bd j
      have bi' := expI_bd (-i)
      have bj' := expI_bd (-j)
      have bij := expI_bd (i + j)
      refine inverse_yes a b (expI i) (expI (-i)) (expI (-j)) (expI (i + j)) (expI (-(i + j))) _ w (hA ▸ u16_mask a a0 a1)
        (invIs a0 a1 (by rw [invI_mod a a0, hA, invI_exp]) (by rw [hA]; simp; omega)) (invIs b0 b1 (by rw [invI_mod b b0, hB, invI_exp]) (by rw [hB]; simp; omega))
        (mulIs a0 a1 b0 b1 (by rw [mulI_mod a b a0 b0, hA, hB, mulI_exp])) (invIs (by omega) (by omega) (invI_exp _) (by rw [expI_mod]; simp; omega))
        (invIs (by omega) (by omega) (by rw [invI_exp, Int.neg_neg]) rfl) (mulIs (by omega) (by omega) (by omega) (by omega) (by rw [mulI_exp]; congr 1; omega)) (mulIs (by omega) (by omega) (by omega) (by omega) (by rw [mulI_exp]; congr 1; omega))
end Go.Proofs.Ytignmhjnjcpnnaa
namespace Go.Proofs.Ytignmhjnjcpnnaa.fieldInverse
open Go.ChangeShapes Go.WideShapes Go.ChangeAt Go.RowKit Go.Gf
set_option linter.unusedVariables false

theorem own : ownKnob Try.prog.godebug = none := by kernel_rfl

theorem walk (a0 : Int) (w0 : (Lit.int .u16 a0).wf = true) (a1 : Int) (w1 : (Lit.int .u16 a1).wf = true) (w : World) :
    Calls Try.prog 8 #[.int .u16 a0, .int .u16 a1] w fun e w' => e = .returned (.bool true) ∧ Below w.heap.size w w' := inverse_law a0 w0 a1 w1 w

set_option maxRecDepth 100000 in
theorem lifted (os : Os) (started : os.Started) (H : Type) (enc : TypeId × Value → H) :
    ReturnsInHanded {} Try.checked os 8 .any (Rows.fieldInverseSpec.pre6 enc Try.prog Try.f8 Rows.fieldInverseRow.domain false) (Rows.fieldInverseSpec.post enc Try.prog Try.f8 false true false false) := by
  refine returnsInHanded_of_change (C := Try.checked) own started (by kernel_rfl) Try.func8
    (ChangeSpec.witness6 (enc := enc) (C := Try.checked) false ⟨#[], #[.int .u16 0, .int .u16 0], []⟩ 8 (by kernel_rfl) (by kernel_rfl) (by kernel_rfl) (by kernel_rfl)) ?_
  intro W base args ds gs before hval0 hW hcnd _
  have hval : ∀ (j : Nat) t v, Try.f8.params[j]? = some t → args[j]? = some v → Value.okWide Try.prog W .any base t v := hval0
  have hW' := hW
  obtain ⟨p, q, hA0, hV, rfl, hfz, hnd⟩ := hW
  have hA : DataW.TrodAll enc Try.prog W 0 (fun _ => true) true Try.f8.params.toList args.toList ds p := hA0
  rw [Try.params8] at hA hval
  obtain ⟨v0, vs0, d0, ds0, p0, q0, hargs, rfl, rfl, h0, r0⟩ := trodAll_cons hA
  obtain ⟨v1, vs1, d1, ds1, p1, q1, rfl, rfl, rfl, h1, r1⟩ := trodAll_cons r0
  obtain ⟨rfl, rfl, rfl⟩ := trodAll_nil r1
  obtain rfl : args = #[v0, v1] := by cases args; simp_all
  obtain ⟨rfl, rfl⟩ := trodVars_none hV
  obtain ⟨a0, rfl, rfl, rfl, w0⟩ := open_int Try.underlying22 (hval 0 22 v0 rfl rfl) h0
  obtain ⟨a1, rfl, rfl, rfl, w1⟩ := open_int Try.underlying22 (hval 1 22 v1 rfl rfl) h1
  clear hA0 hval0
  simp only [List.append_nil] at hW'
  refine (walk a0 w0 a1 w1 W).mono fun e W' ⟨he, hg⟩ => ?_
  subst he
  exact ⟨_, rfl, Cl.post_below (pa := []) (pv := []) hW' (fun _ _ _ => (trodAll_cons_mk (shut_bool Try.underlying4 _) trodAll_mk0)) (fun sp _ => (trodAll_cons_mk (shut_int Try.underlying22 w0) (trodAll_cons_mk (shut_int Try.underlying22 w1) trodAll_mk0))) (fun _ _ => rfl) rfl
    hg (ok_one (by kernel_rfl) rfl (okWide_bool_mk Try.underlying4 _))⟩

theorem over : Rows.fieldInverseRow.holds Try.pinned (OpenSpec.ofChange Rows.fieldInverseSpec) :=
  OpenClaim.holds_of_wide 8 Try.f8 rfl rfl rfl rfl rfl rfl rfl ⟨rfl, rfl, rfl, rfl, rfl⟩ rfl rfl rfl rfl rfl (by kernel_rfl) Try.func8 (by kernel_rfl)
    (of_decide_eq_true (by kernel_rfl)) (by unfold Func.isWrapper; first | (rw [if_pos (by decide +kernel)]; kernel_rfl) | (rw [if_neg (by decide +kernel)]; exact ⟨rfl, rfl⟩))
    (fun os started H enc _ => lifted os started H enc)

/-- THE STATEMENT -/
theorem proved : Rows.FieldInverseSaid := over
end Go.Proofs.Ytignmhjnjcpnnaa.fieldInverse
