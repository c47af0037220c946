/- Statement FieldLaws: for every three symbols the law returns true. -/
import Derived.Test.YtignmhjnjcpnnaaFb
import Derived.Test.YtignmhjnjcpnnaaX2
namespace Go.Proofs.Ytignmhjnjcpnnaa
open Go.RowKit Go.Gf
attribute [local go_sem ↓] exec_load_tb Cl.quiet_after
attribute [local go_sem] tbAt_ptr tbIn_ptr

set_option maxRecDepth 20000 in
set_option maxHeartbeats 2000000 in
theorem laws_core (a b c A B C AB ABC BC D AD AC X : Int) (za zb ok : Bool) (w : World)
    (mA : bits .and .u16 a 1023 = A) (mB : bits .and .u16 b 1023 = B) (mC : bits .and .u16 c 1023 = C)
    (g1 : MulIs A B AB) (g2 : MulIs B A AB) (g3 : MulIs AB C ABC) (g4 : MulIs B C BC) (g5 : MulIs A BC ABC)
    (g6 : AddIs B C D) (g7 : MulIs A D AD) (g8 : MulIs A C AC) (g9 : AddIs AB AC AD) (g10 : InvIs A X ok) (g11 : ok = true → MulIs X A 1)
    (zA : (A == 0) = za) (zB : (B == 0) = zb) (zAB : (AB == 0) = (za || zb)) (zo : ok = !za) :
    Calls Try.prog 4 #[.int .u16 a, .int .u16 b, .int .u16 c] w fun e w' => e = .returned (.bool true) ∧ Below w.heap.size w w' := by
  subst zo
  have hz := zero27
  cases za <;> cases zb
  all_goals
    try simp only [Bool.or_false] at zAB
    try simp only [Bool.or_true] at zAB
    try simp only [Bool.not_false] at g10
    try simp only [Bool.not_true] at g10
    try have g12 := g11 rfl
    clear g11
    go_enter Try.func4, Try.ntmps4
    go_wp2_with fail
    refine (awake_any _).mono ?_
    rintro e w0 ⟨rfl, hb0⟩
    go_wp2_with fail
    refine (make_any _).mono ?_
    rintro e w1 ⟨cs, rfl, hl, hb1⟩
    have hb := hb0.trans (hb1.mono hb0.size)
    clear hb0 hb1
    go_wp2_with (first
      | (refine wpList_store_row rfl 27 _ _ rfl w1.heap.size (cells cs) rfl rfl 27 (cells ZT) (heap_alloc_new w1 _) (rsize hl) (zsize hl) (cells_one cs) ?_; have hS := St.start (cs := cs) hb (cells ZT); generalize hg : w1.heap.size = g at hS ⊢; generalize (w1.alloc (Obj.cells (cells ZT) 27)).setRow g (cells cs) = W at hS ⊢; have hi := hS.is hl.1; have ho := hS.of; clear hb hg hz w1)
      | (go_at_call 12; (with_reducible refine (g10.at hl _).mono ?_); rintro e w2 ⟨rfl, hb⟩; have hS := hS.next hb; have hi := hS.is hl.1; have ho := hS.of; clear hb)
      | (go_at_call 13; first
          | (with_reducible refine (g1.at cs _).mono ?_)
          | (with_reducible refine (g2.at cs _).mono ?_)
          | (with_reducible refine (g3.at cs _).mono ?_)
          | (with_reducible refine (g4.at cs _).mono ?_)
          | (with_reducible refine (g5.at cs _).mono ?_)
          | (with_reducible refine (g7.at cs _).mono ?_)
          | (with_reducible refine (g8.at cs _).mono ?_)
          | (with_reducible refine (g12.at cs _).mono ?_)
         rintro e w2 ⟨rfl, hb⟩; have hS := hS.next hb; have hi := hS.is hl.1; have ho := hS.of; clear hb)
      | (go_at_call 14; first
          | (with_reducible refine (g6.at _).mono ?_)
          | (with_reducible refine (g9.at _).mono ?_)
         rintro e w2 ⟨rfl, rfl⟩))
    have hiA := hS.isA hl.1
    have hoA := hS.ofA
    refine Cl.region_after_at w2.heap.size (by kernel_rfl) lex4_6 (by kernel_rfl) ?_
    simp only [List.append]
    repeat (go_big_quiet_step (first
      | (go_at_call 13; first
          | (with_reducible exact Cl.after_of (Nat.le_refl _) (g1.at cs _))
          | (with_reducible exact Cl.after_of (Nat.le_refl _) (g2.at cs _))
          | (with_reducible exact Cl.after_of (Nat.le_refl _) (g3.at cs _))
          | (with_reducible exact Cl.after_of (Nat.le_refl _) (g4.at cs _))
          | (with_reducible exact Cl.after_of (Nat.le_refl _) (g5.at cs _))
          | (with_reducible exact Cl.after_of (Nat.le_refl _) (g7.at cs _))
          | (with_reducible exact Cl.after_of (Nat.le_refl _) (g8.at cs _))
          | (with_reducible exact Cl.after_of (Nat.le_refl _) (g12.at cs _)))
      | (go_at_call 14; first
          | (with_reducible exact Cl.after_same (g6.at _))
          | (with_reducible exact Cl.after_same (g9.at _)))))
    refine wpQuiet_nil ?_
    rintro _ ⟨x, rfl⟩
    go_wp2_with fail
    go_ret
    exact ⟨rfl, (hS.after x).below⟩

theorem laws_law (a : Int) (wa : (Lit.int .u16 a).wf = true) (b : Int) (wb : (Lit.int .u16 b).wf = true) (c : Int) (wc : (Lit.int .u16 c).wf = true) (w : World) :
    Calls Try.prog 4 #[.int .u16 a, .int .u16 b, .int .u16 c] w fun e w' => e = .returned (.bool true) ∧ Below w.heap.size w w' := by
  obtain ⟨a0, a1⟩ := u16_bd wa
  obtain ⟨b0, b1⟩ := u16_bd wb
  obtain ⟨c0, c1⟩ := u16_bd wc
  have mA := u16_mask a a0 a1
  have mB := u16_mask b b0 b1
  have mC := u16_mask c c0 c1
  generalize hA : a % 1024 = A at mA
  generalize hB : b % 1024 = B at mB
  generalize hC : c % 1024 = C at mC
  have A0 : 0 ≤ A := by omega
  have A1 : A < 1024 := by omega
  have B0 : 0 ≤ B := by omega
  have B1 : B < 1024 := by omega
  have C0 : 0 ≤ C := by omega
  have C1 : C < 1024 := by omega
  have bAB := mulI_bd A B
  have bBC := mulI_bd B C
  have bAC := mulI_bd A C
  have bD := addI_bd B C
  have bX : 0 ≤ invI A ∧ invI A < 1024 := by unfold invI; have := ginv_lt (A.toNat % 1024); omega
  have zm := mulI_eq_zero A0 A1 B0 B1
  refine laws_core a b c A B C (mulI A B) (mulI (mulI A B) C) (mulI B C) (addI B C) (mulI A (addI B C)) (mulI A C) (invI A) (A == 0) (B == 0) (A % 1024 != 0) w mA mB mC
    (mulIs A0 (by omega) B0 (by omega) rfl) (mulIs B0 (by omega) A0 (by omega) (mulI_comm B A)) (mulIs bAB.1 (by omega) C0 (by omega) rfl) (mulIs B0 (by omega) C0 (by omega) rfl)
    (mulIs A0 (by omega) bBC.1 (by omega) (mulI_assoc A B C).symm) (addIs B0 (by omega) C0 (by omega) rfl) (mulIs A0 (by omega) bD.1 (by omega) rfl) (mulIs A0 (by omega) C0 (by omega) rfl)
    (addIs bAB.1 (by omega) bAC.1 (by omega) (mulI_add B0 B1 C0 C1).symm) (invIs A0 (by omega) rfl rfl) ?_ rfl rfl ?_ ?_
  · intro h
    exact mulIs bX.1 (by omega) A0 (by omega) (mulI_inv (by simp at h; omega) A1)
  · rw [Bool.eq_iff_iff]; simpa using zm
  · rw [Bool.eq_iff_iff]; simp; omega
end Go.Proofs.Ytignmhjnjcpnnaa
namespace Go.Proofs.Ytignmhjnjcpnnaa.fieldLaws
open Go.ChangeShapes Go.WideShapes Go.ChangeAt Go.RowKit Go.Gf
set_option linter.unusedVariables false

theorem own : ownKnob Try.prog.godebug = none := by kernel_rfl

theorem walk (a0 : Int) (w0 : (Lit.int .u16 a0).wf = true) (a1 : Int) (w1 : (Lit.int .u16 a1).wf = true) (a2 : Int) (w2 : (Lit.int .u16 a2).wf = true) (w : World) :
    Calls Try.prog 4 #[.int .u16 a0, .int .u16 a1, .int .u16 a2] w fun e w' => e = .returned (.bool true) ∧ Below w.heap.size w w' := laws_law a0 w0 a1 w1 a2 w2 w

set_option maxRecDepth 100000 in
theorem lifted (os : Os) (started : os.Started) (H : Type) (enc : TypeId × Value → H) :
    ReturnsInHanded {} Try.checked os 4 .any (Rows.fieldLawsSpec.pre6 enc Try.prog Try.f4 Rows.fieldLawsRow.domain false) (Rows.fieldLawsSpec.post enc Try.prog Try.f4 false true false false) := by
  refine returnsInHanded_of_change (C := Try.checked) own started (by kernel_rfl) Try.func4
    (ChangeSpec.witness6 (enc := enc) (C := Try.checked) false ⟨#[], #[.int .u16 0, .int .u16 0, .int .u16 0], []⟩ 8 (by kernel_rfl) (by kernel_rfl) (by kernel_rfl) (by kernel_rfl)) ?_
  intro W base args ds gs before hval0 hW hcnd _
  have hval : ∀ (j : Nat) t v, Try.f4.params[j]? = some t → args[j]? = some v → Value.okWide Try.prog W .any base t v := hval0
  have hW' := hW
  obtain ⟨p, q, hA0, hV, rfl, hfz, hnd⟩ := hW
  have hA : DataW.TrodAll enc Try.prog W 0 (fun _ => true) true Try.f4.params.toList args.toList ds p := hA0
  rw [Try.params4] at hA hval
  obtain ⟨v0, vs0, d0, ds0, p0, q0, hargs, rfl, rfl, h0, r0⟩ := trodAll_cons hA
  obtain ⟨v1, vs1, d1, ds1, p1, q1, rfl, rfl, rfl, h1, r1⟩ := trodAll_cons r0
  obtain ⟨v2, vs2, d2, ds2, p2, q2, rfl, rfl, rfl, h2, r2⟩ := trodAll_cons r1
  obtain ⟨rfl, rfl, rfl⟩ := trodAll_nil r2
  obtain rfl : args = #[v0, v1, v2] := by cases args; simp_all
  obtain ⟨rfl, rfl⟩ := trodVars_none hV
  obtain ⟨a0, rfl, rfl, rfl, w0⟩ := open_int Try.underlying22 (hval 0 22 v0 rfl rfl) h0
  obtain ⟨a1, rfl, rfl, rfl, w1⟩ := open_int Try.underlying22 (hval 1 22 v1 rfl rfl) h1
  obtain ⟨a2, rfl, rfl, rfl, w2⟩ := open_int Try.underlying22 (hval 2 22 v2 rfl rfl) h2
  clear hA0 hval0
  simp only [List.append_nil] at hW'
  refine (walk a0 w0 a1 w1 a2 w2 W).mono fun e W' ⟨he, hg⟩ => ?_
  subst he
  exact ⟨_, rfl, Cl.post_below (pa := []) (pv := []) hW' (fun _ _ _ => (trodAll_cons_mk (shut_bool Try.underlying4 _) trodAll_mk0)) (fun sp _ => (trodAll_cons_mk (shut_int Try.underlying22 w0) (trodAll_cons_mk (shut_int Try.underlying22 w1) (trodAll_cons_mk (shut_int Try.underlying22 w2) trodAll_mk0)))) (fun _ _ => rfl) rfl
    hg (ok_one (by kernel_rfl) rfl (okWide_bool_mk Try.underlying4 _))⟩

theorem over : Rows.fieldLawsRow.holds Try.pinned (OpenSpec.ofChange Rows.fieldLawsSpec) :=
  OpenClaim.holds_of_wide 4 Try.f4 rfl rfl rfl rfl rfl rfl rfl ⟨rfl, rfl, rfl, rfl, rfl⟩ rfl rfl rfl rfl rfl (by kernel_rfl) Try.func4 (by kernel_rfl)
    (of_decide_eq_true (by kernel_rfl)) (by unfold Func.isWrapper; first | (rw [if_pos (by decide +kernel)]; kernel_rfl) | (rw [if_neg (by decide +kernel)]; exact ⟨rfl, rfl⟩))
    (fun os started H enc _ => lifted os started H enc)

/-- THE STATEMENT -/
theorem proved : Rows.FieldLawsSaid := over
end Go.Proofs.Ytignmhjnjcpnnaa.fieldLaws
