/- Statement FieldSquares: for every two symbols the law returns true. -/
import Derived.Test.YtignmhjnjcpnnaaFb
import Derived.Test.YtignmhjnjcpnnaaX2
namespace Go.Proofs.Ytignmhjnjcpnnaa
open Go.RowKit Go.Gf
attribute [local go_sem ↓] exec_load_tb Cl.quiet_after
attribute [local go_sem] tbAt_ptr tbIn_ptr

set_option maxRecDepth 20000 in
set_option maxHeartbeats 2000000 in
theorem squares_core (a b A B X Y R D S : Int) (z : Bool) (w : World)
    (mA : bits .and .u16 a 1023 = A) (mB : bits .and .u16 b 1023 = B)
    (p1 : PowIs A 2 X) (p2 : PowIs B 2 Y) (p3 : PowIs A 512 R) (a1 : AddIs A B D) (p4 : PowIs D 2 S) (a2 : AddIs X Y S) (m1 : MulIs R R A) (p5 : PowIs A 1024 A) (m2 : MulIs A A X)
    (e1 : (X == Y) = z) (e2 : (A == B) = z) :
    Calls Try.prog 7 #[.int .u16 a, .int .u16 b] w fun e w' => e = .returned (.bool true) ∧ Below w.heap.size w w' := by
  have hz := zero27
  cases z
  all_goals
    go_enter Try.func7, Try.ntmps7
    go_wp2_with fail
    refine (awake_any _).mono ?_
    rintro e w0 ⟨rfl, hb0⟩
    go_wp2_with fail
    refine (make_any _).mono ?_
    rintro e w1 ⟨cs, rfl, hl, hb1⟩
    have hb := hb0.trans (hb1.mono hb0.size)
    clear hb0 hb1
    go_wp2_with (first
      | (refine wpList_store_row rfl 27 _ _ rfl w1.heap.size (cells cs) rfl rfl 27 (cells ZT) (heap_alloc_new w1 _) (rsize hl) (zsize hl) (cells_one cs) ?_; have hS := St.start (cs := cs) hb (cells ZT); generalize hg : w1.heap.size = g at hS ⊢; generalize (w1.alloc (Obj.cells (cells ZT) 27)).setRow g (cells cs) = w2 at hS ⊢; have hi := hS.is hl.1; have ho := hS.of; clear hb hg hz w1)
      | (go_at_call 13; first
          | (with_reducible refine (m1.at cs _).mono ?_)
          | (with_reducible refine (m2.at cs _).mono ?_)
         rintro e w2 ⟨rfl, hb⟩; have hS := hS.next hb; have hi := hS.is hl.1; have ho := hS.of; clear hb)
      | (go_at_call 14; first
          | (with_reducible refine (a1.at _).mono ?_)
          | (with_reducible refine (a2.at _).mono ?_)
         rintro e w2 ⟨rfl, rfl⟩)
      | (go_at_call 17; first
          | (with_reducible refine (p1.at hl _).mono ?_)
          | (with_reducible refine (p2.at hl _).mono ?_)
          | (with_reducible refine (p3.at hl _).mono ?_)
          | (with_reducible refine (p4.at hl _).mono ?_)
          | (with_reducible refine (p5.at hl _).mono ?_)
         rintro e w2 ⟨rfl, hb⟩; have hS := hS.next hb; have hi := hS.is hl.1; have ho := hS.of; clear hb))
    have hiA := hS.isA hl.1
    have hoA := hS.ofA
    refine Cl.region_after_at w2.heap.size (by kernel_rfl) lex7_5 (by kernel_rfl) ?_
    try simp only [List.append]
    repeat (go_big_quiet_step (first
      | (go_at_call 13; first
          | (with_reducible exact Cl.after_of (Nat.le_refl _) (m1.at cs _))
          | (with_reducible exact Cl.after_of (Nat.le_refl _) (m2.at cs _)))
      | (go_at_call 14; first
          | (with_reducible exact Cl.after_same (a1.at _))
          | (with_reducible exact Cl.after_same (a2.at _)))
      | (go_at_call 17; first
          | (with_reducible exact Cl.after_of (Nat.le_refl _) (p1.at hl _))
          | (with_reducible exact Cl.after_of (Nat.le_refl _) (p2.at hl _))
          | (with_reducible exact Cl.after_of (Nat.le_refl _) (p3.at hl _))
          | (with_reducible exact Cl.after_of (Nat.le_refl _) (p4.at hl _))
          | (with_reducible exact Cl.after_of (Nat.le_refl _) (p5.at hl _)))))
    refine wpQuiet_nil ?_
    rintro _ ⟨x, rfl⟩
    have hS := hS.after x
    clear hiA hoA 
    generalize x.w = w2 at hS ⊢
    have hi := hS.is hl.1; have ho := hS.of
    go_wp2_with (first
      | (go_at_call 13; first
          | (with_reducible refine (m1.at cs _).mono ?_)
          | (with_reducible refine (m2.at cs _).mono ?_)
         rintro e w2 ⟨rfl, hb⟩; have hS := hS.next hb; have hi := hS.is hl.1; have ho := hS.of; clear hb)
      | (go_at_call 14; first
          | (with_reducible refine (a1.at _).mono ?_)
          | (with_reducible refine (a2.at _).mono ?_)
         rintro e w2 ⟨rfl, rfl⟩)
      | (go_at_call 17; first
          | (with_reducible refine (p1.at hl _).mono ?_)
          | (with_reducible refine (p2.at hl _).mono ?_)
          | (with_reducible refine (p3.at hl _).mono ?_)
          | (with_reducible refine (p4.at hl _).mono ?_)
          | (with_reducible refine (p5.at hl _).mono ?_)
         rintro e w2 ⟨rfl, hb⟩; have hS := hS.next hb; have hi := hS.is hl.1; have ho := hS.of; clear hb))
    have hiA := hS.isA hl.1
    have hoA := hS.ofA
    refine Cl.region_after_at w2.heap.size (by kernel_rfl) lex7_7 (by kernel_rfl) ?_
    try simp only [List.append]
    repeat (go_big_quiet_step (first
      | (go_at_call 13; first
          | (with_reducible exact Cl.after_of (Nat.le_refl _) (m1.at cs _))
          | (with_reducible exact Cl.after_of (Nat.le_refl _) (m2.at cs _)))
      | (go_at_call 14; first
          | (with_reducible exact Cl.after_same (a1.at _))
          | (with_reducible exact Cl.after_same (a2.at _)))
      | (go_at_call 17; first
          | (with_reducible exact Cl.after_of (Nat.le_refl _) (p1.at hl _))
          | (with_reducible exact Cl.after_of (Nat.le_refl _) (p2.at hl _))
          | (with_reducible exact Cl.after_of (Nat.le_refl _) (p3.at hl _))
          | (with_reducible exact Cl.after_of (Nat.le_refl _) (p4.at hl _))
          | (with_reducible exact Cl.after_of (Nat.le_refl _) (p5.at hl _)))))
    refine wpQuiet_nil ?_
    rintro _ ⟨x, rfl⟩
    have hS := hS.after x
    clear hiA hoA 
    generalize x.w = w2 at hS ⊢
    have hi := hS.is hl.1; have ho := hS.of
    go_wp2_with fail
    go_ret
    exact ⟨rfl, hS.below⟩

theorem powI_two {a : Int} (h0 : 0 ≤ a) (h1 : a < 1024) : powI a 2 = mulI a a := by
  rcases cases_exp h0 h1 with h | ⟨i, _, _, h⟩
  · rw [h, mulI_zero]; rfl
  · rw [h, powI_exp, mulI_exp]; congr 1; omega
theorem powI_zero {n : Int} (h : n ≠ 0) : powI 0 n = 0 := by unfold powI; rw [if_neg h, if_pos (by rfl)]
theorem sq_add {a b : Int} (a0 : 0 ≤ a) (a1 : a < 1024) (b0 : 0 ≤ b) (b1 : b < 1024) : mulI (addI a b) (addI a b) = addI (mulI a a) (mulI b b) := by
  obtain ⟨A, rfl⟩ : ∃ A : Nat, a = A := ⟨a.toNat, by omega⟩
  obtain ⟨B, rfl⟩ : ∃ B : Nat, b = B := ⟨b.toNat, by omega⟩
  have hA : A < 1024 := by omega
  have hB : B < 1024 := by omega
  have hx := xor_lt hA hB
  have hg : gm (A ^^^ B) (A ^^^ B) = gm A A ^^^ gm B B := by
    have e := gm_comm hB hA
    rw [gm_xor_right, gm_xor_left A hA hB, gm_xor_left B hA hB, e, Nat.xor_comm (gm A B) (gm B B), xor4, Nat.xor_self, Nat.xor_zero]
  unfold mulI addI
  simp only [Int.toNat_natCast]
  rw [Nat.mod_mod, Nat.mod_eq_of_lt hx, Nat.mod_eq_of_lt hA, Nat.mod_eq_of_lt hB, hg, Nat.mod_eq_of_lt (xor_lt (gm_lt A hA) (gm_lt B hB))]

theorem squares_law (a : Int) (wa : (Lit.int .u16 a).wf = true) (b : Int) (wb : (Lit.int .u16 b).wf = true) (w : World) :
    Calls Try.prog 7 #[.int .u16 a, .int .u16 b] w fun e w' => e = .returned (.bool true) ∧ Below w.heap.size w w' := by
  obtain ⟨a0, a1⟩ := u16_bd wa
  obtain ⟨b0, b1⟩ := u16_bd wb
  have mA := u16_mask a a0 a1
  have mB := u16_mask b b0 b1
  generalize hA : a % 1024 = A at mA
  generalize hB : b % 1024 = B at mB
  have A0 : 0 ≤ A := by omega
  have A1 : A < 1024 := by omega
  have B0 : 0 ≤ B := by omega
  have B1 : B < 1024 := by omega
  clear hA hB
  have bD := addI_bd A B
  have bAA := mulI_bd A A
  have bBB := mulI_bd B B
  have bR : 0 ≤ powI A 512 ∧ powI A 512 < 1024 := by
    rcases cases_exp A0 A1 with h | ⟨i, _, _, h⟩
    · rw [h, powI_zero (by omega)]; omega
    · rw [h, powI_exp]; have := expI_bd (i * 512); omega
  refine squares_core a b A B (powI A 2) (powI B 2) (powI A 512) (addI A B) (powI (addI A B) 2) (A == B) w mA mB
    (powIs A0 (by omega) rfl) (powIs B0 (by omega) rfl) (powIs A0 (by omega) rfl) (addIs A0 (by omega) B0 (by omega) rfl) (powIs bD.1 (by omega) rfl)
    ?_ ?_ ?_ ?_ ?_ rfl
  · rw [powI_two A0 A1, powI_two B0 B1, powI_two bD.1 bD.2]
    exact addIs bAA.1 (by omega) bBB.1 (by omega) (sq_add A0 A1 B0 B1).symm
  · refine mulIs bR.1 (by omega) bR.1 (by omega) ?_
    rcases cases_exp A0 A1 with h | ⟨i, _, _, h⟩
    · rw [h, powI_zero (by omega), mulI_zero]
    · rw [h, powI_exp, mulI_exp]; exact expI_of (by omega)
  · refine powIs A0 (by omega) ?_
    rcases cases_exp A0 A1 with h | ⟨i, _, _, h⟩
    · rw [h, powI_zero (by omega)]
    · rw [h, powI_exp]; exact expI_of (by omega)
  · exact mulIs A0 (by omega) A0 (by omega) (powI_two A0 A1).symm
  · rw [powI_two A0 A1, powI_two B0 B1, Bool.eq_iff_iff]
    simp only [beq_iff_eq]
    constructor
    · intro h
      rcases cases_exp A0 A1 with hA | ⟨i, i0, i1, hA⟩ <;> rcases cases_exp B0 B1 with hB | ⟨j, j0, j1, hB⟩
      · rw [hA, hB]
      · rw [hA, hB, mulI_zero, mulI_exp] at h; have := expI_bd (j + j); omega
      · rw [hA, hB, mulI_zero, mulI_exp] at h; have := expI_bd (i + i); omega
      · rw [hA, hB, mulI_exp, mulI_exp, expI_eq] at h
        rw [hA, hB, expI_eq]; omega
    · rintro rfl; rfl
end Go.Proofs.Ytignmhjnjcpnnaa
namespace Go.Proofs.Ytignmhjnjcpnnaa.fieldSquares
open Go.ChangeShapes Go.WideShapes Go.ChangeAt Go.RowKit Go.Gf
set_option linter.unusedVariables false

theorem own : ownKnob Try.prog.godebug = none := by kernel_rfl

theorem walk (a0 : Int) (w0 : (Lit.int .u16 a0).wf = true) (a1 : Int) (w1 : (Lit.int .u16 a1).wf = true) (w : World) :
    Calls Try.prog 7 #[.int .u16 a0, .int .u16 a1] w fun e w' => e = .returned (.bool true) ∧ Below w.heap.size w w' := squares_law a0 w0 a1 w1 w

set_option maxRecDepth 100000 in
theorem lifted (os : Os) (started : os.Started) (H : Type) (enc : TypeId × Value → H) :
    ReturnsInHanded {} Try.checked os 7 .any (Rows.fieldSquaresSpec.pre6 enc Try.prog Try.f7 Rows.fieldSquaresRow.domain false) (Rows.fieldSquaresSpec.post enc Try.prog Try.f7 false true false false) := by
  refine returnsInHanded_of_change (C := Try.checked) own started (by kernel_rfl) Try.func7
    (ChangeSpec.witness6 (enc := enc) (C := Try.checked) false ⟨#[], #[.int .u16 0, .int .u16 0], []⟩ 8 (by kernel_rfl) (by kernel_rfl) (by kernel_rfl) (by kernel_rfl)) ?_
  intro W base args ds gs before hval0 hW hcnd _
  have hval : ∀ (j : Nat) t v, Try.f7.params[j]? = some t → args[j]? = some v → Value.okWide Try.prog W .any base t v := hval0
  have hW' := hW
  obtain ⟨p, q, hA0, hV, rfl, hfz, hnd⟩ := hW
  have hA : DataW.TrodAll enc Try.prog W 0 (fun _ => true) true Try.f7.params.toList args.toList ds p := hA0
  rw [Try.params7] at hA hval
  obtain ⟨v0, vs0, d0, ds0, p0, q0, hargs, rfl, rfl, h0, r0⟩ := trodAll_cons hA
  obtain ⟨v1, vs1, d1, ds1, p1, q1, rfl, rfl, rfl, h1, r1⟩ := trodAll_cons r0
  obtain ⟨rfl, rfl, rfl⟩ := trodAll_nil r1
  obtain rfl : args = #[v0, v1] := by cases args; simp_all
  obtain ⟨rfl, rfl⟩ := trodVars_none hV
  obtain ⟨a0, rfl, rfl, rfl, w0⟩ := open_int Try.underlying22 (hval 0 22 v0 rfl rfl) h0
  obtain ⟨a1, rfl, rfl, rfl, w1⟩ := open_int Try.underlying22 (hval 1 22 v1 rfl rfl) h1
  clear hA0 hval0
  simp only [List.append_nil] at hW'
  refine (walk a0 w0 a1 w1 W).mono fun e W' ⟨he, hg⟩ => ?_
  subst he
  exact ⟨_, rfl, Cl.post_below (pa := []) (pv := []) hW' (fun _ _ _ => (trodAll_cons_mk (shut_bool Try.underlying4 _) trodAll_mk0)) (fun sp _ => (trodAll_cons_mk (shut_int Try.underlying22 w0) (trodAll_cons_mk (shut_int Try.underlying22 w1) trodAll_mk0))) (fun _ _ => rfl) rfl
    hg (ok_one (by kernel_rfl) rfl (okWide_bool_mk Try.underlying4 _))⟩

theorem over : Rows.fieldSquaresRow.holds Try.pinned (OpenSpec.ofChange Rows.fieldSquaresSpec) :=
  OpenClaim.holds_of_wide 7 Try.f7 rfl rfl rfl rfl rfl rfl rfl ⟨rfl, rfl, rfl, rfl, rfl⟩ rfl rfl rfl rfl rfl (by kernel_rfl) Try.func7 (by kernel_rfl)
    (of_decide_eq_true (by kernel_rfl)) (by unfold Func.isWrapper; first | (rw [if_pos (by decide +kernel)]; kernel_rfl) | (rw [if_neg (by decide +kernel)]; exact ⟨rfl, rfl⟩))
    (fun os started H enc _ => lifted os started H enc)

/-- THE STATEMENT -/
theorem proved : Rows.FieldSquaresSaid := over
end Go.Proofs.Ytignmhjnjcpnnaa.fieldSquares
