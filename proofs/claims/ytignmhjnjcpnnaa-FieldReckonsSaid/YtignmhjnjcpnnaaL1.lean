/- Statement FieldReckons: for every two symbols and every power the law returns true. -/
import Derived.Test.YtignmhjnjcpnnaaFa
import Derived.Test.YtignmhjnjcpnnaaRows
import Derived.ProofKit
import Derived.OpenShut
namespace Go.Proofs.Ytignmhjnjcpnnaa
open Go.RowKit Go.Gf

theorem u16_bd {a : Int} (h : (Lit.int .u16 a).wf = true) : 0 ≤ a ∧ a < 65536 := by
  simp [Lit.wf, IntKind.min, IntKind.max, IntKind.signed, IntKind.bits] at h; omega
attribute [local go_sem ↓] exec_load_tb
attribute [local go_sem] tbAt_ptr tbIn_ptr

theorem logI_bd (a : Int) (a0 : 0 ≤ a) : 0 ≤ logI a ∧ logI a < 1023 := by
  unfold logI
  split
  · omega
  · have := (E_lg (a := a.toNat % 1024) (by omega) (by omega)).2
    omega
theorem expI_logI {a : Int} (h0 : 0 ≤ a) (h : a % 1024 ≠ 0) : expI (logI a) = a % 1024 := by
  have h1 := E_lg (a := a.toNat % 1024) (by omega) (by omega)
  unfold expI logI
  rw [if_neg h, show (((lg (a.toNat % 1024) : Nat) : Int) % 1023).toNat = lg (a.toNat % 1024) by omega, h1.1]
  omega
theorem box_st {w : World} {cs : List Nat} : St w w.heap.size cs (w.alloc (Obj.cells (cells cs) 27)) :=
  ⟨(Below.refl _ _).alloc (Nat.le_refl _) _, Nat.le_refl _, by simp, heap_alloc_new w _⟩

set_option maxRecDepth 20000 in
set_option maxHeartbeats 1000000 in
theorem reckons_any (cs : List Nat) (ht : Tab cs) (a b n : Int) (w : World) (a0 : 0 ≤ a) (a1 : a < 65536) (b0 : 0 ≤ b) (b1 : b < 65536) :
    Calls Try.prog 10 #[.agg (cells cs), .int .u16 a, .int .u16 b, .int .i64 n] w fun e w' => e = .returned (.bool true) ∧ Below w.heap.size w w' := by
  have hA := u16_mask a a0 a1
  have hx := u16_xor a b a0 a1 b0 b1
  have hl : a.toNat ^^^ b.toNat < 2 ^ 16 := Nat.xor_lt_two_pow (by omega) (by omega)
  have hm := u16_mask ((a.toNat ^^^ b.toNat : Nat) : Int) (by omega) (by omega)
  obtain ⟨l0, l1⟩ := logI_bd a a0
  have gadd : ∀ w, Calls Try.prog 14 #[.int .u16 a, .int .u16 b] w fun e w' => e = .returned (.int .u16 (((a.toNat ^^^ b.toNat : Nat) : Int) % 1024)) ∧ w = w' := fun w => by
    have := add_any a b w a0 a1 b0 b1
    rwa [show (((a.toNat ^^^ b.toNat) % 1024 : Nat) : Int) = ((a.toNat ^^^ b.toNat : Nat) : Int) % 1024 by omega] at this
  generalize a.toNat ^^^ b.toNat = c at hx hl hm gadd
  have GA := Lib.hid gadd
  clear gadd hl
  by_cases h0 : a % 1024 = 0
  · have hL : logI a = 0 := by unfold logI; rw [if_pos h0]
    have h0' : (a % 1024 != 0) = false := by simp [h0]
    rw [hL] at l0 l1
    have glog := fun w => log_any cs ht a w a0 a1
    have ginv := fun w => inv_any cs ht a w a0 a1
    have grin := fun w => refinv_any a w a0 a1
    rw [hL] at glog
    simp only [h0'] at glog ginv grin
    have GL := Lib.hid glog
    have GI := Lib.hid ginv
    have GR := Lib.hid grin
    clear glog ginv grin hL
    have hS := box_st (w := w) (cs := cs)
    have hi := hS.is ht.1
    have ho := hS.of
    go_enter Try.func10, Try.ntmps10
    go_wp2_with (first
      | (go_at_call 12; (with_reducible refine (GI.out _).mono ?_); rintro e w2 ⟨rfl, hb⟩; have hS := hS.next hb; have hi := hS.is ht.1; have ho := hS.of; clear hb)
      | (go_at_call 13; (with_reducible refine (mul_any cs _ _ _ a0 a1 b0 b1).mono ?_); rintro e w2 ⟨rfl, hb⟩; have hS := hS.next hb; have hi := hS.is ht.1; have ho := hS.of; clear hb)
      | (go_at_call 14; (with_reducible refine (GA.out _).mono ?_); rintro e w2 ⟨rfl, rfl⟩)
      | (go_at_call 15; (with_reducible refine (GL.out _).mono ?_); rintro e w2 ⟨rfl, hb⟩; have hS := hS.next hb; have hi := hS.is ht.1; have ho := hS.of; clear hb)
      | (go_at_call 16; (with_reducible refine (exp_any cs ht n _).mono ?_); rintro e w2 ⟨rfl, hb⟩; have hS := hS.next hb; have hi := hS.is ht.1; have ho := hS.of; clear hb)
      | (go_at_call 17; (with_reducible refine (pow_any cs ht a n _ a0 a1).mono ?_); rintro e w2 ⟨rfl, hb⟩; have hS := hS.next hb; have hi := hS.is ht.1; have ho := hS.of; clear hb)
      | (go_at_call 18; (with_reducible refine (GR.out _).mono ?_); rintro e w2 ⟨rfl, rfl⟩)
      | (go_at_call 19; (with_reducible refine (refexp_any n _).mono ?_); rintro e w2 ⟨rfl, rfl⟩)
      | (go_at_call 20; (with_reducible refine (refmul_any a b _ a0 a1 b0 b1).mono ?_); rintro e w2 ⟨rfl, rfl⟩)
      | (go_at_call 21; (with_reducible refine (refpow_any a n _ a0 a1).mono ?_); rintro e w2 ⟨rfl, rfl⟩))
    go_ret
    exact ⟨rfl, hS.below⟩
  · have h0' : (a % 1024 != 0) = true := by simp [h0]
    have glog := fun w => log_any cs ht a w a0 a1
    have ginv := fun w => inv_any cs ht a w a0 a1
    have grin := fun w => refinv_any a w a0 a1
    have gexp := fun w => refexp_any (logI a) w
    rw [expI_logI a0 h0] at gexp
    simp only [h0'] at glog ginv grin
    generalize logI a = L at glog gexp l0 l1
    have GL := Lib.hid glog
    have GI := Lib.hid ginv
    have GR := Lib.hid grin
    have GE := Lib.hid gexp
    clear glog ginv grin gexp h0
    have hS := box_st (w := w) (cs := cs)
    have hi := hS.is ht.1
    have ho := hS.of
    go_enter Try.func10, Try.ntmps10
    go_wp2_with (first
      | (go_at_call 12; (with_reducible refine (GI.out _).mono ?_); rintro e w2 ⟨rfl, hb⟩; have hS := hS.next hb; have hi := hS.is ht.1; have ho := hS.of; clear hb)
      | (go_at_call 13; (with_reducible refine (mul_any cs _ _ _ a0 a1 b0 b1).mono ?_); rintro e w2 ⟨rfl, hb⟩; have hS := hS.next hb; have hi := hS.is ht.1; have ho := hS.of; clear hb)
      | (go_at_call 14; (with_reducible refine (GA.out _).mono ?_); rintro e w2 ⟨rfl, rfl⟩)
      | (go_at_call 15; (with_reducible refine (GL.out _).mono ?_); rintro e w2 ⟨rfl, hb⟩; have hS := hS.next hb; have hi := hS.is ht.1; have ho := hS.of; clear hb)
      | (go_at_call 16; (with_reducible refine (exp_any cs ht n _).mono ?_); rintro e w2 ⟨rfl, hb⟩; have hS := hS.next hb; have hi := hS.is ht.1; have ho := hS.of; clear hb)
      | (go_at_call 17; (with_reducible refine (pow_any cs ht a n _ a0 a1).mono ?_); rintro e w2 ⟨rfl, hb⟩; have hS := hS.next hb; have hi := hS.is ht.1; have ho := hS.of; clear hb)
      | (go_at_call 18; (with_reducible refine (GR.out _).mono ?_); rintro e w2 ⟨rfl, rfl⟩)
      | (go_at_call 19; (with_reducible refine (GE.out _).mono ?_); rintro e w2 ⟨rfl, rfl⟩)
      | (go_at_call 19; (with_reducible refine (refexp_any n _).mono ?_); rintro e w2 ⟨rfl, rfl⟩)
      | (go_at_call 20; (with_reducible refine (refmul_any a b _ a0 a1 b0 b1).mono ?_); rintro e w2 ⟨rfl, rfl⟩)
      | (go_at_call 21; (with_reducible refine (refpow_any a n _ a0 a1).mono ?_); rintro e w2 ⟨rfl, rfl⟩))
    go_ret
    exact ⟨rfl, hS.below⟩

theorem zt_tab : Tab ZT := ⟨List.length_replicate, Or.inl (by decide +kernel)⟩
theorem alloc_st {w w1 : World} {cs : List Nat} (hb : Below w.heap.size w w1) : St w w1.heap.size cs (w1.alloc (Obj.cells (cells cs) 27)) :=
  ⟨hb.alloc hb.size _, hb.size, by simp, heap_alloc_new w1 _⟩

set_option maxRecDepth 20000 in
set_option maxHeartbeats 1000000 in
theorem reckons_law (a : Int) (wa : (Lit.int .u16 a).wf = true) (b : Int) (wb : (Lit.int .u16 b).wf = true) (n : Int) (_wn : (Lit.int .i64 n).wf = true) (w : World) :
    Calls Try.prog 3 #[.int .u16 a, .int .u16 b, .int .i64 n] w fun e w' => e = .returned (.bool true) ∧ Below w.heap.size w w' := by
  obtain ⟨a0, a1⟩ := u16_bd wa
  obtain ⟨b0, b1⟩ := u16_bd wb
  have hz := zero27
  go_enter Try.func3, Try.ntmps3
  go_wp2_with fail
  refine (awake_any _).mono ?_
  rintro e w1 ⟨rfl, hb⟩
  have hS := alloc_st (cs := ZT) hb
  generalize hg : w1.heap.size = g at hS
  have hi := hS.is zt_tab.1
  have ho := hS.of
  clear hb
  go_wp2_with (first
    | (go_at_call 11; (with_reducible refine (make_any _).mono ?_); rintro e w2 ⟨cs, rfl, hl, hb⟩; have ht := hl.tab; have hS := hS.next hb; have hi := hS.is zt_tab.1; have ho := hS.of; clear hb)
    | (go_at_call 10; (with_reducible refine (reckons_any cs ht a b n _ a0 a1 b0 b1).mono ?_); rintro e w2 ⟨rfl, hb⟩; have hS := hS.next hb; have hi := hS.is zt_tab.1; have ho := hS.of; clear hb ht hl)
    | (go_at_call 10; (with_reducible refine (reckons_any ZT zt_tab a b n _ a0 a1 b0 b1).mono ?_); rintro e w2 ⟨rfl, hb⟩; have hS := hS.next hb; clear hb))
  go_ret
  exact ⟨rfl, hS.below⟩
end Go.Proofs.Ytignmhjnjcpnnaa
namespace Go.Proofs.Ytignmhjnjcpnnaa.fieldReckons
open Go.ChangeShapes Go.WideShapes Go.ChangeAt Go.RowKit Go.Gf
set_option linter.unusedVariables false

theorem own : ownKnob Try.prog.godebug = none := by kernel_rfl

theorem walk (a0 : Int) (w0 : (Lit.int .u16 a0).wf = true) (a1 : Int) (w1 : (Lit.int .u16 a1).wf = true) (a2 : Int) (w2 : (Lit.int .i64 a2).wf = true) (w : World) :
    Calls Try.prog 3 #[.int .u16 a0, .int .u16 a1, .int .i64 a2] w fun e w' => e = .returned (.bool true) ∧ Below w.heap.size w w' := reckons_law a0 w0 a1 w1 a2 w2 w

set_option maxRecDepth 100000 in
theorem lifted (os : Os) (started : os.Started) (H : Type) (enc : TypeId × Value → H) :
    ReturnsInHanded {} Try.checked os 3 .any (Rows.fieldReckonsSpec.pre6 enc Try.prog Try.f3 Rows.fieldReckonsRow.domain false) (Rows.fieldReckonsSpec.post enc Try.prog Try.f3 false true false false) := by
  refine returnsInHanded_of_change (C := Try.checked) own started (by kernel_rfl) Try.func3
    (ChangeSpec.witness6 (enc := enc) (C := Try.checked) false ⟨#[], #[.int .u16 0, .int .u16 0, .int .i64 0], []⟩ 8 (by kernel_rfl) (by kernel_rfl) (by kernel_rfl) (by kernel_rfl)) ?_
  intro W base args ds gs before hval0 hW hcnd _
  have hval : ∀ (j : Nat) t v, Try.f3.params[j]? = some t → args[j]? = some v → Value.okWide Try.prog W .any base t v := hval0
  have hW' := hW
  obtain ⟨p, q, hA0, hV, rfl, hfz, hnd⟩ := hW
  have hA : DataW.TrodAll enc Try.prog W 0 (fun _ => true) true Try.f3.params.toList args.toList ds p := hA0
  rw [Try.params3] at hA hval
  obtain ⟨v0, vs0, d0, ds0, p0, q0, hargs, rfl, rfl, h0, r0⟩ := trodAll_cons hA
  obtain ⟨v1, vs1, d1, ds1, p1, q1, rfl, rfl, rfl, h1, r1⟩ := trodAll_cons r0
  obtain ⟨v2, vs2, d2, ds2, p2, q2, rfl, rfl, rfl, h2, r2⟩ := trodAll_cons r1
  obtain ⟨rfl, rfl, rfl⟩ := trodAll_nil r2
  obtain rfl : args = #[v0, v1, v2] := by cases args; simp_all
  obtain ⟨rfl, rfl⟩ := trodVars_none hV
  obtain ⟨a0, rfl, rfl, rfl, w0⟩ := open_int Try.underlying22 (hval 0 22 v0 rfl rfl) h0
  obtain ⟨a1, rfl, rfl, rfl, w1⟩ := open_int Try.underlying22 (hval 1 22 v1 rfl rfl) h1
  obtain ⟨a2, rfl, rfl, rfl, w2⟩ := open_int Try.underlying3 (hval 2 3 v2 rfl rfl) h2
  clear hA0 hval0
  simp only [List.append_nil] at hW'
  refine (walk a0 w0 a1 w1 a2 w2 W).mono fun e W' ⟨he, hg⟩ => ?_
  subst he
  exact ⟨_, rfl, Cl.post_below (pa := []) (pv := []) hW' (fun _ _ _ => (trodAll_cons_mk (shut_bool Try.underlying4 _) trodAll_mk0)) (fun sp _ => (trodAll_cons_mk (shut_int Try.underlying22 w0) (trodAll_cons_mk (shut_int Try.underlying22 w1) (trodAll_cons_mk (shut_int Try.underlying3 w2) trodAll_mk0)))) (fun _ _ => rfl) rfl
    hg (ok_one (by kernel_rfl) rfl (okWide_bool_mk Try.underlying4 _))⟩

theorem over : Rows.fieldReckonsRow.holds Try.pinned (OpenSpec.ofChange Rows.fieldReckonsSpec) :=
  OpenClaim.holds_of_wide 3 Try.f3 rfl rfl rfl rfl rfl rfl rfl ⟨rfl, rfl, rfl, rfl, rfl⟩ rfl rfl rfl rfl rfl (by kernel_rfl) Try.func3 (by kernel_rfl)
    (of_decide_eq_true (by kernel_rfl)) (by unfold Func.isWrapper; first | (rw [if_pos (by decide +kernel)]; kernel_rfl) | (rw [if_neg (by decide +kernel)]; exact ⟨rfl, rfl⟩))
    (fun os started H enc _ => lifted os started H enc)

/-- THE STATEMENT -/
theorem proved : Rows.FieldReckonsSaid := over
end Go.Proofs.Ytignmhjnjcpnnaa.fieldReckons
