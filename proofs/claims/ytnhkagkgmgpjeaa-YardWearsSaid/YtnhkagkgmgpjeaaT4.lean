/- Statement YardWears: the law returns true. -/
import Derived.Test.YtnhkagkgmgpjeaaYdy
import Derived.Test.YtnhkagkgmgpjeaaWro
import Derived.ProofKit
import Derived.OpenShut
import Derived.Test.YtnhkagkgmgpjeaaRows
namespace Go.Proofs.Ytnhkagkgmgpjeaa
open Go.RowKit
set_option linter.unusedVariables false
set_option linter.unusedSimpArgs false
end Go.Proofs.Ytnhkagkgmgpjeaa
namespace Go.Proofs.Ytnhkagkgmgpjeaa.yardWears
open Go.ChangeShapes Go.WideShapes Go.ChangeAt Go.RowKit
set_option linter.unusedVariables false

theorem own : ownKnob Try.prog.godebug = none := by kernel_rfl

theorem walk (a0 : Int) (w0 : (Lit.int .u8 a0).wf = true) (A1 : Option Addr) (n1 : Nat) (x1 : Nat → Int) (c1 : Nat) (l1 : n1 ≤ c1) (m1 : c1 ≤ maxLen) (f1 : ∀ j, (Lit.int .u8 (x1 j)).wf = true) (w : World) (s1 : We.SF w w.heap.size A1 n1 (fun j => .int .u8 (x1 j))) :
    Calls Try.prog 7 #[.int .u8 a0, .slice A1 n1 c1] w fun e w' => e = .returned (.bool true) ∧ Below w.heap.size w w' := (Yd.wears_row Yd.the_yard) a0 w0 A1 n1 x1 c1 l1 m1 f1 w s1

set_option maxRecDepth 100000 in
theorem lifted (os : Os) (started : os.Started) (H : Type) (enc : TypeId × Value → H) :
    ReturnsInHanded {} Try.checked os 7 .any (Rows.yardWearsSpec.pre6 enc Try.prog Try.f7 Rows.yardWearsRow.domain false) (Rows.yardWearsSpec.post enc Try.prog Try.f7 false true false false) := by
  refine returnsInHanded_of_change (C := Try.checked) own started (by kernel_rfl) Try.func7
    (ChangeSpec.witness6 (enc := enc) (C := Try.checked) false ⟨#[], #[.int .u8 0, .slice none 0 0], []⟩ 8 (by kernel_rfl) (by kernel_rfl) (by kernel_rfl) (by kernel_rfl)) ?_
  intro W base args ds gs before hval0 hW hcnd _
  have hval : ∀ (j : Nat) t v, Try.f7.params[j]? = some t → args[j]? = some v → Value.okWide Try.prog W .any base t v := hval0
  have hW' := hW
  obtain ⟨p, q, hA0, hV, rfl, hfz, hnd⟩ := hW
  have hA : DataW.TrodAll enc Try.prog W 0 (fun _ => true) true Try.f7.params.toList args.toList ds p := hA0
  rw [Try.params7] at hA hval
  obtain ⟨v0, vs0, d0, ds0, p0, q0, hargs, rfl, rfl, h0, r0⟩ := trodAll_cons hA
  obtain ⟨v1, vs1, d1, ds1, p1, q1, rfl, rfl, rfl, h1, r1⟩ := trodAll_cons r0
  obtain ⟨rfl, rfl, rfl⟩ := trodAll_nil r1
  obtain rfl : args = #[v0, v1] := by cases args; simp_all
  obtain ⟨rfl, rfl⟩ := trodVars_none hV
  obtain ⟨a0, rfl, rfl, rfl, w0⟩ := open_int Try.underlying5 (hval 0 5 v0 rfl rfl) h0
  obtain ⟨A1, n1, x1, c1, rfl, l1, m1, f1, s1, t1⟩ := We.open_fi Try.underlying43 Try.underlying5 (by kernel_rfl : Try.prog.cellsOf 5 = 1) (hval 1 43 v1 rfl rfl) h1
  clear hA0 hval0
  refine (walk a0 w0 A1 n1 x1 c1 l1 m1 f1 W s1).mono fun e W' ⟨he, hg⟩ => ?_
  subst he
  exact ⟨_, rfl, Cl.post_below (pv := []) hW' (fun _ _ _ => (trodAll_cons_mk (shut_bool Try.underlying4 _) trodAll_mk0)) (fun sp hsp => (trodAll_cons_mk (shut_int Try.underlying5 w0) (trodAll_cons_mk (t1 W' hg sp (fun q hq => hsp q (by simp [hq]))) trodAll_mk0))) (fun _ _ => rfl) rfl
    hg (ok_one (by kernel_rfl) rfl (okWide_bool_mk Try.underlying4 _))⟩

theorem over : Rows.yardWearsRow.holds Try.pinned (OpenSpec.ofChange Rows.yardWearsSpec) :=
  OpenClaim.holds_of_wide 7 Try.f7 rfl rfl rfl rfl rfl rfl rfl ⟨rfl, rfl, rfl, rfl, rfl⟩ rfl rfl rfl rfl rfl (by kernel_rfl) Try.func7 (by kernel_rfl)
    (of_decide_eq_true (by kernel_rfl)) (by unfold Func.isWrapper; first | (rw [if_pos (by decide +kernel)]; kernel_rfl) | (rw [if_neg (by decide +kernel)]; exact ⟨rfl, rfl⟩))
    (fun os started H enc _ => lifted os started H enc)

/-- THE STATEMENT -/
theorem proved : Rows.YardWearsSaid := over
end Go.Proofs.Ytnhkagkgmgpjeaa.yardWears
