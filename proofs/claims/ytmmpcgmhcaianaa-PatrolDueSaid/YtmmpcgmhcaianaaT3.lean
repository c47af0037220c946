/- Statement PatrolDue: the law returns true. -/
import Derived.Test.YtmmpcgmhcaianaaPty
import Derived.Test.YtmmpcgmhcaianaaPtf
import Derived.Test.YtmmpcgmhcaianaaWro
import Derived.ProofKit
import Derived.OpenShut
import Derived.Test.YtmmpcgmhcaianaaRows
namespace Go.Proofs.Ytmmpcgmhcaianaa
open Go.RowKit
set_option linter.unusedVariables false
set_option linter.unusedSimpArgs false
end Go.Proofs.Ytmmpcgmhcaianaa
namespace Go.Proofs.Ytmmpcgmhcaianaa.patrolDue
open Go.ChangeShapes Go.WideShapes Go.ChangeAt Go.RowKit
set_option linter.unusedVariables false

theorem own : ownKnob Try.prog.godebug = none := by kernel_rfl

theorem walk (A0 : Option Addr) (n0 : Nat) (x0 : Nat → Int) (c0 : Nat) (l0 : n0 ≤ c0) (m0 : c0 ≤ maxLen) (f0 : ∀ j, (Lit.int .u8 (x0 j)).wf = true) (a1 : Int) (w1 : (Lit.int .u8 a1).wf = true) (w : World) (s0 : We.SF w w.heap.size A0 n0 (fun j => .int .u8 (x0 j))) :
    Calls Try.prog 5 #[.slice A0 n0 c0, .int .u8 a1] w fun e w' => e = .returned (.bool true) ∧ Below w.heap.size w w' := (Pt.due_row Pt.the_patrol) A0 n0 x0 c0 l0 m0 f0 a1 w1 w s0

set_option maxRecDepth 100000 in
theorem lifted (os : Os) (started : os.Started) (H : Type) (enc : TypeId × Value → H) :
    ReturnsInHanded {} Try.checked os 5 .any (Rows.patrolDueSpec.pre6 enc Try.prog Try.f5 Rows.patrolDueRow.domain false) (Rows.patrolDueSpec.post enc Try.prog Try.f5 false true false false) := by
  refine returnsInHanded_of_change (C := Try.checked) own started (by kernel_rfl) Try.func5
    (ChangeSpec.witness6 (enc := enc) (C := Try.checked) false ⟨#[], #[.slice none 0 0, .int .u8 0], []⟩ 8 (by kernel_rfl) (by kernel_rfl) (by kernel_rfl) (by kernel_rfl)) ?_
  intro W base args ds gs before hval0 hW hcnd _
  have hval : ∀ (j : Nat) t v, Try.f5.params[j]? = some t → args[j]? = some v → Value.okWide Try.prog W .any base t v := hval0
  have hW' := hW
  obtain ⟨p, q, hA0, hV, rfl, hfz, hnd⟩ := hW
  have hA : DataW.TrodAll enc Try.prog W 0 (fun _ => true) true Try.f5.params.toList args.toList ds p := hA0
  rw [Try.params5] at hA hval
  obtain ⟨v0, vs0, d0, ds0, p0, q0, hargs, rfl, rfl, h0, r0⟩ := trodAll_cons hA
  obtain ⟨v1, vs1, d1, ds1, p1, q1, rfl, rfl, rfl, h1, r1⟩ := trodAll_cons r0
  obtain ⟨rfl, rfl, rfl⟩ := trodAll_nil r1
  obtain rfl : args = #[v0, v1] := by cases args; simp_all
  obtain ⟨rfl, rfl⟩ := trodVars_none hV
  obtain ⟨A0, n0, x0, c0, rfl, l0, m0, f0, s0, t0⟩ := We.open_fi Try.underlying41 Try.underlying5 (by kernel_rfl : Try.prog.cellsOf 5 = 1) (hval 0 41 v0 rfl rfl) h0
  obtain ⟨a1, rfl, rfl, rfl, w1⟩ := open_int Try.underlying5 (hval 1 5 v1 rfl rfl) h1
  clear hA0 hval0
  refine (walk A0 n0 x0 c0 l0 m0 f0 a1 w1 W s0).mono fun e W' ⟨he, hg⟩ => ?_
  subst he
  exact ⟨_, rfl, Cl.post_below (pv := []) hW' (fun _ _ _ => (trodAll_cons_mk (shut_bool Try.underlying4 _) trodAll_mk0)) (fun sp hsp => (trodAll_cons_mk (t0 W' hg sp (fun q hq => hsp q (by simp [hq]))) (trodAll_cons_mk (shut_int Try.underlying5 w1) trodAll_mk0))) (fun _ _ => rfl) rfl
    hg (ok_one (by kernel_rfl) rfl (okWide_bool_mk Try.underlying4 _))⟩

theorem over : Rows.patrolDueRow.holds Try.pinned (OpenSpec.ofChange Rows.patrolDueSpec) :=
  OpenClaim.holds_of_wide 5 Try.f5 rfl rfl rfl rfl rfl rfl rfl ⟨rfl, rfl, rfl, rfl, rfl⟩ rfl rfl rfl rfl rfl (by kernel_rfl) Try.func5 (by kernel_rfl)
    (of_decide_eq_true (by kernel_rfl)) (by unfold Func.isWrapper; first | (rw [if_pos (by decide +kernel)]; kernel_rfl) | (rw [if_neg (by decide +kernel)]; exact ⟨rfl, rfl⟩))
    (fun os started H enc _ => lifted os started H enc)

/-- THE STATEMENT -/
theorem proved : Rows.PatrolDueSaid := over
end Go.Proofs.Ytmmpcgmhcaianaa.patrolDue
