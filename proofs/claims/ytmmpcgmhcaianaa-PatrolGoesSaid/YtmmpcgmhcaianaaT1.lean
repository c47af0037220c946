/- Statement PatrolGoes: the law returns true. -/
import Derived.Test.YtmmpcgmhcaianaaPty
import Derived.Test.YtmmpcgmhcaianaaPtf
import Derived.Test.YtmmpcgmhcaianaaGs
import Derived.Test.YtmmpcgmhcaianaaWro
import Derived.ProofKit
import Derived.OpenShut
import Derived.Test.YtmmpcgmhcaianaaRows
namespace Go.Proofs.Ytmmpcgmhcaianaa
open Go.RowKit
set_option linter.unusedVariables false
set_option linter.unusedSimpArgs false
end Go.Proofs.Ytmmpcgmhcaianaa
namespace Go.Proofs.Ytmmpcgmhcaianaa.patrolGoes
open Go.ChangeShapes Go.WideShapes Go.ChangeAt Go.RowKit
set_option linter.unusedVariables false

theorem own : ownKnob Try.prog.godebug = none := by kernel_rfl

theorem walk (B0 P0 W0 K0 : Int) (wB0 : (Lit.int .i64 B0).wf = true) (wP0 : (Lit.int .i64 P0).wf = true) (wW0 : (Lit.int .i64 W0).wf = true) (wK0 : (Lit.int .i64 K0).wf = true) (a1 : Int) (w1 : (Lit.int .i64 a1).wf = true) (A2 : Option Addr) (n2 : Nat) (x2 : Nat → Nat → Int) (c2 : Nat) (l2 : n2 ≤ c2) (m2 : c2 ≤ maxLen) (w : World) (s2 : We.RF w w.heap.size A2 2 n2 .i64 x2) :
    Calls Try.prog 3 #[.agg #[.int .i64 B0, .int .i64 P0, .int .i64 W0, .int .i64 K0], .int .i64 a1, .slice A2 n2 c2] w fun e w' => e = .returned (.bool true) ∧ Below w.heap.size w w' := (Pt.goes_row Pt.the_patrol) B0 P0 W0 K0 wB0 wP0 wW0 wK0 a1 w1 A2 n2 x2 c2 l2 m2 w s2

set_option maxRecDepth 100000 in
theorem lifted (os : Os) (started : os.Started) (H : Type) (enc : TypeId × Value → H) :
    ReturnsInHanded {} Try.checked os 3 .any (Rows.patrolGoesSpec.pre6 enc Try.prog Try.f3 Rows.patrolGoesRow.domain false) (Rows.patrolGoesSpec.post enc Try.prog Try.f3 false true false false) := by
  refine returnsInHanded_of_change (C := Try.checked) own started (by kernel_rfl) Try.func3
    (ChangeSpec.witness6 (enc := enc) (C := Try.checked) false ⟨#[], #[.agg #[.int .i64 0, .int .i64 0, .int .i64 0, .int .i64 0], .int .i64 0, .slice none 0 0], []⟩ 8 (by kernel_rfl) (by kernel_rfl) (by kernel_rfl) (by kernel_rfl)) ?_
  intro W base args ds gs before hval0 hW hcnd _
  have hval : ∀ (j : Nat) t v, Try.f3.params[j]? = some t → args[j]? = some v → Value.okWide Try.prog W .any base t v := hval0
  have hW' := hW
  obtain ⟨p, q, hA0, hV, rfl, hfz, hnd⟩ := hW
  have hA : DataW.TrodAll enc Try.prog W 0 (fun _ => true) true Try.f3.params.toList args.toList ds p := hA0
  rw [Try.params3] at hA hval
  obtain ⟨v0, vs0, d0, ds0, p0, q0, hargs, rfl, rfl, h0, r0⟩ := trodAll_cons hA
  obtain ⟨v1, vs1, d1, ds1, p1, q1, rfl, rfl, rfl, h1, r1⟩ := trodAll_cons r0
  obtain ⟨v2, vs2, d2, ds2, p2, q2, rfl, rfl, rfl, h2, r2⟩ := trodAll_cons r1
  obtain ⟨rfl, rfl, rfl⟩ := trodAll_nil r2
  obtain rfl : args = #[v0, v1, v2] := by cases args; simp_all
  obtain ⟨rfl, rfl⟩ := trodVars_none hV
  obtain ⟨B0, P0, W0, K0, rfl, rfl, rfl, wB0, wP0, wW0, wK0⟩ := open_four Try.underlying23 (by kernel_rfl) (by kernel_rfl : Try.prog.cellsOf 23 = 4) Try.underlying3 Try.underlying3 Try.underlying3 Try.underlying3 (hval 0 23 v0 rfl rfl) h0
  obtain ⟨a1, rfl, rfl, rfl, w1⟩ := open_int Try.underlying3 (hval 1 3 v1 rfl rfl) h1
  obtain ⟨A2, n2, x2, c2, rfl, l2, m2, s2, t2⟩ := We.open_rf Try.underlying24 Try.underlying34 Try.underlying3 (by kernel_rfl : Try.prog.cellsOf 34 = 2) (by kernel_rfl : Try.prog.cellsOf 3 = 1) (by decide) (hval 2 24 v2 rfl rfl) h2
  clear hA0 hval0
  refine (walk B0 P0 W0 K0 wB0 wP0 wW0 wK0 a1 w1 A2 n2 x2 c2 l2 m2 W s2).mono fun e W' ⟨he, hg⟩ => ?_
  subst he
  exact ⟨_, rfl, Cl.post_below (pv := []) hW' (fun _ _ _ => (trodAll_cons_mk (shut_bool Try.underlying4 _) trodAll_mk0)) (fun sp hsp => (trodAll_cons_mk (shut_four Try.underlying23 (by kernel_rfl) (by kernel_rfl : Try.prog.cellsOf 23 = 4) Try.underlying3 Try.underlying3 Try.underlying3 Try.underlying3 wB0 wP0 wW0 wK0) (trodAll_cons_mk (shut_int Try.underlying3 w1) (trodAll_cons_mk (t2 W' hg sp (fun q hq => hsp q (by simp [hq]))) trodAll_mk0)))) (fun _ _ => rfl) rfl
    hg (ok_one (by kernel_rfl) rfl (okWide_bool_mk Try.underlying4 _))⟩

theorem over : Rows.patrolGoesRow.holds Try.pinned (OpenSpec.ofChange Rows.patrolGoesSpec) :=
  OpenClaim.holds_of_wide 3 Try.f3 rfl rfl rfl rfl rfl rfl rfl ⟨rfl, rfl, rfl, rfl, rfl⟩ rfl rfl rfl rfl rfl (by kernel_rfl) Try.func3 (by kernel_rfl)
    (of_decide_eq_true (by kernel_rfl)) (by unfold Func.isWrapper; first | (rw [if_pos (by decide +kernel)]; kernel_rfl) | (rw [if_neg (by decide +kernel)]; exact ⟨rfl, rfl⟩))
    (fun os started H enc _ => lifted os started H enc)

/-- THE STATEMENT -/
theorem proved : Rows.PatrolGoesSaid := over
end Go.Proofs.Ytmmpcgmhcaianaa.patrolGoes
