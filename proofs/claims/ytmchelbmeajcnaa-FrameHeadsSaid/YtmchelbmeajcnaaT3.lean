/- Statement FrameHeads: the law returns true. -/
import Derived.Test.YtmchelbmeajcnaaMs
import Derived.Test.YtmchelbmeajcnaaSb2
import Derived.ProofKit
import Derived.OpenShut
import Derived.Test.YtmchelbmeajcnaaRows
namespace Go.Proofs.Ytmchelbmeajcnaa
open Go.RowKit
set_option linter.unusedVariables false
set_option linter.unusedSimpArgs false
end Go.Proofs.Ytmchelbmeajcnaa
namespace Go.Proofs.Ytmchelbmeajcnaa.frameHeads
open Go.ChangeShapes Go.WideShapes Go.ChangeAt Go.RowKit
set_option linter.unusedVariables false

theorem own : ownKnob Try.prog.godebug = none := by kernel_rfl

theorem walk (k0m l0m q0m : Int) (wk0m : (Lit.int .i64 k0m).wf = true) (wl0m : (Lit.int .i64 l0m).wf = true) (wq0m : (Lit.int .i64 q0m).wf = true) (A1 : Option Addr) (x1 : List Nat) (c1 : Nat) (l1 : x1.length ≤ c1) (m1 : c1 ≤ maxLen) (w : World) (s1 : Sb w w.heap.size A1 x1) :
    Calls Try.prog 7 #[.agg #[.int .i64 k0m, .int .i64 l0m, .int .i64 q0m], .slice A1 x1.length c1] w fun e w' => e = .returned (.bool true) ∧ Below w.heap.size w w' := heads_law k0m l0m q0m wk0m wl0m wq0m A1 x1 c1 l1 m1 w s1

set_option maxRecDepth 100000 in
theorem lifted (os : Os) (started : os.Started) (H : Type) (enc : TypeId × Value → H) :
    ReturnsInHanded {} Try.checked os 7 .any (Rows.frameHeadsSpec.pre6 enc Try.prog Try.f7 Rows.frameHeadsRow.domain false) (Rows.frameHeadsSpec.post enc Try.prog Try.f7 false true false false) := by
  refine returnsInHanded_of_change (C := Try.checked) own started (by kernel_rfl) Try.func7
    (ChangeSpec.witness6 (enc := enc) (C := Try.checked) false ⟨#[], #[.agg #[.int .i64 0, .int .i64 0, .int .i64 0], .slice none 0 0], []⟩ 8 (by kernel_rfl) (by kernel_rfl) (by kernel_rfl) (by kernel_rfl)) ?_
  intro W base args ds gs before hval0 hW hcnd _
  have hval : ∀ (j : Nat) t v, Try.f7.params[j]? = some t → args[j]? = some v → Value.okWide Try.prog W .any base t v := hval0
  have hW' := hW
  obtain ⟨p, q, hA0, hV, rfl, hfz, hnd⟩ := hW
  have hA : DataW.TrodAll enc Try.prog W 0 (fun _ => true) true Try.f7.params.toList args.toList ds p := hA0
  rw [Try.params7] at hA hval
  obtain ⟨v0, vs0, d0, ds0, p0, q0, hargs, rfl, rfl, h0, r0⟩ := trodAll_cons hA
  obtain ⟨v1, vs1, d1, ds1, p1, q1, rfl, rfl, rfl, h1, r1⟩ := trodAll_cons r0
  obtain ⟨rfl, rfl, rfl⟩ := trodAll_nil r1
  obtain rfl : args = #[v0, v1] := by cases args; simp_all
  obtain ⟨rfl, rfl⟩ := trodVars_none hV
  obtain ⟨k0m, l0m, q0m, rfl, rfl, rfl, wk0m, wl0m, wq0m⟩ := open_three Try.underlying25 (by kernel_rfl) (by kernel_rfl : Try.prog.cellsOf 25 = 3) Try.underlying3 Try.underlying3 Try.underlying3 (hval 0 25 v0 rfl rfl) h0
  obtain ⟨A1, x1, c1, rfl, l1, m1, s1, t1⟩ := open_sb Try.underlying26 Try.underlying5 (by kernel_rfl : Try.prog.cellsOf 5 = 1) (hval 1 26 v1 rfl rfl) h1
  clear hA0 hval0
  refine (walk k0m l0m q0m wk0m wl0m wq0m A1 x1 c1 l1 m1 W s1).mono fun e W' ⟨he, hg⟩ => ?_
  subst he
  exact ⟨_, rfl, Cl.post_below (pv := []) hW' (fun _ _ _ => (trodAll_cons_mk (shut_bool Try.underlying4 _) trodAll_mk0)) (fun sp hsp => (trodAll_cons_mk (shut_three Try.underlying25 (by kernel_rfl) (by kernel_rfl : Try.prog.cellsOf 25 = 3) Try.underlying3 Try.underlying3 Try.underlying3 wk0m wl0m wq0m) (trodAll_cons_mk (t1 W' hg sp (fun q hq => hsp q (by simp [hq]))) trodAll_mk0))) (fun _ _ => rfl) rfl
    hg (ok_one (by kernel_rfl) rfl (okWide_bool_mk Try.underlying4 _))⟩

theorem over : Rows.frameHeadsRow.holds Try.pinned (OpenSpec.ofChange Rows.frameHeadsSpec) :=
  OpenClaim.holds_of_wide 7 Try.f7 rfl rfl rfl rfl rfl rfl rfl ⟨rfl, rfl, rfl, rfl, rfl⟩ rfl rfl rfl rfl rfl (by kernel_rfl) Try.func7 (by kernel_rfl)
    (of_decide_eq_true (by kernel_rfl)) (by unfold Func.isWrapper; first | (rw [if_pos (by decide +kernel)]; kernel_rfl) | (rw [if_neg (by decide +kernel)]; exact ⟨rfl, rfl⟩))
    (fun os started H enc _ => lifted os started H enc)

/-- THE STATEMENT -/
theorem proved : Rows.FrameHeadsSaid := over
end Go.Proofs.Ytmchelbmeajcnaa.frameHeads
