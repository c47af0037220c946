/- Statement LmapPlays: the law returns true. -/
import Derived.Test.YtcnnmnjepofomaaLmz
import Derived.Test.YtcnnmnjepofomaaLmo
import Derived.Test.YtcnnmnjepofomaaWro
import Derived.Test.YtcnnmnjepofomaaArr
import Derived.ProofKit
import Derived.OpenShut
import Derived.Test.YtcnnmnjepofomaaRows
namespace Go.Proofs.Ytcnnmnjepofomaa
open Go.RowKit
set_option linter.unusedVariables false
set_option linter.unusedSimpArgs false
end Go.Proofs.Ytcnnmnjepofomaa
namespace Go.Proofs.Ytcnnmnjepofomaa.lmapPlays
open Go.ChangeShapes Go.WideShapes Go.ChangeAt Go.RowKit
set_option linter.unusedVariables false

theorem own : ownKnob Try.prog.godebug = none := by kernel_rfl

theorem walk (a0 b0 : Int) (w0 : (Lit.int .u8 a0).wf = true) (x0 : (Lit.int .u8 b0).wf = true) (A1 : Option Addr) (n1 : Nat) (x1 : Nat → Int × Int × Int) (c1 : Nat) (l1 : n1 ≤ c1) (m1 : c1 ≤ maxLen) (w : World) (s1 : Lm.DT w w.heap.size A1 n1 x1) :
    Calls Try.prog 3 #[.agg #[.int .u8 a0, .int .u8 b0], .slice A1 n1 c1] w fun e w' => e = .returned (.bool true) ∧ Below w.heap.size w w' := Lm.plays_row a0 b0 w0 x0 A1 n1 x1 c1 l1 m1 w s1

set_option maxRecDepth 100000 in
theorem lifted (os : Os) (started : os.Started) (H : Type) (enc : TypeId × Value → H) :
    ReturnsInHanded {} Try.checked os 3 .any (Rows.lmapPlaysSpec.pre6 enc Try.prog Try.f3 Rows.lmapPlaysRow.domain false) (Rows.lmapPlaysSpec.post enc Try.prog Try.f3 false true false false) := by
  refine returnsInHanded_of_change (C := Try.checked) own started (by kernel_rfl) Try.func3
    (ChangeSpec.witness6 (enc := enc) (C := Try.checked) false ⟨#[], #[.agg #[.int .u8 0, .int .u8 0], .slice none 0 0], []⟩ 8 (by kernel_rfl) (by kernel_rfl) (by kernel_rfl) (by kernel_rfl)) ?_
  intro W base args ds gs before hval0 hW hcnd _
  have hval : ∀ (j : Nat) t v, Try.f3.params[j]? = some t → args[j]? = some v → Value.okWide Try.prog W .any base t v := hval0
  have hW' := hW
  obtain ⟨p, q, hA0, hV, rfl, hfz, hnd⟩ := hW
  have hA : DataW.TrodAll enc Try.prog W 0 (fun _ => true) true Try.f3.params.toList args.toList ds p := hA0
  rw [Try.params3] at hA hval
  obtain ⟨v0, vs0, d0, ds0, p0, q0, hargs, rfl, rfl, h0, r0⟩ := trodAll_cons hA
  obtain ⟨v1, vs1, d1, ds1, p1, q1, rfl, rfl, rfl, h1, r1⟩ := trodAll_cons r0
  obtain ⟨rfl, rfl, rfl⟩ := trodAll_nil r1
  obtain rfl : args = #[v0, v1] := by cases args; simp_all
  obtain ⟨rfl, rfl⟩ := trodVars_none hV
  obtain ⟨a0, b0, rfl, rfl, rfl, w0, x0⟩ := open_arr2 Try.underlying22 Try.underlying5 (by kernel_rfl : Try.prog.cellsOf 22 = 2) (by kernel_rfl : Try.prog.cellsOf 5 = 1) (hval 0 22 v0 rfl rfl) h0
  obtain ⟨A1, n1, x1, c1, rfl, l1, m1, s1, t1⟩ := Lm.open_dt Try.underlying23 Try.underlying32 (by kernel_rfl) (by kernel_rfl : Try.prog.cellsOf 32 = 3) Try.underlying3 Try.underlying3 Try.underlying3 (hval 1 23 v1 rfl rfl) h1
  clear hA0 hval0
  refine (walk a0 b0 w0 x0 A1 n1 x1 c1 l1 m1 W s1).mono fun e W' ⟨he, hg⟩ => ?_
  subst he
  exact ⟨_, rfl, Cl.post_below (pv := []) hW' (fun _ _ _ => (trodAll_cons_mk (shut_bool Try.underlying4 _) trodAll_mk0)) (fun sp hsp => (trodAll_cons_mk (shut_arr2 Try.underlying22 Try.underlying5 (by kernel_rfl : Try.prog.cellsOf 22 = 2) (by kernel_rfl : Try.prog.cellsOf 5 = 1) w0 x0) (trodAll_cons_mk (t1 W' hg sp (fun q hq => hsp q (by simp [hq]))) trodAll_mk0))) (fun _ _ => rfl) rfl
    hg (ok_one (by kernel_rfl) rfl (okWide_bool_mk Try.underlying4 _))⟩

theorem over : Rows.lmapPlaysRow.holds Try.pinned (OpenSpec.ofChange Rows.lmapPlaysSpec) :=
  OpenClaim.holds_of_wide 3 Try.f3 rfl rfl rfl rfl rfl rfl rfl ⟨rfl, rfl, rfl, rfl, rfl⟩ rfl rfl rfl rfl rfl (by kernel_rfl) Try.func3 (by kernel_rfl)
    (of_decide_eq_true (by kernel_rfl)) (by unfold Func.isWrapper; first | (rw [if_pos (by decide +kernel)]; kernel_rfl) | (rw [if_neg (by decide +kernel)]; exact ⟨rfl, rfl⟩))
    (fun os started H enc _ => lifted os started H enc)

/-- THE STATEMENT -/
theorem proved : Rows.LmapPlaysSaid := over
end Go.Proofs.Ytcnnmnjepofomaa.lmapPlays
