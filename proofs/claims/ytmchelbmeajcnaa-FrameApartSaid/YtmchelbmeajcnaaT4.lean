/- Statement FrameApart: the law returns true. -/
import Derived.Test.YtmchelbmeajcnaaMu
import Derived.Test.YtmchelbmeajcnaaSb2
import Derived.ProofKit
import Derived.OpenShut
import Derived.Test.YtmchelbmeajcnaaRows
namespace Go.Proofs.Ytmchelbmeajcnaa
open Go.RowKit
set_option linter.unusedVariables false
set_option linter.unusedSimpArgs false
end Go.Proofs.Ytmchelbmeajcnaa
namespace Go.Proofs.Ytmchelbmeajcnaa.frameApart
open Go.ChangeShapes Go.WideShapes Go.ChangeAt Go.RowKit
set_option linter.unusedVariables false

theorem own : ownKnob Try.prog.godebug = none := by kernel_rfl

theorem walk (B0 P0 W0 K0 : Int) (wB0 : (Lit.int .i64 B0).wf = true) (wP0 : (Lit.int .i64 P0).wf = true) (wW0 : (Lit.int .i64 W0).wf = true) (wK0 : (Lit.int .i64 K0).wf = true) (k1m l1m q1m f1m g1m h1m : Int) (wk1m : (Lit.int .i64 k1m).wf = true) (wl1m : (Lit.int .i64 l1m).wf = true) (wq1m : (Lit.int .i64 q1m).wf = true) (wf1m : (Lit.int .i64 f1m).wf = true) (wg1m : (Lit.int .i64 g1m).wf = true) (wh1m : (Lit.int .i64 h1m).wf = true) (A2 B2 : Option Addr) (x2 y2 : List Nat) (c2 e2 : Nat) (l2 : x2.length ≤ c2) (m2 : c2 ≤ maxLen) (n2 : y2.length ≤ e2) (o2 : e2 ≤ maxLen) (w : World) (s2 : Sb w w.heap.size A2 x2) (r2' : Sb w w.heap.size B2 y2) :
    Calls Try.prog 6 #[.agg #[.int .i64 B0, .int .i64 P0, .int .i64 W0, .int .i64 K0], .agg #[.int .i64 k1m, .int .i64 l1m, .int .i64 q1m, .int .i64 f1m, .int .i64 g1m, .int .i64 h1m], .agg #[.slice A2 x2.length c2, .slice B2 y2.length e2]] w fun e w' => e = .returned (.bool true) ∧ Below w.heap.size w w' := apart_law B0 P0 W0 K0 wB0 wP0 wW0 wK0 k1m l1m q1m f1m g1m h1m wk1m wl1m wq1m wf1m wg1m wh1m A2 B2 x2 y2 c2 e2 l2 m2 n2 o2 w s2 r2'

set_option maxRecDepth 100000 in
theorem lifted (os : Os) (started : os.Started) (H : Type) (enc : TypeId × Value → H) :
    ReturnsInHanded {} Try.checked os 6 .any (Rows.frameApartSpec.pre6 enc Try.prog Try.f6 Rows.frameApartRow.domain false) (Rows.frameApartSpec.post enc Try.prog Try.f6 false true false false) := by
  refine returnsInHanded_of_change (C := Try.checked) own started (by kernel_rfl) Try.func6
    (ChangeSpec.witness6 (enc := enc) (C := Try.checked) false ⟨#[], #[.agg #[.int .i64 0, .int .i64 0, .int .i64 0, .int .i64 0], .agg #[.int .i64 0, .int .i64 0, .int .i64 0, .int .i64 0, .int .i64 0, .int .i64 0], .agg #[.slice none 0 0, .slice none 0 0]], []⟩ 8 (by kernel_rfl) (by kernel_rfl) (by kernel_rfl) (by kernel_rfl)) ?_
  intro W base args ds gs before hval0 hW hcnd _
  have hval : ∀ (j : Nat) t v, Try.f6.params[j]? = some t → args[j]? = some v → Value.okWide Try.prog W .any base t v := hval0
  have hW' := hW
  obtain ⟨p, q, hA0, hV, rfl, hfz, hnd⟩ := hW
  have hA : DataW.TrodAll enc Try.prog W 0 (fun _ => true) true Try.f6.params.toList args.toList ds p := hA0
  rw [Try.params6] at hA hval
  obtain ⟨v0, vs0, d0, ds0, p0, q0, hargs, rfl, rfl, h0, r0⟩ := trodAll_cons hA
  obtain ⟨v1, vs1, d1, ds1, p1, q1, rfl, rfl, rfl, h1, r1⟩ := trodAll_cons r0
  obtain ⟨v2, vs2, d2, ds2, p2, q2, rfl, rfl, rfl, h2, r2⟩ := trodAll_cons r1
  obtain ⟨rfl, rfl, rfl⟩ := trodAll_nil r2
  obtain rfl : args = #[v0, v1, v2] := by cases args; simp_all
  obtain ⟨rfl, rfl⟩ := trodVars_none hV
  obtain ⟨B0, P0, W0, K0, rfl, rfl, rfl, wB0, wP0, wW0, wK0⟩ := open_four Try.underlying23 (by kernel_rfl) (by kernel_rfl : Try.prog.cellsOf 23 = 4) Try.underlying3 Try.underlying3 Try.underlying3 Try.underlying3 (hval 0 23 v0 rfl rfl) h0
  obtain ⟨k1m, l1m, q1m, f1m, g1m, h1m, rfl, wk1m, wl1m, wq1m, wf1m, wg1m, wh1m, t1⟩ := open_m2 Try.underlying53 Try.underlying25 (by kernel_rfl) (by kernel_rfl : Try.prog.cellsOf 53 = 6) (by kernel_rfl : Try.prog.cellsOf 25 = 3) Try.underlying3 Try.underlying3 Try.underlying3 (hval 1 53 v1 rfl rfl) h1
  obtain ⟨A2, B2, x2, y2, c2, e2, rfl, l2, m2, n2, o2, s2, r2', t2⟩ := open_sb2 Try.underlying54 (by kernel_rfl : Try.prog.cellsOf 54 = 2) (by kernel_rfl : Try.prog.cellsOf 26 = 1) Try.underlying26 Try.underlying5 (by kernel_rfl : Try.prog.cellsOf 5 = 1) (hval 2 54 v2 rfl rfl) h2
  clear hA0 hval0
  refine (walk B0 P0 W0 K0 wB0 wP0 wW0 wK0 k1m l1m q1m f1m g1m h1m wk1m wl1m wq1m wf1m wg1m wh1m A2 B2 x2 y2 c2 e2 l2 m2 n2 o2 W s2 r2').mono fun e W' ⟨he, hg⟩ => ?_
  subst he
  exact ⟨_, rfl, Cl.post_below (pv := []) hW' (fun _ _ _ => (trodAll_cons_mk (shut_bool Try.underlying4 _) trodAll_mk0)) (fun sp hsp => (trodAll_cons_mk (shut_four Try.underlying23 (by kernel_rfl) (by kernel_rfl : Try.prog.cellsOf 23 = 4) Try.underlying3 Try.underlying3 Try.underlying3 Try.underlying3 wB0 wP0 wW0 wK0) (trodAll_cons_mk (t1 W' sp) (trodAll_cons_mk (t2 W' hg sp (fun q hq => hsp q (by simp [hq]))) trodAll_mk0)))) (fun _ _ => rfl) rfl
    hg (ok_one (by kernel_rfl) rfl (okWide_bool_mk Try.underlying4 _))⟩

theorem over : Rows.frameApartRow.holds Try.pinned (OpenSpec.ofChange Rows.frameApartSpec) :=
  OpenClaim.holds_of_wide 6 Try.f6 rfl rfl rfl rfl rfl rfl rfl ⟨rfl, rfl, rfl, rfl, rfl⟩ rfl rfl rfl rfl rfl (by kernel_rfl) Try.func6 (by kernel_rfl)
    (of_decide_eq_true (by kernel_rfl)) (by unfold Func.isWrapper; first | (rw [if_pos (by decide +kernel)]; kernel_rfl) | (rw [if_neg (by decide +kernel)]; exact ⟨rfl, rfl⟩))
    (fun os started H enc _ => lifted os started H enc)

/-- THE STATEMENT -/
theorem proved : Rows.FrameApartSaid := over
end Go.Proofs.Ytmchelbmeajcnaa.frameApart
