/- Statement WearPicks: the law returns true. -/
import Derived.Test.YtoldfgnnmfaihaaWro
import Derived.Test.YtoldfgnnmfaihaaWrp
import Derived.ProofKit
import Derived.OpenShut
import Derived.Test.YtoldfgnnmfaihaaRows
namespace Go.Proofs.Ytoldfgnnmfaihaa
open Go.RowKit
set_option linter.unusedVariables false
set_option linter.unusedSimpArgs false
end Go.Proofs.Ytoldfgnnmfaihaa
namespace Go.Proofs.Ytoldfgnnmfaihaa.wearPicks
open Go.ChangeShapes Go.WideShapes Go.ChangeAt Go.RowKit
set_option linter.unusedVariables false

theorem own : ownKnob Try.prog.godebug = none := by kernel_rfl

theorem walk (A0 : Option Addr) (n0 : Nat) (x0 : Nat → Int) (c0 : Nat) (l0 : n0 ≤ c0) (m0 : c0 ≤ maxLen) (f0 : ∀ j, (Lit.int .i64 (x0 j)).wf = true) (A1 : Option Addr) (n1 : Nat) (x1 : Nat → Int) (c1 : Nat) (l1 : n1 ≤ c1) (m1 : c1 ≤ maxLen) (f1 : ∀ j, (Lit.int .i64 (x1 j)).wf = true) (A2 : Option Addr) (n2 : Nat) (x2 : Nat → Bool) (c2 : Nat) (l2 : n2 ≤ c2) (m2 : c2 ≤ maxLen) (w : World) (s0 : We.SF w w.heap.size A0 n0 (fun j => .int .i64 (x0 j))) (s1 : We.SF w w.heap.size A1 n1 (fun j => .int .i64 (x1 j))) (s2 : We.SF w w.heap.size A2 n2 (We.bF x2)) :
    Calls Try.prog 3 #[.slice A0 n0 c0, .slice A1 n1 c1, .slice A2 n2 c2] w fun e w' => e = .returned (.bool true) ∧ Below w.heap.size w w' := We.picks_law A0 n0 x0 c0 l0 m0 f0 A1 n1 x1 c1 l1 m1 f1 A2 n2 x2 c2 l2 m2 w s0 s1 s2

set_option maxRecDepth 100000 in
theorem lifted (os : Os) (started : os.Started) (H : Type) (enc : TypeId × Value → H) :
    ReturnsInHanded {} Try.checked os 3 .any (Rows.wearPicksSpec.pre6 enc Try.prog Try.f3 Rows.wearPicksRow.domain false) (Rows.wearPicksSpec.post enc Try.prog Try.f3 false true false false) := by
  refine returnsInHanded_of_change (C := Try.checked) own started (by kernel_rfl) Try.func3
    (ChangeSpec.witness6 (enc := enc) (C := Try.checked) false ⟨#[], #[.slice none 0 0, .slice none 0 0, .slice none 0 0], []⟩ 8 (by kernel_rfl) (by kernel_rfl) (by kernel_rfl) (by kernel_rfl)) ?_
  intro W base args ds gs before hval0 hW hcnd _
  have hval : ∀ (j : Nat) t v, Try.f3.params[j]? = some t → args[j]? = some v → Value.okWide Try.prog W .any base t v := hval0
  have hW' := hW
  obtain ⟨p, q, hA0, hV, rfl, hfz, hnd⟩ := hW
  have hA : DataW.TrodAll enc Try.prog W 0 (fun _ => true) true Try.f3.params.toList args.toList ds p := hA0
  rw [Try.params3] at hA hval
  obtain ⟨v0, vs0, d0, ds0, p0, q0, hargs, rfl, rfl, h0, r0⟩ := trodAll_cons hA
  obtain ⟨v1, vs1, d1, ds1, p1, q1, rfl, rfl, rfl, h1, r1⟩ := trodAll_cons r0
  obtain ⟨v2, vs2, d2, ds2, p2, q2, rfl, rfl, rfl, h2, r2⟩ := trodAll_cons r1
  obtain ⟨rfl, rfl, rfl⟩ := trodAll_nil r2
  obtain rfl : args = #[v0, v1, v2] := by cases args; simp_all
  obtain ⟨rfl, rfl⟩ := trodVars_none hV
  obtain ⟨A0, n0, x0, c0, rfl, l0, m0, f0, s0, t0⟩ := We.open_fi Try.underlying22 Try.underlying3 (by kernel_rfl : Try.prog.cellsOf 3 = 1) (hval 0 22 v0 rfl rfl) h0
  obtain ⟨A1, n1, x1, c1, rfl, l1, m1, f1, s1, t1⟩ := We.open_fi Try.underlying22 Try.underlying3 (by kernel_rfl : Try.prog.cellsOf 3 = 1) (hval 1 22 v1 rfl rfl) h1
  obtain ⟨A2, n2, x2, c2, rfl, l2, m2, s2, t2⟩ := We.open_fb Try.underlying23 Try.underlying4 (by kernel_rfl : Try.prog.cellsOf 4 = 1) (hval 2 23 v2 rfl rfl) h2
  clear hA0 hval0
  refine (walk A0 n0 x0 c0 l0 m0 f0 A1 n1 x1 c1 l1 m1 f1 A2 n2 x2 c2 l2 m2 W s0 s1 s2).mono fun e W' ⟨he, hg⟩ => ?_
  subst he
  exact ⟨_, rfl, Cl.post_below (pv := []) hW' (fun _ _ _ => (trodAll_cons_mk (shut_bool Try.underlying4 _) trodAll_mk0)) (fun sp hsp => (trodAll_cons_mk (t0 W' hg sp (fun q hq => hsp q (by simp [hq]))) (trodAll_cons_mk (t1 W' hg sp (fun q hq => hsp q (by simp [hq]))) (trodAll_cons_mk (t2 W' hg sp (fun q hq => hsp q (by simp [hq]))) trodAll_mk0)))) (fun _ _ => rfl) rfl
    hg (ok_one (by kernel_rfl) rfl (okWide_bool_mk Try.underlying4 _))⟩

theorem over : Rows.wearPicksRow.holds Try.pinned (OpenSpec.ofChange Rows.wearPicksSpec) :=
  OpenClaim.holds_of_wide 3 Try.f3 rfl rfl rfl rfl rfl rfl rfl ⟨rfl, rfl, rfl, rfl, rfl⟩ rfl rfl rfl rfl rfl (by kernel_rfl) Try.func3 (by kernel_rfl)
    (of_decide_eq_true (by kernel_rfl)) (by unfold Func.isWrapper; first | (rw [if_pos (by decide +kernel)]; kernel_rfl) | (rw [if_neg (by decide +kernel)]; exact ⟨rfl, rfl⟩))
    (fun os started H enc _ => lifted os started H enc)

/-- THE STATEMENT -/
theorem proved : Rows.WearPicksSaid := over
end Go.Proofs.Ytoldfgnnmfaihaa.wearPicks
