/- Statement ScanTorn: the law returns true. -/
import Derived.Test.YtjhoecfhmndcgaaGreatV47
import Derived.Test.YtjhoecfhmndcgaaGreatT5x
import Derived.Test.YtjhoecfhmndcgaaGreatWGs
import Derived.ProofKit
import Derived.OpenShut
import Derived.Test.YtjhoecfhmndcgaaGreatRows
namespace Go.Proofs.YtjhoecfhmndcgaaGreat
open Go.RowKit
set_option linter.unusedVariables false
set_option linter.unusedSimpArgs false
end Go.Proofs.YtjhoecfhmndcgaaGreat
namespace Go.Proofs.YtjhoecfhmndcgaaGreat.scanTorn
open Go.ChangeShapes Go.WideShapes Go.ChangeAt Go.RowKit
set_option linter.unusedVariables false

theorem own : ownKnob Tryz.prog.godebug = none := by kernel_rfl

theorem walk (B0 P0 W0 K0 : Int) (wB0 : (Lit.int .i64 B0).wf = true) (wP0 : (Lit.int .i64 P0).wf = true) (wW0 : (Lit.int .i64 W0).wf = true) (wK0 : (Lit.int .i64 K0).wf = true) (A1 : Option Addr) (x1 : List Nat) (c1 : Nat) (l1 : x1.length ≤ c1) (m1 : c1 ≤ maxLen) (a2 : Int) (w2 : (Lit.int .u16 a2).wf = true) (w : World) (s1 : Sb w w.heap.size A1 x1) :
    Calls Tryz.prog 6 #[.agg #[.int .i64 B0, .int .i64 P0, .int .i64 W0, .int .i64 K0], .slice A1 x1.length c1, .int .u16 a2] w fun e w' => e = .returned (.bool true) ∧ Below w.heap.size w w' := (Sc.torn_row Sc.the_scan) B0 P0 W0 K0 wB0 wP0 wW0 wK0 A1 x1 c1 l1 m1 a2 w2 w s1

set_option maxRecDepth 100000 in
theorem lifted (os : Os) (started : os.Started) (H : Type) (enc : TypeId × Value → H) :
    ReturnsInHanded {} Tryz.checked os 6 .any (Rows.scanTornSpec.pre6 enc Tryz.prog Tryz.f6 Rows.scanTornRow.domain false) (Rows.scanTornSpec.post enc Tryz.prog Tryz.f6 false true false false) := by
  refine returnsInHanded_of_change (C := Tryz.checked) own started (by kernel_rfl) Tryz.func6
    (ChangeSpec.witness6 (enc := enc) (C := Tryz.checked) false ⟨#[], #[.agg #[.int .i64 0, .int .i64 0, .int .i64 0, .int .i64 0], .slice none 0 0, .int .u16 0], []⟩ 8 (by kernel_rfl) (by kernel_rfl) (by kernel_rfl) (by kernel_rfl)) ?_
  intro W base args ds gs before hval0 hW hcnd _
  have hval : ∀ (j : Nat) t v, Tryz.f6.params[j]? = some t → args[j]? = some v → Value.okWide Tryz.prog W .any base t v := hval0
  have hW' := hW
  obtain ⟨p, q, hA0, hV, rfl, hfz, hnd⟩ := hW
  have hA : DataW.TrodAll enc Tryz.prog W 0 (fun _ => true) true Tryz.f6.params.toList args.toList ds p := hA0
  rw [Tryz.params6] at hA hval
  obtain ⟨v0, vs0, d0, ds0, p0, q0, hargs, rfl, rfl, h0, r0⟩ := trodAll_cons hA
  obtain ⟨v1, vs1, d1, ds1, p1, q1, rfl, rfl, rfl, h1, r1⟩ := trodAll_cons r0
  obtain ⟨v2, vs2, d2, ds2, p2, q2, rfl, rfl, rfl, h2, r2⟩ := trodAll_cons r1
  obtain ⟨rfl, rfl, rfl⟩ := trodAll_nil r2
  obtain rfl : args = #[v0, v1, v2] := by cases args; simp_all
  obtain ⟨rfl, rfl⟩ := trodVars_none hV
  obtain ⟨B0, P0, W0, K0, rfl, rfl, rfl, wB0, wP0, wW0, wK0⟩ := open_four Tryz.underlying34 (by kernel_rfl) (by kernel_rfl : Tryz.prog.cellsOf 34 = 4) Tryz.underlying3 Tryz.underlying3 Tryz.underlying3 Tryz.underlying3 (hval 0 34 v0 rfl rfl) h0
  obtain ⟨A1, x1, c1, rfl, l1, m1, s1, t1⟩ := open_sb Tryz.underlying44 Tryz.underlying5 (by kernel_rfl : Tryz.prog.cellsOf 5 = 1) (hval 1 44 v1 rfl rfl) h1
  obtain ⟨a2, rfl, rfl, rfl, w2⟩ := open_int Tryz.underlying46 (hval 2 46 v2 rfl rfl) h2
  clear hA0 hval0
  refine (walk B0 P0 W0 K0 wB0 wP0 wW0 wK0 A1 x1 c1 l1 m1 a2 w2 W s1).mono fun e W' ⟨he, hg⟩ => ?_
  subst he
  exact ⟨_, rfl, Cl.post_below (pv := []) hW' (fun _ _ _ => (trodAll_cons_mk (shut_bool Tryz.underlying4 _) trodAll_mk0)) (fun sp hsp => (trodAll_cons_mk (shut_four Tryz.underlying34 (by kernel_rfl) (by kernel_rfl : Tryz.prog.cellsOf 34 = 4) Tryz.underlying3 Tryz.underlying3 Tryz.underlying3 Tryz.underlying3 wB0 wP0 wW0 wK0) (trodAll_cons_mk (t1 W' hg sp (fun q hq => hsp q (by simp [hq]))) (trodAll_cons_mk (shut_int Tryz.underlying46 w2) trodAll_mk0)))) (fun _ _ => rfl) rfl
    hg (ok_one (by kernel_rfl) rfl (okWide_bool_mk Tryz.underlying4 _))⟩

theorem over : Rows.scanTornRow.holds Tryz.pinned (OpenSpec.ofChange Rows.scanTornSpec) :=
  OpenClaim.holds_of_wide 6 Tryz.f6 rfl rfl rfl rfl rfl rfl rfl ⟨rfl, rfl, rfl, rfl, rfl⟩ rfl rfl rfl rfl rfl (by kernel_rfl) Tryz.func6 (by kernel_rfl)
    (of_decide_eq_true (by kernel_rfl)) (by unfold Func.isWrapper; first | (rw [if_pos (by decide +kernel)]; kernel_rfl) | (rw [if_neg (by decide +kernel)]; exact ⟨rfl, rfl⟩))
    (fun os started H enc _ => lifted os started H enc)

/-- THE STATEMENT -/
theorem proved : Rows.ScanTornSaid := over
end Go.Proofs.YtjhoecfhmndcgaaGreat.scanTorn
