/- Statement CellsMove: for all symbols, every cell and every move the law returns true. -/
import Derived.Test.YtedpbidijgjkeaaYm
import Derived.Test.YtedpbidijgjkeaaRows
import Derived.Test.YtedpbidijgjkeaaArr
import Derived.Test.YtedpbidijgjkeaaSq
namespace Go.Proofs.Ytedpbidijgjkeaa
open Go.RowKit Go.Gf Go.Fl
set_option linter.unusedVariables false
set_option linter.unusedSimpArgs false
theorem i8_rg {a : Int} (h : (Lit.int .i8 a).wf = true) : -128 ≤ a ∧ a ≤ 127 := by
  simp [Lit.wf, IntKind.min, IntKind.max, IntKind.signed, IntKind.bits] at h; omega
theorem u8_rg {a : Int} (h : (Lit.int .u8 a).wf = true) : 0 ≤ a ∧ a ≤ 255 := by
  simp [Lit.wf, IntKind.min, IntKind.max, IntKind.signed, IntKind.bits] at h; omega
theorem move_row (A0 : Option Addr) (xs : List Nat) (c0 : Nat) (l0 : xs.length ≤ c0) (m0 : c0 ≤ maxLen) (i0 : Int) (w0 : (Lit.int .u8 i0).wf = true) (b0 b1 : Int) (w1 : (Lit.int .i8 b0).wf = true) (w2 : (Lit.int .i8 b1).wf = true) (w : World) (s0 : Sl w w.heap.size A0 xs) :
    Calls Try.prog 4 #[.slice A0 xs.length c0, .int .u8 i0, .agg #[.int .i8 b0, .int .i8 b1]] w (Ans w (.bool true)) := move_law A0 xs c0 l0 m0 i0 (u8_rg w0) b0 b1 (i8_rg w1) (i8_rg w2) w s0
end Go.Proofs.Ytedpbidijgjkeaa

namespace Go.Proofs.Ytedpbidijgjkeaa.cellsMove
open Go.ChangeShapes Go.WideShapes Go.ChangeAt Go.RowKit Go.Gf
set_option linter.unusedVariables false

theorem own : ownKnob Try.prog.godebug = none := by kernel_rfl

theorem walk (A0 : Option Addr) (x0 : List Nat) (c0 : Nat) (l0 : x0.length ≤ c0) (m0 : c0 ≤ maxLen) (a1 : Int) (w1 : (Lit.int .u8 a1).wf = true) (a2 b2 : Int) (w2 : (Lit.int .i8 a2).wf = true) (x2 : (Lit.int .i8 b2).wf = true) (w : World) (s0 : Sl w w.heap.size A0 x0) :
    Calls Try.prog 4 #[.slice A0 x0.length c0, .int .u8 a1, .agg #[.int .i8 a2, .int .i8 b2]] w fun e w' => e = .returned (.bool true) ∧ Below w.heap.size w w' := move_row A0 x0 c0 l0 m0 a1 w1 a2 b2 w2 x2 w s0

set_option maxRecDepth 100000 in
theorem lifted (os : Os) (started : os.Started) (H : Type) (enc : TypeId × Value → H) :
    ReturnsInHanded {} Try.checked os 4 .any (Rows.cellsMoveSpec.pre6 enc Try.prog Try.f4 Rows.cellsMoveRow.domain false) (Rows.cellsMoveSpec.post enc Try.prog Try.f4 false true false false) := by
  refine returnsInHanded_of_change (C := Try.checked) own started (by kernel_rfl) Try.func4
    (ChangeSpec.witness6 (enc := enc) (C := Try.checked) false ⟨#[], #[.slice none 0 0, .int .u8 0, .agg #[.int .i8 0, .int .i8 0]], []⟩ 8 (by kernel_rfl) (by kernel_rfl) (by kernel_rfl) (by kernel_rfl)) ?_
  intro W base args ds gs before hval0 hW hcnd _
  have hval : ∀ (j : Nat) t v, Try.f4.params[j]? = some t → args[j]? = some v → Value.okWide Try.prog W .any base t v := hval0
  have hW' := hW
  obtain ⟨p, q, hA0, hV, rfl, hfz, hnd⟩ := hW
  have hA : DataW.TrodAll enc Try.prog W 0 (fun _ => true) true Try.f4.params.toList args.toList ds p := hA0
  rw [Try.params4] at hA hval
  obtain ⟨v0, vs0, d0, ds0, p0, q0, hargs, rfl, rfl, h0, r0⟩ := trodAll_cons hA
  obtain ⟨v1, vs1, d1, ds1, p1, q1, rfl, rfl, rfl, h1, r1⟩ := trodAll_cons r0
  obtain ⟨v2, vs2, d2, ds2, p2, q2, rfl, rfl, rfl, h2, r2⟩ := trodAll_cons r1
  obtain ⟨rfl, rfl, rfl⟩ := trodAll_nil r2
  obtain rfl : args = #[v0, v1, v2] := by cases args; simp_all
  obtain ⟨rfl, rfl⟩ := trodVars_none hV
  obtain ⟨A0, x0, c0, rfl, l0, m0, s0, t0⟩ := open_sl Try.underlying28 Try.underlying27 (by kernel_rfl : Try.prog.cellsOf 27 = 1) (hval 0 28 v0 rfl rfl) h0
  obtain ⟨a1, rfl, rfl, rfl, w1⟩ := open_int Try.underlying5 (hval 1 5 v1 rfl rfl) h1
  obtain ⟨a2, b2, rfl, rfl, rfl, w2, x2⟩ := open_arr2 Try.underlying37 Try.underlying36 (by kernel_rfl : Try.prog.cellsOf 37 = 2) (by kernel_rfl : Try.prog.cellsOf 36 = 1) (hval 2 37 v2 rfl rfl) h2
  clear hA0 hval0
  refine (walk A0 x0 c0 l0 m0 a1 w1 a2 b2 w2 x2 W s0).mono fun e W' ⟨he, hg⟩ => ?_
  subst he
  exact ⟨_, rfl, Cl.post_below (pv := []) hW' (fun _ _ _ => (trodAll_cons_mk (shut_bool Try.underlying4 _) trodAll_mk0)) (fun sp hsp => (trodAll_cons_mk (t0 W' hg sp (fun q hq => hsp q (by simp [hq]))) (trodAll_cons_mk (shut_int Try.underlying5 w1) (trodAll_cons_mk (shut_arr2 Try.underlying37 Try.underlying36 (by kernel_rfl : Try.prog.cellsOf 37 = 2) (by kernel_rfl : Try.prog.cellsOf 36 = 1) w2 x2) trodAll_mk0)))) (fun _ _ => rfl) rfl
    hg (ok_one (by kernel_rfl) rfl (okWide_bool_mk Try.underlying4 _))⟩

theorem over : Rows.cellsMoveRow.holds Try.pinned (OpenSpec.ofChange Rows.cellsMoveSpec) :=
  OpenClaim.holds_of_wide 4 Try.f4 rfl rfl rfl rfl rfl rfl rfl ⟨rfl, rfl, rfl, rfl, rfl⟩ rfl rfl rfl rfl rfl (by kernel_rfl) Try.func4 (by kernel_rfl)
    (of_decide_eq_true (by kernel_rfl)) (by unfold Func.isWrapper; first | (rw [if_pos (by decide +kernel)]; kernel_rfl) | (rw [if_neg (by decide +kernel)]; exact ⟨rfl, rfl⟩))
    (fun os started H enc _ => lifted os started H enc)

/-- THE STATEMENT -/
theorem proved : Rows.CellsMoveSaid := over
end Go.Proofs.Ytedpbidijgjkeaa.cellsMove
