/- Statement ValidPlays: for every input the law returns true and leaves its arguments alone; the variables that the row lists are tied to the program's text. No other condition. -/
import Derived.Test.YtommmppcncgnfaaDoorVlo
import Derived.Test.YtommmppcncgnfaaDoorVlp
import Derived.Test.YtommmppcncgnfaaDoorVlt
import Derived.ProofKit
import Derived.OpenShut
import Derived.SevenTiedAt
import Derived.LaidMore
import Derived.Stop.Joined
import Derived.Test.YtommmppcncgnfaaDoorRows
import Derived.Test.YtommmppcncgnfaaDoorCards
import Derived.Test.YtommmppcncgnfaaDoorTie
namespace Go.Proofs.YtommmppcncgnfaaDoor
open Go.RowKit
set_option linter.unusedVariables false
set_option linter.unusedSimpArgs false
end Go.Proofs.YtommmppcncgnfaaDoor
namespace Go.Proofs.YtommmppcncgnfaaDoor.validPlays
open Go.ChangeShapes Go.WideShapes Go.ChangeAt Go.RowKit
set_option linter.unusedVariables false

theorem own : ownKnob Tryd.prog.godebug = none := by kernel_rfl

theorem walk (a0 : Int) (w0 : (Lit.int .u16 a0).wf = true) (A1 : Option Addr) (n1 : Nat) (x1 : Nat → Int × Int × Int × Bool) (c1 : Nat) (l1 : n1 ≤ c1) (m1 : c1 ≤ maxLen) (w : World) (hTb : Vl.Tb w) (s1 : Vl.DF w w.heap.size A1 n1 x1) :
    Calls Tryd.prog 3 #[.int .u16 a0, .slice A1 n1 c1] w fun e w' => e = .returned (.bool true) ∧ Below w.heap.size w w' := Vl.plays_row a0 w0 A1 n1 x1 c1 l1 m1 w hTb s1

set_option maxRecDepth 100000 in
theorem lifted (os : Os) (started : os.Started) (H : Type) (enc : TypeId × Value → H) :
    ReturnsInHanded {} Tryd.checked os 3 .any (fun w args => (Rows.validPlaysSpec.pre enc Tryd.prog Tryd.f3 [] false w args ∧ laidMetH Tryd.prog Vl.laid1 w) ∧ sizedMet enc Tryd.prog Tryd.f3 (OpenSpec.ofChange Rows.validPlaysSpec) false w args) (Rows.validPlaysSpec.post enc Tryd.prog Tryd.f3 false true false false) := by
  refine returnsInHanded_of_change_and (C := Tryd.checked) (X := fun w _ => laidMetH Tryd.prog Vl.laid1 w) (fun _ _ _ hh h => h.of_heap hh) own started (by kernel_rfl) Tryd.func3
    (ChangeSpec.witness_shaped (enc := enc) (C := Tryd.checked) (os := os) (X := fun w _ => laidMetH Tryd.prog Vl.laid1 w) false (World.doorLaid Tryd.prog 400 os) #[.int .u16 0, .slice none 0 0] 8 rfl (World.shaped_of_RefB (by kernel_rfl) (by kernel_rfl)) (by kernel_rfl) (by kernel_rfl) (by kernel_rfl) (Vl.door_met os _)) ?_
  intro W base args ds gs before hval0 hW _ _ hL _
  have hval : ∀ (j : Nat) t v, Tryd.f3.params[j]? = some t → args[j]? = some v → Value.okWide Tryd.prog W .any base t v := hval0
  have hW' := hW
  obtain ⟨p, q, hA0, hV, rfl, hfz, hnd⟩ := hW
  have hA : DataW.TrodAll enc Tryd.prog W 0 (fun _ => true) true Tryd.f3.params.toList args.toList ds p := hA0
  rw [Tryd.params3] at hA hval
  obtain ⟨v0, vs0, d0, ds0, p0, q0, hargs, rfl, rfl, h0, r0⟩ := trodAll_cons hA
  obtain ⟨v1, vs1, d1, ds1, p1, q1, rfl, rfl, rfl, h1, r1⟩ := trodAll_cons r0
  obtain ⟨rfl, rfl, rfl⟩ := trodAll_nil r1
  obtain rfl : args = #[v0, v1] := by cases args; simp_all
  obtain ⟨rfl, rfl⟩ := trodVars_none hV
  obtain ⟨a0, rfl, rfl, rfl, w0⟩ := open_int Tryd.underlying22 (hval 0 22 v0 rfl rfl) h0
  obtain ⟨A1, n1, x1, c1, rfl, l1, m1, s1, t1⟩ := Vl.open_df Tryd.underlying23 Tryd.underlying29 (by kernel_rfl) (by kernel_rfl : Tryd.prog.cellsOf 29 = 4) Tryd.underlying3 Tryd.underlying3 Tryd.underlying3 Tryd.underlying4 (hval 1 23 v1 rfl rfl) h1
  clear hA0 hval0
  refine (walk a0 w0 A1 n1 x1 c1 l1 m1 W (Vl.tb_of_laid hL) s1).mono fun e W' ⟨he, hg⟩ => ?_
  subst he
  exact ⟨_, rfl, Cl.post_below (pv := []) hW' (fun _ _ _ => (trodAll_cons_mk (shut_bool Tryd.underlying4 _) trodAll_mk0)) (fun sp hsp => (trodAll_cons_mk (shut_int Tryd.underlying22 w0) (trodAll_cons_mk (t1 W' hg sp (fun q hq => hsp q (by simp [hq]))) trodAll_mk0))) (fun _ _ => rfl) rfl
    hg (ok_one (by kernel_rfl) rfl (okWide_bool_mk Tryd.underlying4 _))⟩

theorem over : Rows.validPlaysRow.holds Tryd.pinned (OpenSpec.ofChange Rows.validPlaysSpec) :=
  OpenClaim.holds_of_wide 3 Tryd.f3 rfl rfl rfl rfl rfl rfl rfl ⟨rfl, rfl, rfl, rfl, rfl⟩ rfl rfl rfl rfl rfl (by kernel_rfl) Tryd.func3 (by kernel_rfl)
    (of_decide_eq_true (by kernel_rfl)) (by unfold Func.isWrapper; first | (rw [if_pos (by decide +kernel)]; kernel_rfl) | (rw [if_neg (by decide +kernel)]; exact ⟨rfl, rfl⟩))
    (fun os started H enc _ => lifted os started H enc)

theorem card : Rows.ValidPlaysCardSaid :=
  Claim7.holds_tied_plain_at .later [] [.data] true (true, "720f905313f34f49115395e0b3803214f601294f7c2dfe11de2bf8227e95d1cf") false
    over (fun _ h => by cases h) (by kernel_rfl) (fun _ h => by cases h) validPlays_row_tie rfl ⟨rfl, rfl⟩ (by kernel_rfl) rfl
    (fun f fn hf hfn => by
      obtain rfl : f = 3 := Option.some.inj ((show Tryd.prog.funcNamed "blackboard/blackboardlaw14.ValidPlays" = some 3 by kernel_rfl).symm.trans hf) |>.symm
      obtain rfl : fn = Tryd.f3 := (Option.some.inj (Tryd.func3.symm.trans hfn)).symm
      exact ⟨by kernel_rfl, fun j t ht => by
        rw [Tryd.params3] at ht
        have hm : t ∈ [22, 23] := by simpa using Array.mem_of_getElem? ht
        have hall : ([22, 23].all fun u => !Tryd.prog.wantsStandIn u) = true := by kernel_rfl
        exact (show Tryd.prog.wantsStandIn t = false by simpa using List.all_eq_true.1 hall t hm)⟩)
    (by kernel_rfl)
/-- THE STATEMENT -/
theorem proved : Rows.ValidPlaysCardSaid := card
end Go.Proofs.YtommmppcncgnfaaDoor.validPlays
