/- The device: what each operation makes, case by case. -/
import Derived.Test.YtnndhbppgmnefaaDq
namespace Go.Proofs.Ytnndhbppgmnefaa
open Go.RowKit
set_option linter.unusedVariables false
set_option linter.unusedSimpArgs false
section
variable {M : Dev} {b p : Nat} {xs : List Nat}
theorem st_dark (hd : M.dark = true) (k : Int) : stepD M k b p xs = (8, M) := by unfold stepD; rw [if_pos hd]
theorem sn_dark (hd : M.dark = true) : stepN M = (8, M) := by unfold stepN; rw [if_pos hd]
theorem sn_no (hd : M.dark = false) : stepN M = (1, { M with ops := M.ops + 1, rf := M.rf + 1 }) := by unfold stepN; rw [if_neg (by rw [hd]; simp)]
theorem st_err {k E : Int} (hd : M.dark = false) (he : faultE M k b p = E) (hE : E ≠ 0) {r : Bool} (hr : refB E = r) : stepD M k b p xs = (E, if r = true then { M with ops := M.ops + 1, rf := M.rf + 1 } else { M with ops := M.ops + 1 }) := by
  unfold stepD opR
  rw [if_neg (by rw [hd]; simp), he, if_neg hE, hr]
theorem st_ok {k : Int} (hd : M.dark = false) (he : faultE M k b p = 0) (h2 : (fateOf M).2.1 ≠ 2) : stepD M k b p xs = carryR { M with ops := M.ops + 1 } k b p xs (fateOf M) := by
  unfold stepD opR
  rw [if_neg (by rw [hd]; simp), he, if_pos rfl, if_neg h2]
theorem st_cut {k : Int} (hd : M.dark = false) (he : faultE M k b p = 0) (h2 : (fateOf M).2.1 = 2) : stepD M k b p xs = (8, { (carryR { M with ops := M.ops + 1 } k b p xs (fateOf M)).2 with dark := true }) := by
  unfold stepD opR
  rw [if_neg (by rw [hd]; simp), he, if_pos rfl, if_pos h2]
theorem st_prog_err {E : Int} (hd : M.dark = false) (he : progE M b p = E) (hE : E ≠ 0) {r : Bool} (hr : refB E = r) : stepD M 2 b p xs = (E, if r = true then { M with ops := M.ops + 1, rf := M.rf + 1 } else { M with ops := M.ops + 1 }) := st_err (k := 2) hd (show faultE M 2 b p = E from he) hE hr
theorem st_erase_err {E : Int} (hd : M.dark = false) (he : erasE M b = E) (hE : E ≠ 0) {r : Bool} (hr : refB E = r) : stepD M 3 b 0 [] = (E, if r = true then { M with ops := M.ops + 1, rf := M.rf + 1 } else { M with ops := M.ops + 1 }) := st_err (k := 3) hd (show faultE M 3 b 0 = E from he) hE hr
theorem fault_prog : faultE M 2 b p = progE M b p := rfl
theorem fault_erase : faultE M 3 b p = erasE M b := rfl
theorem fault_sense : faultE M 1 b p = 0 := rfl
theorem fault_mark : faultE M 4 b p = 0 := rfl
theorem fault_marked : faultE M 5 b p = 0 := rfl
theorem st_prog (hd : M.dark = false) (he : progE M b p = 0) (h1 : (fateOf M).2.1 ≠ 1) (h2 : (fateOf M).2.1 ≠ 2) : stepD M 2 b p xs = (0, { M with ops := M.ops + 1, pg := setPg M.pg b p (progPg (M.pg b p) xs M.n) }) := by
  rw [st_ok (k := 2) hd (show faultE M 2 b p = 0 from he) h2]
  show ((progEv (fateOf M), _) : Int × Dev) = _
  unfold progEv keepP
  rw [if_neg h1, if_neg h1, if_neg h2]
  rfl
theorem st_prog_fail (hd : M.dark = false) (he : progE M b p = 0) (h1 : (fateOf M).2.1 = 1) : stepD M 2 b p xs = (6, { M with ops := M.ops + 1, pg := setPg M.pg b p (progPg (M.pg b p) xs (min (fateOf M).2.2 ((M.n : Int) - (9 * M.W : Nat)))) }) := by
  rw [st_ok (k := 2) hd (show faultE M 2 b p = 0 from he) (by rw [h1]; decide)]
  show ((progEv (fateOf M), _) : Int × Dev) = _
  unfold progEv keepP
  rw [if_pos h1, if_pos h1]
  rfl
theorem st_prog_cut (hd : M.dark = false) (he : progE M b p = 0) (h2 : (fateOf M).2.1 = 2) : stepD M 2 b p xs = (8, { M with ops := M.ops + 1, pg := setPg M.pg b p (progPg (M.pg b p) xs (fateOf M).2.2), dark := true }) := by
  rw [st_cut (k := 2) hd (show faultE M 2 b p = 0 from he) h2]
  have e : keepP M.n (9 * M.W) (fateOf M) = (fateOf M).2.2 := by unfold keepP; rw [if_neg (by rw [h2]; decide), if_pos h2]
  show ((8, { M with ops := M.ops + 1, pg := setPg M.pg b p (progPg (M.pg b p) xs (keepP M.n (9 * M.W) (fateOf M))), dark := true }) : Int × Dev) = _
  rw [e]
theorem st_erase (hd : M.dark = false) (he : erasE M b = 0) (h1 : (fateOf M).2.1 ≠ 1) (h2 : (fateOf M).2.1 ≠ 2) : stepD M 3 b 0 [] = (0, { wiped M b M.P with ops := M.ops + 1, er := putB M.er b (M.er b + 1) }) := by
  rw [st_ok (k := 3) hd (show faultE M 3 b 0 = 0 from he) h2]
  show erasR _ b (fateOf M) = _
  unfold erasR
  rw [if_neg h1, if_neg h2]
  rfl
theorem st_erase_fail (hd : M.dark = false) (he : erasE M b = 0) (h1 : (fateOf M).2.1 = 1) : stepD M 3 b 0 [] = (7, { M with ops := M.ops + 1, bk := putB M.bk b true }) := by
  rw [st_ok (k := 3) hd (show faultE M 3 b 0 = 0 from he) (by rw [h1]; decide)]
  show erasR _ b (fateOf M) = _
  unfold erasR
  rw [if_pos h1]
theorem st_sense (hd : M.dark = false) (h2 : (fateOf M).2.1 ≠ 2) : stepD M 1 b p [] = (0, { M with ops := M.ops + 1 }) := by rw [st_ok hd rfl h2]; rfl
theorem st_sense_cut (hd : M.dark = false) (h2 : (fateOf M).2.1 = 2) : stepD M 1 b p [] = (8, { M with ops := M.ops + 1, dark := true }) := by rw [st_cut hd rfl h2]; rfl
theorem st_marked (hd : M.dark = false) (h2 : (fateOf M).2.1 ≠ 2) : stepD M 5 b 0 [] = (0, { M with ops := M.ops + 1 }) := by rw [st_ok hd rfl h2]; rfl
theorem st_mark (hd : M.dark = false) (h2 : (fateOf M).2.1 ≠ 2) : stepD M 4 b 0 [] = (0, { M with ops := M.ops + 1, md := putB M.md b true }) := by
  rw [st_ok hd rfl h2]
  show ((0, if (fateOf M).2.1 = 2 then _ else _) : Int × Dev) = _
  rw [if_neg h2]
theorem progE_ok (h1 : M.md b = false) (h2 : nextB M b p = true) (h3 : M.bk b = false) : progE M b p = 0 := by
  unfold progE
  rw [h1, h2, h3]
  rfl
theorem progE_md (h1 : M.md b = true) : progE M b p = 9 := by unfold progE; rw [if_pos h1]
theorem progE_next (h1 : M.md b = false) (h2 : nextB M b p = false) : progE M b p = 5 := by
  unfold progE
  rw [h1, h2]
  rfl
theorem erasE_ok (h1 : M.md b = false) (h3 : M.bk b = false) : erasE M b = 0 := by unfold erasE; rw [h1, h3]; rfl
theorem erasE_md (h1 : M.md b = true) : erasE M b = 9 := by unfold erasE; rw [if_pos h1]
theorem erasE_bk (h1 : M.md b = false) (h3 : M.bk b = true) : erasE M b = 7 := by unfold erasE; rw [h1, h3]; rfl
theorem nextB_yes (h : ∀ j, j < M.P → p ≤ j → (M.pg b j).st = 0) (h2 : p = 0 ∨ (M.pg b (p - 1)).st ≠ 0) : nextB M b p = true := by
  unfold nextB
  rw [blankFrom_yes h]
  simpa using h2
theorem nextB_used {j : Nat} (hj : j < M.P) (hp : p ≤ j) (h : (M.pg b j).st ≠ 0) : nextB M b p = false := by
  unfold nextB
  rw [blankFrom_no hj hp h]
  rfl
theorem nextB_gap (hp : p ≠ 0) (h : (M.pg b (p - 1)).st = 0) : nextB M b p = false := by
  unfold nextB
  rw [decide_eq_false hp, decide_eq_false (by rw [h]; simp)]
  simp
theorem fateOf_nil (h : M.ft = []) : fateOf M = (0, 0, 0) := by unfold fateOf; rw [h]; rfl
end
end Go.Proofs.Ytnndhbppgmnefaa
