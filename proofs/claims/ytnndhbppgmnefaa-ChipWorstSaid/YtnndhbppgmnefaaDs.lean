/- The device: what each operation makes, case by case. -/
import Derived.Test.YtnndhbppgmnefaaDq
namespace Go.Proofs.Ytnndhbppgmnefaa
open Go.RowKit
set_option linter.unusedVariables false
set_option linter.unusedSimpArgs false
section
variable {M : Dev} {b p : Nat} {xs : List Nat}
theorem st_dark (hd : M.dark = true) (k : Int) : stepD M k b p xs = (8, M) := by unfold stepD; rw [if_pos hd]
theorem sn_dark (hd : M.dark = true) : stepN M = (8, M) := by unfold stepN; rw [if_pos hd]
theorem sn_no (hd : M.dark = false) : stepN M = (1, { M with ops := M.ops + 1, rf := M.rf + 1 }) := by unfold stepN; rw [if_neg (by rw [hd]; simp)]
theorem st_err {k E : Int} (hd : M.dark = false) (he : faultE M k b p = E) (hE : E ≠ 0) {r : Bool} (hr : refB E = r) : stepD M k b p xs = (E, if r = true then { M with ops := M.ops + 1, rf := M.rf + 1 } else { M with ops := M.ops + 1 }) := by
  unfold stepD opR
  rw [if_neg (by rw [hd]; simp), he, if_neg hE, hr]
theorem st_ok {k : Int} (hd : M.dark = false) (he : faultE M k b p = 0) (h2 : (fateOf M).2.1 ≠ 2) : stepD M k b p xs = carryR { M with ops := M.ops + 1 } k b p xs (fateOf M) := by
  unfold stepD opR
  rw [if_neg (by rw [hd]; simp), he, if_pos rfl, if_neg h2]
theorem st_cut {k : Int} (hd : M.dark = false) (he : faultE M k b p = 0) (h2 : (fateOf M).2.1 = 2) : stepD M k b p xs = (8, { (carryR { M with ops := M.ops + 1 } k b p xs (fateOf M)).2 with dark := true }) := by
  unfold stepD opR
  rw [if_neg (by rw [hd]; simp), he, if_pos rfl, if_pos h2]
theorem st_prog_err {E : Int} (hd : M.dark = false) (he : progE M b p = E) (hE : E ≠ 0) {r : Bool} (hr : refB E = r) : stepD M 2 b p xs = (E, if r = true then { M with ops := M.ops + 1, rf := M.rf + 1 } else { M with ops := M.ops + 1 }) := st_err (k := 2) hd (show faultE M 2 b p = E from he) hE hr
theorem st_erase_err {E : Int} (hd : M.dark = false) (he : erasE M b = E) (hE : E ≠ 0) {r : Bool} (hr : refB E = r) : stepD M 3 b 0 [] = (E, if r = true then { M with ops := M.ops + 1, rf := M.rf + 1 } else { M with ops := M.ops + 1 }) := st_err (k := 3) hd (show faultE M 3 b 0 = E from he) hE hr
theorem fault_prog : faultE M 2 b p = progE M b p := rfl
theorem fault_erase : faultE M 3 b p = erasE M b := rfl
theorem fault_sense : faultE M 1 b p = 0 := rfl
theorem fault_mark : faultE M 4 b p = 0 := rfl
theorem fault_marked : faultE M 5 b p = 0 := rfl
theorem st_prog (hd : M.dark = false) (he : progE M b p = 0) (h1 : (fateOf M).2.1 ≠ 1) (h2 : (fateOf M).2.1 ≠ 2) : stepD M 2 b p xs = (0, { M with ops := M.ops + 1, pg := setPg M.pg b p (progPg (M.pg b p) xs M.n) }) := by
  rw [st_ok (k := 2) hd (show faultE M 2 b p = 0 from he) h2]
  show ((progEv (fateOf M), _) : Int × Dev) = _
  unfold progEv keepP
  rw [if_neg h1, if_neg h1, if_neg h2]
  rfl
theorem st_prog_fail (hd : M.dark = false) (he : progE M b p = 0) (h1 : (fateOf M).2.1 = 1) : stepD M 2 b p xs = (6, { M with ops := M.ops + 1, pg := setPg M.pg b p (progPg (M.pg b p) xs (min (fateOf M).2.2 ((M.n : Int) - (9 * M.W : Nat)))) }) := by
  rw [st_ok (k := 2) hd (show faultE M 2 b p = 0 from he) (by rw [h1]; decide)]
  show ((progEv (fateOf M), _) : Int × Dev) = _
  unfold progEv keepP
  rw [if_pos h1, if_pos h1]
  rfl
theorem st_prog_cut (hd : M.dark = false) (he : progE M b p = 0) (h2 : (fateOf M).2.1 = 2) : stepD M 2 b p xs = (8, { M with ops := M.ops + 1, pg := setPg M.pg b p (progPg (M.pg b p) xs (fateOf M).2.2), dark := true }) := by
  rw [st_cut (k := 2) hd (show faultE M 2 b p = 0 from he) h2]
  have e : keepP M.n (9 * M.W) (fateOf M) = (fateOf M).2.2 := by unfold keepP; rw [if_neg (by rw [h2]; decide), if_pos h2]
  show ((8, { M with ops := M.ops + 1, pg := setPg M.pg b p (progPg (M.pg b p) xs (keepP M.n (9 * M.W) (fateOf M))), dark := true }) : Int × Dev) = _
  rw [e]
theorem st_erase (hd : M.dark = false) (he : erasE M b = 0) (h1 : (fateOf M).2.1 ≠ 1) (h2 : (fateOf M).2.1 ≠ 2) : stepD M 3 b 0 [] = (0, { wiped M b M.P with ops := M.ops + 1, er := putB M.er b (M.er b + 1) }) := by
  rw [st_ok (k := 3) hd (show faultE M 3 b 0 = 0 from he) h2]
  show erasR _ b (fateOf M) = _
  unfold erasR
  rw [if_neg h1, if_neg h2]
  rfl
theorem st_erase_fail (hd : M.dark = false) (he : erasE M b = 0) (h1 : (fateOf M).2.1 = 1) : stepD M 3 b 0 [] = (7, { M with ops := M.ops + 1, bk := putB M.bk b true }) := by
  rw [st_ok (k := 3) hd (show faultE M 3 b 0 = 0 from he) (by rw [h1]; decide)]
  show erasR _ b (fateOf M) = _
  unfold erasR
  rw [if_pos h1]
theorem st_sense (hd : M.dark = false) (h2 : (fateOf M).2.1 ≠ 2) : stepD M 1 b p [] = (0, { M with ops := M.ops + 1 }) := by rw [st_ok hd rfl h2]; rfl
theorem st_sense_cut (hd : M.dark = false) (h2 : (fateOf M).2.1 = 2) : stepD M 1 b p [] = (8, { M with ops := M.ops + 1, dark := true }) := by rw [st_cut hd rfl h2]; rfl
theorem st_marked (hd : M.dark = false) (h2 : (fateOf M).2.1 ≠ 2) : stepD M 5 b 0 [] = (0, { M with ops := M.ops + 1 }) := by rw [st_ok hd rfl h2]; rfl
theorem st_mark (hd : M.dark = false) (h2 : (fateOf M).2.1 ≠ 2) : stepD M 4 b 0 [] = (0, { M with ops := M.ops + 1, md := putB M.md b true }) := by
  rw [st_ok hd rfl h2]
  show ((0, if (fateOf M).2.1 = 2 then _ else _) : Int × Dev) = _
  rw [if_neg h2]
theorem progE_ok (h1 : M.md b = false) (h2 : nextB M b p = true) (h3 : M.bk b = false) : progE M b p = 0 := by
  unfold progE
  rw [h1, h2, h3]
  rfl
theorem progE_md (h1 : M.md b = true) : progE M b p = 9 := by unfold progE; rw [if_pos h1]
theorem progE_next (h1 : M.md b = false) (h2 : nextB M b p = false) : progE M b p = 5 := by
  unfold progE
  rw [h1, h2]
  rfl
theorem erasE_ok (h1 : M.md b = false) (h3 : M.bk b = false) : erasE M b = 0 := by unfold erasE; rw [h1, h3]; rfl
theorem erasE_md (h1 : M.md b = true) : erasE M b = 9 := by unfold erasE; rw [if_pos h1]
theorem erasE_bk (h1 : M.md b = false) (h3 : M.bk b = true) : erasE M b = 7 := by unfold erasE; rw [h1, h3]; rfl
theorem nextB_yes (h : ∀ j, j < M.P → p ≤ j → (M.pg b j).st = 0) (h2 : p = 0 ∨ (M.pg b (p - 1)).st ≠ 0) : nextB M b p = true := by
  unfold nextB
  rw [blankFrom_yes h]
  simpa using h2
theorem nextB_used {j : Nat} (hj : j < M.P) (hp : p ≤ j) (h : (M.pg b j).st ≠ 0) : nextB M b p = false := by
  unfold nextB
  rw [blankFrom_no hj hp h]
  rfl
theorem nextB_gap (hp : p ≠ 0) (h : (M.pg b (p - 1)).st = 0) : nextB M b p = false := by
  unfold nextB
  rw [decide_eq_false hp, decide_eq_false (by rw [h]; simp)]
  simp
theorem fateOf_nil (h : M.ft = []) : fateOf M = (0, 0, 0) := by unfold fateOf; rw [h]; rfl
end
end Go.Proofs.Ytnndhbppgmnefaa
/- The awake of chapter 10. -/
namespace Go.Proofs.Ytnndhbppgmnefaa
open Go.RowKit Go.Fl
set_option linter.unusedVariables false
set_option linter.unusedSimpArgs false
def z25 : List Nat := List.replicate 25 0
theorem z25_len : z25.length = 25 := List.length_replicate
theorem z25_lt : ∀ x ∈ z25, x < 1024 := fun x hx => by rw [List.eq_of_mem_replicate hx]; decide
theorem make25 (w : World) : (Instr.makeSlice 33 (.int .i64 25) (.int .i64 25)).run Try.prog w = .ok (.slice (some ⟨w.heap.size, 0, none⟩) 25 25) (w.alloc (.cells (z25.map uv).toArray 54)) := run_make33 w 25 (by decide)
def aw0 : Dev := freshD 4 2 1 9 (marksOf [3] 1) []
def aw1 : Dev := { aw0 with ops := 1, rf := 1 }
def aw2 : Dev := { aw1 with ops := 2, pg := setPg aw1.pg 0 0 (progPg (aw1.pg 0 0) z25 aw1.n) }
def aw3 : Dev := { aw2 with ops := 3 }
theorem ints_one (w : World) (n : Nat) : Ints (w.alloc (.cells #[.int .i64 (n : Int)] 3)) 0 (some ⟨w.heap.size, 0, none⟩) [n] := by
  refine Or.inr ⟨_, rfl, Nat.zero_le _, by rw [World.size_alloc]; exact Nat.lt_succ_self _, fun i hi => ?_⟩
  obtain rfl : i = 0 := by simpa using hi
  rw [add_zero']
  exact cell_new w #[.int .i64 (n : Int)] 3 0
theorem aw_fine (ops rf : Nat) (h1 : ops < 1000000000) (h2 : rf < 1000000000) (M : Dev) (e1 : M.ops = ops) (e2 : M.rf = rf) (e3 : ∀ b, M.er b < 1000000) : Fine M := ⟨by rw [e1]; exact h1, by rw [e2]; exact h2, e3⟩
theorem awm : ∀ b, (if b = 3 then true else false) = marksOf [3] 1 b := fun b => by
  unfold marksOf
  by_cases h : b = 3
  · subst h; rfl
  · rw [if_neg h]
    have : decide (3 = b) = false := decide_eq_false fun e => h e.symm
    simp [this]
theorem aw_1 : stepD aw0 2 0 1 z25 = (5, aw1) := st_prog_err (r := true) rfl (progE_next (by decide) (nextB_gap (by decide) rfl)) (by decide) (by decide)
theorem aw_2 : stepD aw1 2 0 0 z25 = (0, aw2) := st_prog rfl (progE_ok (by decide) (nextB_yes (fun _ _ _ => rfl) (Or.inl rfl)) rfl) (by decide) (by decide)
theorem aw_3 : stepD aw2 5 3 0 [] = (0, aw3) := st_marked rfl (by decide)
set_option maxHeartbeats 2000000 in
theorem awake_any (w : World) : Calls Try.prog 8 #[] w (Ans w (.bool true)) := by
  have hA := below_alloc' w (.cells #[.int .i64 3] 3)
  have hi := ints_one w 3
  have hnew := fun w1 (hb : Below w.heap.size w w1) (h : Ints w1 0 (some ⟨w.heap.size, 0, none⟩) [3]) => e_new (w := w1) 4 2 1 9 (b := 4) (p := 2) (k := 1) (l := 9) rfl rfl rfl rfl (by decide) (n := 1) (c := 1) h rfl (by decide) (by decide) (A2 := none) (ts := []) (n2 := 0) (c2 := 0) (Ft.S3.nil _ _ _) rfl (by decide) (by simp)
  have hn1 := Lib.hid (hnew _ hA hi)
  clear hnew hi
  generalize hw1 : w.alloc (.cells #[.int .i64 3] 3) = w1 at *
  replace hA := Lib.hid hA
  go_enter Try.func8, Try.ntmps8
  go_wp2_with (go_at_call 9; (with_reducible refine hn1.out.mono ?_); rintro e w2 ⟨a, rfl, hb2, hE⟩; have hmk := make25 w2)
  clear hn1 hb2
  obtain ⟨hE2, _, hS2⟩ := hE.syms z25 z25_lt z25_len
  clear hE
  refine (e_program hE2 (M := aw0) ⟨by decide, by decide, fun _ => (by decide : 0 < 1000000)⟩ 0 1 (by decide) (by decide) rfl rfl hS2 rfl aw_1).mono ?_
  rintro e w3 ⟨rfl, hk3, hE3⟩
  replace hE3 := Lib.hid hE3
  have hmk := make25 w3
  clear hE2 hS2 hk3
  go_wp2_with (simp only [hmk])
  obtain ⟨hE4, _, hS4⟩ := hE3.out.syms z25 z25_lt z25_len
  clear hE3
  refine (e_program hE4 ⟨by decide, by decide, fun _ => (by decide : 0 < 1000000)⟩ 0 0 (by decide) (by decide) rfl rfl hS4 rfl aw_2).mono ?_
  rintro e w5 ⟨rfl, hk5, hE5⟩
  replace hE5 := Lib.hid hE5
  clear hE4 hS4 hk5
  go_wp2_with fail
  refine (e_marked hE5.out ⟨by decide, by decide, fun _ => (by decide : 0 < 1000000)⟩ 3 (by decide) rfl aw_3 (v := true) (by decide)).mono ?_
  rintro e w6 ⟨rfl, hk6, hE6⟩
  have ho := Lib.hid (e_ops (r := 3) hE6 rfl)
  replace hE6 := Lib.hid hE6
  clear hE5 hk6
  go_wp2_with (go_at_call 12; (with_reducible refine ho.out.mono ?_); rintro e w7 ⟨rfl, hb7⟩; have hE7 := Lib.hid (hE6.out.below hb7); have hr := Lib.hid (e_refused (r := 1) hE7.out rfl))
  refine hr.out.mono ?_
  rintro e w8 ⟨rfl, hb8⟩
  have hE8 := Lib.hid (hE7.out.below hb8)
  go_wp2_with fail
  go_ret
  exact ⟨rfl, hA.out.trans (hE8.out.low.mono hA.out.size)⟩
end Go.Proofs.Ytnndhbppgmnefaa
