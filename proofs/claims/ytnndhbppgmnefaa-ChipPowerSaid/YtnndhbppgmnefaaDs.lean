/- The awake of chapter 10. -/
import Derived.Test.YtnndhbppgmnefaaDr
namespace Go.Proofs.Ytnndhbppgmnefaa
open Go.RowKit Go.Fl
set_option linter.unusedVariables false
set_option linter.unusedSimpArgs false
def z25 : List Nat := List.replicate 25 0
theorem z25_len : z25.length = 25 := List.length_replicate
theorem z25_lt : ∀ x ∈ z25, x < 1024 := fun x hx => by rw [List.eq_of_mem_replicate hx]; decide
theorem make25 (w : World) : (Instr.makeSlice 33 (.int .i64 25) (.int .i64 25)).run Try.prog w = .ok (.slice (some ⟨w.heap.size, 0, none⟩) 25 25) (w.alloc (.cells (z25.map uv).toArray 54)) := run_make33 w 25 (by decide)
def aw0 : Dev := freshD 4 2 1 9 (marksOf [3] 1) []
def aw1 : Dev := { aw0 with ops := 1, rf := 1 }
def aw2 : Dev := { aw1 with ops := 2, pg := setPg aw1.pg 0 0 (progPg (aw1.pg 0 0) z25 aw1.n) }
def aw3 : Dev := { aw2 with ops := 3 }
theorem ints_one (w : World) (n : Nat) : Ints (w.alloc (.cells #[.int .i64 (n : Int)] 3)) 0 (some ⟨w.heap.size, 0, none⟩) [n] := by
  refine Or.inr ⟨_, rfl, Nat.zero_le _, by rw [World.size_alloc]; exact Nat.lt_succ_self _, fun i hi => ?_⟩
  obtain rfl : i = 0 := by simpa using hi
  rw [add_zero']
  exact cell_new w #[.int .i64 (n : Int)] 3 0
theorem aw_fine (ops rf : Nat) (h1 : ops < 1000000000) (h2 : rf < 1000000000) (M : Dev) (e1 : M.ops = ops) (e2 : M.rf = rf) (e3 : ∀ b, M.er b < 1000000) : Fine M := ⟨by rw [e1]; exact h1, by rw [e2]; exact h2, e3⟩
theorem awm : ∀ b, (if b = 3 then true else false) = marksOf [3] 1 b := fun b => by
  unfold marksOf
  by_cases h : b = 3
  · subst h; rfl
  · rw [if_neg h]
    have : decide (3 = b) = false := decide_eq_false fun e => h e.symm
    simp [this]
theorem aw_1 : stepD aw0 2 0 1 z25 = (5, aw1) := st_prog_err (r := true) rfl (progE_next (by decide) (nextB_gap (by decide) rfl)) (by decide) (by decide)
theorem aw_2 : stepD aw1 2 0 0 z25 = (0, aw2) := st_prog rfl (progE_ok (by decide) (nextB_yes (fun _ _ _ => rfl) (Or.inl rfl)) rfl) (by decide) (by decide)
theorem aw_3 : stepD aw2 5 3 0 [] = (0, aw3) := st_marked rfl (by decide)
set_option maxHeartbeats 2000000 in
theorem awake_any (w : World) : Calls Try.prog 8 #[] w (Ans w (.bool true)) := by
  have hA := below_alloc' w (.cells #[.int .i64 3] 3)
  have hi := ints_one w 3
  have hnew := fun w1 (hb : Below w.heap.size w w1) (h : Ints w1 0 (some ⟨w.heap.size, 0, none⟩) [3]) => e_new (w := w1) 4 2 1 9 (b := 4) (p := 2) (k := 1) (l := 9) rfl rfl rfl rfl (by decide) (n := 1) (c := 1) h rfl (by decide) (by decide) (A2 := none) (ts := []) (n2 := 0) (c2 := 0) (Ft.S3.nil _ _ _) rfl (by decide) (by simp)
  have hn1 := Lib.hid (hnew _ hA hi)
  clear hnew hi
  generalize hw1 : w.alloc (.cells #[.int .i64 3] 3) = w1 at *
  replace hA := Lib.hid hA
  go_enter Try.func8, Try.ntmps8
  go_wp2_with (go_at_call 9; (with_reducible refine hn1.out.mono ?_); rintro e w2 ⟨a, rfl, hb2, hE⟩; have hmk := make25 w2)
  clear hn1 hb2
  obtain ⟨hE2, _, hS2⟩ := hE.syms z25 z25_lt z25_len
  clear hE
  refine (e_program hE2 (M := aw0) ⟨by decide, by decide, fun _ => (by decide : 0 < 1000000)⟩ 0 1 (by decide) (by decide) rfl rfl hS2 rfl aw_1).mono ?_
  rintro e w3 ⟨rfl, hk3, hE3⟩
  replace hE3 := Lib.hid hE3
  have hmk := make25 w3
  clear hE2 hS2 hk3
  go_wp2_with (simp only [hmk])
  obtain ⟨hE4, _, hS4⟩ := hE3.out.syms z25 z25_lt z25_len
  clear hE3
  refine (e_program hE4 ⟨by decide, by decide, fun _ => (by decide : 0 < 1000000)⟩ 0 0 (by decide) (by decide) rfl rfl hS4 rfl aw_2).mono ?_
  rintro e w5 ⟨rfl, hk5, hE5⟩
  replace hE5 := Lib.hid hE5
  clear hE4 hS4 hk5
  go_wp2_with fail
  refine (e_marked hE5.out ⟨by decide, by decide, fun _ => (by decide : 0 < 1000000)⟩ 3 (by decide) rfl aw_3 (v := true) (by decide)).mono ?_
  rintro e w6 ⟨rfl, hk6, hE6⟩
  have ho := Lib.hid (e_ops (r := 3) hE6 rfl)
  replace hE6 := Lib.hid hE6
  clear hE5 hk6
  go_wp2_with (go_at_call 12; (with_reducible refine ho.out.mono ?_); rintro e w7 ⟨rfl, hb7⟩; have hE7 := Lib.hid (hE6.out.below hb7); have hr := Lib.hid (e_refused (r := 1) hE7.out rfl))
  refine hr.out.mono ?_
  rintro e w8 ⟨rfl, hb8⟩
  have hE8 := Lib.hid (hE7.out.below hb8)
  go_wp2_with fail
  go_ret
  exact ⟨rfl, hA.out.trans (hE8.out.low.mono hA.out.size)⟩
end Go.Proofs.Ytnndhbppgmnefaa
