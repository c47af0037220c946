/- The awake of chapter 8. -/
import Derived.Test.YtedpbidijgjkeaaYb
import Derived.Test.YtedpbidijgjkeaaYc
namespace Go.Proofs.Ytedpbidijgjkeaa
open Go.RowKit Go.Gf Go.Fl
set_option linter.unusedVariables false
set_option linter.unusedSimpArgs false

set_option maxHeartbeats 2000000 in
theorem awake_any (w : World) : Calls Try.prog 7 #[] w (Ans w (.bool true)) := by
  have e1 : progP (List.replicate 2 (0, 0)) [0, 5] 2 = [(-31, -31), (-31, -21)] := by decide +kernel
  have e2 : progS 2 2 = 1 := rfl
  have e3 : movB [(-31, -31), (-31, -21)] 1 0 2 0 = true := by decide +kernel
  have e4 : movP [(-31, -31), (-31, -21)] 0 2 0 = [(-29, -31), (-31, -21)] := by decide +kernel
  have e5 : wrongI [(-29, -31), (-31, -21)] [0, 5] = [0] := by decide +kernel
  go_enter Try.func7, Try.ntmps7
  go_wp2_with fail
  refine (c_new 2 2 rfl (by decide) (fun b => w.heap.size ≤ b) (fun b hb => hb)).mono ?_
  rintro e w1 ⟨p, rfl, hb1, hp1⟩
  replace hb1 := Lib.hid hb1
  replace hp1 := Lib.hid hp1
  go_wp2_with fail
  refine (c_state hp1.out).mono ?_
  rintro e w2 ⟨rfl, hb2⟩
  have hp2 := Lib.hid (hp1.out.below hb2)
  replace hb2 := Lib.hid (hb1.out.trans (hb2.mono hb1.out.size))
  clear hp1
  go_wp2_with fail
  have hA := below_alloc' w2 (.cells #[.int .u16 0, .int .u16 5] 27)
  have hsl : Sl (w2.alloc (.cells #[.int .u16 0, .int .u16 5] 27)) (w2.alloc (.cells #[.int .u16 0, .int .u16 5] 27)).heap.size (some ⟨w2.heap.size, 0, none⟩) [0, 5] := (Arr.new w2 [0, 5]).sl (by decide)
  have hp3 := (hp2.out.only (F' := fun b => w.heap.size ≤ b ∧ b ≠ w2.heap.size) (fun b h1 h2 => ⟨h2, by omega⟩)).below hA
  refine (c_prog hp3 (fun b h => ?_) (n := 2) rfl (Nat.le_refl 2) hsl (fun a e h => ?_) rfl (by decide) (by decide) 2 (by decide)).mono ?_
  · rw [World.size_alloc] at h
    have := hb2.out.size
    omega
  · injection e with e
    subst e
    exact h.2 rfl
  rintro e w3 ⟨rfl, hk3, ss3, hp4, hss⟩
  obtain rfl := hss (by decide)
  rw [e1] at hp4
  have hp4 := Lib.hid (show Page w3 _ p [(-31, -31), (-31, -21)] [0, 5] 1 from hp4)
  have hbA := hb2.out.trans (hA.mono hb2.out.size)
  have hb3 := Lib.hid (Cl.Keeps.low hbA (fun b h => h.1) hk3)
  have hz3 : Hid (w2.heap.size < w3.heap.size) := by
    have := hk3.size
    rw [World.size_alloc] at this
    exact this
  clear hk3 hsl hp3 hp2 hb2 hA hss hbA
  go_wp2_with fail
  refine (c_drift hp4.out (fun b h => ?_) is_two' is_zero' (by decide) (by decide) 0).mono ?_
  · have := hb3.out.size
    have := hz3.out
    omega
  rintro e w4 ⟨rfl, hk4, hp5⟩
  rw [e3, if_pos rfl] at hp5
  rw [e3]
  have hb4 := Lib.hid (Cl.Keeps.low hb3.out (fun b h => h.1) hk4)
  have hp5 := Lib.hid (show Page w4 _ p [(-29, -31), (-31, -21)] [0, 5] 1 from hp5)
  clear hk4 hp4 hb3
  go_wp2_with fail
  refine (c_wrong hp5.out (l := [0]) (n := 1) (by rw [if_pos rfl, e5]) rfl).mono ?_
  rintro e w5 ⟨A, c, rfl, hb, hw⟩
  have hb5 := Lib.hid (hb4.out.trans (hb.mono hb4.out.size))
  have hp6 := Lib.hid (hp5.out.below hb)
  rcases hw with hw | ⟨a, rfl, _, hab, hw⟩
  · cases hw
  have hw5 := Lib.hid (hw 0 (by decide))
  clear hp5 hb4 hb hw
  go_wp2_with fail
  refine (c_sense hp6.out (n := 2) rfl).mono ?_
  rintro e w6 ⟨B, d, rfl, hcd, hb, hpt⟩
  have hb6 := Lib.hid (hb5.out.trans (hb.mono hb5.out.size))
  have hp7 := Lib.hid (hp6.out.below hb)
  have hw6 : w6.cell? (a.add 0) = some (.int .i64 0) := (hb.cell (by rw [add_block]; exact hab)).trans hw5.out
  rcases hpt with hpt | ⟨g, rfl, hg1, hg3, hpt⟩
  · cases hpt
  obtain ⟨x, y, hc, hx, hy⟩ := hpt 0 (by decide)
  have hg2 := hg3.lt
  have o1 : (FloatKind.f64.format.order x 13852228028861513728 == some .eq) = true := by rw [ord_eq_i hx is_m29]; decide
  have o2 : (FloatKind.f64.format.order y 13852790978814935040 == some .eq) = true := by rw [ord_eq_i hy is_m31]; decide
  rw [add_zero'] at hw6
  clear hp6 hb5 hb hw5 hpt hg1 hg3 hab hx hy e1 e2 e3 e4 e5
  go_wp2_with fail
  refine (c_state hp7.out).mono ?_
  rintro e w7 ⟨rfl, hb⟩
  have hb7 := Lib.hid (hb6.out.trans (hb.mono hb6.out.size))
  clear hb hc hw6
  go_wp2_with fail
  go_ret
  exact ⟨rfl, hb7.out⟩
end Go.Proofs.Ytedpbidijgjkeaa
