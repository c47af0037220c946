/- Yards: awake of law 16. -/
import Derived.Test.YtnhkagkgmgpjeaaYdc
namespace Go.Proofs.Ytnhkagkgmgpjeaa.Yd
open Go.RowKit
set_option linter.unusedVariables false
set_option linter.unusedSimpArgs false
set_option maxHeartbeats 2000000 in
theorem awake_any {Y : World → Nat → Nat → Nat → Nat → (Nat → Int) → (Nat → Int) → Prop} (C : YC Y) (w : World) : Calls Try.prog 8 #[] w (We.Ans w (.bool true)) := by
  have h1 := Lib.hid (new_lit C w 4 4 (by decide))
  obtain ⟨s1, hs1⟩ : ∃ s, lay (fun _ => 1) 0 2 = s := ⟨_, rfl⟩
  have n1 := Lib.hid (show turnB 4 (fun _ => 1) 0 3 = false by decide +kernel)
  have n2 := Lib.hid (show turnB 4 (fun _ => 1) 0 2 = true by decide +kernel)
  have f1 := Lib.hid (turnF_stay n1.out)
  have f2 := turnF_go n2.out
  rw [hs1] at f2
  have n3 := Lib.hid (show pk 4 s1 (fun _ => 0) = some 1 by rw [← hs1]; decide +kernel)
  have n4 := Lib.hid (show at_ 4 s1 0 = 2 by rw [← hs1]; decide +kernel)
  have n5 := Lib.hid (show ((nb (isS s1 1) 4 : Nat) : Int) = 3 by rw [← hs1]; decide +kernel)
  replace f2 := Lib.hid f2
  clear hs1
  have hp : pkV (some 1) = .tuple #[.int .i64 1, .bool true] := rfl
  replace hp := Lib.hid hp
  have C' := Lib.hid C
  go_enter Try.func8, Try.ntmps8
  go_wp2_with (go_at_call 9; (with_reducible refine h1.out.mono ?_); clear h1; rintro e w1 ⟨G, rfl, hB, y1⟩; replace hB := Lib.hid hB; replace y1 := Lib.hid y1)
  have hc := Lib.hid (turn_lit C'.out hB.out (Nat.le_refl _) y1.out 0 3 false n1.out _ f1.out)
  go_wp2_with (go_at_call 12; (with_reducible refine hc.out.mono ?_); clear hc; rintro e w2 ⟨rfl, hB2, y2⟩; replace hB2 := Lib.hid hB2; replace y2 := Lib.hid y2)
  have hc := Lib.hid (turn_lit C'.out hB2.out (Nat.le_refl _) y2.out 0 2 true n2.out s1 f2.out)
  go_wp2_with (go_at_call 12; (with_reducible refine hc.out.mono ?_); clear hc; rintro e w3 ⟨rfl, hB3, y3⟩; replace hB3 := Lib.hid hB3; replace y3 := Lib.hid y3)
  have hc := Lib.hid (pick_lit C'.out hB3.out y3.out (some 1) n3.out)
  rw [hp.out] at hc
  go_wp2_with (go_at_call 15; (with_reducible refine hc.out.mono ?_); clear hc; rintro e w4 ⟨rfl, hB4, y4⟩; replace hB4 := Lib.hid hB4; replace y4 := Lib.hid y4)
  have hc := Lib.hid (state_lit C'.out hB4.out y4.out 0 2 n4.out)
  go_wp2_with (go_at_call 13; (with_reducible refine hc.out.mono ?_); clear hc; rintro e w5 ⟨rfl, hB5, y5⟩; replace hB5 := Lib.hid hB5; replace y5 := Lib.hid y5)
  have hc := Lib.hid (count_lit C'.out hB5.out y5.out 1 3 n5.out)
  go_wp2_with (go_at_call 18; (with_reducible refine hc.out.mono ?_); clear hc; rintro e w6 ⟨rfl, hB6, y6⟩; replace hB6 := Lib.hid hB6; replace y6 := Lib.hid y6)
  go_ret
  exact ⟨rfl, hB6.out⟩
end Go.Proofs.Ytnhkagkgmgpjeaa.Yd
