/- ValidKnown walked. -/
import Derived.Test.YtommmppcncgnfaaDoorVlg
namespace Go.Proofs.YtommmppcncgnfaaDoor.Vl
open Go.RowKit Go.Bw
set_option linter.unusedVariables false
set_option linter.unusedSimpArgs false
theorem Bt.keeps {g h n q : Nat} {β : Nat → Bool} {w w' : World} (b : Bt w g h n β) (k : Cl.Keeps (fun i => i ≠ q) w w') (hg : g ≠ q) (hh : h ≠ q) : Bt w' g h n β := b.keep (k.block g b.box.lt hg) (k.block h b.row.lt hh)
theorem set_no {g h n : Nat} {β : Nat → Bool} {w0 : World} (w : World) (hB : Below w0.heap.size w0 w) (hh : w0.heap.size ≤ h) (b : Bt w g h n β) (i : Int) (on : Bool) (hr : chg n β i on = false) :
    Calls Tryd.prog 9 #[.pointer (some ⟨g, 0, none⟩), .int .i64 i, .bool on] w fun e w' => e = .returned (.bool false) ∧ Below w0.heap.size w0 w' ∧ Cl.Keeps (fun q => q ≠ h) w w' ∧ Bt w' g h n β := by
  refine (set_any w b i on).mono fun e w' ⟨h1, h2, h3⟩ => ⟨by rw [h1, hr], below_keeps hB hh h2, h2, h3.congr fun j => (upd_same hr j).symm⟩
set_option maxHeartbeats 4000000 in
set_option maxRecDepth 20000 in
theorem known_law (w : World) (hTb : Tb w) : Calls Tryd.prog 6 #[] w (We.Ans w (.bool true)) := by
  have ha := Lib.hid (awake_any w hTb)
  replace hTb := Lib.hid hTb
  obtain ⟨z0, hz0⟩ : ∃ β : Nat → Bool, Hid ((fun _ => false) = β) := ⟨_, Lib.hid rfl⟩
  obtain ⟨β1, h1⟩ : ∃ β, Hid (upd 130 z0 63 true = β) := ⟨_, Lib.hid rfl⟩
  obtain ⟨β2, h2⟩ : ∃ β, Hid (upd 130 β1 64 true = β) := ⟨_, Lib.hid rfl⟩
  obtain ⟨β3, h3⟩ : ∃ β, Hid (upd 130 β2 129 true = β) := ⟨_, Lib.hid rfl⟩
  have k1 := Lib.hid (show chg 130 z0 63 true = true by rw [← hz0.out]; rfl)
  have k2 := Lib.hid (show chg 130 β1 64 true = true by rw [← h1.out, ← hz0.out]; decide +kernel)
  have k3 := Lib.hid (show chg 130 β2 129 true = true by rw [← h2.out, ← h1.out, ← hz0.out]; decide +kernel)
  have k4 := Lib.hid (show chg 130 β3 130 true = false by rw [← h3.out, ← h2.out, ← h1.out, ← hz0.out]; decide +kernel)
  have k5 := Lib.hid (show chg 130 β3 (-1) true = false by rw [← h3.out, ← h2.out, ← h1.out, ← hz0.out]; decide +kernel)
  have k6 := Lib.hid (show chg 130 β3 64 true = false by rw [← h3.out, ← h2.out, ← h1.out, ← hz0.out]; decide +kernel)
  have k7 := Lib.hid (show chg 0 z0 0 true = false by rw [← hz0.out]; rfl)
  have n1 := Lib.hid (show nxV (nx (frm β3 65) 130) = .tuple #[.int .i64 129, .bool true] by rw [← h3.out, ← h2.out, ← h1.out, ← hz0.out]; kernel_rfl)
  have n2 := Lib.hid (show nxV (nx (frm β3 130) 130) = .tuple #[.int .i64 0, .bool false] by rw [← h3.out, ← h2.out, ← h1.out, ← hz0.out]; kernel_rfl)
  have n3 := Lib.hid (show nxV (nx (frm β3 (-9)) 130) = .tuple #[.int .i64 63, .bool true] by rw [← h3.out, ← h2.out, ← h1.out, ← hz0.out]; kernel_rfl)
  have p1 := Lib.hid (show ((pc (sel β3 63 65) 130 : Nat) : Int) = 2 by rw [← h3.out, ← h2.out, ← h1.out, ← hz0.out]; kernel_rfl)
  have p2 := Lib.hid (show ((pc (sel β3 (-5) 1000) 130 : Nat) : Int) = 3 by rw [← h3.out, ← h2.out, ← h1.out, ← hz0.out]; kernel_rfl)
  have p3 := Lib.hid (show ((pc (sel β3 64 64) 130 : Nat) : Int) = 0 by rw [← h3.out, ← h2.out, ← h1.out, ← hz0.out]; kernel_rfl)
  go_enter Tryd.func6, Tryd.ntmps6
  go_wp2_with (go_at_call 7; (with_reducible refine ha.out.mono ?_); rintro e w1 ⟨rfl, hB1⟩; replace hB1 := Lib.hid hB1)
  go_wp2_with (go_at_call 8; (have hc := Lib.hid (new_any 130 130 (by decide) w1)); (with_reducible refine hc.out.mono ?_); clear hc; rintro e w2 ⟨g, h, rfl, hB2, hg, hh, b2⟩; replace hh := Lib.hid (Nat.le_trans hB1.out.size hh); replace b2 := Lib.hid b2; replace hB2 := Lib.hid (We.below_trans hB1.out hB2); rw [hz0.out] at b2; clear hg)
  go_wp2_with (go_at_call 8; (have hc := Lib.hid (new_any (-5) 0 (by decide) w2)); (with_reducible refine hc.out.mono ?_); clear hc; rintro e w3 ⟨gz, hz, rfl, hB3, hg, hh2, z3⟩; (have q1 := Lib.hid (show gz ≠ h from fun e => by have := b2.out.row.lt; omega)); (have q2 := Lib.hid (show hz ≠ h from fun e => by have := b2.out.row.lt; omega)); have hhz := Lib.hid (Nat.le_trans hB2.out.size hh2); replace z3 := Lib.hid z3; have b3 := Lib.hid (b2.out.below hB3); replace hB3 := Lib.hid (We.below_trans hB2.out hB3); rw [hz0.out] at z3; clear hg hh2 b2 hB2)
  go_wp2_with (go_at_call 9; (have hc := Lib.hid (set_lit w3 hB3.out hh.out b3.out 63 true true k1.out β1 h1.out)); (with_reducible refine hc.out.mono ?_); clear hc; rintro e w4 ⟨rfl, hB4, hK, b4⟩; have z4 := Lib.hid (z3.out.keeps hK q1.out q2.out); replace hB4 := Lib.hid hB4; replace b4 := Lib.hid b4; clear hK b3 z3 hB3)
  go_wp2_with (go_at_call 9; (have hc := Lib.hid (set_lit w4 hB4.out hh.out b4.out 64 true true k2.out β2 h2.out)); (with_reducible refine hc.out.mono ?_); clear hc; rintro e w5 ⟨rfl, hB5, hK, b5⟩; have z5 := Lib.hid (z4.out.keeps hK q1.out q2.out); replace hB5 := Lib.hid hB5; replace b5 := Lib.hid b5; clear hK b4 z4 hB4)
  go_wp2_with (go_at_call 9; (have hc := Lib.hid (set_lit w5 hB5.out hh.out b5.out 129 true true k3.out β3 h3.out)); (with_reducible refine hc.out.mono ?_); clear hc; rintro e w6 ⟨rfl, hB6, hK, b6⟩; have z6 := Lib.hid (z5.out.keeps hK q1.out q2.out); replace hB6 := Lib.hid hB6; replace b6 := Lib.hid b6; clear hK b5 z5 hB5)
  go_wp2_with (go_at_call 9; (have hc := Lib.hid (set_no w6 hB6.out hh.out b6.out 130 true k4.out)); (with_reducible refine hc.out.mono ?_); clear hc; rintro e w7 ⟨rfl, hB7, hK, b7⟩; have z7 := Lib.hid (z6.out.keeps hK q1.out q2.out); replace hB7 := Lib.hid hB7; replace b7 := Lib.hid b7; clear hK b6 z6 hB6)
  go_wp2_with (go_at_call 9; (have hc := Lib.hid (set_no w7 hB7.out hh.out b7.out (-1) true k5.out)); (with_reducible refine hc.out.mono ?_); clear hc; rintro e w8 ⟨rfl, hB8, hK, b8⟩; have z8 := Lib.hid (z7.out.keeps hK q1.out q2.out); replace hB8 := Lib.hid hB8; replace b8 := Lib.hid b8; clear hK b7 z7 hB7)
  go_wp2_with (go_at_call 9; (have hc := Lib.hid (set_no w8 hB8.out hh.out b8.out 64 true k6.out)); (with_reducible refine hc.out.mono ?_); clear hc; rintro e w9 ⟨rfl, hB9, hK, b9⟩; have z9 := Lib.hid (z8.out.keeps hK q1.out q2.out); replace hB9 := Lib.hid hB9; replace b9 := Lib.hid b9; clear hK b8 z8 hB8)
  go_wp2_with (go_at_call 12; (have hc := Lib.hid (next_lit w9 b9.out 65 (by decide) (hTb.out.below hB9.out) 129 true n1.out)); (with_reducible refine hc.out.mono ?_); clear hc; rintro e w10 ⟨rfl, hb⟩; have z10 := Lib.hid (z9.out.below hb); have b10 := Lib.hid (b9.out.below hb); have hB10 := Lib.hid (We.below_trans hB9.out hb); clear hb b9 z9 hB9)
  go_wp2_with (go_at_call 12; (have hc := Lib.hid (next_lit w10 b10.out 130 (by decide) (hTb.out.below hB10.out) 0 false n2.out)); (with_reducible refine hc.out.mono ?_); clear hc; rintro e w11 ⟨rfl, hb⟩; have z11 := Lib.hid (z10.out.below hb); have b11 := Lib.hid (b10.out.below hb); have hB11 := Lib.hid (We.below_trans hB10.out hb); clear hb b10 z10 hB10)
  go_wp2_with (go_at_call 12; (have hc := Lib.hid (next_lit w11 b11.out (-9) (by decide) (hTb.out.below hB11.out) 63 true n3.out)); (with_reducible refine hc.out.mono ?_); clear hc; rintro e w12 ⟨rfl, hb⟩; have z12 := Lib.hid (z11.out.below hb); have b12 := Lib.hid (b11.out.below hb); have hB12 := Lib.hid (We.below_trans hB11.out hb); clear hb b11 z11 hB11)
  go_wp2_with (go_at_call 11; (have hc := Lib.hid (count_lit w12 b12.out 63 65 (by decide) 2 p1.out)); (with_reducible refine hc.out.mono ?_); clear hc; rintro e w20 ⟨rfl, rfl⟩)
  go_wp2_with (go_at_call 11; (have hc := Lib.hid (count_lit w12 b12.out (-5) 1000 (by decide) 3 p2.out)); (with_reducible refine hc.out.mono ?_); clear hc; rintro e w20 ⟨rfl, rfl⟩)
  go_wp2_with (go_at_call 11; (have hc := Lib.hid (count_lit w12 b12.out 64 64 (by decide) 0 p3.out)); (with_reducible refine hc.out.mono ?_); clear hc; rintro e w20 ⟨rfl, rfl⟩)
  go_wp2_with (go_at_call 13; (have hc := Lib.hid (len_any w12 z12.out)); (with_reducible refine hc.out.mono ?_); clear hc; rintro e w20 ⟨rfl, rfl⟩)
  go_wp2_with (go_at_call 9; (have hc := Lib.hid (set_no w12 hB12.out hhz.out z12.out 0 true k7.out)); (with_reducible refine hc.out.mono ?_); clear hc; rintro e w13 ⟨rfl, hB13, hK, z13⟩; replace hB13 := Lib.hid hB13; clear hK b12 z12 hB12 z13)
  go_wp2_with (go_at_call 8; (have hc := Lib.hid (new_any 1048583 1048576 (by decide) w13)); (with_reducible refine hc.out.mono ?_); clear hc; rintro e w14 ⟨gy, hy, rfl, hB14, hg, hh2, y14⟩; replace y14 := Lib.hid y14; replace hB14 := Lib.hid (We.below_trans hB13.out hB14); clear hg hh2)
  go_wp2_with (go_at_call 13; (have hc := Lib.hid (len_any w14 y14.out)); (with_reducible refine hc.out.mono ?_); clear hc; rintro e w20 ⟨rfl, rfl⟩)
  go_ret
  exact ⟨rfl, hB14.out⟩
end Go.Proofs.YtommmppcncgnfaaDoor.Vl
