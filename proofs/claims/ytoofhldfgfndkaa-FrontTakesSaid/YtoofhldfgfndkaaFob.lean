/- FrontKnown walked, for whatever is a frontier. -/
import Derived.Test.YtoofhldfgfndkaaFoa
namespace Go.Proofs.Ytoofhldfgfndkaa.Fo
open Go.RowKit Go.Proofs.Ytoofhldfgfndkaa.Ge
set_option linter.unusedVariables false
set_option linter.unusedSimpArgs false
set_option maxRecDepth 20000 in
set_option maxHeartbeats 8000000 in
theorem known_law {F : World → Nat → Nat → Nat → Int → Int → Int → Int → Option (Nat × Nat) → Prop} (C : FC F) (w : World) : Calls Try.prog 5 #[] w (We.Ans w (.bool true)) := by
  have h0 := Lib.hid (awake_any C w)
  have hn := Lib.hid (fun w => new_lit C w 4 3 1 9)
  have hm := Lib.hid (fun w => new_lit C w 0 0 0 0)
  have C' := Lib.hid C
  clear C
  go_enter Try.func5, Try.ntmps5
  go_wp2_with (go_at_call 7; (with_reducible refine h0.out.mono ?_); clear h0; rintro e w0 ⟨rfl, hB0⟩; replace hB0 := Lib.hid hB0)
  go_wp2_with (go_at_call 8; (with_reducible refine (hn.out _).mono ?_); clear hn; rintro e w1 ⟨G, rfl, hB, m⟩; have hlo := Lib.hid hB0.out.size; replace hB := Lib.hid (We.below_trans hB0.out hB); replace m := Lib.hid m; clear hB0)
  go_wp2_with (go_at_call 8; (with_reducible refine (hm.out _).mono ?_); clear hm; rintro e w2 ⟨H, rfl, hB2, n⟩; have m2 := Lib.hid (FC.below C'.out m.out hB2); have hl2 := Lib.hid hB.out.size; replace hB2 := Lib.hid (We.below_trans hB.out hB2); replace n := Lib.hid n; clear hB m)
  generalize w0.heap.size = lo at *
  generalize w1.heap.size = hi at *
  generalize w2.heap.size = hj at *
  have hc := Lib.hid (open_lit C'.out hB2.out hlo.out m2.out (4) (0) false none (by decide +kernel))
  go_wp2_with (go_at_call 10; (with_reducible refine hc.out.mono ?_); clear hc; rintro e w3 ⟨rfl, hB3, m3, k⟩; replace hB3 := Lib.hid hB3; replace m3 := Lib.hid m3; have n := Lib.hid (FC.keeps C'.out n.out k (fun b h1 h2 => by unfold Out; omega)); clear m2 hB2 k)
  have hc := Lib.hid (open_lit C'.out hB3.out hlo.out m3.out (-1) (0) false none (by decide +kernel))
  go_wp2_with (go_at_call 10; (with_reducible refine hc.out.mono ?_); clear hc; rintro e w4 ⟨rfl, hB4, m4, k⟩; replace hB4 := Lib.hid hB4; replace m4 := Lib.hid m4; have n := Lib.hid (FC.keeps C'.out n.out k (fun b h1 h2 => by unfold Out; omega)); clear m3 hB3 k)
  have hc := Lib.hid (open_lit C'.out hB4.out hlo.out m4.out (0) (3) false none (by decide +kernel))
  go_wp2_with (go_at_call 10; (with_reducible refine hc.out.mono ?_); clear hc; rintro e w5 ⟨rfl, hB5, m5, k⟩; replace hB5 := Lib.hid hB5; replace m5 := Lib.hid m5; have n := Lib.hid (FC.keeps C'.out n.out k (fun b h1 h2 => by unfold Out; omega)); clear m4 hB4 k)
  have hc := Lib.hid (open_lit C'.out hB5.out hlo.out m5.out (0) (-1) false none (by decide +kernel))
  go_wp2_with (go_at_call 10; (with_reducible refine hc.out.mono ?_); clear hc; rintro e w6 ⟨rfl, hB6, m6, k⟩; replace hB6 := Lib.hid hB6; replace m6 := Lib.hid m6; have n := Lib.hid (FC.keeps C'.out n.out k (fun b h1 h2 => by unfold Out; omega)); clear m5 hB5 k)
  have hc := Lib.hid (open_lit C'.out hB6.out hl2.out n.out 0 0 false none (by decide +kernel))
  go_wp2_with (go_at_call 10; (with_reducible refine hc.out.mono ?_); clear hc; rintro e w7 ⟨rfl, hB7, n', k⟩; have m7 := Lib.hid (FC.keeps C'.out m6.out k (fun b h1 h2 => by unfold Out; omega)); replace hB7 := Lib.hid hB7; clear m6 hB6 k n n')
  have hc := Lib.hid (open_lit C'.out hB7.out hlo.out m7.out 3 2 true (some (3, 2)) (by decide +kernel))
  go_wp2_with (go_at_call 10; (with_reducible refine hc.out.mono ?_); clear hc; rintro e w8 ⟨rfl, hB8, m8, k⟩; replace hB8 := Lib.hid hB8; replace m8 := Lib.hid m8; clear m7 hB7 k)
  have hc := Lib.hid (next_lit C'.out hB8.out m8.out 3 2 true rfl)
  go_wp2_with (go_at_call 11; (with_reducible refine hc.out.mono ?_); clear hc; rintro e w9 ⟨rfl, hB9, m9, k⟩; replace hB9 := Lib.hid hB9; replace m9 := Lib.hid m9; clear m8 hB8 k)
  have hc := Lib.hid (take_lit C'.out hB9.out hlo.out m9.out 3 2 true none ⟨rfl, by decide +kernel⟩)
  go_wp2_with (go_at_call 12; (with_reducible refine hc.out.mono ?_); clear hc; rintro e w10 ⟨rfl, hB10, m10, k⟩; replace hB10 := Lib.hid hB10; replace m10 := Lib.hid m10; clear m9 hB9 k)
  have hc := Lib.hid (take_lit C'.out hB10.out hlo.out m10.out 0 0 false none ⟨rfl, by decide +kernel⟩)
  go_wp2_with (go_at_call 12; (with_reducible refine hc.out.mono ?_); clear hc; rintro e w11 ⟨rfl, hB11, m11, k⟩; replace hB11 := Lib.hid hB11; replace m11 := Lib.hid m11; clear m10 hB10 k)
  have hc := Lib.hid (open_lit C'.out hB11.out hlo.out m11.out 1 0 true (some (1, 0)) (by decide +kernel))
  go_wp2_with (go_at_call 10; (with_reducible refine hc.out.mono ?_); clear hc; rintro e w12 ⟨rfl, hB12, m12, k⟩; replace hB12 := Lib.hid hB12; replace m12 := Lib.hid m12; clear m11 hB11 k)
  have hc := Lib.hid (shut_lit C'.out hB12.out hlo.out m12.out 1 (by decide +kernel))
  go_wp2_with (go_at_call 13; (with_reducible refine hc.out.mono ?_); clear hc; rintro e w13 ⟨rfl, hB13, m13, k⟩; replace hB13 := Lib.hid hB13; replace m13 := Lib.hid m13; clear m12 hB12 k)
  have hc := Lib.hid (shut_lit C'.out hB13.out hlo.out m13.out (-1) (by decide +kernel))
  go_wp2_with (go_at_call 13; (with_reducible refine hc.out.mono ?_); clear hc; rintro e w14 ⟨rfl, hB14, m14, k⟩; replace hB14 := Lib.hid hB14; replace m14 := Lib.hid m14; clear m13 hB13 k)
  have hc := Lib.hid (left_lit C'.out hB14.out m14.out 0 (by decide +kernel))
  go_wp2_with (go_at_call 15; (with_reducible refine hc.out.mono ?_); clear hc; rintro e w15 ⟨rfl, hB15, m15, k⟩; replace hB15 := Lib.hid hB15; replace m15 := Lib.hid m15; clear m14 hB14 k)
  go_ret
  exact ⟨rfl, hB15.out⟩
end Go.Proofs.Ytoofhldfgfndkaa.Fo
