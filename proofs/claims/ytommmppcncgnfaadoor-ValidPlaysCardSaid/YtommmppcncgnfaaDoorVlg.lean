/- What laws 14 share: worlds in which the bits alone have changed; awake. -/
import Derived.Test.YtommmppcncgnfaaDoorVlf
namespace Go.Proofs.YtommmppcncgnfaaDoor.Vl
open Go.RowKit Go.Bw
set_option linter.unusedVariables false
set_option linter.unusedSimpArgs false
theorem below_keeps {h : Nat} {w0 w1 w2 : World} (b : Below w0.heap.size w0 w1) (hh : w0.heap.size ≤ h) (k : Cl.Keeps (fun q => q ≠ h) w1 w2) : Below w0.heap.size w0 w2 :=
  ⟨k.os.trans b.os, k.tape.trans b.tape, k.output.trans b.output, Nat.le_trans b.size k.size, fun q hq => (k.block q (Nat.lt_of_lt_of_le hq b.size) (by omega)).trans (b.block q hq)⟩
theorem Tb.keeps {h : Nat} {w1 w2 : World} (t : Tb w1) (hh : 0 < h) (k : Cl.Keeps (fun q => q ≠ h) w1 w2) : Tb w2 := fun i hi => by
  have := t i hi
  rw [World.cell?_of_block (k.block 0 (World.block_lt_of_cell? w1 _ this) (by omega))]; exact this
theorem Tb.pos {w : World} (t : Tb w) : 0 < w.heap.size := World.block_lt_of_cell? w _ (t 0 (by decide))
theorem set_lit {g h n : Nat} {β : Nat → Bool} {w0 : World} (w : World) (hB : Below w0.heap.size w0 w) (hh : w0.heap.size ≤ h) (b : Bt w g h n β) (i : Int) (on r : Bool) (hr : chg n β i on = r) (β' : Nat → Bool) (hβ : upd n β i on = β') :
    Calls Tryd.prog 9 #[.pointer (some ⟨g, 0, none⟩), .int .i64 i, .bool on] w fun e w' => e = .returned (.bool r) ∧ Below w0.heap.size w0 w' ∧ Cl.Keeps (fun q => q ≠ h) w w' ∧ Bt w' g h n β' := by
  subst hr hβ
  exact (set_any w b i on).mono fun e w' ⟨h1, h2, h3⟩ => ⟨h1, below_keeps hB hh h2, h2, h3⟩
theorem next_lit {g h n : Nat} {β : Nat → Bool} (w : World) (b : Bt w g h n β) (A : Int) (hA : A ≤ 9223372036854775807) (hTb : Tb w) (x : Int) (ok : Bool) (hv : nxV (nx (frm β A) n) = .tuple #[.int .i64 x, .bool ok]) :
    Calls Tryd.prog 12 #[.pointer (some ⟨g, 0, none⟩), .int .i64 A] w (We.Ans w (.tuple #[.int .i64 x, .bool ok])) := by rw [← hv]; exact next_any w b A hA hTb
theorem count_lit {g h n : Nat} {β : Nat → Bool} (w : World) (b : Bt w g h n β) (A B : Int) (hA : A ≤ 9223372036854775807) (x : Int) (hx : ((pc (sel β A B) n : Nat) : Int) = x) :
    Calls Tryd.prog 11 #[.pointer (some ⟨g, 0, none⟩), .int .i64 A, .int .i64 B] w (Same w (.int .i64 x)) := by subst hx; exact count_any w b A B hA
theorem has_lit {g h n : Nat} {β : Nat → Bool} (w : World) (b : Bt w g h n β) (i : Int) (r : Bool) (hr : hasB n β i = r) :
    Calls Tryd.prog 10 #[.pointer (some ⟨g, 0, none⟩), .int .i64 i] w (We.Ans w (.bool r)) := by subst hr; exact has_any w b i
set_option maxHeartbeats 1000000 in
theorem awake_any (w : World) (hTb : Tb w) : Calls Tryd.prog 7 #[] w (We.Ans w (.bool true)) := by
  have h1 := Lib.hid (new_any 9 9 (by decide) w)
  replace hTb := Lib.hid hTb
  obtain ⟨β1, hβ1⟩ : ∃ β, Hid (upd 9 (fun _ => false) 3 true = β) := ⟨_, Lib.hid rfl⟩
  have n1 := Lib.hid (show nxV (nx (frm β1 0) 9) = .tuple #[.int .i64 3, .bool true] by rw [← hβ1.out]; rfl)
  have n2 := Lib.hid (show ((pc (sel β1 0 9) 9 : Nat) : Int) = 1 by rw [← hβ1.out]; rfl)
  have n3 := Lib.hid (show hasB 9 β1 3 = true by rw [← hβ1.out]; rfl)
  go_enter Tryd.func7, Tryd.ntmps7
  go_wp2_with (first
    | (go_at_call 8; (with_reducible refine h1.out.mono ?_); rintro e w1 ⟨g, h, rfl, hB, hg, hh, b⟩; replace hB := Lib.hid hB; replace b := Lib.hid b; replace hh := Lib.hid hh; replace hg := Lib.hid hg)
    | (go_at_call 9; (have hc := Lib.hid (set_lit w1 hB.out hh.out b.out 3 true true rfl β1 hβ1.out)); (with_reducible refine hc.out.mono ?_); clear hc; rintro e w2 ⟨rfl, hB2, hK2, b2⟩; replace hB2 := Lib.hid hB2; replace b2 := Lib.hid b2; have T2 := Lib.hid (hTb.out.below hB2.out); clear hK2)
    | (go_at_call 12; (have hc := Lib.hid (next_lit w2 b2.out 0 (by decide) T2.out 3 true n1.out)); (with_reducible refine hc.out.mono ?_); clear hc; rintro e w3 ⟨rfl, hB3⟩; have b3 := Lib.hid (b2.out.below hB3); replace hB3 := Lib.hid (We.below_trans hB2.out hB3))
    | (go_at_call 11; (have hc := Lib.hid (count_lit w3 b3.out 0 9 (by decide) 1 n2.out)); (with_reducible refine hc.out.mono ?_); clear hc; rintro e w4 ⟨rfl, rfl⟩)
    | (go_at_call 10; (have hc := Lib.hid (has_lit w3 b3.out 3 true n3.out)); (with_reducible refine hc.out.mono ?_); clear hc; rintro e w5 ⟨rfl, hB5⟩; have b5 := Lib.hid (b3.out.below hB5); replace hB5 := Lib.hid (We.below_trans hB3.out hB5))
    | (go_at_call 13; (have hc := Lib.hid (len_any w5 b5.out)); (with_reducible refine hc.out.mono ?_); clear hc; rintro e w6 ⟨rfl, rfl⟩))
  go_ret
  exact ⟨rfl, hB5.out⟩
end Go.Proofs.YtommmppcncgnfaaDoor.Vl
