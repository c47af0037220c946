/- The program's map: contracts at what is known; awake of law 15. -/
import Derived.Test.YtcnnmnjepofomaaLmn
namespace Go.Proofs.Ytcnnmnjepofomaa.Lm
open Go.RowKit Go.Bw Go.Proofs.Ytcnnmnjepofomaa.Vl
set_option linter.unusedVariables false
set_option linter.unusedSimpArgs false
section
variable {w0 w w' : World} {lo hi lp pg : Nat} {K : Blk} {f : Nat → Int}
theorem below_out (hB : Below w0.heap.size w0 w) (hlo : w0.heap.size ≤ lo) (k : Cl.Keeps (Out lo hi) w w') : Below w0.heap.size w0 w' :=
  ⟨k.os.trans hB.os, k.tape.trans hB.tape, k.output.trans hB.output, Nat.le_trans hB.size k.size, fun q hq => (k.block q (Nat.lt_of_lt_of_le hq hB.size) (by unfold Out; omega)).trans (hB.block q hq)⟩
theorem put_lit (hB : Below w0.heap.size w0 w) (hlo : w0.heap.size ≤ lo) (m : PM w lo hi K lp pg f) (a b x y : Int) (f' : Nat → Int) (h : (putM lp pg f a b).1 = x ∧ (putM lp pg f a b).2.1 = y ∧ ∀ i, i < lp → (putM lp pg f a b).2.2 i = f' i) :
    Calls Try.prog 11 #[.pointer (some ⟨K.G, 0, none⟩), .int .i64 a, .int .i64 b] w fun e w' => e = .returned (.tuple #[.int .i64 x, .int .i64 y]) ∧ Below w0.heap.size w0 w' ∧ PM w' lo hi K lp pg f' := by
  obtain ⟨rfl, rfl, h⟩ := h
  exact (put_any w m a b).mono fun e w' ⟨h1, h2, h3⟩ => ⟨h1, below_out hB hlo h2, h3.congr h⟩
theorem drop_lit (hB : Below w0.heap.size w0 w) (hlo : w0.heap.size ≤ lo) (m : PM w lo hi K lp pg f) (a x : Int) (y : Bool) (f' : Nat → Int) (h : (dropM lp f a).1 = x ∧ (dropM lp f a).2.1 = y ∧ ∀ i, i < lp → (dropM lp f a).2.2 i = f' i) :
    Calls Try.prog 16 #[.pointer (some ⟨K.G, 0, none⟩), .int .i64 a] w fun e w' => e = .returned (.tuple #[.int .i64 x, .bool y]) ∧ Below w0.heap.size w0 w' ∧ PM w' lo hi K lp pg f' := by
  obtain ⟨rfl, rfl, h⟩ := h
  exact (drop_any w m a).mono fun e w' ⟨h1, h2, h3⟩ => ⟨h1, below_out hB hlo h2, h3.congr h⟩
theorem get_lit (hB : Below w0.heap.size w0 w) (m : PM w lo hi K lp pg f) (a x : Int) (y : Bool) (h : getM f lp a = (x, y)) :
    Calls Try.prog 13 #[.pointer (some ⟨K.G, 0, none⟩), .int .i64 a] w fun e w' => e = .returned (.tuple #[.int .i64 x, .bool y]) ∧ Below w0.heap.size w0 w' ∧ PM w' lo hi K lp pg f :=
  (get_any w m a).mono fun e w' ⟨h1, h2⟩ => ⟨by rw [h1, h]; rfl, We.below_trans hB h2, m.below h2⟩
theorem owner_lit (hB : Below w0.heap.size w0 w) (m : PM w lo hi K lp pg f) (p x : Int) (y : Bool) (h : owV (ow f lp p) = .tuple #[.int .i64 x, .bool y]) :
    Calls Try.prog 14 #[.pointer (some ⟨K.G, 0, none⟩), .int .i64 p] w fun e w' => e = .returned (.tuple #[.int .i64 x, .bool y]) ∧ Below w0.heap.size w0 w' ∧ PM w' lo hi K lp pg f :=
  (owner_any w m p).mono fun e w' ⟨h1, h2⟩ => ⟨by rw [h1, h], We.below_trans hB h2, m.below h2⟩
theorem many_lit (hB : Below w0.heap.size w0 w) (m : PM w lo hi K lp pg f) (x : Int) (h : ((pc (fun i => decide (0 ≤ f i)) lp : Nat) : Int) = x) :
    Calls Try.prog 19 #[.pointer (some ⟨K.G, 0, none⟩)] w fun e w' => e = .returned (.int .i64 x) ∧ Below w0.heap.size w0 w' ∧ PM w' lo hi K lp pg f :=
  (many_any w m).mono fun e w' ⟨h1, h2⟩ => ⟨by rw [h1, h], We.below_trans hB h2, m.below h2⟩
theorem count_lit (m : PM w lo hi K lp pg f) (A B x : Int) (hA : A ≤ 9223372036854775807) (h : ((pc (fun i => decide (0 ≤ f i) && decide (A ≤ f i) && decide (f i < B)) lp : Nat) : Int) = x) :
    Calls Try.prog 18 #[.pointer (some ⟨K.G, 0, none⟩), .int .i64 A, .int .i64 B] w (Same w (.int .i64 x)) := by
  subst h; exact count_any w m A B hA
end
theorem new_lit (lp pg : Nat) (a b : Int) (ha : a = (lp : Int)) (hb : b = (pg : Int)) (hl : lp ≤ 1048576) (hp : pg ≤ 1048576) (w : World) :
    Calls Try.prog 9 #[.int .i64 a, .int .i64 b] w fun e w' => ∃ K : Blk, e = .returned (.tuple #[.pointer (some ⟨K.G, 0, none⟩), .int .i64 0]) ∧ Below w.heap.size w w' ∧ PM w' w.heap.size w'.heap.size K lp pg (fun _ => -1) := by
  subst ha hb; exact new_any lp pg hl hp w
/-- where all lie, by a list -/
def fl (l : List Int) (i : Nat) : Int := l.getD i (-1)
set_option maxHeartbeats 2000000 in
theorem awake_any (w : World) : Calls Try.prog 8 #[] w (We.Ans w (.bool true)) := by
  have h1 := Lib.hid (new_lit 9 20 9 20 rfl rfl (by decide) (by decide) w)
  have n1 := Lib.hid (show (putM 9 20 (fun _ => -1) 3 7).1 = -1 ∧ (putM 9 20 (fun _ => -1) 3 7).2.1 = 0 ∧ ∀ i, i < 9 → (putM 9 20 (fun _ => -1) 3 7).2.2 i = fl [-1, -1, -1, 7] i by decide +kernel)
  have n2 := Lib.hid (show (putM 9 20 (fl [-1, -1, -1, 7]) 3 8).1 = 7 ∧ (putM 9 20 (fl [-1, -1, -1, 7]) 3 8).2.1 = 0 ∧ ∀ i, i < 9 → (putM 9 20 (fl [-1, -1, -1, 7]) 3 8).2.2 i = fl [-1, -1, -1, 8] i by decide +kernel)
  have n3 := Lib.hid (show owV (ow (fl [-1, -1, -1, 8]) 9 8) = .tuple #[.int .i64 3, .bool true] by rw [show ow (fl [-1, -1, -1, 8]) 9 8 = some 3 by decide +kernel]; rfl)
  have n4 := Lib.hid (show ((pc (fun i => decide (0 ≤ fl [-1, -1, -1, 8] i)) 9 : Nat) : Int) = 1 by decide +kernel)
  generalize fl [-1, -1, -1, 7] = f1 at *
  generalize fl [-1, -1, -1, 8] = f2 at *
  go_enter Try.func8, Try.ntmps8
  go_wp2_with (go_at_call 9; (with_reducible refine h1.out.mono ?_); rintro e w1 ⟨K, rfl, hB, m⟩; replace hB := Lib.hid hB; replace m := Lib.hid m)
  have hc := Lib.hid (put_lit hB.out (Nat.le_refl _) m.out 3 7 (-1) 0 f1 n1.out)
  go_wp2_with (go_at_call 11; (with_reducible refine hc.out.mono ?_); clear hc; rintro e w2 ⟨rfl, hB2, m2⟩; replace hB2 := Lib.hid hB2; replace m2 := Lib.hid m2)
  have hc := Lib.hid (put_lit hB2.out (Nat.le_refl _) m2.out 3 8 7 0 f2 n2.out)
  go_wp2_with (go_at_call 11; (with_reducible refine hc.out.mono ?_); clear hc; rintro e w3 ⟨rfl, hB3, m3⟩; replace hB3 := Lib.hid hB3; replace m3 := Lib.hid m3)
  have hc := Lib.hid (owner_lit hB3.out m3.out 8 3 true n3.out)
  go_wp2_with (go_at_call 14; (with_reducible refine hc.out.mono ?_); clear hc; rintro e w4 ⟨rfl, hB4, m4⟩; replace hB4 := Lib.hid hB4; replace m4 := Lib.hid m4)
  have hc := Lib.hid (many_lit hB4.out m4.out 1 n4.out)
  go_wp2_with (go_at_call 19; (with_reducible refine hc.out.mono ?_); clear hc; rintro e w5 ⟨rfl, hB5, m5⟩; replace hB5 := Lib.hid hB5)
  go_ret
  exact ⟨rfl, hB5.out⟩
end Go.Proofs.Ytcnnmnjepofomaa.Lm
