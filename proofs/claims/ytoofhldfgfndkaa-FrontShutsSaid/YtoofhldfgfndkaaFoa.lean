/- FRONTIERS, BY THEIR CONTRACTS ALONE: what a frontier's functions answer, as a structure; the laws of chapter 17 are proved for whatever has it. -/
import Derived.Test.YtoofhldfgfndkaaGa
import Derived.Test.YtoofhldfgfndkaaWra
namespace Go.Proofs.Ytoofhldfgfndkaa.Fo
open Go.RowKit Go.Proofs.Ytoofhldfgfndkaa.Ge
set_option linter.unusedVariables false
set_option linter.unusedSimpArgs false
/-- may it be opened there? -/
def opB (B P W K : Int) (o : Option (Nat × Nat)) (a b : Int) : Bool := mayG B P W K && o.isNone && (decide (0 ≤ a) && decide (a < B)) && (decide (0 ≤ b) && decide (b < P))
def opO (B P W K : Int) (o : Option (Nat × Nat)) (a b : Int) : Option (Nat × Nat) := if opB B P W K o a b = true then some (a.toNat, b.toNat) else o
/-- the next page's block, the page -/
def bkN (o : Option (Nat × Nat)) : Nat := (o.getD (0, 0)).1
def pgN (o : Option (Nat × Nat)) : Nat := (o.getD (0, 0)).2
def nxV (o : Option (Nat × Nat)) : Value := .tuple #[.int .i64 (bkN o : Int), .int .i64 (pgN o : Int), .bool o.isSome]
/-- one page further on; behind the last one it is shut -/
def tkO (P : Int) (o : Option (Nat × Nat)) : Option (Nat × Nat) := if o.isSome = true ∧ (pgN o : Int) + 1 < P then some (bkN o, pgN o + 1) else none
def blI (o : Option (Nat × Nat)) : Int := if o.isSome = true then (bkN o : Int) else -1
def lfI (P : Int) (o : Option (Nat × Nat)) : Int := if o.isSome = true then P - (pgN o : Int) else 0
/-- within the frontier's own blocks alone -/
abbrev Out (lo hi : Nat) (q : Nat) : Prop := ¬ (lo ≤ q ∧ q < hi)
/-- WHAT A FRONTIER's FUNCTIONS ANSWER: F w lo hi G B P W K o says that in w the box in G is a frontier of that geometry, open at o or not, within blocks lo .. hi -/
structure FC (F : World → Nat → Nat → Nat → Int → Int → Int → Int → Option (Nat × Nat) → Prop) : Prop where
  keep : ∀ {w w' : World} {lo hi G : Nat} {B P W K : Int} {o : Option (Nat × Nat)}, F w lo hi G B P W K o → (∀ b, lo ≤ b → b < hi → b < w.heap.size → w'.heap[b]? = w.heap[b]?) → F w' lo hi G B P W K o
  fine : ∀ {w : World} {lo hi G : Nat} {B P W K : Int} {o : Option (Nat × Nat)}, F w lo hi G B P W K o → ∀ b p, o = some (b, p) → mayG B P W K = true ∧ (b : Int) < B ∧ (p : Int) < P
  new : ∀ (w : World) (B P W K : Int), Calls Try.prog 8 #[.agg #[.int .i64 B, .int .i64 P, .int .i64 W, .int .i64 K]] w fun e w' => ∃ G, e = .returned (.pointer (some ⟨G, 0, none⟩)) ∧ Below w.heap.size w w' ∧ F w' w.heap.size w'.heap.size G B P W K none
  open_ : ∀ {w : World} {lo hi G : Nat} {B P W K : Int} {o : Option (Nat × Nat)}, F w lo hi G B P W K o → ∀ a b : Int, Calls Try.prog 10 #[.pointer (some ⟨G, 0, none⟩), .int .i64 a, .int .i64 b] w fun e w' => e = .returned (.bool (opB B P W K o a b)) ∧ Cl.Keeps (Out lo hi) w w' ∧ F w' lo hi G B P W K (opO B P W K o a b)
  next : ∀ {w : World} {lo hi G : Nat} {B P W K : Int} {o : Option (Nat × Nat)}, F w lo hi G B P W K o → Calls Try.prog 11 #[.pointer (some ⟨G, 0, none⟩)] w (We.Ans w (nxV o))
  take : ∀ {w : World} {lo hi G : Nat} {B P W K : Int} {o : Option (Nat × Nat)}, F w lo hi G B P W K o → Calls Try.prog 12 #[.pointer (some ⟨G, 0, none⟩)] w fun e w' => e = .returned (nxV o) ∧ Cl.Keeps (Out lo hi) w w' ∧ F w' lo hi G B P W K (tkO P o)
  block : ∀ {w : World} {lo hi G : Nat} {B P W K : Int} {o : Option (Nat × Nat)}, F w lo hi G B P W K o → Calls Try.prog 14 #[.pointer (some ⟨G, 0, none⟩)] w (We.Ans w (.int .i64 (blI o)))
  left : ∀ {w : World} {lo hi G : Nat} {B P W K : Int} {o : Option (Nat × Nat)}, F w lo hi G B P W K o → Calls Try.prog 15 #[.pointer (some ⟨G, 0, none⟩)] w (We.Ans w (.int .i64 (lfI P o)))
  shut : ∀ {w : World} {lo hi G : Nat} {B P W K : Int} {o : Option (Nat × Nat)}, F w lo hi G B P W K o → Calls Try.prog 13 #[.pointer (some ⟨G, 0, none⟩)] w fun e w' => e = .returned (.int .i64 (blI o)) ∧ Cl.Keeps (Out lo hi) w w' ∧ F w' lo hi G B P W K none
theorem below_out {w0 w w' : World} {lo hi : Nat} (hB : Below w0.heap.size w0 w) (hlo : w0.heap.size ≤ lo) (k : Cl.Keeps (Out lo hi) w w') : Below w0.heap.size w0 w' :=
  ⟨k.os.trans hB.os, k.tape.trans hB.tape, k.output.trans hB.output, Nat.le_trans hB.size k.size, fun q hq => (k.block q (Nat.lt_of_lt_of_le hq hB.size) (by unfold Out; omega)).trans (hB.block q hq)⟩
section
variable {F : World → Nat → Nat → Nat → Int → Int → Int → Int → Option (Nat × Nat) → Prop} (C : FC F) {w0 w w' : World} {lo hi G : Nat} {B P W K : Int} {o : Option (Nat × Nat)}
include C
theorem FC.below (h : F w lo hi G B P W K o) (hb : Below w.heap.size w w') : F w' lo hi G B P W K o := C.keep h fun b _ _ hl => hb.block b hl
theorem FC.keeps (h : F w lo hi G B P W K o) {S : Nat → Prop} (k : Cl.Keeps S w w') (hS : ∀ b, lo ≤ b → b < hi → S b) : F w' lo hi G B P W K o := C.keep h fun b h1 h2 h3 => k.block b h3 (hS b h1 h2)
theorem new_lit (w : World) (B P W K : Int) : Calls Try.prog 8 #[.agg #[.int .i64 B, .int .i64 P, .int .i64 W, .int .i64 K]] w fun e w' => ∃ G, e = .returned (.pointer (some ⟨G, 0, none⟩)) ∧ Below w.heap.size w w' ∧ F w' w.heap.size w'.heap.size G B P W K none := C.new w B P W K
theorem open_lit (hB : Below w0.heap.size w0 w) (hlo : w0.heap.size ≤ lo) (h : F w lo hi G B P W K o) (a b : Int) (r : Bool) (o' : Option (Nat × Nat)) (hr : opB B P W K o a b = r ∧ opO B P W K o a b = o') :
    Calls Try.prog 10 #[.pointer (some ⟨G, 0, none⟩), .int .i64 a, .int .i64 b] w fun e w' => e = .returned (.bool r) ∧ Below w0.heap.size w0 w' ∧ F w' lo hi G B P W K o' ∧ Cl.Keeps (Out lo hi) w w' := by
  obtain ⟨rfl, rfl⟩ := hr
  exact (C.open_ h a b).mono fun e w' ⟨h1, h2, h3⟩ => ⟨h1, below_out hB hlo h2, h3, h2⟩
theorem next_lit (hB : Below w0.heap.size w0 w) (h : F w lo hi G B P W K o) (x y : Int) (r : Bool) (hx : nxV o = .tuple #[.int .i64 x, .int .i64 y, .bool r]) :
    Calls Try.prog 11 #[.pointer (some ⟨G, 0, none⟩)] w fun e w' => e = .returned (.tuple #[.int .i64 x, .int .i64 y, .bool r]) ∧ Below w0.heap.size w0 w' ∧ F w' lo hi G B P W K o ∧ Below w.heap.size w w' := by
  rw [← hx]
  exact (C.next h).mono fun e w' ⟨h1, h2⟩ => ⟨h1, We.below_trans hB h2, C.below h h2, h2⟩
theorem take_lit (hB : Below w0.heap.size w0 w) (hlo : w0.heap.size ≤ lo) (h : F w lo hi G B P W K o) (x y : Int) (r : Bool) (o' : Option (Nat × Nat)) (hx : nxV o = .tuple #[.int .i64 x, .int .i64 y, .bool r] ∧ tkO P o = o') :
    Calls Try.prog 12 #[.pointer (some ⟨G, 0, none⟩)] w fun e w' => e = .returned (.tuple #[.int .i64 x, .int .i64 y, .bool r]) ∧ Below w0.heap.size w0 w' ∧ F w' lo hi G B P W K o' ∧ Cl.Keeps (Out lo hi) w w' := by
  obtain ⟨hx, rfl⟩ := hx
  rw [← hx]
  exact (C.take h).mono fun e w' ⟨h1, h2, h3⟩ => ⟨h1, below_out hB hlo h2, h3, h2⟩
theorem block_lit (hB : Below w0.heap.size w0 w) (h : F w lo hi G B P W K o) (x : Int) (hx : blI o = x) :
    Calls Try.prog 14 #[.pointer (some ⟨G, 0, none⟩)] w fun e w' => e = .returned (.int .i64 x) ∧ Below w0.heap.size w0 w' ∧ F w' lo hi G B P W K o ∧ Below w.heap.size w w' := by
  subst hx
  exact (C.block h).mono fun e w' ⟨h1, h2⟩ => ⟨h1, We.below_trans hB h2, C.below h h2, h2⟩
theorem left_lit (hB : Below w0.heap.size w0 w) (h : F w lo hi G B P W K o) (x : Int) (hx : lfI P o = x) :
    Calls Try.prog 15 #[.pointer (some ⟨G, 0, none⟩)] w fun e w' => e = .returned (.int .i64 x) ∧ Below w0.heap.size w0 w' ∧ F w' lo hi G B P W K o ∧ Below w.heap.size w w' := by
  subst hx
  exact (C.left h).mono fun e w' ⟨h1, h2⟩ => ⟨h1, We.below_trans hB h2, C.below h h2, h2⟩
theorem shut_lit (hB : Below w0.heap.size w0 w) (hlo : w0.heap.size ≤ lo) (h : F w lo hi G B P W K o) (x : Int) (hx : blI o = x) :
    Calls Try.prog 13 #[.pointer (some ⟨G, 0, none⟩)] w fun e w' => e = .returned (.int .i64 x) ∧ Below w0.heap.size w0 w' ∧ F w' lo hi G B P W K none ∧ Cl.Keeps (Out lo hi) w w' := by
  subst hx
  exact (C.shut h).mono fun e w' ⟨h1, h2, h3⟩ => ⟨h1, below_out hB hlo h2, h3, h2⟩
set_option maxHeartbeats 2000000 in
theorem awake_any (w : World) : Calls Try.prog 7 #[] w (We.Ans w (.bool true)) := by
  have h1 := Lib.hid (new_lit C w 4 2 1 9)
  have C' := Lib.hid C
  clear C
  go_enter Try.func7, Try.ntmps7
  go_wp2_with (go_at_call 8; (with_reducible refine h1.out.mono ?_); clear h1; rintro e w1 ⟨G, rfl, hB, m⟩; replace hB := Lib.hid hB; replace m := Lib.hid m)
  have hc := Lib.hid (block_lit C'.out hB.out m.out (-1) rfl)
  go_wp2_with (go_at_call 14; (with_reducible refine hc.out.mono ?_); clear hc; rintro e w2 ⟨rfl, hB2, m2, _⟩; replace hB2 := Lib.hid hB2; replace m2 := Lib.hid m2; clear m hB)
  have hc := Lib.hid (open_lit C'.out hB2.out (Nat.le_refl _) m2.out 2 0 true (some (2, 0)) (by decide +kernel))
  go_wp2_with (go_at_call 10; (with_reducible refine hc.out.mono ?_); clear hc; rintro e w3 ⟨rfl, hB3, m3, _⟩; replace hB3 := Lib.hid hB3; replace m3 := Lib.hid m3; clear m2 hB2)
  have hc := Lib.hid (take_lit C'.out hB3.out (Nat.le_refl _) m3.out 2 0 true (some (2, 1)) ⟨rfl, by decide +kernel⟩)
  go_wp2_with (go_at_call 12; (with_reducible refine hc.out.mono ?_); clear hc; rintro e w4 ⟨rfl, hB4, m4, _⟩; replace hB4 := Lib.hid hB4; replace m4 := Lib.hid m4; clear m3 hB3)
  have hc := Lib.hid (left_lit C'.out hB4.out m4.out 1 (by decide +kernel))
  go_wp2_with (go_at_call 15; (with_reducible refine hc.out.mono ?_); clear hc; rintro e w5 ⟨rfl, hB5, m5, _⟩; replace hB5 := Lib.hid hB5; replace m5 := Lib.hid m5; clear m4 hB4)
  have hc := Lib.hid (block_lit C'.out hB5.out m5.out 2 (by decide +kernel))
  go_wp2_with (go_at_call 14; (with_reducible refine hc.out.mono ?_); clear hc; rintro e w6 ⟨rfl, hB6, m6, _⟩; replace hB6 := Lib.hid hB6; clear m5 hB5)
  go_ret
  exact ⟨rfl, hB6.out⟩
end
end Go.Proofs.Ytoofhldfgfndkaa.Fo
