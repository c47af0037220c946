/- YARDS, BY THEIR CONTRACTS ALONE: what a yard's functions answer, as a structure; the laws of chapter 16 are proved for whatever has it. -/
import Derived.Test.YtnhkagkgmgpjeaaWrv
import Derived.Test.YtnhkagkgmgpjeaaWrd
namespace Go.Proofs.Ytnhkagkgmgpjeaa.Yd
open Go.RowKit
set_option linter.unusedVariables false
set_option linter.unusedSimpArgs false
/-- there is a block b -/
def inB (n : Nat) (i : Int) : Bool := decide (0 ≤ i) && decide (i < (n : Int))
/-- what is told of block b: nought, where there is none -/
def at_ (k : Nat) (s : Nat → Int) (b : Int) : Int := if inB k b = true then s b.toNat else 0
/-- block a has become b -/
def lay (f : Nat → Int) (a b : Int) (j : Nat) : Int := if (j : Int) = a then b else f j
/-- may a block become that? -/
def turns (a b : Int) : Bool := decide (a = 1) && decide (b = 2) || decide (a = 2) && decide (b = 3) || decide (a = 3) && decide (b = 1) || (decide (1 ≤ a) && decide (a < 4)) && decide (b = 4)
def turnB (k : Nat) (st : Nat → Int) (b s : Int) : Bool := inB k b && turns (st b.toNat) s
def turnF (k : Nat) (st : Nat → Int) (b s : Int) : Nat → Int := if turnB k st b s = true then lay st b s else st
def erF (k : Nat) (er : Nat → Int) (b : Int) : Nat → Int := if inB k b = true then lay er b (er b.toNat + 1) else er
/-- how many of the first k are so -/
def nb (f : Nat → Bool) : Nat → Nat
  | 0 => 0
  | k + 1 => nb f k + (f k).toNat
theorem nb_congr {f g : Nat → Bool} : ∀ {k : Nat}, (∀ j, j < k → f j = g j) → nb f k = nb g k
  | 0, _ => rfl
  | k + 1, h => by rw [nb, nb, nb_congr (k := k) (fun j hj => h j (by omega)), h k (by omega)]
theorem nb_le (f : Nat → Bool) : ∀ k : Nat, nb f k ≤ k
  | 0 => Nat.le_refl _
  | k + 1 => by rw [nb]; have := nb_le f k; cases f k <;> simp <;> omega
theorem nb_mono (f : Nat → Bool) (a : Nat) : ∀ d : Nat, nb f a ≤ nb f (a + d)
  | 0 => Nat.le_refl _
  | d + 1 => by rw [← Nat.add_assoc, nb]; have := nb_mono f a d; omega
/-- those that are s -/
def isS (st : Nat → Int) (s : Int) (j : Nat) : Bool := decide (st j = s)
/-- an answer of Pick -/
def pkV (o : Option Nat) : Value := .tuple #[.int .i64 ((o.getD 0 : Nat) : Int), .bool o.isSome]
def pk (k : Nat) (st er : Nat → Int) : Option Nat := We.fst (isS st 1) (We.lo er) k
/-- within the yard's own blocks alone -/
abbrev Out (lo hi : Nat) (q : Nat) : Prop := ¬ (lo ≤ q ∧ q < hi)
/-- WHAT A YARD's FUNCTIONS ANSWER: Y w lo hi G k st er says that in w the box in G is a yard of k blocks, of states st, wiped er times, within blocks lo .. hi -/
structure YC (Y : World → Nat → Nat → Nat → Nat → (Nat → Int) → (Nat → Int) → Prop) : Prop where
  keep : ∀ {w w' : World} {lo hi G k : Nat} {st er : Nat → Int}, Y w lo hi G k st er → (∀ b, lo ≤ b → b < hi → b < w.heap.size → w'.heap[b]? = w.heap[b]?) → Y w' lo hi G k st er
  le : ∀ {w : World} {lo hi G k : Nat} {st er : Nat → Int}, Y w lo hi G k st er → k ≤ 64
  new : ∀ (w : World) (n : Int) (k : Nat), k = (min (max n 0) 64).toNat → Calls Try.prog 9 #[.int .i64 n] w fun e w' => ∃ G, e = .returned (.pointer (some ⟨G, 0, none⟩)) ∧ Below w.heap.size w w' ∧ Y w' w.heap.size w'.heap.size G k (fun _ => 1) (fun _ => 0)
  state : ∀ {w : World} {lo hi G k : Nat} {st er : Nat → Int}, Y w lo hi G k st er → ∀ b : Int, Calls Try.prog 13 #[.pointer (some ⟨G, 0, none⟩), .int .i64 b] w (We.Ans w (.int .i64 (at_ k st b)))
  turn : ∀ {w : World} {lo hi G k : Nat} {st er : Nat → Int}, Y w lo hi G k st er → ∀ b s : Int, Calls Try.prog 12 #[.pointer (some ⟨G, 0, none⟩), .int .i64 b, .int .i64 s] w fun e w' => e = .returned (.bool (turnB k st b s)) ∧ Cl.Keeps (Out lo hi) w w' ∧ Y w' lo hi G k (turnF k st b s) er
  count : ∀ {w : World} {lo hi G k : Nat} {st er : Nat → Int}, Y w lo hi G k st er → ∀ s : Int, Calls Try.prog 18 #[.pointer (some ⟨G, 0, none⟩), .int .i64 s] w (We.Ans w (.int .i64 ((nb (isS st s) k : Nat) : Int)))
  erased : ∀ {w : World} {lo hi G k : Nat} {st er : Nat → Int}, Y w lo hi G k st er → (∀ j, j < k → 0 ≤ er j ∧ er j ≤ 1000000) → ∀ b : Int, Calls Try.prog 10 #[.pointer (some ⟨G, 0, none⟩), .int .i64 b] w fun e w' => e = .returned (.tuple #[]) ∧ Cl.Keeps (Out lo hi) w w' ∧ Y w' lo hi G k st (erF k er b)
  erases : ∀ {w : World} {lo hi G k : Nat} {st er : Nat → Int}, Y w lo hi G k st er → ∀ b : Int, Calls Try.prog 14 #[.pointer (some ⟨G, 0, none⟩), .int .i64 b] w (We.Ans w (.int .i64 (at_ k er b)))
  pick : ∀ {w : World} {lo hi G k : Nat} {st er : Nat → Int}, Y w lo hi G k st er → Calls Try.prog 15 #[.pointer (some ⟨G, 0, none⟩)] w (We.Ans w (pkV (pk k st er)))
  list : ∀ {w : World} {lo hi G k : Nat} {st er : Nat → Int}, Y w lo hi G k st er → ∀ s : Int, Calls Try.prog 17 #[.pointer (some ⟨G, 0, none⟩), .int .i64 s] w fun e w' => ∃ (A : Option Addr) (c : Nat) (f : Nat → Int), e = .returned (.slice A (nb (isS st s) k) c) ∧ Below w.heap.size w w' ∧ We.SF w' w'.heap.size A (nb (isS st s) k) (We.iF f) ∧ ∀ b, b < k → isS st s b = true → f (nb (isS st s) b) = (b : Int)
theorem below_out {w0 w w' : World} {lo hi : Nat} (hB : Below w0.heap.size w0 w) (hlo : w0.heap.size ≤ lo) (k : Cl.Keeps (Out lo hi) w w') : Below w0.heap.size w0 w' :=
  ⟨k.os.trans hB.os, k.tape.trans hB.tape, k.output.trans hB.output, Nat.le_trans hB.size k.size, fun q hq => (k.block q (Nat.lt_of_lt_of_le hq hB.size) (by unfold Out; omega)).trans (hB.block q hq)⟩
section
variable {Y : World → Nat → Nat → Nat → Nat → (Nat → Int) → (Nat → Int) → Prop} (C : YC Y) {w0 w w' : World} {lo hi G k : Nat} {st er : Nat → Int}
include C
theorem YC.below (h : Y w lo hi G k st er) (hb : Below w.heap.size w w') : Y w' lo hi G k st er := C.keep h fun b _ _ hl => hb.block b hl
theorem new_lit (w : World) (n : Int) (k : Nat) (hk : k = (min (max n 0) 64).toNat) : Calls Try.prog 9 #[.int .i64 n] w fun e w' => ∃ G, e = .returned (.pointer (some ⟨G, 0, none⟩)) ∧ Below w.heap.size w w' ∧ Y w' w.heap.size w'.heap.size G k (fun _ => 1) (fun _ => 0) := C.new w n k hk
theorem turn_lit (hB : Below w0.heap.size w0 w) (hlo : w0.heap.size ≤ lo) (h : Y w lo hi G k st er) (b s : Int) (r : Bool) (hr : turnB k st b s = r) (st' : Nat → Int) (hs : turnF k st b s = st') :
    Calls Try.prog 12 #[.pointer (some ⟨G, 0, none⟩), .int .i64 b, .int .i64 s] w fun e w' => e = .returned (.bool r) ∧ Below w0.heap.size w0 w' ∧ Y w' lo hi G k st' er := by
  subst hr hs
  exact (C.turn h b s).mono fun e w' ⟨h1, h2, h3⟩ => ⟨h1, below_out hB hlo h2, h3⟩
theorem state_lit (hB : Below w0.heap.size w0 w) (h : Y w lo hi G k st er) (b x : Int) (hx : at_ k st b = x) :
    Calls Try.prog 13 #[.pointer (some ⟨G, 0, none⟩), .int .i64 b] w fun e w' => e = .returned (.int .i64 x) ∧ Below w0.heap.size w0 w' ∧ Y w' lo hi G k st er := by
  subst hx
  exact (C.state h b).mono fun e w' ⟨h1, h2⟩ => ⟨h1, We.below_trans hB h2, C.below h h2⟩
theorem count_lit (hB : Below w0.heap.size w0 w) (h : Y w lo hi G k st er) (s x : Int) (hx : ((nb (isS st s) k : Nat) : Int) = x) :
    Calls Try.prog 18 #[.pointer (some ⟨G, 0, none⟩), .int .i64 s] w fun e w' => e = .returned (.int .i64 x) ∧ Below w0.heap.size w0 w' ∧ Y w' lo hi G k st er := by
  subst hx
  exact (C.count h s).mono fun e w' ⟨h1, h2⟩ => ⟨h1, We.below_trans hB h2, C.below h h2⟩
theorem erases_lit (hB : Below w0.heap.size w0 w) (h : Y w lo hi G k st er) (b x : Int) (hx : at_ k er b = x) :
    Calls Try.prog 14 #[.pointer (some ⟨G, 0, none⟩), .int .i64 b] w fun e w' => e = .returned (.int .i64 x) ∧ Below w0.heap.size w0 w' ∧ Y w' lo hi G k st er := by
  subst hx
  exact (C.erases h b).mono fun e w' ⟨h1, h2⟩ => ⟨h1, We.below_trans hB h2, C.below h h2⟩
theorem erased_lit (hB : Below w0.heap.size w0 w) (hlo : w0.heap.size ≤ lo) (h : Y w lo hi G k st er) (he : ∀ j, j < k → 0 ≤ er j ∧ er j ≤ 1000000) (b : Int) (er' : Nat → Int) (hs : erF k er b = er') :
    Calls Try.prog 10 #[.pointer (some ⟨G, 0, none⟩), .int .i64 b] w fun e w' => e = .returned (.tuple #[]) ∧ Below w0.heap.size w0 w' ∧ Y w' lo hi G k st er' := by
  subst hs
  exact (C.erased h he b).mono fun e w' ⟨h1, h2, h3⟩ => ⟨h1, below_out hB hlo h2, h3⟩
theorem pick_lit (hB : Below w0.heap.size w0 w) (h : Y w lo hi G k st er) (o : Option Nat) (hx : pk k st er = o) :
    Calls Try.prog 15 #[.pointer (some ⟨G, 0, none⟩)] w fun e w' => e = .returned (pkV o) ∧ Below w0.heap.size w0 w' ∧ Y w' lo hi G k st er := by
  subst hx
  exact (C.pick h).mono fun e w' ⟨h1, h2⟩ => ⟨h1, We.below_trans hB h2, C.below h h2⟩
end
end Go.Proofs.Ytnhkagkgmgpjeaa.Yd
