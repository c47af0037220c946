/- Slices of whole numbers and of bools by functions; what a call answers; who is first of those that may. -/
import Derived.Test.YtmmpcgmhcaianaaProg
import Derived.Test.YtmmpcgmhcaianaaWb
import Derived.Test.YtmmpcgmhcaianaaCl
import Derived.Below
import Derived.WalkKit
import Derived.WalkSpells
import Derived.WalkLawsBesides
import Derived.Lib.Hide
import Derived.IntWalk
import Derived.Deep.Draws
import Derived.Laws.Rows
namespace Go.Proofs.Ytmmpcgmhcaianaa.We
open Go.RowKit
set_option linter.unusedVariables false
set_option linter.unusedSimpArgs false

theorem add_block (a : Addr) (n : Nat) : (a.add n).block = a.block := by unfold Addr.add; split <;> rfl
theorem add_pos (a : Addr) (n : Nat) (h : n ≠ 0) : a.add n = ⟨a.block, a.off + n, none⟩ := by unfold Addr.add; rw [if_neg h]
theorem add_zero' (a : Addr) : a.add 0 = a := by unfold Addr.add; rw [if_pos rfl]
/-- an answer; old memory is as it was -/
def Ans (w : World) (v : Value) (e : Ending) (w' : World) : Prop := e = .returned v ∧ Below w.heap.size w w'
theorem below_drewN (w : World) (n : Nat) : Below w.heap.size w (w.drewN n) := ⟨rfl, rfl, rfl, Nat.le_refl _, fun _ _ => rfl⟩
theorem below_alloc (w : World) (o : Obj) : Below w.heap.size w (w.alloc o) := (Below.refl _ _).alloc (Nat.le_refl _) _
theorem below_trans {w w1 w2 : World} (h : Below w.heap.size w w1) (k : Below w1.heap.size w1 w2) : Below w.heap.size w w2 := h.trans (k.mono h.size)
/-- whole numbers, bools as values -/
def iF (e : Nat → Int) (i : Nat) : Value := .int .i64 (e i)
def bF (m : Nat → Bool) (i : Nat) : Value := .bool (m i)
/-- the slice with address A holds the n values of f, below block B -/
def SF (w : World) (B : Nat) (A : Option Addr) (n : Nat) (f : Nat → Value) : Prop := n = 0 ∨ ∃ a, A = some a ∧ a.block < B ∧ ∀ i, i < n → w.cell? (a.add i) = some (f i)
theorem SF.below {w w' : World} {B : Nat} {A : Option Addr} {n : Nat} {f : Nat → Value} (h : SF w B A n f) (hb : Below B w w') : SF w' B A n f := by
  rcases h with e | ⟨a, e, h1, h2⟩
  · exact Or.inl e
  · exact Or.inr ⟨a, e, h1, fun i hi => (hb.cell (by rw [add_block]; exact h1)).trans (h2 i hi)⟩
theorem SF.more {w : World} {B B' : Nat} {A : Option Addr} {n : Nat} {f : Nat → Value} (h : SF w B A n f) (hb : B ≤ B') : SF w B' A n f := by
  rcases h with e | ⟨a, e, h1, h2⟩
  · exact Or.inl e
  · exact Or.inr ⟨a, e, Nat.lt_of_lt_of_le h1 hb, h2⟩
theorem SF.far {w w' : World} {A : Option Addr} {n : Nat} {f : Nat → Value} (h : SF w w.heap.size A n f) (hb : Below w.heap.size w w') : SF w' w'.heap.size A n f := (h.below hb).more hb.size
theorem SF.at_ {w : World} {B : Nat} {A : Option Addr} {n : Nat} {f : Nat → Value} {i : Nat} (h : SF w B A n f) (hi : i < n) : ∃ a, A = some a ∧ a.block < B ∧ w.cell? (a.add i) = some (f i) := by
  rcases h with e | ⟨a, e, h1, h2⟩
  · rw [e] at hi; exact absurd hi (by simp)
  · exact ⟨a, e, h1, h2 i hi⟩
theorem SF.nil (w : World) (B : Nat) (A : Option Addr) (f : Nat → Value) : SF w B A 0 f := Or.inl rfl
theorem SF.congr {w : World} {B : Nat} {A : Option Addr} {n : Nat} {f f' : Nat → Value} (h : SF w B A n f) (e : ∀ i, i < n → f i = f' i) : SF w B A n f' := by
  rcases h with e0 | ⟨a, e0, h1, h2⟩
  · exact Or.inl e0
  · exact Or.inr ⟨a, e0, h1, fun i hi => by rw [← e i hi]; exact h2 i hi⟩
theorem cell_new (w : World) (cs : Array Value) (t : TypeId) (i : Nat) : (w.alloc (.cells cs t)).cell? ⟨w.heap.size, i, none⟩ = cs[i]? := cell_of_row _ _ i cs t (0, 0) (heap_alloc_new w (.cells cs t))
theorem cell_box (w : World) (v : Value) (T : TypeId) : (w.alloc (.cells #[v] T)).cell? ⟨w.heap.size, 0, none⟩ = some v := cell_new w _ _ _

theorem aft {w : World} {p : Addr} {v : Value} (h : w.cell? p = some v) (x : Cl.After w.heap.size w) : x.w.cell? p = some v := (x.below.cell (World.block_lt_of_cell? w _ h)).trans h

/-- who is first of those below the number that may -/
def fst (m : Nat → Bool) (ah : Nat → Nat → Bool) : Nat → Option Nat
  | 0 => none
  | k + 1 => match fst m ah k with
    | none => if m k then some k else none
    | some b => if m k && ah k b then some k else some b
/-- less worn -/
def lo (e : Nat → Int) (a b : Nat) : Bool := decide (e a < e b)
def hi (e : Nat → Int) (a b : Nat) : Bool := decide (e b < e a)
/-- less valid, and of as many less worn -/
def lx (v e : Nat → Int) (a b : Nat) : Bool := decide (v a < v b) || decide (v a = v b) && decide (e a < e b)
/-- an order: it goes on, and so does what is not ahead -/
def OrdF (ah : Nat → Nat → Bool) : Prop := (∀ a b c, ah a b = true → ah b c = true → ah a c = true) ∧ (∀ a b c, ah a b = false → ah b c = false → ah a c = false) ∧ ∀ a, ah a a = false
theorem lo_ord (e : Nat → Int) : OrdF (lo e) := by
  refine ⟨fun a b c => ?_, fun a b c => ?_, fun a => ?_⟩ <;> simp only [lo, decide_eq_true_eq, decide_eq_false_iff_not] <;> omega
theorem hi_ord (e : Nat → Int) : OrdF (hi e) := by
  refine ⟨fun a b c => ?_, fun a b c => ?_, fun a => ?_⟩ <;> simp only [hi, decide_eq_true_eq, decide_eq_false_iff_not] <;> omega
theorem lx_ord (v e : Nat → Int) : OrdF (lx v e) := by
  refine ⟨fun a b c => ?_, fun a b c => ?_, fun a => ?_⟩ <;> simp only [lx, Bool.or_eq_true, Bool.and_eq_true, decide_eq_true_eq, Bool.or_eq_false_iff, Bool.and_eq_false_iff, decide_eq_false_iff_not] <;> omega
theorem fst_no {m : Nat → Bool} {ah : Nat → Nat → Bool} {k : Nat} (h : m k = false) : fst m ah (k + 1) = fst m ah k := by
  rw [fst, h]
  cases fst m ah k <;> rfl
theorem fst_new {m : Nat → Bool} {ah : Nat → Nat → Bool} {k : Nat} (hm : m k = true) (h : fst m ah k = none) : fst m ah (k + 1) = some k := by rw [fst, h, hm]; rfl
theorem fst_turn {m : Nat → Bool} {ah : Nat → Nat → Bool} {k b : Nat} (hm : m k = true) (h : fst m ah k = some b) (ha : ah k b = true) : fst m ah (k + 1) = some k := by rw [fst, h]; simp [hm, ha]
theorem fst_stay {m : Nat → Bool} {ah : Nat → Nat → Bool} {k b : Nat} (h : fst m ah k = some b) (ha : ah k b = false) : fst m ah (k + 1) = some b := by rw [fst, h]; simp [ha]
theorem fst_lt {m : Nat → Bool} {ah : Nat → Nat → Bool} : ∀ {n b : Nat}, fst m ah n = some b → b < n ∧ m b = true
  | 0, b, h => by simp [fst] at h
  | k + 1, b, h => by
    rw [fst] at h
    cases hk : fst m ah k with
    | none =>
      rw [hk] at h
      dsimp only at h
      split at h
      · rename_i hm; injection h with h; subst h; exact ⟨Nat.lt_succ_self _, hm⟩
      · cases h
    | some c =>
      rw [hk] at h
      dsimp only at h
      have hc := fst_lt hk
      split at h
      · rename_i hm; injection h with h; subst h; simp only [Bool.and_eq_true] at hm; exact ⟨Nat.lt_succ_self _, hm.1⟩
      · injection h with h; subst h; exact ⟨by omega, hc.2⟩
theorem fst_none {m : Nat → Bool} {ah : Nat → Nat → Bool} : ∀ {n : Nat}, fst m ah n = none → ∀ i, i < n → m i = false
  | 0, _, i, hi => absurd hi (Nat.not_lt_zero _)
  | k + 1, h, i, hi => by
    rw [fst] at h
    cases hk : fst m ah k with
    | none =>
      rw [hk] at h
      dsimp only at h
      split at h
      · cases h
      · rename_i hm
        rcases Nat.lt_or_ge i k with h1 | h1
        · exact fst_none hk i h1
        · obtain rfl : i = k := by omega
          simpa using hm
    | some c =>
      rw [hk] at h
      dsimp only at h
      split at h <;> cases h
theorem fst_best {m : Nat → Bool} {ah : Nat → Nat → Bool} (ho : OrdF ah) : ∀ {n b : Nat}, fst m ah n = some b → ∀ i, i < n → m i = true → i ≠ b → ah i b = false ∧ (i < b → ah b i = true)
  | 0, b, h, i, hi, _, _ => absurd hi (Nat.not_lt_zero _)
  | k + 1, b, h, i, hi, hm, hne => by
    rw [fst] at h
    cases hk : fst m ah k with
    | none =>
      rw [hk] at h
      dsimp only at h
      split at h
      · injection h with h; subst h
        have := fst_none hk i (by omega)
        rw [hm] at this; cases this
      · cases h
    | some c =>
      rw [hk] at h
      dsimp only at h
      have hc := fst_lt hk
      split at h
      · rename_i hmk
        injection h with h; subst h
        simp only [Bool.and_eq_true] at hmk
        have hi' : i < k := by omega
        by_cases hic : i = c
        · subst hic
          refine ⟨?_, fun _ => hmk.2⟩
          cases hx : ah i k
          · rfl
          · have := ho.1 i k i hx hmk.2
            rw [ho.2.2 i] at this; cases this
        · obtain ⟨h1, _⟩ := fst_best ho hk i hi' hm hic
          constructor
          · cases hx : ah i k
            · rfl
            · have := ho.1 i k c hx hmk.2
              rw [h1] at this; cases this
          · intro _
            cases hx : ah k i
            · have := ho.2.1 k i c hx h1
              rw [hmk.2] at this; cases this
            · rfl
      · rename_i hmk
        injection h with h; subst h
        by_cases hik : i = k
        · subst hik
          rw [hm, Bool.true_and] at hmk
          exact ⟨by simpa using hmk, fun h => by omega⟩
        · exact fst_best ho hk i (by omega) hm hne
/-- who is so, is the one -/
theorem fst_uniq {m : Nat → Bool} {ah : Nat → Nat → Bool} (ho : OrdF ah) {n b : Nat} (hb : b < n) (hm : m b = true) (h : ∀ i, i < n → m i = true → i ≠ b → ah i b = false ∧ (i < b → ah b i = true)) : fst m ah n = some b := by
  cases hf : fst m ah n with
  | none => have := fst_none hf b hb; rw [hm] at this; cases this
  | some c =>
    by_cases e : b = c
    · rw [e]
    · exfalso
      obtain ⟨hc, hmc⟩ := fst_lt hf
      obtain ⟨h1, h2⟩ := h c hc hmc (Ne.symm e)
      obtain ⟨h3, h4⟩ := fst_best ho hf b hb hm e
      rcases Nat.lt_or_ge b c with hlt | hge
      · rw [h1] at h4; exact absurd (h4 hlt) (by simp)
      · rw [h3] at h2; exact absurd (h2 (by omega)) (by simp)
theorem fst_congr {m m' : Nat → Bool} {ah ah' : Nat → Nat → Bool} : ∀ {n : Nat}, (∀ i, i < n → m i = m' i) → (∀ a b, a < n → b < n → m a = true → m b = true → ah a b = ah' a b) → fst m ah n = fst m' ah' n
  | 0, _, _ => rfl
  | k + 1, h1, h2 => by
    have ih := fst_congr (n := k) (fun i hi => h1 i (by omega)) (fun a b ha hb => h2 a b (by omega) (by omega))
    rw [fst, fst, ← ih]
    cases hk : fst m ah k with
    | none => rw [h1 k (by omega)]
    | some c =>
      dsimp only
      obtain ⟨hc, hmc⟩ := fst_lt hk
      rw [← h1 k (by omega)]
      cases hm : m k
      · rfl
      · rw [h2 k c (by omega) (by omega) hm hmc]
/-- how far the most worn is from the least worn of those that may -/
def gapF (e : Nat → Int) (m : Nat → Bool) (n : Nat) : Int := match fst m (lo e) n, fst m (hi e) n with
  | some a, some b => e b - e a
  | _, _ => 0
theorem gap_none {e : Nat → Int} {m : Nat → Bool} {n : Nat} (h : fst m (lo e) n = none) : gapF e m n = 0 := by rw [gapF, h]
theorem gap_some {e : Nat → Int} {m : Nat → Bool} {n a b : Nat} (h : fst m (lo e) n = some a) (h2 : fst m (hi e) n = some b) : gapF e m n = e b - e a := by rw [gapF, h, h2]
/-- with one least worn there is one most worn -/
theorem hi_of_lo {e : Nat → Int} {m : Nat → Bool} {n a : Nat} (h : fst m (lo e) n = some a) : ∃ b, fst m (hi e) n = some b := by
  cases hf : fst m (hi e) n with
  | some b => exact ⟨b, rfl⟩
  | none =>
    obtain ⟨h1, h2⟩ := fst_lt h
    rw [fst_none hf a h1] at h2; cases h2
theorem lo_le {e : Nat → Int} {m : Nat → Bool} {n a : Nat} (h : fst m (lo e) n = some a) {i : Nat} (hi : i < n) (hm : m i = true) : e a ≤ e i := by
  by_cases e1 : i = a
  · rw [e1]; exact Int.le_refl _
  · have := (fst_best (lo_ord e) h i hi hm e1).1
    simp only [lo, decide_eq_false_iff_not] at this
    omega
theorem hi_ge {e : Nat → Int} {m : Nat → Bool} {n a : Nat} (h : fst m (hi e) n = some a) {i : Nat} (hi : i < n) (hm : m i = true) : e i ≤ e a := by
  by_cases e1 : i = a
  · rw [e1]; exact Int.le_refl _
  · have := (fst_best (hi_ord e) h i hi hm e1).1
    simp only [We.hi, decide_eq_false_iff_not] at this
    omega
end Go.Proofs.Ytmmpcgmhcaianaa.We
