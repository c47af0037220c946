/- Slices of 16-bit numbers that are read as lists, and those that a call makes (words for memory, of our own). -/
import Derived.Test.YtnndhbppgmnefaaRf
import Derived.Below
import Derived.Laws.OwnMore
import Derived.Deep.OwnRows
import Derived.Deep.Draws
import Derived.Laws.Rows
namespace Go.Proofs.Ytnndhbppgmnefaa
open Go.RowKit

/-- a number as a value -/
def uv (n : Nat) : Value := .int .u16 (n : Int)
/-- the slice with address A holds xs, below block B -/
def Sl (w : World) (B : Nat) (A : Option Addr) (xs : List Nat) : Prop :=
  (∀ x ∈ xs, x < 65536) ∧ (xs = [] ∨ ∃ a, A = some a ∧ a.block < B ∧ ∀ i (h : i < xs.length), w.cell? (a.add i) = some (uv xs[i]))
/-- block g is just the numbers cs, and may be written -/
def Arr (w : World) (g : Nat) (cs : List Nat) : Prop := w.heap[g]? = some (.cells (cs.map uv).toArray 54 (0, 0))

theorem below_drewN {B : Nat} {w w1 : World} (h : Below B w w1) (n : Nat) : Below B w (w1.drewN n) := ⟨h.os, h.tape, h.output, h.size, h.block⟩
theorem add_block (a : Addr) (n : Nat) : (a.add n).block = a.block := by unfold Addr.add; split <;> rfl
section
variable {w w' : World} {B B' g : Nat} {A : Option Addr} {xs cs : List Nat}
theorem Sl.nil (w : World) (B : Nat) (A : Option Addr) : Sl w B A [] := ⟨by simp, Or.inl rfl⟩
theorem Sl.keep (h : Sl w B A xs) (hk : ∀ p : Addr, p.block < B → w'.cell? p = w.cell? p) : Sl w' B A xs := by
  refine ⟨h.1, ?_⟩
  rcases h.2 with h | ⟨a, e, hb, hc⟩
  · exact Or.inl h
  · exact Or.inr ⟨a, e, hb, fun i hi => (hk _ (by rw [add_block]; exact hb)).trans (hc i hi)⟩
theorem Sl.more (h : Sl w B A xs) (hB : B ≤ B') : Sl w B' A xs := by
  refine ⟨h.1, ?_⟩
  rcases h.2 with h | ⟨a, e, hb, hc⟩
  · exact Or.inl h
  · exact Or.inr ⟨a, e, by omega, hc⟩
theorem Sl.below (h : Sl w B A xs) (hb : Below B w w') : Sl w' B A xs := h.keep fun _ hp => hb.cell hp
theorem Sl.at_ {i : Nat} (h : Sl w B A xs) (hi : i < xs.length) : ∃ a, A = some a ∧ a.block < B ∧ w.cell? (a.add i) = some (.int .u16 ((xs[i] : Nat) : Int)) := by
  rcases h.2 with h | ⟨a, e, hb, hc⟩
  · rw [h] at hi; exact absurd hi (by simp)
  · exact ⟨a, e, hb, hc i hi⟩
theorem Arr.lt (h : Arr w g cs) : g < w.heap.size := by
  rcases Nat.lt_or_ge g w.heap.size with hlt | hge
  · exact hlt
  · unfold Arr at h; rw [Array.getElem?_eq_none hge] at h; cases h
theorem Arr.cell (h : Arr w g cs) {i : Nat} (hi : i < cs.length) : w.cell? ⟨g, i, none⟩ = some (.int .u16 ((cs[i] : Nat) : Int)) := by
  rw [cell_of_row w g i _ 54 (0, 0) h]
  simp [hi, uv]
theorem Arr.frozen (h : Arr w g cs) (i : Nat) : w.frozen? ⟨g, i, none⟩ = false := by
  unfold Arr at h
  simp [World.frozen?, h]
theorem Arr.new (w : World) (cs : List Nat) : Arr (w.alloc (.cells (cs.map uv).toArray 54)) w.heap.size cs := heap_alloc_new w _
theorem Arr.set_ (h : Arr w g cs) (i n : Nat) : Arr (w.setCell ⟨g, i, none⟩ (.int .u16 (n : Int))) g (cs.set i n) := by
  unfold Arr at h ⊢
  simp only [World.setCell]
  rw [Array.getElem?_modify, h]
  simp [List.map_set, uv]
theorem Arr.alloc (h : Arr w g cs) (o : Obj) : Arr (w.alloc o) g cs := (Below.heap_alloc w o g h.lt).trans h
theorem Arr.below (h : Arr w g cs) (hb : Below B w w') (hg : g < B) : Arr w' g cs := (hb.block g hg).trans h
theorem Arr.sl (h : Arr w g cs) (hc : ∀ x ∈ cs, x < 65536) : Sl w w.heap.size (some ⟨g, 0, none⟩) cs := by
  refine ⟨hc, Or.inr ⟨_, rfl, h.lt, fun i hi => ?_⟩⟩
  have e : (⟨g, 0, none⟩ : Addr).add i = ⟨g, i, none⟩ := by unfold Addr.add; split <;> simp_all
  rw [e]; exact h.cell hi
theorem made_uv (n : Nat) : madeCells #[.int .u16 0] n = ((List.replicate n 0).map uv).toArray := by
  unfold madeCells
  apply Array.ext
  · simp
  · intro i h1 h2
    simp [uv, Nat.mod_one]
end

/-- a slice that a call made for its caller, or nil -/
def Fresh (w w' : World) (s : Value) (ys : List Nat) : Prop :=
  Below w.heap.size w w' ∧ (∀ y ∈ ys, y < 65536) ∧ ((s = .slice none 0 0 ∧ ys = []) ∨ ∃ g, w.heap.size ≤ g ∧ s = .slice (some ⟨g, 0, none⟩) ys.length ys.length ∧ Arr w' g ys)
end Go.Proofs.Ytnndhbppgmnefaa
