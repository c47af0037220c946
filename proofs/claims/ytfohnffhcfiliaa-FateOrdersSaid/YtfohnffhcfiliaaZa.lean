/- Slices of structs of three whole numbers, as lists of triples; whether fates may be, by the reference. -/
import Derived.Test.YtfohnffhcfiliaaProg
import Derived.Test.YtfohnffhcfiliaaWb
import Derived.Test.YtfohnffhcfiliaaCl
import Derived.Below
import Derived.WalkKit
import Derived.WalkSpells
import Derived.WalkLawsBesides
import Derived.Lib.Hide
import Derived.IntWalk
import Derived.KernelRfl
namespace Go.Proofs.Ytfohnffhcfiliaa
open Go.RowKit
set_option linter.unusedVariables false
set_option linter.unusedSimpArgs false

def Ans (w : World) (v : Value) (e : Ending) (w' : World) : Prop := e = .returned v ∧ Below w.heap.size w w'
def tAt (ts : List (Int × Int × Int)) (i : Nat) : Int × Int × Int := ts.getD i (0, 0, 0)
theorem add_block (a : Addr) (n : Nat) : (a.add n).block = a.block := by unfold Addr.add; split <;> rfl
theorem below_alloc (w : World) (o : Obj) : Below w.heap.size w (w.alloc o) := (Below.refl _ _).alloc (Nat.le_refl _) _
theorem below_drewN {B : Nat} {w w1 : World} (h : Below B w w1) (n : Nat) : Below B w (w1.drewN n) := ⟨h.os, h.tape, h.output, h.size, h.block⟩
/-- the slice with address A holds the triples ts, below block B -/
def S3 (w : World) (B : Nat) (A : Option Addr) (ts : List (Int × Int × Int)) : Prop :=
  ts = [] ∨ ∃ a, A = some a ∧ a.block < B ∧ ∀ i, i < ts.length → w.cell? (a.add (i * 3)) = some (.int .i64 (tAt ts i).1) ∧ w.cell? (a.add (i * 3 + 1)) = some (.int .i64 (tAt ts i).2.1) ∧ w.cell? (a.add (i * 3 + 2)) = some (.int .i64 (tAt ts i).2.2)
theorem S3.nil (w : World) (B : Nat) (A : Option Addr) : S3 w B A [] := Or.inl rfl
theorem S3.keep {w w' : World} {B : Nat} {A : Option Addr} {ts : List (Int × Int × Int)} (h : S3 w B A ts) (hk : ∀ p : Addr, p.block < B → w'.cell? p = w.cell? p) : S3 w' B A ts := by
  rcases h with e | ⟨a, e, h1, h2⟩
  · exact Or.inl e
  · refine Or.inr ⟨a, e, h1, fun i hi => ?_⟩
    rw [hk _ (by rw [add_block]; exact h1), hk _ (by rw [add_block]; exact h1), hk _ (by rw [add_block]; exact h1)]
    exact h2 i hi
theorem S3.more {w : World} {B B' : Nat} {A : Option Addr} {ts : List (Int × Int × Int)} (h : S3 w B A ts) (hB : B ≤ B') : S3 w B' A ts := by
  rcases h with e | ⟨a, e, h1, h2⟩
  · exact Or.inl e
  · exact Or.inr ⟨a, e, by omega, h2⟩
theorem S3.below {w w' : World} {B : Nat} {A : Option Addr} {ts : List (Int × Int × Int)} (h : S3 w B A ts) (hb : Below B w w') : S3 w' B A ts := h.keep fun _ hp => hb.cell hp
theorem S3.far {w w' : World} {A : Option Addr} {ts : List (Int × Int × Int)} (h : S3 w w.heap.size A ts) (hb : Below w.heap.size w w') : S3 w' w'.heap.size A ts := (h.below hb).more hb.size
theorem add_more (a : Addr) (k m : Nat) (hm : m ≠ 0) : a.add (k + m) = ⟨(a.add k).block, (a.add k).off + m, none⟩ := by
  unfold Addr.add
  by_cases hk : k = 0
  · subst hk
    rw [if_neg (by omega), if_pos rfl, Nat.zero_add]
  · rw [if_neg (by omega), if_neg hk]
    simp [Nat.add_assoc]
theorem S3.at_ {w : World} {B : Nat} {A : Option Addr} {ts : List (Int × Int × Int)} {i : Nat} (h : S3 w B A ts) (hi : i < ts.length) : ∃ a, A = some a ∧ a.block < B ∧ w.cell? (a.add (i * 3)) = some (.int .i64 (tAt ts i).1) ∧
    w.cell? ⟨(a.add (i * 3)).block, (a.add (i * 3)).off + 1, none⟩ = some (.int .i64 (tAt ts i).2.1) ∧ w.cell? ⟨(a.add (i * 3)).block, (a.add (i * 3)).off + 2, none⟩ = some (.int .i64 (tAt ts i).2.2) := by
  rcases h with e | ⟨a, e, h1, h2⟩
  · rw [e] at hi; exact absurd hi (by simp)
  · obtain ⟨g0, g1, g2⟩ := h2 i hi
    rw [add_more a _ 1 (by decide)] at g1
    rw [add_more a _ 2 (by decide)] at g2
    exact ⟨a, e, h1, g0, g1, g2⟩
/-- one fate that may be -/
def okT (x : Int × Int × Int) : Bool := decide (0 ≤ x.1 ∧ x.1 ≤ 1099511627776 ∧ (x.2.1 = 1 ∨ x.2.1 = 2) ∧ 0 ≤ x.2.2)
def newT (ts : List (Int × Int × Int)) (i : Nat) : Bool := okT (tAt ts i) && (List.range i).all fun k => decide ((tAt ts k).1 ≠ (tAt ts i).1)
def mayF (ts : List (Int × Int × Int)) : Bool := decide (ts.length ≤ 256) && (List.range ts.length).all fun i => newT ts i
theorem mayF_not {ts : List (Int × Int × Int)} {i : Nat} (hi : i < ts.length) (h : newT ts i = false) : mayF ts = false := by
  unfold mayF
  rw [Bool.and_eq_false_iff]
  right
  rw [Bool.eq_false_iff]
  intro e
  have := (List.all_eq_true.1 e) i (List.mem_range.2 hi)
  rw [h] at this
  cases this
theorem mayF_yes {ts : List (Int × Int × Int)} (hl : ts.length ≤ 256) (h : ∀ i, i < ts.length → newT ts i = true) : mayF ts = true := by
  unfold mayF
  rw [decide_eq_true hl, Bool.true_and]
  exact List.all_eq_true.2 fun i hi => h i (List.mem_range.1 hi)
theorem newT_ok {ts : List (Int × Int × Int)} {i : Nat} (h1 : okT (tAt ts i) = true) (h2 : ∀ k, k < i → (tAt ts k).1 ≠ (tAt ts i).1) : newT ts i = true := by
  unfold newT
  rw [h1, Bool.true_and]
  exact List.all_eq_true.2 fun k hk => decide_eq_true (h2 k (List.mem_range.1 hk))
theorem newT_bad {ts : List (Int × Int × Int)} {i : Nat} (h1 : okT (tAt ts i) = false) : newT ts i = false := by unfold newT; rw [h1]; rfl
theorem newT_twice {ts : List (Int × Int × Int)} {i k : Nat} (hk : k < i) (h : (tAt ts k).1 = (tAt ts i).1) : newT ts i = false := by
  unfold newT
  rw [Bool.and_eq_false_iff]
  right
  rw [Bool.eq_false_iff]
  intro e
  have := (List.all_eq_true.1 e) k (List.mem_range.2 hk)
  exact absurd h (of_decide_eq_true this)
end Go.Proofs.Ytfohnffhcfiliaa
