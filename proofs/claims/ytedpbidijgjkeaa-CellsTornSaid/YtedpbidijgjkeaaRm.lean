/- The reference's products of polynomials. -/
import Derived.Test.YtedpbidijgjkeaaRp
namespace Go.Proofs.Ytedpbidijgjkeaa
open Go.RowKit Go.Gf

theorem tr_bd (xs : List Nat) : ∀ x ∈ tr xs, x < 1024 := by
  intro x hx
  unfold tr at hx
  have h1 := List.mem_reverse.1 hx
  have h2 := (List.dropWhile_suffix (fun x => x == 0)).subset h1
  have h3 := List.mem_reverse.1 h2
  obtain ⟨y, _, rfl⟩ := List.mem_map.1 h3
  omega
theorem tr_len (xs : List Nat) : (tr xs).length ≤ xs.length := by
  unfold tr
  rw [List.length_reverse]
  have := (List.dropWhile_suffix (fun x : Nat => x == 0) (l := (xs.map (· % 1024)).reverse)).length_le
  simpa using this
theorem Fresh.sl {w w' : World} {s : Value} {ys : List Nat} (h : Fresh w w' s ys) : ∃ A c, s = .slice A ys.length c ∧ Sl w' w'.heap.size A ys ∧ Below w.heap.size w w' := by
  obtain ⟨hb, hy, h3⟩ := h
  rcases h3 with ⟨rfl, rfl⟩ | ⟨g, hg, rfl, ha⟩
  · exact ⟨none, 0, rfl, Sl.nil _ _ _, hb⟩
  · exact ⟨_, _, rfl, ha.sl hy, hb⟩
theorem Sl.far {w w' : World} {A : Option Addr} {xs : List Nat} (h : Sl w w.heap.size A xs) (hb : Below w.heap.size w w') : Sl w' w'.heap.size A xs := (h.below hb).more hb.size

/-- a slice that holds xs, made when the heap had at least lo blocks -/
def SlF (w : World) (lo : Nat) (A : Option Addr) (xs : List Nat) : Prop := Sl w w.heap.size A xs ∧ (xs = [] ∨ ∃ a, A = some a ∧ lo ≤ a.block)
theorem SlF.far {w w' : World} {lo : Nat} {A : Option Addr} {xs : List Nat} (h : SlF w lo A xs) (hb : Below w.heap.size w w') : SlF w' lo A xs := ⟨h.1.far hb, h.2⟩
theorem SlF.lo {w : World} {lo lo' : Nat} {A : Option Addr} {xs : List Nat} (h : SlF w lo A xs) (hl : lo' ≤ lo) : SlF w lo' A xs := by
  refine ⟨h.1, ?_⟩
  rcases h.2 with e | ⟨a, e, h2⟩
  · exact Or.inl e
  · exact Or.inr ⟨a, e, by omega⟩
theorem Fresh.slf {w w' : World} {s : Value} {ys : List Nat} (h : Fresh w w' s ys) : ∃ A c, s = .slice A ys.length c ∧ SlF w' w.heap.size A ys ∧ Below w.heap.size w w' := by
  obtain ⟨A, c, h1, h2, h3⟩ := h.sl
  refine ⟨A, c, h1, ⟨h2, ?_⟩, h3⟩
  obtain ⟨_, _, h4⟩ := h
  rcases h4 with ⟨_, e⟩ | ⟨g, hg, e, _⟩
  · exact Or.inl e
  · right
    rw [h1] at e
    injection e with e
    exact ⟨_, e, hg⟩

/-- one row of the product: f, with x times the first k of ys added from place i on -/
def mrow (f : Nat → Nat) (x : Nat) (ys : List Nat) (i : Nat) : Nat → Nat → Nat
  | 0, j => f j
  | k + 1, j => if j = i + k then mrow f x ys i k j ^^^ gm x (at_ ys k) else mrow f x ys i k j
/-- the first i rows of the product -/
def mall (xs ys : List Nat) : Nat → Nat → Nat
  | 0, _ => 0
  | i + 1, j => mrow (mall xs ys i) (at_ xs i) ys i ys.length j
theorem mrow_lt {f : Nat → Nat} {x : Nat} {ys : List Nat} {i : Nat} (hf : ∀ j, f j < 1024) (hx : x < 1024) (k j : Nat) : mrow f x ys i k j < 1024 := by
  induction k with
  | zero => exact hf j
  | succ k ih =>
    unfold mrow
    split
    · exact xor_lt ih (gm_lt _ hx)
    · exact ih
theorem mall_lt {xs ys : List Nat} (hx : ∀ x ∈ xs, x < 1024) (i j : Nat) : mall xs ys i j < 1024 := by
  induction i generalizing j with
  | zero => show 0 < 1024; decide
  | succ i ih => exact mrow_lt ih (at_lt hx (by decide)) _ _
def pmul (xs ys : List Nat) : List Nat :=
  if (tr xs).length = 0 ∨ (tr ys).length = 0 ∨ 4096 < (tr xs).length + (tr ys).length - 1 then [] else tr (rm ((tr xs).length + (tr ys).length - 1) (mall (tr xs) (tr ys) (tr xs).length))
theorem gives_nil {w w1 : World} (h : Below w.heap.size w w1) : Gives w [] (.returned (.slice none 0 0)) w1 := ⟨_, rfl, h, by simp, Or.inl ⟨rfl, rfl⟩⟩

end Go.Proofs.Ytedpbidijgjkeaa
