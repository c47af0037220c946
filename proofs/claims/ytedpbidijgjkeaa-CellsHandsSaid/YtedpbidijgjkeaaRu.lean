/- The reference's slopes and sums of polynomials. -/
import Derived.Test.YtedpbidijgjkeaaRs
import Derived.StillTailTactics
namespace Go.Proofs.Ytedpbidijgjkeaa
open Go.RowKit Go.Gf

/-- the row of n numbers that f says -/
def rm (n : Nat) (f : Nat → Nat) : List Nat := (List.range n).map f
theorem rm_len (n : Nat) (f : Nat → Nat) : (rm n f).length = n := by simp [rm]
theorem rm_get {n : Nat} {f : Nat → Nat} {i : Nat} (h : i < (rm n f).length) : (rm n f)[i] = f i := by simp [rm]
theorem rm_congr {n : Nat} {f g : Nat → Nat} (h : ∀ j, j < n → f j = g j) : rm n f = rm n g := by
  unfold rm
  exact List.map_congr_left fun j hj => h j (List.mem_range.1 hj)
theorem rm_set (n : Nat) (f : Nat → Nat) (i v : Nat) : (rm n f).set i v = rm n (fun j => if j = i then v else f j) := by
  apply List.ext_getElem
  · simp [rm]
  · intro j h1 h2
    simp [rm, List.getElem_set]
    by_cases h : i = j
    · simp [h]
    · simp [h, Ne.symm h]
theorem rm_zero (n : Nat) : List.replicate n 0 = rm n (fun _ => 0) := by
  apply List.ext_getElem
  · simp [rm]
  · intro j h1 h2; simp [rm]
theorem rm_mem {n : Nat} {f : Nat → Nat} {b : Nat} (h : ∀ j, j < n → f j < b) : ∀ x ∈ rm n f, x < b := by
  intro x hx
  obtain ⟨j, hj, rfl⟩ := List.mem_map.1 hx
  exact h j (List.mem_range.1 hj)
theorem add_pos (a : Addr) (n : Nat) (h : n ≠ 0) : a.add n = ⟨a.block, a.off + n, none⟩ := by unfold Addr.add; rw [if_neg h]
/-- the call's own row, which f says -/
def Own (w wr : World) (g n : Nat) (f : Nat → Nat) : Prop := w.heap.size ≤ g ∧ Below w.heap.size w wr ∧ Arr wr g (rm n f)
theorem own_start (w : World) (n : Nat) : Own w (w.alloc (.cells (madeCells #[.int .u16 0] n) 27)) w.heap.size n (fun _ => 0) := by
  refine ⟨Nat.le_refl _, (Below.refl _ _).alloc (Nat.le_refl _) _, ?_⟩
  rw [made_uv, rm_zero]
  exact Arr.new w _
theorem Own.set_ {w wr : World} {g n : Nat} {f : Nat → Nat} (h : Own w wr g n f) (i v : Nat) : Own w (wr.setCell ⟨g, i, none⟩ (.int .u16 (v : Int))) g n (fun j => if j = i then v else f j) := by
  refine ⟨h.1, h.2.1.setCell h.1 _, ?_⟩
  rw [← rm_set]; exact h.2.2.set_ i v
theorem Own.congr {w wr : World} {g n : Nat} {f f' : Nat → Nat} (h : Own w wr g n f) (e : ∀ j, j < n → f j = f' j) : Own w wr g n f' := by
  refine ⟨h.1, h.2.1, ?_⟩
  rw [← rm_congr e]; exact h.2.2
theorem Own.drewN {w wr : World} {g n : Nat} {f : Nat → Nat} (h : Own w wr g n f) (k : Nat) : Own w (wr.drewN k) g n f := ⟨h.1, below_drewN h.2.1 k, h.2.2⟩
theorem Own.cell {w wr : World} {g n : Nat} {f : Nat → Nat} (h : Own w wr g n f) {i : Nat} (hi : i < n) : wr.cell? ⟨g, i, none⟩ = some (.int .u16 ((f i : Nat) : Int)) := by
  have := h.2.2.cell (i := i) (by rw [rm_len]; exact hi)
  rw [rm_get] at this; exact this
theorem Own.sl {w wr : World} {g n : Nat} {f : Nat → Nat} (h : Own w wr g n f) (hf : ∀ j, j < n → f j < 65536) : Sl wr wr.heap.size (some ⟨g, 0, none⟩) (rm n f) := h.2.2.sl (rm_mem hf)
theorem Fresh.since {w w1 w2 : World} {s : Value} {ys : List Nat} (h : Fresh w1 w2 s ys) (hb : Below w.heap.size w w1) : Fresh w w2 s ys := by
  obtain ⟨b, hy, h3⟩ := h
  refine ⟨hb.trans (b.mono hb.size), hy, ?_⟩
  rcases h3 with h3 | ⟨g, hg, h4, h5⟩
  · exact Or.inl h3
  · exact Or.inr ⟨g, Nat.le_trans hb.size hg, h4, h5⟩
/-- the row's numbers, noughts behind it -/
def at_ (xs : List Nat) (j : Nat) : Nat := xs.getD j 0
theorem at_get {xs : List Nat} {j : Nat} (h : j < xs.length) : at_ xs j = xs[j] := by simp [at_, h]
theorem at_far {xs : List Nat} {j : Nat} (h : xs.length ≤ j) : at_ xs j = 0 := by simp [at_, h]
theorem at_lt {xs : List Nat} {b j : Nat} (h : ∀ x ∈ xs, x < b) (hb : 0 < b) : at_ xs j < b := by
  rcases Nat.lt_or_ge j xs.length with hj | hj
  · rw [at_get hj]; exact h _ (List.getElem_mem hj)
  · rw [at_far hj]; exact hb

/-- the formal slope, not yet without noughts at its end: the places below p laid -/
def slopeF (xs : List Nat) (p j : Nat) : Nat := if j % 2 = 0 ∧ j < p then at_ xs (j + 1) else 0
def slope (xs : List Nat) : List Nat := tr (rm xs.length fun j => if j % 2 = 0 then at_ xs (j + 1) else 0)

end Go.Proofs.Ytedpbidijgjkeaa
