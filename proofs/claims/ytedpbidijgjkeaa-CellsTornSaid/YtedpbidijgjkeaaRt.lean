/- The reference's polynomials: what they answer, said of lists. -/
import Derived.Test.YtedpbidijgjkeaaSl
namespace Go.Proofs.Ytedpbidijgjkeaa
open Go.RowKit Go.Gf

theorem info22 : (Try.prog.info? 27).map (fun i => (i.zero, i.size, i.bytes)) = some (some (.int .u16 0), 1, 2) := by kernel_rfl

/-- each modulo 1024, without noughts at the end -/
def tr (xs : List Nat) : List Nat := ((xs.map (· % 1024)).reverse.dropWhile (· == 0)).reverse
theorem tr_snoc (l : List Nat) (x : Nat) : tr (l ++ [x]) = if x % 1024 = 0 then tr l else (l ++ [x]).map (· % 1024) := by
  unfold tr
  rw [List.map_append, List.reverse_append]
  simp only [List.map_cons, List.map_nil, List.reverse_cons, List.reverse_nil, List.nil_append, List.singleton_append, List.dropWhile_cons]
  by_cases h : x % 1024 = 0
  · simp [h]
  · simp [h]
theorem take_snoc {xs : List Nat} {k : Nat} (h : k < xs.length) : xs.take (k + 1) = xs.take k ++ [xs[k]] := by
  rw [List.take_succ_eq_append_getElem h]
theorem tr_take {xs : List Nat} {k : Nat} (h : k < xs.length) : tr (xs.take (k + 1)) = if xs[k] % 1024 = 0 then tr (xs.take k) else (xs.take (k + 1)).map (· % 1024) := by
  rw [take_snoc h, tr_snoc]

/-- a call's ending: a slice of its own make that holds ys -/
def Gives (w : World) (ys : List Nat) (e : Ending) (w' : World) : Prop := ∃ s, e = .returned s ∧ Fresh w w' s ys
/-- likewise, and it is no nil slice -/
def GivesB (w : World) (ys : List Nat) (e : Ending) (w' : World) : Prop := ∃ g, w.heap.size ≤ g ∧ e = .returned (.slice (some ⟨g, 0, none⟩) ys.length ys.length) ∧ Arr w' g ys ∧ Below w.heap.size w w' ∧ ∀ y ∈ ys, y < 65536
theorem GivesB.gives {w w' : World} {ys : List Nat} {e : Ending} (h : GivesB w ys e w') : Gives w ys e w' := by
  obtain ⟨g, hg, he, ha, hb, hy⟩ := h
  exact ⟨_, he, hb, hy, Or.inr ⟨g, hg, rfl, ha⟩⟩
/-- the first j of k numbers are laid, each modulo 1024 -/
def Fill (w wr : World) (xs : List Nat) (k j : Nat) : Prop := Below w.heap.size w wr ∧ Arr wr w.heap.size ((xs.take j).map (· % 1024) ++ List.replicate (k - j) 0)
theorem fill_start (w : World) (xs : List Nat) (k : Nat) : Fill w (w.alloc (.cells (madeCells #[.int .u16 0] k) 27)) xs k 0 := by
  refine ⟨(Below.refl _ _).alloc (Nat.le_refl _) _, ?_⟩
  rw [made_uv]
  exact Arr.new w _
theorem fill_step {w wr : World} {xs : List Nat} {k j : Nat} (hj : j < k) (hx : j < xs.length) (h : Fill w wr xs k j) :
    Fill w (wr.setCell ⟨w.heap.size, j, none⟩ (.int .u16 ((xs[j] : Int) % 1024))) xs k (j + 1) := by
  refine ⟨h.1.setCell (by simp) _, ?_⟩
  have := h.2.set_ j (xs[j] % 1024)
  have e : ((xs.take j).map (· % 1024) ++ List.replicate (k - j) 0).set j (xs[j] % 1024) = (xs.take (j + 1)).map (· % 1024) ++ List.replicate (k - (j + 1)) 0 := by
    rw [take_snoc hx, List.map_append, List.append_assoc]
    obtain ⟨m, hm⟩ : ∃ m, k - j = m + 1 := ⟨k - j - 1, by omega⟩
    rw [hm, List.replicate_succ, show k - (j + 1) = m by omega]
    rw [List.set_append_right _ _ (by simp; omega)]
    simp [Nat.min_eq_left (Nat.le_of_lt hx)]
  rw [e] at this
  exact this
theorem fill_end {w wr : World} {xs : List Nat} {k : Nat} (ht : (xs.take k).map (· % 1024) = tr xs ∧ k ≤ xs.length) (h : Fill w wr xs k k) : GivesB w (tr xs) (.returned (.slice (some ⟨w.heap.size, 0, none⟩) k k)) wr := by
  obtain ⟨h1, h2⟩ := h
  rw [Nat.sub_self, List.replicate_zero, List.append_nil, ht.1] at h2
  have hlen : (tr xs).length = k := by rw [← ht.1]; simp; omega
  refine ⟨w.heap.size, Nat.le_refl _, by rw [hlen], h2, h1, ?_⟩
  intro y hy
  rw [← ht.1] at hy
  obtain ⟨x, _, rfl⟩ := List.mem_map.1 hy
  omega

end Go.Proofs.Ytedpbidijgjkeaa
