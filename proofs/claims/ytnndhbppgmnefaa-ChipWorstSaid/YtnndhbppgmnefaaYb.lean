/- Points of symbols, plain: what is wrong of a page whose cells moved. -/
import Derived.Test.YtnndhbppgmnefaaYz
namespace Go.Proofs.Ytnndhbppgmnefaa
open Go.RowKit Go.Gf Go.Fl
set_option linter.unusedVariables false
set_option linter.unusedSimpArgs false

theorem lev_pt (m : Int) (h0 : 0 ≤ m) (h1 : m ≤ 31) : lev (2 * m - 31) = m := by unfold lev; omega
theorem slc_pt {s : Nat} (h : s < 1024) : slc (pt s).1 (pt s).2 = (s : Int) := by
  unfold slc pt
  dsimp only
  rw [lev_pt _ (by omega) (by omega), lev_pt _ (by omega) (by omega)]
  omega
theorem pt_range (s : Nat) : -31 ≤ (pt s).1 ∧ (pt s).1 ≤ 31 ∧ -31 ≤ (pt s).2 ∧ (pt s).2 ≤ 31 := by unfold pt; dsimp only; omega
theorem pt_odd (s : Nat) : pt s ≠ (0, 0) := by
  intro e
  have e1 := congrArg Prod.fst e
  unfold pt at e1
  dsimp only at e1
  omega
theorem bad_pt {s : Nat} (h : s < 1024) : bad (pt s) s = false := by
  unfold bad
  rw [decide_eq_false (pt_odd s), decide_eq_false (by rw [slc_pt h]; simp)]
  rfl
theorem ptAt_map {xs : List Nat} {i : Nat} (h : i < xs.length) : ptAt (xs.map pt) i = pt (syAt xs i) := by
  unfold ptAt syAt
  simp [List.getD_eq_getElem?_getD, h]
theorem syAt_lt {xs : List Nat} (hx : ∀ x ∈ xs, x < 1024) (i : Nat) : syAt xs i < 1024 := by
  unfold syAt
  rcases Nat.lt_or_ge i xs.length with h | h
  · rw [List.getD_eq_getElem?_getD, List.getElem?_eq_getElem h]
    exact hx _ (List.getElem_mem h)
  · rw [List.getD_eq_getElem?_getD, List.getElem?_eq_none h]
    decide
theorem syAt_get {xs : List Nat} {i : Nat} (h : i < xs.length) : syAt xs i = xs[i] := by
  unfold syAt
  rw [List.getD_eq_getElem?_getD, List.getElem?_eq_getElem h]; rfl
/-- just programmed, nothing is wrong -/
theorem wrong_none {xs : List Nat} (hx : ∀ x ∈ xs, x < 1024) : wrongI (xs.map pt) xs = [] := by
  unfold wrongI
  rw [List.filter_eq_nil_iff]
  intro i hi
  rw [List.length_map, List.mem_range] at hi
  rw [ptAt_map hi, bad_pt (syAt_lt hx i)]
  exact Bool.false_ne_true
theorem filter_one {n k : Nat} (hk : k < n) : (List.range n).filter (fun i => decide (i = k)) = [k] := by
  induction n with
  | zero => omega
  | succ n ih =>
    rw [List.range_succ, List.filter_append]
    by_cases h : k = n
    · subst h
      rw [List.filter_eq_nil_iff.2 (fun i hi => by rw [List.mem_range] at hi; simp; omega)]
      simp
    · rw [ih (by omega)]
      have : ¬ n = k := fun e => h e.symm
      simp [this]
/-- one cell moved: it alone may be wrong -/
theorem wrong_set {xs : List Nat} (hx : ∀ x ∈ xs, x < 1024) {k : Nat} (hk : k < xs.length) (q : Int × Int) :
    wrongI ((xs.map pt).set k q) xs = if bad q (syAt xs k) = true then [k] else [] := by
  have hat : ∀ i, i < xs.length → bad (ptAt ((xs.map pt).set k q) i) (syAt xs i) = (decide (i = k) && bad q (syAt xs k)) := fun i hi => by
    by_cases e : i = k
    · subst e
      have : ptAt ((xs.map pt).set i q) i = q := by
        unfold ptAt
        rw [List.getD_eq_getElem?_getD, List.getElem?_set_self (by simpa using hi)]; rfl
      rw [this]; simp
    · have : ptAt ((xs.map pt).set k q) i = ptAt (xs.map pt) i := by
        unfold ptAt
        rw [List.getD_eq_getElem?_getD, List.getElem?_set_ne (fun h => e h.symm), List.getD_eq_getElem?_getD]
      rw [this, ptAt_map hi, bad_pt (syAt_lt hx i), decide_eq_false e]; rfl
  unfold wrongI
  rw [List.length_set, List.length_map]
  rw [List.filter_congr (q := fun i => decide (i = k) && bad q (syAt xs k)) (fun i hi => hat i (List.mem_range.1 hi))]
  cases bad q (syAt xs k)
  · simp
  · simp only [Bool.and_true, if_true]
    exact filter_one hk
theorem prog_all {xs : List Nat} {ps : List (Int × Int)} (hl : ps.length = xs.length) : progP ps xs (xs.length : Int) = xs.map pt := by
  unfold progP
  refine List.ext_getElem (by simp [hl]) fun i h1 h2 => ?_
  rw [List.length_map] at h2
  rw [List.getElem_map, List.getElem_map, List.getElem_range, if_pos (by omega), syAt_get h2]
theorem prog_len (ps : List (Int × Int)) (xs : List Nat) (k : Int) : (progP ps xs k).length = ps.length := by unfold progP; simp
theorem prog_at {ps : List (Int × Int)} {xs : List Nat} {k : Int} {i : Nat} (hi : i < ps.length) : ptAt (progP ps xs k) i = if (i : Int) < k then pt (syAt xs i) else ptAt ps i := by
  unfold progP
  conv => lhs; unfold ptAt
  rw [List.getD_eq_getElem?_getD, List.getElem?_map, List.getElem?_range hi]
  rfl
theorem zero_at (n i : Nat) : ptAt (List.replicate n (0, 0)) i = (0, 0) := by
  unfold ptAt
  rw [List.getD_eq_getElem?_getD]
  rcases Nat.lt_or_ge i n with h | h
  · rw [List.getElem?_replicate, if_pos h]; rfl
  · rw [List.getElem?_eq_none (by simpa using h)]; rfl
theorem prog_S {n : Nat} (hn : 0 < n) : progS n (n : Int) = 1 := by unfold progS; rw [if_neg (by omega), if_pos (by omega)]
/-- moved there and back -/
theorem mov_back {xs : List Nat} {k : Nat} (hk : k < xs.length) (X Y : Int) : movP (movP (xs.map pt) k X Y) k (-X) (-Y) = xs.map pt := by
  unfold movP
  have h1 : k < (xs.map pt).length := by simpa using hk
  have : ptAt ((xs.map pt).set k ((ptAt (xs.map pt) k).1 + X, (ptAt (xs.map pt) k).2 + Y)) k = ((ptAt (xs.map pt) k).1 + X, (ptAt (xs.map pt) k).2 + Y) := by
    conv => lhs; unfold ptAt
    rw [List.getD_eq_getElem?_getD, List.getElem?_set_self h1]; rfl
  rw [this, List.set_set]
  have e : ((ptAt (xs.map pt) k).1 + X + -X, (ptAt (xs.map pt) k).2 + Y + -Y) = (xs.map pt)[k] := by
    have : ptAt (xs.map pt) k = (xs.map pt)[k] := by unfold ptAt; rw [List.getD_eq_getElem?_getD, List.getElem?_eq_getElem h1]; rfl
    rw [this]
    refine Prod.ext ?_ ?_ <;> dsimp only <;> omega
  dsimp only
  rw [e, List.set_getElem_self]
theorem is_L1 (s : Nat) : Is (L ((s : Int) / 32)) (((pt s).1 : Int) : Rat) := L_is _
theorem is_L2 (s : Nat) : Is (L (s : Int)) (((pt s).2 : Int) : Rat) := L_is _
end Go.Proofs.Ytnndhbppgmnefaa
