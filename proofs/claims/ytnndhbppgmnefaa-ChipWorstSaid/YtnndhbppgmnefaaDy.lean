/- ChipFails: programs and erases that fail. -/
import Derived.Test.YtnndhbppgmnefaaDx
namespace Go.Proofs.Ytnndhbppgmnefaa
open Go.RowKit Go.Fl
set_option linter.unusedVariables false
set_option linter.unusedSimpArgs false
attribute [local go_sem ↓] Cl.quiet_after Cl.quiet_since
def fts (kp : Nat) : List (Int × Int × Int) := [(1, 1, (kp : Int)), (3, 1, 0)]
theorem fts_may (kp : Nat) : Ft.mayF (fts kp) = true := by
  refine Ft.mayF_yes (by show 2 ≤ 256; decide) fun i hi => ?_
  rcases (by have : i < 2 := hi; omega : i = 0 ∨ i = 1) with rfl | rfl
  · refine Ft.newT_ok ?_ (fun k hk => absurd hk (by omega))
    unfold Ft.okT
    exact decide_eq_true ⟨by show (0 : Int) ≤ 1; decide, by show (1 : Int) ≤ 1099511627776; decide, Or.inl rfl, by show (0 : Int) ≤ (kp : Int); omega⟩
  · refine Ft.newT_ok ?_ (fun k hk => ?_)
    · unfold Ft.okT
      exact decide_eq_true ⟨by show (0 : Int) ≤ 3; decide, by show (3 : Int) ≤ 1099511627776; decide, Or.inl rfl, by show (0 : Int) ≤ 0; decide⟩
    · obtain rfl : k = 0 := by omega
      show (1 : Int) ≠ 3
      decide
theorem fate_1 {M : Dev} {kp : Nat} (h : M.ft = fts kp) (h1 : M.ops = 1) : fateOf M = (1, 1, (kp : Int)) := by
  unfold fateOf
  rw [h, h1]
  exact (Ft.at_some (fts_may kp) (y := (1, 1, (kp : Int))) (by unfold fts; simp) rfl).1
theorem fate_3 {M : Dev} {kp : Nat} (h : M.ft = fts kp) (h1 : M.ops = 3) : fateOf M = (3, 1, 0) := by
  unfold fateOf
  rw [h, h1]
  exact (Ft.at_some (fts_may kp) (y := (3, 1, 0)) (by unfold fts; simp) rfl).1
theorem fate_x {M : Dev} {kp : Nat} (h : M.ft = fts kp) (h1 : M.ops ≠ 1) (h3 : M.ops ≠ 3) : fateOf M = (0, 0, 0) := by
  unfold fateOf
  rw [h]
  refine (Ft.at_none (fun y hy => ?_) _ (Nat.le_refl _)).1
  unfold fts at hy
  simp only [List.mem_cons, List.not_mem_nil, or_false] at hy
  rcases hy with rfl | rfl
  · show (1 : Int) ≠ (M.ops : Int); omega
  · show (3 : Int) ≠ (M.ops : Int); omega
section
variable (B P W K kp : Nat) (xs : List Nat)
def fd0 : Dev := freshD B P W K (marksOf [] 0) (fts kp)
def fd1 : Dev := { fd0 B P W K kp with ops := 1, pg := setPg (fd0 B P W K kp).pg 0 0 (progPg (blankPg (W * (K + 16))) xs ((W * (K + 16) : Nat) : Int)) }
def fd2 : Dev := { fd1 B P W K kp xs with ops := 2, pg := setPg (fd1 B P W K kp xs).pg 0 1 (progPg (blankPg (W * (K + 16))) xs (min (kp : Int) (((W * (K + 16) : Nat) : Int) - (9 * W : Nat)))) }
def fd3 : Dev := { fd2 B P W K kp xs with ops := 3 }
def fd4 : Dev := { fd3 B P W K kp xs with ops := 4, bk := putB (fd3 B P W K kp xs).bk 0 true }
def fd5 : Dev := { fd4 B P W K kp xs with ops := 5 }
def fd6 : Dev := { fd5 B P W K kp xs with ops := 6, pg := setPg (fd5 B P W K kp xs).pg 1 0 (progPg (blankPg (W * (K + 16))) xs ((W * (K + 16) : Nat) : Int)) }
def fd7 : Dev := { fd6 B P W K kp xs with ops := 7 }
theorem fs_1 : stepD (fd0 B P W K kp) 2 0 0 xs = (0, fd1 B P W K kp xs) := by
  have hf := fate_x (M := fd0 B P W K kp) (kp := kp) rfl (by show 0 ≠ 1; decide) (by show 0 ≠ 3; decide)
  rw [st_prog rfl (progE_ok rfl (nextB_yes (fun _ _ _ => rfl) (Or.inl rfl)) rfl) (by rw [hf]; decide) (by rw [hf]; decide)]
  rfl
theorem fs_2 (hx : xs.length = W * (K + 16)) (hn : 0 < W * (K + 16)) : stepD (fd1 B P W K kp xs) 2 0 1 xs = (6, fd2 B P W K kp xs) := by
  have hf := fate_1 (M := fd1 B P W K kp xs) (kp := kp) rfl rfl
  have hnx : nextB (fd1 B P W K kp xs) 0 1 = true := by
    refine nextB_yes (fun j hj h1 => ?_) (Or.inr ?_)
    · show (if 0 = 0 ∧ j = 0 then _ else blankPg _ : Pg).st = 0
      rw [if_neg (by omega)]
      rfl
    · show progS xs.length ((W * (K + 16) : Nat) : Int) ≠ 0
      unfold progS
      rw [if_neg (by omega), if_pos (by omega)]
      decide
  rw [st_prog_fail rfl (progE_ok rfl hnx rfl) (by rw [hf]), hf]
  rfl
theorem fs_3 : stepD (fd2 B P W K kp xs) 1 0 1 [] = (0, fd3 B P W K kp xs) := by
  have hf := fate_x (M := fd2 B P W K kp xs) (kp := kp) rfl (by show 2 ≠ 1; decide) (by show 2 ≠ 3; decide)
  exact st_sense rfl (by rw [hf]; decide)
theorem fs_4 : stepD (fd3 B P W K kp xs) 3 0 0 [] = (7, fd4 B P W K kp xs) := by
  have hf := fate_3 (M := fd3 B P W K kp xs) (kp := kp) rfl rfl
  exact st_erase_fail rfl (erasE_ok rfl rfl) (by rw [hf])
theorem fs_5 : stepD (fd4 B P W K kp xs) 3 0 0 [] = (7, fd5 B P W K kp xs) := st_erase_err (r := false) rfl (erasE_bk rfl rfl) (by decide) (by decide)
theorem fs_6 : stepD (fd5 B P W K kp xs) 2 1 0 xs = (0, fd6 B P W K kp xs) := by
  have hf := fate_x (M := fd5 B P W K kp xs) (kp := kp) rfl (by show 5 ≠ 1; decide) (by show 5 ≠ 3; decide)
  rw [st_prog rfl (progE_ok rfl (nextB_yes (fun _ _ _ => rfl) (Or.inl rfl)) rfl) (by rw [hf]; decide) (by rw [hf]; decide)]
  rfl
theorem fs_7 : stepD (fd6 B P W K kp xs) 1 0 0 [] = (0, fd7 B P W K kp xs) := by
  have hf := fate_x (M := fd6 B P W K kp xs) (kp := kp) rfl (by show 6 ≠ 1; decide) (by show 6 ≠ 3; decide)
  exact st_sense rfl (by rw [hf]; decide)
end
/-- the first i of n symbols are s, the others 0 -/
def fillN (n i s : Nat) : List Nat := (List.range n).map fun j => if j < i then s else 0
theorem fillN_len (n i s : Nat) : (fillN n i s).length = n := by unfold fillN; simp
theorem fillN_zero (n s : Nat) : fillN n 0 s = zN n := by
  unfold fillN zN
  apply List.ext_getElem
  · simp
  · intro j h1 h2
    simp
theorem fillN_step (n i s : Nat) : (fillN n i s).set i s = fillN n (i + 1) s := by
  unfold fillN
  apply List.ext_getElem
  · simp
  · intro j h1 h2
    simp only [List.getElem_set, List.getElem_map, List.getElem_range]
    by_cases e : i = j
    · subst e; rw [if_pos rfl, if_pos (by omega)]
    · rw [if_neg e]
      by_cases e2 : j < i
      · rw [if_pos e2, if_pos (by omega)]
      · rw [if_neg e2, if_neg (by omega)]
theorem fillN_lt (n i s : Nat) (hs : s < 1024) : ∀ x ∈ fillN n i s, x < 1024 := by
  intro x hx
  unfold fillN at hx
  obtain ⟨j, _, rfl⟩ := List.mem_map.1 hx
  split
  · exact hs
  · decide
theorem fillN_at (n i s j : Nat) (hj : j < n) (hi : j < i) : syAt (fillN n i s) j = s := by
  unfold fillN syAt
  simp [List.getD, hj, hi]
/-- how many of the first i points are at nought in codeword r -/
def zcW (ps : List (Int × Int)) (W r : Nat) : Nat → Nat
  | 0 => 0
  | i + 1 => zcW ps W r i + if ptAt ps i = (0, 0) ∧ i % W = r then 1 else 0
theorem zc_hit {ps : List (Int × Int)} {W r i : Nat} (h : ptAt ps i = (0, 0)) (h2 : i % W = r) : zcW ps W r (i + 1) = zcW ps W r i + 1 := congrArg (zcW ps W r i + ·) (if_pos ⟨h, h2⟩)
theorem zc_miss {ps : List (Int × Int)} {W r i : Nat} (h : ¬ (ptAt ps i = (0, 0) ∧ i % W = r)) : zcW ps W r (i + 1) = zcW ps W r i := congrArg (zcW ps W r i + ·) (if_neg h)
theorem zc_le (ps : List (Int × Int)) (W r : Nat) : ∀ i, zcW ps W r i ≤ i
  | 0 => Nat.le_refl _
  | i + 1 => by
    have := zc_le ps W r i
    unfold zcW
    split <;> omega
theorem zc_mono (ps : List (Int × Int)) (W r i : Nat) : ∀ d, zcW ps W r i ≤ zcW ps W r (i + d)
  | 0 => Nat.le_refl _
  | d + 1 => by
    have := zc_mono ps W r i d
    show _ ≤ zcW ps W r (i + d) + _
    omega
theorem zc_put {ps : List (Int × Int)} {W i : Nat} (h : ptAt ps i = (0, 0)) : putB (fun r => zcW ps W r i) (i % W) (zcW ps W (i % W) i + 1) = fun r => zcW ps W r (i + 1) := by
  funext r
  unfold putB
  by_cases e : r = i % W
  · subst e
    rw [if_pos rfl, zc_hit h rfl]
  · rw [if_neg e, zc_miss fun hh => e hh.2.symm]
theorem zc_same {ps : List (Int × Int)} {W i : Nat} (h : ptAt ps i ≠ (0, 0)) : (fun r => zcW ps W r i) = fun r => zcW ps W r (i + 1) := by
  funext r
  rw [zc_miss fun hh => h hh.1]
theorem zc_nine {ps : List (Int × Int)} {W K r : Nat} (h : ∀ j, W * (K + 7) ≤ j → j < W * (K + 16) → ptAt ps j = (0, 0)) (hr : r < W) : 9 ≤ zcW ps W r (W * (K + 16)) := by
  have key : ∀ t, t ≤ 9 → t ≤ zcW ps W r (W * (K + 7 + t)) := by
    intro t
    induction t with
    | zero => intro _; exact Nat.zero_le _
    | succ t ih =>
      intro ht
      have i1 := ih (by omega)
      have e1 : W * (K + 7 + (t + 1)) = W * (K + 7 + t) + W := by rw [← Nat.add_assoc, Nat.mul_succ]
      have l1 : W * (K + 7) ≤ W * (K + 7 + t) := Nat.mul_le_mul_left _ (by omega)
      have l2 : W * (K + 7 + (t + 1)) ≤ W * (K + 16) := Nat.mul_le_mul_left _ (by omega)
      have m1 : (W * (K + 7 + t) + r) % W = r := by rw [Nat.mul_add_mod, Nat.mod_eq_of_lt hr]
      rw [e1] at l2 ⊢
      generalize W * (K + 7 + t) = c at *
      generalize W * (K + 7) = c0 at *
      generalize W * (K + 16) = c1 at *
      have h1 := zc_hit (ps := ps) (W := W) (r := r) (i := c + r) (h _ (by omega) (by omega)) m1
      have h2 := zc_mono ps W r c r
      have h3 := zc_mono ps W r (c + r + 1) (W - r - 1)
      rw [show c + r + 1 + (W - r - 1) = c + W by omega] at h3
      omega
  exact key 9 (Nat.le_refl _)
end Go.Proofs.Ytnndhbppgmnefaa
