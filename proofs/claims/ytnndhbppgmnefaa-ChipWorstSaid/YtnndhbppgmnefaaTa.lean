/- ChipWorst: what was moved, and how many symbols of one codeword are wrong by it. -/
import Derived.Test.YtnndhbppgmnefaaDy
namespace Go.Proofs.Ytnndhbppgmnefaa
open Go.RowKit Go.Fl
set_option linter.unusedVariables false
set_option linter.unusedSimpArgs false
/-- the points of a page of n cells, some of which were moved -/
def movPs (n : Nat) (f : Nat → Bool) : List (Int × Int) := (List.range n).map fun t => if f t = true then (7, 1) else (1, 1)
theorem movPs_len (n : Nat) (f : Nat → Bool) : (movPs n f).length = n := by unfold movPs; simp
theorem movPs_at {n t : Nat} {f : Nat → Bool} (h : t < n) : ptAt (movPs n f) t = if f t = true then (7, 1) else (1, 1) := by
  unfold ptAt movPs
  simp [List.getD, h]
/-- the device whose block 1 is written, and some of whose cells there were moved -/
def worD (B P W K : Nat) (xs : List Nat) (mv : Nat → Nat → Bool) : Dev := { rowD B P W K [] xs P with pg := fun i j => if i = 1 ∧ j < P then ⟨movPs (W * (K + 16)) (mv j), xs, 1⟩ else blankPg (W * (K + 16)) }
def put2 (mv : Nat → Nat → Bool) (p k : Nat) : Nat → Nat → Bool := fun p' k' => if p' = p ∧ k' = k then true else mv p' k'
section
variable {B P W K p k : Nat} {mv : Nat → Nat → Bool} {n : Nat}
theorem worD_start (hn : n = W * (K + 16)) (h0 : 0 < n) : rowD B P W K [] (fillN n n 528) P = worD B P W K (fillN n n 528) (fun _ _ => false) := by
  subst hn
  unfold worD
  generalize hm : W * (K + 16) = m at *
  have e : progPg (blankPg m) (fillN m m 528) ((m : Nat) : Int) = ⟨movPs m (fun _ => false), fillN m m 528, 1⟩ := by
    unfold progPg
    have e1 : progP (blankPg m).ps (fillN m m 528) ((m : Nat) : Int) = movPs m (fun _ => false) := by
      apply List.ext_getElem
      · rw [progP_len, movPs_len]; show (List.replicate m _).length = m; rw [List.length_replicate]
      · intro t h1 h2
        have ht : t < m := by rw [movPs_len] at h2; exact h2
        have a1 := prog_pt (xs := fillN m m 528) (kp := ((m : Nat) : Int)) ht
        have a2 := movPs_at (f := fun _ => false) ht
        rw [if_pos (by omega), fillN_at m m 528 t ht ht] at a1
        have b1 : ptAt (progP (blankPg m).ps (fillN m m 528) ((m : Nat) : Int)) t = (progP (blankPg m).ps (fillN m m 528) ((m : Nat) : Int))[t] := by unfold ptAt; simp [List.getD, List.getElem?_eq_getElem h1]
        have b2 : ptAt (movPs m fun _ => false) t = (movPs m fun _ => false)[t] := by unfold ptAt; simp [List.getD, List.getElem?_eq_getElem h2]
        rw [← b1, ← b2, a2]
        exact a1
    rw [e1, fillN_len]
    unfold progS
    rw [if_neg (by omega), if_pos (by omega)]
  unfold rowD
  dsimp only
  rw [hm, e]
theorem worD_page {xs : List Nat} (hp : p < P) : (worD B P W K xs mv).pg 1 p = ⟨movPs (W * (K + 16)) (mv p), xs, 1⟩ := if_pos ⟨rfl, hp⟩
theorem worD_mov {xs : List Nat} (hp : p < P) (hn : n = W * (K + 16)) (hk : k < n) (hm : mv p k = false) : movB ((worD B P W K xs mv).pg 1 p).ps ((worD B P W K xs mv).pg 1 p).st (k : Int) 6 0 = true := by
  rw [worD_page hp, ← hn]
  unfold movB
  refine decide_eq_true ?_
  dsimp only
  rw [movPs_len, Int.toNat_natCast, movPs_at hk, hm]
  simp
  omega
theorem worD_step {xs : List Nat} (hp : p < P) (hn : n = W * (K + 16)) (hk : k < n) (hm : mv p k = false) : { worD B P W K xs mv with pg := setPg (worD B P W K xs mv).pg 1 p (driftPg ((worD B P W K xs mv).pg 1 p) (k : Int) 6 0) } = worD B P W K xs (put2 mv p k) := by
  have hmv := worD_mov (B := B) (xs := xs) hp hn hk hm
  unfold driftPg
  rw [hmv, if_pos rfl, worD_page hp]
  dsimp only
  subst hn
  have e : movP (movPs (W * (K + 16)) (mv p)) (k : Int).toNat 6 0 = movPs (W * (K + 16)) (put2 mv p k p) := by
    unfold movP
    rw [Int.toNat_natCast, movPs_at hk, hm]
    unfold movPs put2
    apply List.ext_getElem
    · simp
    · intro t h1 h2
      simp only [List.getElem_set, List.getElem_map, List.getElem_range]
      by_cases e : k = t
      · subst e; simp
      · have e' : ¬ t = k := fun h => e h.symm
        simp [e, e']
  rw [e]
  unfold worD
  dsimp only
  congr 1
  funext i j
  unfold setPg
  by_cases e1 : i = 1 ∧ j = p
  · obtain ⟨rfl, rfl⟩ := e1
    rw [if_pos ⟨rfl, rfl⟩, if_pos ⟨rfl, hp⟩]
  · rw [if_neg e1]
    dsimp only
    by_cases e2 : i = 1 ∧ j < P
    · rw [if_pos e2, if_pos e2]
      have : mv j = put2 mv p k j := by
        funext t
        unfold put2
        rw [if_neg (fun hh => e1 ⟨e2.1, hh.1⟩)]
      rw [this]
    · rw [if_neg e2, if_neg e2]
end
/-- how many of the first i were moved in codeword r -/
def mcW (f : Nat → Bool) (W r : Nat) : Nat → Nat
  | 0 => 0
  | i + 1 => mcW f W r i + if f i = true ∧ i % W = r then 1 else 0
theorem mc_hit {f : Nat → Bool} {W r i : Nat} (h : f i = true) (h2 : i % W = r) : mcW f W r (i + 1) = mcW f W r i + 1 := congrArg (mcW f W r i + ·) (if_pos ⟨h, h2⟩)
theorem mc_miss {f : Nat → Bool} {W r i : Nat} (h : ¬ (f i = true ∧ i % W = r)) : mcW f W r (i + 1) = mcW f W r i := congrArg (mcW f W r i + ·) (if_neg h)
theorem mc_le (f : Nat → Bool) (W r : Nat) : ∀ i, mcW f W r i ≤ i
  | 0 => Nat.le_refl _
  | i + 1 => by
    have := mc_le f W r i
    unfold mcW
    split <;> omega
theorem mc_put {f : Nat → Bool} {W i : Nat} (h : f i = true) : putB (fun r => mcW f W r i) (i % W) (mcW f W (i % W) i + 1) = fun r => mcW f W r (i + 1) := by
  funext r
  unfold putB
  by_cases e : r = i % W
  · subst e
    rw [if_pos rfl, mc_hit h rfl]
  · rw [if_neg e, mc_miss fun hh => e hh.2.symm]
theorem mc_same {f : Nat → Bool} {W i : Nat} (h : f i = false) : (fun r => mcW f W r i) = fun r => mcW f W r (i + 1) := by
  funext r
  rw [mc_miss fun hh => by rw [h] at hh; cases hh.1]
/-- the greatest of the codewords' numbers -/
def mxW (f : Nat → Bool) (W i : Nat) : Nat := mxN (fun r => mcW f W r i) 4
theorem mxW_zero (f : Nat → Bool) (W : Nat) : mxW f W 0 = 0 := rfl
theorem mxW_same {f : Nat → Bool} {W i : Nat} (h : f i = false) : mxW f W (i + 1) = mxW f W i := by unfold mxW; rw [← mc_same h]
theorem mxN4_put (g : Nat → Nat) {j : Nat} (hj : j < 4) : mxN (putB g j (g j + 1)) 4 = max (mxN g 4) (g j + 1) := by
  have e : ∀ f : Nat → Nat, mxN f 4 = max (max (max (max 0 (f 0)) (f 1)) (f 2)) (f 3) := fun _ => rfl
  rw [e, e]
  unfold putB
  rcases (by omega : j = 0 ∨ j = 1 ∨ j = 2 ∨ j = 3) with rfl | rfl | rfl | rfl
  · rw [if_pos rfl, if_neg (by decide), if_neg (by decide), if_neg (by decide)]; omega
  · rw [if_neg (by decide), if_pos rfl, if_neg (by decide), if_neg (by decide)]; omega
  · rw [if_neg (by decide), if_neg (by decide), if_pos rfl, if_neg (by decide)]; omega
  · rw [if_neg (by decide), if_neg (by decide), if_neg (by decide), if_pos rfl]; omega
theorem mxW_hit {f : Nat → Bool} {W i : Nat} (h : f i = true) (hW : i % W < 4) : mxW f W (i + 1) = max (mxW f W i) (mcW f W (i % W) i + 1) := by
  unfold mxW
  rw [← mc_put h]
  exact mxN4_put (fun r => mcW f W r i) hW
theorem mxN_congr {f g : Nat → Nat} : ∀ n, (∀ i, i < n → f i = g i) → mxN f n = mxN g n
  | 0, _ => rfl
  | n + 1, h => by
    show max (mxN f n) (f n) = max (mxN g n) (g n)
    rw [mxN_congr n fun i hi => h i (by omega), h n (by omega)]
theorem mxN_zero {f : Nat → Nat} : ∀ n, (∀ i, i < n → f i = 0) → mxN f n = 0
  | 0, _ => rfl
  | n + 1, h => by
    show max (mxN f n) (f n) = 0
    rw [mxN_zero n fun i hi => h i (by omega), h n (by omega)]
    rfl
theorem mxN_one {f : Nat → Nat} {n : Nat} (h : ∀ i, i ≠ 1 → f i = 0) (hn : 1 < n) : mxN f n = f 1 := by
  induction n with
  | zero => omega
  | succ n ih =>
    show max (mxN f n) (f n) = f 1
    by_cases e : n = 1
    · subst e
      show max (max 0 (f 0)) (f 1) = f 1
      rw [h 0 (by decide)]
      omega
    · rw [ih (by omega), h n e]
      omega
theorem cnt_take (l : List Nat) (W j : Nat) : ∀ i, i ≤ l.length → cntW l W j i = ((l.take i).filter fun x => decide (x % W = j)).length
  | 0, _ => by simp [cntW]
  | i + 1, h => by
    rw [List.take_succ_eq_append_getElem (by omega), List.filter_append, List.length_append, ← cnt_take l W j i (by omega)]
    show cntW l W j i + _ = cntW l W j i + _
    have e : syAt l i = l[i]'(by omega) := by unfold syAt; simp [List.getD, List.getElem?_eq_getElem (show i < l.length by omega)]
    rw [e]
    by_cases hh : l[i]'(by omega) % W = j
    · rw [if_pos hh]; simp [hh]
    · rw [if_neg hh]; simp [hh]
theorem mc_len (f : Nat → Bool) (W j : Nat) : ∀ n, mcW f W j n = (((List.range n).filter f).filter fun x => decide (x % W = j)).length
  | 0 => by simp [mcW]
  | n + 1 => by
    rw [List.range_succ, List.filter_append, List.filter_append, List.length_append, ← mc_len f W j n]
    show mcW f W j n + _ = mcW f W j n + _
    by_cases h1 : f n = true
    · by_cases h2 : n % W = j
      · rw [if_pos ⟨h1, h2⟩]; simp [h1, h2]
      · rw [if_neg (fun hh => h2 hh.2)]; simp [h1, h2]
    · rw [if_neg (fun hh => h1 hh.1)]; simp [h1]
theorem bad_moved : bad (7, 1) 528 = true := by decide +kernel
theorem bad_still : bad (1, 1) 528 = false := by decide +kernel
theorem wrI_mov (n : Nat) (f : Nat → Bool) : wrI ⟨movPs n f, fillN n n 528, 1⟩ = (List.range n).filter f := by
  unfold wrI wrongI
  rw [if_pos rfl]
  dsimp only
  rw [movPs_len]
  apply List.filter_congr
  intro t ht
  have ht := List.mem_range.1 ht
  rw [movPs_at ht, fillN_at n n 528 t ht ht]
  by_cases h : f t = true
  · rw [if_pos h, bad_moved, h]
  · rw [if_neg h, bad_still]
    simpa using h
theorem most_mov (n W : Nat) (f : Nat → Bool) : mostN (wrI ⟨movPs n f, fillN n n 528, 1⟩) W = mxW f W n := by
  rw [wrI_mov]
  unfold mostN mxW
  refine mxN_congr 4 fun j _ => ?_
  rw [mc_len, cnt_take _ _ _ _ (Nat.le_refl _), List.take_length]
theorem most_nil (W : Nat) : mostN [] W = 0 := rfl
/-- the worst of a device that was moved -/
theorem worst_wor {B P W K n : Nat} {mv : Nat → Nat → Bool} (hn : n = W * (K + 16)) (hB : 1 < B) : worstD (worD B P W K (fillN n n 528) mv) = mxN (fun p => mxW (mv p) W n) P := by
  subst hn
  unfold worstD
  have h0 : ∀ i, i ≠ 1 → worstB (worD B P W K (fillN (W * (K + 16)) (W * (K + 16)) 528) mv) i = 0 := fun i hi => by
    unfold worstB
    refine mxN_zero _ fun j _ => ?_
    unfold worstPg
    rw [show (worD B P W K (fillN (W * (K + 16)) (W * (K + 16)) 528) mv).pg i j = blankPg (W * (K + 16)) from if_neg fun hh => hi hh.1]
    exact most_nil _
  rw [show (worD B P W K (fillN (W * (K + 16)) (W * (K + 16)) 528) mv).B = B from rfl, mxN_one h0 hB]
  unfold worstB
  refine mxN_congr _ fun j hj => ?_
  unfold worstPg
  rw [worD_page (show j < P from hj)]
  exact most_mov _ _ _
/-- wiped, nothing is wrong -/
theorem worst_wiped {B P W K : Nat} {xs : List Nat} {mv : Nat → Nat → Bool} {M : Dev} (hM : M = { wiped (worD B P W K xs mv) 1 (worD B P W K xs mv).P with ops := M.ops, er := M.er }) : worstD M = 0 := by
  unfold worstD
  refine mxN_zero _ fun i _ => ?_
  unfold worstB
  refine mxN_zero _ fun j hj => ?_
  unfold worstPg
  rw [hM] at hj ⊢
  have hj : j < P := hj
  have e : ({ wiped (worD B P W K xs mv) 1 (worD B P W K xs mv).P with ops := M.ops, er := M.er } : Dev).pg i j = blankPg (W * (K + 16)) := by
    show (if i = 1 ∧ j < P then blankPg (W * (K + 16)) else (if i = 1 ∧ j < P then _ else blankPg (W * (K + 16)))) = _
    by_cases h : i = 1 ∧ j < P
    · rw [if_pos h]
    · rw [if_neg h, if_neg h]
  rw [e]
  exact most_nil _
end Go.Proofs.Ytnndhbppgmnefaa
