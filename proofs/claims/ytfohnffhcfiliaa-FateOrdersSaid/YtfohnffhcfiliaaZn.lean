/- Fates in order and as they were handed in (plain). -/
import Derived.Test.YtfohnffhcfiliaaZm
namespace Go.Proofs.Ytfohnffhcfiliaa
set_option linter.unusedVariables false
set_option linter.unusedSimpArgs false

/-- the last of the first i that befalls operation n -/
def atF (ts : List (Int × Int × Int)) (n : Int) : Nat → Int × Int × Int
  | 0 => (0, 0, 0)
  | i + 1 => if (tAt ts i).1 = n then tAt ts i else atF ts n i
def isF (ts : List (Int × Int × Int)) (n : Int) : Nat → Bool
  | 0 => false
  | i + 1 => if (tAt ts i).1 = n then true else isF ts n i
def leftF (ts : List (Int × Int × Int)) (n : Int) : Nat → Nat
  | 0 => 0
  | i + 1 => if n ≤ (tAt ts i).1 then leftF ts n i + 1 else leftF ts n i
theorem leftF_le (ts : List (Int × Int × Int)) (n : Int) (i : Nat) : leftF ts n i ≤ i := by
  induction i with
  | zero => exact Nat.le_refl _
  | succ i ih => unfold leftF; split <;> omega
theorem tAt_eq {ts : List (Int × Int × Int)} {i : Nat} (h : i < ts.length) : tAt ts i = ts[i] := by
  unfold tAt; simp [List.getD, List.getElem?_eq_getElem h]
theorem tAt_mem {ts : List (Int × Int × Int)} {i : Nat} (h : i < ts.length) : tAt ts i ∈ ts := by
  rw [tAt_eq h]; exact List.getElem_mem h
theorem mem_tAt {ts : List (Int × Int × Int)} {x : Int × Int × Int} (h : x ∈ ts) : ∃ i, i < ts.length ∧ tAt ts i = x := by
  obtain ⟨i, hi, rfl⟩ := List.getElem_of_mem h
  exact ⟨i, hi, tAt_eq hi⟩
theorem keys_nodup {ts : List (Int × Int × Int)} : (ts.map (·.1)).Nodup ↔ ∀ i k, k < i → i < ts.length → (tAt ts k).1 ≠ (tAt ts i).1 := by
  unfold List.Nodup
  rw [List.pairwise_iff_getElem]
  constructor
  · intro h i k hki hi
    have := h k i (by simp; omega) (by simpa using hi) hki
    rw [List.getElem_map, List.getElem_map] at this
    rw [tAt_eq hi, tAt_eq (by omega)]
    exact this
  · intro h k i hk hi hki
    have := h i k hki (by simpa using hi)
    rw [List.getElem_map, List.getElem_map]
    rw [tAt_eq (by simpa using hk), tAt_eq (by simpa using hi)] at this
    exact this
theorem mayF_iff {ts : List (Int × Int × Int)} : mayF ts = true ↔ ts.length ≤ 256 ∧ badT ts = false ∧ (ts.map (·.1)).Nodup := by
  rw [keys_nodup]
  constructor
  · intro h
    unfold mayF at h
    rw [Bool.and_eq_true] at h
    obtain ⟨h1, h2⟩ := h
    have h3 : ∀ i, i < ts.length → newT ts i = true := fun i hi => (List.all_eq_true.1 h2) i (List.mem_range.2 hi)
    refine ⟨of_decide_eq_true h1, bad_none fun k hk => ?_, fun i k hki hi => ?_⟩
    · have := h3 k hk
      unfold newT at this
      rw [Bool.and_eq_true] at this
      exact this.1
    · have := h3 i hi
      unfold newT at this
      rw [Bool.and_eq_true] at this
      exact of_decide_eq_true ((List.all_eq_true.1 this.2) k (List.mem_range.2 hki))
  · rintro ⟨h1, h2, h3⟩
    exact mayF_yes h1 fun i hi => newT_ok (ok_of_bad h2 hi) fun k hk => h3 i k hk hi
theorem mayF_long {ts : List (Int × Int × Int)} (h : 256 < ts.length) : mayF ts = false := by
  cases e : mayF ts
  · rfl
  · have := (mayF_iff.1 e).1; omega
theorem mayF_bad {ts : List (Int × Int × Int)} (h : badT ts = true) : mayF ts = false := by
  cases e : mayF ts
  · rfl
  · have := (mayF_iff.1 e).2.1; rw [h] at this; cases this
theorem mayF_sorted {ts ss : List (Int × Int × Int)} (hp : ss.Perm ts) (hr : Rises ss) (hl : ts.length ≤ 256) (hb : badT ts = false) : mayF ts = !twT ss := by
  have hk : (ss.map (·.1)).Nodup ↔ (ts.map (·.1)).Nodup := (hp.map _).nodup_iff
  cases e : twT ss
  · rw [Bool.not_false, mayF_iff, ← hk, keys_nodup]
    refine ⟨hl, hb, fun i k hki hi => ?_⟩
    have hne : ∀ j, j + 1 < ss.length → (tAt ss j).1 < (tAt ss (j + 1)).1 := fun j hj => by
      have h1 := hr j (j + 1) (by omega) hj
      rcases Int.lt_or_eq_of_le h1 with h2 | h2
      · exact h2
      · rw [tw_some hj h2.symm] at e; cases e
    have h1 := hne k (by omega)
    rcases (by omega : k + 1 = i ∨ k + 1 < i) with rfl | h2
    · omega
    · have := hr (k + 1) i h2 hi
      omega
  · rw [Bool.not_true, Bool.eq_false_iff]
    intro h
    have hn := hk.2 (mayF_iff.1 h).2.2
    rw [keys_nodup] at hn
    obtain ⟨j, hj, h2⟩ := List.any_eq_true.1 e
    have := List.mem_range.1 hj
    exact hn (j + 1) j (by omega) (by omega) (of_decide_eq_true h2).symm
theorem at_none {ts : List (Int × Int × Int)} {x : Int} (h : ∀ y ∈ ts, y.1 ≠ x) : ∀ i, i ≤ ts.length → atF ts x i = (0, 0, 0) ∧ isF ts x i = false
  | 0, _ => ⟨rfl, rfl⟩
  | i + 1, hi => by
    have := h _ (tAt_mem (i := i) hi)
    unfold atF isF
    rw [if_neg this, if_neg this]
    exact at_none h i (by omega)
theorem at_some {ts : List (Int × Int × Int)} {x : Int} {y : Int × Int × Int} (hm : mayF ts = true) (hy : y ∈ ts) (hx : y.1 = x) : atF ts x ts.length = y ∧ isF ts x ts.length = true := by
  obtain ⟨k, hk, rfl⟩ := mem_tAt hy
  have hn := keys_nodup.1 (mayF_iff.1 hm).2.2
  have key : ∀ i, i ≤ ts.length → k < i → atF ts x i = tAt ts k ∧ isF ts x i = true := by
    intro i
    induction i with
    | zero => intro _ h; omega
    | succ i ih =>
      intro hi hki
      unfold atF isF
      by_cases e : i = k
      · subst e
        rw [if_pos hx, if_pos hx]
        exact ⟨rfl, rfl⟩
      · have : (tAt ts i).1 ≠ x := fun h => hn i k (by omega) (by omega) (by rw [hx, h])
        rw [if_neg this, if_neg this]
        exact ih (by omega) (by omega)
  exact key _ (Nat.le_refl _) hk
theorem leftF_take (ts : List (Int × Int × Int)) (x : Int) : ∀ i, i ≤ ts.length → leftF ts x i = (ts.take i).countP fun y => decide (x ≤ y.1)
  | 0, _ => rfl
  | i + 1, hi => by
    rw [List.take_add_one, List.countP_append, ← leftF_take ts x i (by omega), List.getElem?_eq_getElem (by omega : i < ts.length), ← tAt_eq (by omega : i < ts.length)]
    rw [show leftF ts x (i + 1) = if x ≤ (tAt ts i).1 then leftF ts x i + 1 else leftF ts x i from rfl]
    by_cases h : x ≤ (tAt ts i).1
    · simp [h]
    · simp [h]
theorem leftF_cnt (ts : List (Int × Int × Int)) (x : Int) : leftF ts x ts.length = ts.countP fun y => decide (x ≤ y.1) := by
  rw [leftF_take ts x ts.length (Nat.le_refl _), List.take_length]
theorem leftF_sorted {ts ss : List (Int × Int × Int)} (hp : ss.Perm ts) {x : Int} {m : Nat} (hm : m ≤ ss.length) (h1 : ∀ t, t < m → (tAt ss t).1 < x) (h2 : ∀ t, m ≤ t → t < ss.length → x ≤ (tAt ss t).1) : leftF ts x ts.length = ss.length - m := by
  rw [leftF_cnt, ← hp.countP_eq]
  have e0 : ss.countP (fun y => decide (x ≤ y.1)) = (ss.take m).countP (fun y => decide (x ≤ y.1)) + (ss.drop m).countP (fun y => decide (x ≤ y.1)) := by rw [← List.countP_append, List.take_append_drop]
  have e1 : (ss.take m).countP (fun y => decide (x ≤ y.1)) = 0 := by
    rw [List.countP_eq_zero]
    intro y hy
    obtain ⟨t, ht, rfl⟩ := List.getElem_of_mem hy
    have ht' : t < m := by have := List.length_take_le m ss; omega
    have := h1 t ht'
    rw [tAt_eq (by omega)] at this
    rw [List.getElem_take]
    simp; omega
  have e2 : (ss.drop m).countP (fun y => decide (x ≤ y.1)) = (ss.drop m).length := by
    rw [List.countP_eq_length]
    intro y hy
    obtain ⟨t, ht, rfl⟩ := List.getElem_of_mem hy
    have ht' : m + t < ss.length := by simp at ht; omega
    have := h2 (m + t) (by omega) ht'
    rw [tAt_eq ht'] at this
    rw [List.getElem_drop]
    simp; omega
  rw [e0, e1, e2, List.length_drop, Nat.zero_add]
end Go.Proofs.Ytfohnffhcfiliaa
