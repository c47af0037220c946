/- Yards (plain): counts, wearing alike, who is bad. -/
import Derived.Test.YtnhkagkgmgpjeaaYda
namespace Go.Proofs.Ytnhkagkgmgpjeaa.Yd
open Go.RowKit
set_option linter.unusedVariables false
set_option linter.unusedSimpArgs false
theorem lay_eq {f : Nat → Int} {a : Nat} {b : Int} : lay f (a : Int) b a = b := by unfold lay; rw [if_pos rfl]
theorem lay_ne {f : Nat → Int} {a j : Nat} {b : Int} (h : j ≠ a) : lay f (a : Int) b j = f j := by unfold lay; rw [if_neg (by omega)]
theorem inB_yes {n p : Nat} (h : p < n) : inB n (p : Int) = true := by unfold inB; simp; omega
theorem at_yes {k p : Nat} {s : Nat → Int} (h : p < k) : at_ k s (p : Int) = s p := by unfold at_; rw [if_pos (inB_yes h), Int.toNat_natCast]
theorem at_no {k : Nat} {s : Nat → Int} {b : Int} (h : inB k b = false) : at_ k s b = 0 := by unfold at_; rw [h]; rfl
theorem erF_yes {k p : Nat} {er : Nat → Int} (h : p < k) : erF k er (p : Int) = lay er (p : Int) (er p + 1) := by unfold erF; rw [if_pos (inB_yes h), Int.toNat_natCast]
theorem turnB_yes {k p : Nat} {st : Nat → Int} {s : Int} (h : p < k) : turnB k st (p : Int) s = turns (st p) s := by unfold turnB; rw [inB_yes h, Int.toNat_natCast]; rfl
theorem turnF_go {k : Nat} {st : Nat → Int} {b s : Int} (h : turnB k st b s = true) : turnF k st b s = lay st b s := by unfold turnF; rw [if_pos h]
theorem turnF_stay {k : Nat} {st : Nat → Int} {b s : Int} (h : turnB k st b s = false) : turnF k st b s = st := by unfold turnF; rw [h]; rfl
theorem nb_not {f : Nat → Bool} : ∀ {k : Nat}, nb f k < k → ∃ c, c < k ∧ f c = false
  | 0, h => absurd h (Nat.not_lt_zero _)
  | k + 1, h => by
    cases hf : f k
    · exact ⟨k, Nat.lt_succ_self _, hf⟩
    · rw [nb, hf] at h
      obtain ⟨c, h1, h2⟩ := nb_not (f := f) (k := k) (by simp at h; omega)
      exact ⟨c, by omega, h2⟩
theorem nb_all {f : Nat → Bool} : ∀ {k : Nat}, nb f k = k → ∀ c, c < k → f c = true
  | 0, _, c, hc => absurd hc (Nat.not_lt_zero _)
  | k + 1, h, c, hc => by
    rw [nb] at h
    have hl := nb_le f k
    cases hf : f k
    · rw [hf] at h; simp at h; omega
    · rw [hf] at h
      by_cases e : c = k
      · rw [e]; exact hf
      · exact nb_all (f := f) (k := k) (by simp at h; omega) c (by omega)
theorem nb_zero {f : Nat → Bool} : ∀ {k : Nat}, (∀ c, c < k → f c = false) → nb f k = 0
  | 0, _ => rfl
  | k + 1, h => by rw [nb, nb_zero (k := k) (fun c hc => h c (by omega)), h k (by omega)]; rfl
/-- one more is so -/
theorem nb_more {f g : Nat → Bool} {b : Nat} : ∀ {k : Nat}, b < k → f b = false → g b = true → (∀ c, c ≠ b → g c = f c) → nb g k = nb f k + 1
  | 0, h, _, _, _ => absurd h (Nat.not_lt_zero _)
  | k + 1, h, h1, h2, h3 => by
    rw [nb, nb]
    by_cases e : b = k
    · subst e
      rw [h1, h2, nb_congr (f := g) (g := f) fun c hc => h3 c (by omega)]; simp
    · rw [nb_more (k := k) (by omega) h1 h2 h3, h3 k (fun e2 => e e2.symm)]; omega
/-- i blocks have been wiped in turn -/
def Alike (k : Nat) (er : Nat → Int) (i : Nat) : Prop := nb (fun c => decide (er c = ((i / k : Nat) : Int) + 1)) k = i % k ∧ ∀ c, c < k → er c = ((i / k : Nat) : Int) ∨ er c = ((i / k : Nat) : Int) + 1
theorem alike_zero {k : Nat} (hk : 0 < k) : Alike k (fun _ => 0) 0 := by
  refine ⟨?_, fun c hc => Or.inl (by simp)⟩
  rw [Nat.zero_mod]
  exact nb_zero fun c hc => by simp
theorem alike_least {k i b : Nat} {er : Nat → Int} (hk : 0 < k) (h : Alike k er i) (hb : b < k) (hm : ∀ c, c < k → er b ≤ er c) : er b = ((i / k : Nat) : Int) := by
  have hlt : i % k < k := Nat.mod_lt _ hk
  rw [← h.1] at hlt
  obtain ⟨c, h1, h2⟩ := nb_not hlt
  have h3 := hm c h1
  have h4 := h.2 c h1
  have h5 := h.2 b hb
  have h6 : ¬ er c = ((i / k : Nat) : Int) + 1 := by simpa using h2
  omega
theorem alike_step {k i b : Nat} {er : Nat → Int} (hk : 0 < k) (h : Alike k er i) (hb : b < k) (he : er b = ((i / k : Nat) : Int)) : Alike k (lay er (b : Int) (er b + 1)) (i + 1) ∧ ∀ c, c < k → lay er (b : Int) (er b + 1) c = ((i / k : Nat) : Int) ∨ lay er (b : Int) (er b + 1) c = ((i / k : Nat) : Int) + 1 := by
  have h2 : ∀ c, c < k → lay er (b : Int) (er b + 1) c = ((i / k : Nat) : Int) ∨ lay er (b : Int) (er b + 1) c = ((i / k : Nat) : Int) + 1 := fun c hc => by
    by_cases e : c = b
    · subst e; rw [lay_eq, he]; exact Or.inr rfl
    · rw [lay_ne e]; exact h.2 c hc
  refine ⟨?_, h2⟩
  have hn : nb (fun c => decide (lay er (b : Int) (er b + 1) c = ((i / k : Nat) : Int) + 1)) k = i % k + 1 := by
    rw [← h.1]
    refine nb_more hb ?_ ?_ fun c hc => ?_
    · exact decide_eq_false (by rw [he]; exact Int.ne_of_lt (Int.lt_add_one_of_le (Int.le_refl _)))
    · exact decide_eq_true (by rw [lay_eq, he])
    · show decide (lay er (b : Int) (er b + 1) c = _) = decide (er c = _)
      rw [lay_ne hc]
  have hmod : i % k < k := Nat.mod_lt _ hk
  have hdm := Nat.div_add_mod i k
  by_cases hfull : i % k + 1 = k
  · have e1 : (i + 1) / k = i / k + 1 := by
      have : i + 1 = k * (i / k + 1) := by rw [Nat.mul_add]; omega
      rw [this, Nat.mul_div_cancel_left _ hk]
    have e2 : (i + 1) % k = 0 := by
      have : i + 1 = k * (i / k + 1) := by rw [Nat.mul_add]; omega
      rw [this, Nat.mul_mod_right]
    have hall := nb_all (hn.trans hfull)
    constructor
    · rw [e1, e2]
      refine nb_zero fun c hc => ?_
      have := hall c hc
      simp only [decide_eq_true_eq] at this
      rw [this]; simp; omega
    · intro c hc
      have := hall c hc
      simp only [decide_eq_true_eq] at this
      rw [e1]; left; omega
  · have e1 : (i + 1) / k = i / k := by
      rw [Nat.div_eq_iff hk]
      constructor
      · rw [Nat.mul_comm]; omega
      · rw [Nat.mul_comm]; omega
    have e2 : (i + 1) % k = i % k + 1 := by
      have := Nat.div_add_mod (i + 1) k
      rw [e1] at this; omega
    refine ⟨?_, fun c hc => by rw [e1]; exact h2 c hc⟩
    rw [e1, e2]; exact hn
/-- all states are states -/
def AllS (k : Nat) (st : Nat → Int) : Prop := ∀ c, c < k → 1 ≤ st c ∧ st c ≤ 4
theorem sum_states {st : Nat → Int} : ∀ {k : Nat}, AllS k st → nb (isS st 1) k + nb (isS st 2) k + nb (isS st 3) k + nb (isS st 4) k = k
  | 0, _ => rfl
  | k + 1, h => by
    have ih := sum_states (k := k) fun c hc => h c (by omega)
    have hk := h k (by omega)
    rw [nb, nb, nb, nb]
    rcases (show st k = 1 ∨ st k = 2 ∨ st k = 3 ∨ st k = 4 by omega) with e | e | e | e <;> simp [isS, e] <;> omega
theorem turns_state {a b : Int} (h : turns a b = true) : 1 ≤ b ∧ b ≤ 4 := by
  unfold turns at h
  simp only [Bool.or_eq_true, Bool.and_eq_true, decide_eq_true_eq] at h
  omega
theorem turns_bad {s : Int} : turns 4 s = false := by unfold turns; simp
theorem turns_to4 {a : Int} (h : 1 ≤ a ∧ a < 4) : turns a 4 = true := by
  unfold turns
  simp only [Bool.or_eq_true, Bool.and_eq_true, decide_eq_true_eq]
  exact Or.inr ⟨⟨h.1, h.2⟩, trivial⟩
theorem all_turn {k p : Nat} {st : Nat → Int} {s : Int} (h : AllS k st) (hp : p < k) : AllS k (turnF k st (p : Int) s) := fun c hc => by
  cases ht : turnB k st (p : Int) s
  · rw [turnF_stay ht]; exact h c hc
  · rw [turnF_go ht]
    by_cases e : c = p
    · subst e; rw [lay_eq]; rw [turnB_yes hp] at ht; exact turns_state ht
    · rw [lay_ne e]; exact h c hc
theorem pk_some {k b : Nat} {st er : Nat → Int} (h : pk k st er = some b) : b < k ∧ st b = 1 ∧ ∀ c, c < k → st c = 1 → er b ≤ er c := by
  unfold pk at h
  obtain ⟨h1, h2⟩ := We.fst_lt h
  refine ⟨h1, by unfold isS at h2; simpa using h2, fun c hc hs => ?_⟩
  by_cases e : c = b
  · subst e; exact Int.le_refl _
  · have := (We.fst_best (We.lo_ord er) h c hc (by unfold isS; simpa using hs) e).1
    unfold We.lo at this
    have h3 : ¬ er c < er b := by simpa using this
    omega
theorem pk_none {k : Nat} {st er : Nat → Int} (h : pk k st er = none) : nb (isS st 1) k = 0 := nb_zero fun c hc => We.fst_none h c hc
theorem nb_pos {f : Nat → Bool} {b : Nat} : ∀ {k : Nat}, b < k → f b = true → 0 < nb f k
  | 0, h, _ => absurd h (Nat.not_lt_zero _)
  | k + 1, h, hf => by
    rw [nb]
    by_cases e : b = k
    · subst e; rw [hf]; simp
    · have := nb_pos (k := k) (by omega) hf; omega
theorem pk_isSome {k : Nat} {st er : Nat → Int} : (pk k st er).isSome = decide (0 < nb (isS st 1) k) := by
  cases h : pk k st er with
  | none => rw [pk_none h]; rfl
  | some b =>
    obtain ⟨h1, h2, _⟩ := pk_some h
    have := nb_pos (f := isS st 1) h1 (by unfold isS; simpa using h2)
    simp [this]
end Go.Proofs.Ytnhkagkgmgpjeaa.Yd
