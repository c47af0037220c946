/- Maps (plain): both ways at once; how many lie, by pages and by host pages. -/
import Derived.Test.YtcnnmnjepofomaaLma
namespace Go.Proofs.Ytcnnmnjepofomaa.Lm
open Go.RowKit Go.Bw Go.Proofs.Ytcnnmnjepofomaa.Vl
set_option linter.unusedVariables false
set_option linter.unusedSimpArgs false
/-- nobody lies where another one lies -/
def Inj (f : Nat → Int) (lp : Nat) : Prop := ∀ i j, i < lp → j < lp → 0 ≤ f i → f i = f j → i = j
/-- all that lie, lie below the number of pages -/
def Fine (f : Nat → Int) (lp pg : Nat) : Prop := ∀ i, i < lp → -1 ≤ f i ∧ f i < (pg : Int)
/-- those that lie -/
def lieB (f : Nat → Int) (lp : Nat) (i : Nat) : Bool := decide (i < lp) && decide (0 ≤ f i)
/-- those that are owned -/
def ownB (f : Nat → Int) (lp : Nat) (p : Nat) : Bool := (ow f lp (p : Int)).isSome
section
variable {f : Nat → Int} {lp pg : Nat}
theorem ow_some {p : Int} {o : Nat} (h : ow f lp p = some o) : o < lp ∧ f o = p ∧ 0 ≤ p := by
  obtain ⟨h1, h2, _⟩ := nx_some.1 h
  rw [Bool.and_eq_true, decide_eq_true_eq, decide_eq_true_eq] at h2
  exact ⟨h1, h2.1, h2.2⟩
theorem ow_none {p : Int} (h : ow f lp p = none) (h0 : 0 ≤ p) : ∀ j, j < lp → f j ≠ p := fun j hj e => by
  have := nx_none.1 h j hj
  rw [e] at this
  simp [h0] at this
theorem ow_none_of {p : Int} (h : ∀ j, j < lp → f j ≠ p) : ow f lp p = none := nx_none.2 fun j hj => by simp [h j hj]
theorem ow_neg {p : Int} (h : p < 0) : ow f lp p = none := nx_none.2 fun j hj => by simp; omega
theorem ow_of (hI : Inj f lp) {p : Int} {o : Nat} (h1 : o < lp) (h2 : f o = p) (h3 : 0 ≤ p) : ow f lp p = some o := nx_some.2 ⟨h1, by simp [h2, h3], fun j hj => by
  by_cases e : f j = p
  · have := hI o j h1 (by omega) (by omega) (by rw [h2, e]); omega
  · simp [e]⟩
theorem ow_isSome (hI : Inj f lp) {p : Int} (h0 : 0 ≤ p) : (ow f lp p).isSome = true ↔ ∃ o, o < lp ∧ f o = p := by
  constructor
  · intro h
    obtain ⟨o, ho⟩ := Option.isSome_iff_exists.1 h
    obtain ⟨h1, h2, _⟩ := ow_some ho
    exact ⟨o, h1, h2⟩
  · rintro ⟨o, h1, h2⟩
    rw [ow_of hI h1 h2 h0]; rfl
theorem lay_eq {a : Nat} {b : Int} : lay f (a : Int) b a = b := by unfold lay; rw [if_pos rfl]
theorem lay_ne {a j : Nat} {b : Int} (h : j ≠ a) : lay f (a : Int) b j = f j := by unfold lay; rw [if_neg (by omega)]
theorem lay_lay {a : Nat} {b c : Int} : lay (lay f (a : Int) b) (a : Int) c = lay f (a : Int) c := by
  funext j
  by_cases e : j = a
  · subst e; rw [lay_eq, lay_eq]
  · rw [lay_ne e, lay_ne e, lay_ne e]
/-- what is dropped leaves all fine -/
theorem drop_inj (hI : Inj f lp) {a : Nat} : Inj (lay f (a : Int) (-1)) lp := fun i j hi hj h0 e => by
  by_cases e1 : i = a
  · subst e1; rw [lay_eq] at h0; omega
  · rw [lay_ne e1] at h0 e
    by_cases e2 : j = a
    · subst e2; rw [lay_eq] at e; omega
    · rw [lay_ne e2] at e; exact hI i j hi hj h0 e
theorem drop_fine (hF : Fine f lp pg) {a : Nat} : Fine (lay f (a : Int) (-1)) lp pg := fun i hi => by
  by_cases e : i = a
  · subst e; rw [lay_eq]; omega
  · rw [lay_ne e]; exact hF i hi
theorem lieB_lay {a : Nat} (ha : a < lp) {b : Int} (i : Nat) : lieB (lay f (a : Int) b) lp i = put (lieB f lp) a (decide (0 ≤ b)) i := by
  unfold lieB put
  by_cases e : i = a
  · subst e; rw [if_pos rfl, lay_eq]; simp [ha]
  · rw [if_neg e, lay_ne e]
theorem lieB_off {a : Nat} (ha : f a < 0) : lieB f lp a = false := by
  unfold lieB; simp; omega
/-- page q, where a lay, is owned no more -/
theorem ownB_drop (hI : Inj f lp) {a q : Nat} (ha : a < lp) (hq : f a = (q : Int)) (p : Nat) : ownB (lay f (a : Int) (-1)) lp p = put (ownB f lp) q false p := by
  unfold put
  by_cases e : p = q
  · subst e
    rw [if_pos rfl]
    unfold ownB
    rw [ow_none_of]; · rfl
    intro j hj h
    by_cases e2 : j = a
    · subst e2; rw [lay_eq] at h; omega
    · rw [lay_ne e2] at h
      exact e2 (hI j a hj ha (by omega) (by rw [h, hq]))
  · rw [if_neg e]
    unfold ownB
    rw [Bool.eq_iff_iff, ow_isSome (drop_inj hI) (by omega), ow_isSome hI (by omega)]
    constructor
    · rintro ⟨o, h1, h2⟩
      refine ⟨o, h1, ?_⟩
      by_cases e2 : o = a
      · subst e2; rw [lay_eq] at h2; omega
      · rw [lay_ne e2] at h2; exact h2
    · rintro ⟨o, h1, h2⟩
      refine ⟨o, h1, ?_⟩
      rw [lay_ne (fun e2 => e (by subst e2; omega))]; exact h2
theorem ow_drop (hI : Inj f lp) {a : Nat} {p : Int} {o : Nat} (h : ow (lay f (a : Int) (-1)) lp p = some o) : ow f lp p = some o := by
  obtain ⟨h1, h2, h3⟩ := ow_some h
  by_cases e2 : o = a
  · subst e2; rw [lay_eq] at h2; omega
  · rw [lay_ne e2] at h2; exact ow_of hI h1 h2 h3
/-- laid on a page that nobody owns, from nowhere -/
theorem lead_inj (hI : Inj f lp) {a q : Nat} (hq : ow f lp (q : Int) = none) : Inj (lay f (a : Int) (q : Int)) lp := fun i j hi hj h0 e => by
  have hn := ow_none hq (by omega)
  by_cases e1 : i = a
  · subst e1
    by_cases e2 : j = i
    · exact e2.symm
    · rw [lay_eq, lay_ne e2] at e; exact absurd e.symm (hn j hj)
  · rw [lay_ne e1] at h0 e
    by_cases e2 : j = a
    · subst e2; rw [lay_eq] at e; exact absurd e (hn i hi)
    · rw [lay_ne e2] at e; exact hI i j hi hj h0 e
theorem lead_fine (hF : Fine f lp pg) {a q : Nat} (hq : q < pg) : Fine (lay f (a : Int) (q : Int)) lp pg := fun i hi => by
  by_cases e : i = a
  · subst e; rw [lay_eq]; omega
  · rw [lay_ne e]; exact hF i hi
theorem ow_lead (hI : Inj f lp) {a q : Nat} (ha : a < lp) (hq : ow f lp (q : Int) = none) (h0 : f a < 0) {p : Nat} {o : Nat} (h : ow (lay f (a : Int) (q : Int)) lp (p : Int) = some o) : (p = q ∧ o = a) ∨ (p ≠ q ∧ ow f lp (p : Int) = some o) := by
  obtain ⟨h1, h2, h3⟩ := ow_some h
  have hn := ow_none hq (by omega)
  by_cases e2 : o = a
  · subst e2; rw [lay_eq] at h2; exact Or.inl ⟨by omega, rfl⟩
  · rw [lay_ne e2] at h2
    exact Or.inr ⟨fun e => by subst e; exact hn o h1 h2, ow_of hI h1 h2 h3⟩
theorem ownB_lead (hI : Inj f lp) {a q : Nat} (ha : a < lp) (hq : ow f lp (q : Int) = none) (h0 : f a < 0) (p : Nat) : ownB (lay f (a : Int) (q : Int)) lp p = put (ownB f lp) q true p := by
  unfold put ownB
  rw [Bool.eq_iff_iff, ow_isSome (lead_inj hI hq) (by omega)]
  by_cases e : p = q
  · subst e
    rw [if_pos rfl]
    exact ⟨fun _ => rfl, fun _ => ⟨a, ha, lay_eq⟩⟩
  · rw [if_neg e, ow_isSome hI (by omega)]
    constructor
    · rintro ⟨o, h1, h2⟩
      by_cases e2 : o = a
      · subst e2; rw [lay_eq] at h2; omega
      · rw [lay_ne e2] at h2; exact ⟨o, h1, h2⟩
    · rintro ⟨o, h1, h2⟩
      by_cases e2 : o = a
      · subst e2; omega
      · exact ⟨o, h1, by rw [lay_ne e2]; exact h2⟩
theorem ow_out (hF : Fine f lp pg) {p : Int} (h : (pg : Int) ≤ p) : ow f lp p = none := ow_none_of fun j hj e => by have := (hF j hj).2; omega
end
/-- one page alone -/
theorem pc_one {q n : Nat} {b : Bool} (hq : q < n) : pc (fun p => decide (p = q) && b) n = b.toNat := by
  have h := pc_put (β := fun _ => false) (p := q) (on := b) hq
  have e1 : pc (put (fun _ => false) q b) n = pc (fun p => decide (p = q) && b) n := pc_congr fun j hj => by
    unfold put
    by_cases e : j = q
    · subst e; simp
    · simp [e]
  have e2 : pc (fun _ => false) n = 0 := pc_zero fun j hj => rfl
  rw [e1, e2] at h
  simpa using h
/-- PAGES WITH AN OWNER ARE AS MANY AS HOST PAGES THAT LIE -/
theorem count_ways {f : Nat → Int} {pg : Nat} (A B : Int) : ∀ {lp : Nat}, Inj f lp → Fine f lp pg → pc (sel (ownB f lp) A B) pg = pc (fun i => decide (0 ≤ f i) && decide (A ≤ f i) && decide (f i < B)) lp
  | 0, _, _ => by
    rw [pc]
    refine pc_zero fun j hj => ?_
    have : ow f 0 (j : Int) = none := rfl
    unfold sel ownB; rw [this]; rfl
  | lp + 1, hI, hF => by
    have hI' : Inj f lp := fun i j hi hj h0 e => hI i j (by omega) (by omega) h0 e
    have hF' : Fine f lp pg := fun i hi => hF i (by omega)
    rw [pc, ← count_ways A B hI' hF']
    by_cases h0 : 0 ≤ f lp
    · have hb := (hF lp (by omega)).2
      obtain ⟨q, hq⟩ : ∃ q : Nat, f lp = (q : Int) := ⟨(f lp).toNat, by omega⟩
      have hqp : q < pg := by omega
      have hno : ∀ j, j < lp → f j ≠ (q : Int) := fun j hj e => by have := hI lp j (by omega) (by omega) h0 (by rw [hq, e]); omega
      rw [← pc_split (f := sel (ownB f lp) A B) (g := fun p => decide (p = q) && (decide (A ≤ (q : Int)) && decide ((q : Int) < B))) (h := sel (ownB f (lp + 1)) A B), pc_one hqp]
      · congr 1
        rw [hq]; simp
        cases hA : decide (A ≤ (q : Int)) <;> cases hB : decide ((q : Int) < B) <;> simp_all
      · intro j hj
        have hbase : ownB f (lp + 1) j = (ownB f lp j || decide (j = q)) ∧ (ownB f lp j && decide (j = q)) = false := by
          by_cases e : j = q
          · subst e
            have h1 : ownB f (lp + 1) j = true := by unfold ownB; exact (ow_isSome hI (by omega)).2 ⟨lp, by omega, hq⟩
            have h2 : ownB f lp j = false := by unfold ownB; rw [ow_none_of hno]; rfl
            rw [h1, h2]; simp
          · have h1 : ownB f (lp + 1) j = ownB f lp j := by
              unfold ownB
              rw [Bool.eq_iff_iff, ow_isSome hI (by omega), ow_isSome hI' (by omega)]
              constructor
              · rintro ⟨o, h1, h2⟩
                refine ⟨o, ?_, h2⟩
                by_cases e3 : o = lp
                · subst e3; omega
                · omega
              · rintro ⟨o, h1, h2⟩; exact ⟨o, by omega, h2⟩
            rw [h1]; simp [e]
        unfold sel
        rw [hbase.1]
        have h2 := hbase.2
        by_cases e : j = q
        · subst e
          simp at h2
          rw [h2]; simp
        · simp [e]
    · have h1 : ∀ p, ownB f (lp + 1) p = ownB f lp p := fun p => by
        unfold ownB
        rw [Bool.eq_iff_iff, ow_isSome hI (by omega), ow_isSome hI' (by omega)]
        constructor
        · rintro ⟨o, h1, h2⟩
          refine ⟨o, ?_, h2⟩
          by_cases e3 : o = lp
          · subst e3; omega
          · omega
        · rintro ⟨o, h1, h2⟩; exact ⟨o, by omega, h2⟩
      have h2 : pc (sel (ownB f (lp + 1)) A B) pg = pc (sel (ownB f lp) A B) pg := pc_congr fun j hj => by unfold sel; rw [h1]
      rw [h2]
      simp [h0]
end Go.Proofs.Ytcnnmnjepofomaa.Lm
