/- The program's map: Put walked. -/
import Derived.Test.YtcnnmnjepofomaaLmk
namespace Go.Proofs.Ytcnnmnjepofomaa.Lm
open Go.RowKit Go.Bw Go.Proofs.Ytcnnmnjepofomaa.Vl
set_option linter.unusedVariables false
set_option linter.unusedSimpArgs false
attribute [local go_sem ↓] Cl.quiet_since
/-- half way to what is put: host page p leads to page q, which is not yet owned -/
structure HalfL (w : World) (lo hi : Nat) (K : Blk) (lp pg : Nat) (f : Nat → Int) (p q : Nat) : Prop where
  box : PV w 55 K.G 4 (mpF K lp pg)
  ways : ∃ φ1 φ2, Way w lo K.mid K.g1 K.h1 K.r1 lp (put (lieB f lp) p true) (lay φ1 (p : Int) (q : Int)) ∧ (∀ i, i < lp → 0 ≤ f i → φ1 i = f i) ∧ Way w K.mid K.G K.g2 K.h2 K.r2 pg (ownB f lp) φ2 ∧ (∀ p o : Nat, ow f lp (p : Int) = some o → φ2 p = (o : Int))
  inj : Inj f lp
  fine : Fine f lp pg
  rng : lo ≤ K.mid ∧ K.mid ≤ K.G ∧ K.G < hi
  le : lp ≤ 1048576 ∧ pg ≤ 1048576
section
variable {w w' : World} {lo hi lp pg p q : Nat} {K : Blk} {f : Nat → Int}
theorem HalfL.c2 (m : HalfL w lo hi K lp pg f p q) : w.cell? ⟨K.G, 2, none⟩ = some (.pointer (some ⟨K.g2, 0, none⟩)) := m.box.cell (i := 2) (by decide)
theorem HalfL.c3 (m : HalfL w lo hi K lp pg f p q) : w.cell? ⟨K.G, 3, none⟩ = some (.slice (some ⟨K.r2, 0, none⟩) pg pg) := m.box.cell (i := 3) (by decide)
theorem Way.out {g h r n a b : Nat} {β : Nat → Bool} {φ : Nat → Int} (W : Way w lo hi g h r n β φ) (k : Cl.Keeps (Out a b) w w') (hx : hi ≤ a ∨ b ≤ lo) : Way w' lo hi g h r n β φ := W.keep fun c h1 h2 h3 => k.block c h3 (by unfold Out; omega)
theorem lead1 (m : PM w lo hi K lp pg f) (hp : p < lp) (hq : q < pg) : Calls Try.prog 24 #[.agg #[.pointer (some ⟨K.g1, 0, none⟩), .slice (some ⟨K.r1, 0, none⟩) lp lp], .int .i64 (p : Int), .int .i64 (q : Int)] w fun e w' => e = .returned (.tuple #[]) ∧ Cl.Keeps (Out lo hi) w w' ∧ HalfL w' lo hi K lp pg f p q := by
  obtain ⟨φ1, φ2, a1, a2, a3, a4⟩ := m.ways
  obtain ⟨s1, s2, s3⟩ := m.rng
  have hl := m.le
  refine (lead_any w a1 hp (q : Int) ⟨by omega, by omega⟩).mono fun e w' ⟨h1, h2, h3⟩ => ?_
  exact ⟨h1, keeps_mono h2 fun b hb e => hb ⟨by omega, by omega⟩, m.box.keep (h2.block _ m.box.lt (by omega)), ⟨φ1, φ2, h3, a2, a3.out h2 (Or.inr (Nat.le_refl _)), a4⟩, m.inj, m.fine, m.rng, m.le⟩
theorem lead2 (m : HalfL w lo hi K lp pg f p q) (hp : p < lp) (hq : q < pg) (h0 : f p < 0) (ho : ow f lp (q : Int) = none) : Calls Try.prog 24 #[.agg #[.pointer (some ⟨K.g2, 0, none⟩), .slice (some ⟨K.r2, 0, none⟩) pg pg], .int .i64 (q : Int), .int .i64 (p : Int)] w fun e w' => e = .returned (.tuple #[]) ∧ Cl.Keeps (Out lo hi) w w' ∧ PM w' lo hi K lp pg (lay f (p : Int) (q : Int)) := by
  obtain ⟨φ1, φ2, a1, a2, a3, a4⟩ := m.ways
  obtain ⟨s1, s2, s3⟩ := m.rng
  have hl := m.le
  refine (lead_any w a3 hq (p : Int) ⟨by omega, by omega⟩).mono fun e w' ⟨h1, h2, h3⟩ => ?_
  have b1 := a1.out h2 (Or.inl (Nat.le_refl _))
  refine ⟨h1, keeps_mono h2 fun b hb e => hb ⟨by omega, by omega⟩, m.box.keep (h2.block _ m.box.lt (by omega)), ⟨lay φ1 (p : Int) (q : Int), lay φ2 (q : Int) (p : Int), ⟨b1.bt.congr fun j => ?_, b1.row, b1.nr, b1.rng⟩, fun i hi h0 => ?_, ⟨h3.bt.congr fun j => (ownB_lead m.inj hp ho h0 j).symm, h3.row, h3.nr, h3.rng⟩, fun a o h => ?_⟩, lead_inj m.inj ho, lead_fine m.fine hq, m.rng, m.le⟩
  · rw [lieB_lay hp, show decide (0 ≤ (q : Int)) = true by simp]
  · by_cases e : i = p
    · subst e; rw [lay_eq, lay_eq]
    · rw [lay_ne e] at h0 ⊢; rw [lay_ne e]; exact a2 i hi h0
  · rcases ow_lead m.inj hp ho h0 h with ⟨rfl, rfl⟩ | ⟨e, h5⟩
    · rw [lay_eq]
    · rw [lay_ne e]; exact a4 a o h5
end
/-- what Drop leaves behind -/
theorem drop_f {f : Nat → Int} {lp p : Nat} (hp : p < lp) : dropM lp f (p : Int) = (if 0 ≤ f p then f p else 0, decide (0 ≤ f p), if 0 ≤ f p then lay f (p : Int) (-1) else f) := by
  unfold dropM inB
  by_cases h : 0 ≤ f p <;> simp [h, hp]
theorem after_drop {f : Nat → Int} {lp p q : Nat} (hI : Inj f lp) (hp : p < lp) (h : ow f lp (q : Int) = none ∨ f p = (q : Int)) : (if 0 ≤ f p then lay f (p : Int) (-1) else f) p < 0 ∧ ow (if 0 ≤ f p then lay f (p : Int) (-1) else f) lp (q : Int) = none ∧ lay (if 0 ≤ f p then lay f (p : Int) (-1) else f) (p : Int) (q : Int) = lay f (p : Int) (q : Int) := by
  by_cases h0 : 0 ≤ f p
  · rw [if_pos h0]
    refine ⟨by rw [lay_eq]; decide, ?_, lay_lay⟩
    cases ho : ow (lay f (p : Int) (-1)) lp (q : Int) with
    | none => rfl
    | some o =>
      exfalso
      rcases h with h | h
      · rw [ow_drop hI ho] at h; cases h
      · obtain ⟨h1, h2, h3⟩ := ow_some ho
        by_cases e : o = p
        · subst e; rw [lay_eq] at h2; omega
        · rw [lay_ne e] at h2; exact e (hI o p h1 hp (by omega) (by omega))
  · rw [if_neg h0]
    refine ⟨by omega, ?_, rfl⟩
    rcases h with h | h
    · exact h
    · omega
end Go.Proofs.Ytcnnmnjepofomaa.Lm
