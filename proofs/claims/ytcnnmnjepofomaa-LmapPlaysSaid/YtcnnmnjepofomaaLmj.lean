/- The program's map: New, Drop walked. -/
import Derived.Test.YtcnnmnjepofomaaLmi
namespace Go.Proofs.Ytcnnmnjepofomaa.Lm
open Go.RowKit Go.Bw Go.Proofs.Ytcnnmnjepofomaa.Vl
set_option linter.unusedVariables false
set_option linter.unusedSimpArgs false
attribute [local go_sem ↓] Cl.quiet_since
/-- within the map's own blocks alone -/
abbrev Out (lo hi : Nat) (q : Nat) : Prop := ¬ (lo ≤ q ∧ q < hi)
/-- half way to what is dropped: host page p is unset, page q still owned -/
structure HalfD (w : World) (lo hi : Nat) (K : Blk) (lp pg : Nat) (f : Nat → Int) (p : Nat) : Prop where
  box : PV w 55 K.G 4 (mpF K lp pg)
  ways : ∃ φ1 φ2, Way w lo K.mid K.g1 K.h1 K.r1 lp (put (lieB f lp) p false) φ1 ∧ (∀ i, i < lp → 0 ≤ f i → φ1 i = f i) ∧ Way w K.mid K.G K.g2 K.h2 K.r2 pg (ownB f lp) φ2 ∧ (∀ p o : Nat, ow f lp (p : Int) = some o → φ2 p = (o : Int))
  inj : Inj f lp
  fine : Fine f lp pg
  rng : lo ≤ K.mid ∧ K.mid ≤ K.G ∧ K.G < hi
  le : lp ≤ 1048576 ∧ pg ≤ 1048576
section
variable {w w' : World} {lo hi lp pg p q : Nat} {K : Blk} {f : Nat → Int}
theorem Way.other {g h r n x : Nat} {β : Nat → Bool} {φ : Nat → Int} (W : Way w lo hi g h r n β φ) (k : Cl.Keeps (fun q => q ≠ x) w w') (hx : x < lo ∨ hi ≤ x) : Way w' lo hi g h r n β φ := W.keep fun b h1 h2 h3 => k.block b h3 (by omega)
theorem HalfD.c2 (m : HalfD w lo hi K lp pg f p) : w.cell? ⟨K.G, 2, none⟩ = some (.pointer (some ⟨K.g2, 0, none⟩)) := m.box.cell (i := 2) (by decide)
theorem drop1 (m : PM w lo hi K lp pg f) (hp : p < lp) : Calls Try.prog 25 #[.pointer (some ⟨K.g1, 0, none⟩), .int .i64 (p : Int), .bool false] w fun e w' => (∃ x, e = .returned (.bool x)) ∧ Cl.Keeps (Out lo hi) w w' ∧ HalfD w' lo hi K lp pg f p := by
  obtain ⟨φ1, φ2, a1, a2, a3, a4⟩ := m.ways
  have hs := set_any w a1.bt (p : Int) false
  rw [upd_put hp] at hs
  refine hs.mono fun e w' ⟨h1, h2, h3⟩ => ?_
  obtain ⟨r1, r2, r3, r4, r5, r6⟩ := a1.rng
  obtain ⟨s1, s2, s3⟩ := m.rng
  exact ⟨⟨_, h1⟩, keeps_mono h2 fun b hb e => hb ⟨by omega, by omega⟩, m.box.keep (h2.block _ m.box.lt (by omega)), ⟨φ1, φ2, ⟨h3, a1.row.keep (h2.block _ a1.row.lt a1.nr.2), a1.nr, a1.rng⟩, a2, a3.other h2 (Or.inl r4), a4⟩, m.inj, m.fine, m.rng, m.le⟩
theorem drop2 (m : HalfD w lo hi K lp pg f p) (hp : p < lp) (hq : f p = (q : Int)) : Calls Try.prog 25 #[.pointer (some ⟨K.g2, 0, none⟩), .int .i64 (q : Int), .bool false] w fun e w' => (∃ x, e = .returned (.bool x)) ∧ Cl.Keeps (Out lo hi) w w' ∧ PM w' lo hi K lp pg (lay f (p : Int) (-1)) := by
  obtain ⟨φ1, φ2, a1, a2, a3, a4⟩ := m.ways
  have hqp : q < pg := by have := (m.fine p hp).2; omega
  have hs := set_any w a3.bt (q : Int) false
  rw [upd_put hqp] at hs
  refine hs.mono fun e w' ⟨h1, h2, h3⟩ => ?_
  obtain ⟨r1, r2, r3, r4, r5, r6⟩ := a3.rng
  obtain ⟨s1, s2, s3⟩ := m.rng
  have b1 := a1.other h2 (Or.inr r3)
  exact ⟨⟨_, h1⟩, keeps_mono h2 fun b hb e => hb ⟨by omega, by omega⟩, m.box.keep (h2.block _ m.box.lt (by omega)), ⟨φ1, φ2, ⟨b1.bt.congr fun j => (lieB_lay (b := -1) hp j).symm, b1.row, b1.nr, b1.rng⟩, fun i hi h0 => by
      by_cases e : i = p
      · subst e; rw [lay_eq] at h0; omega
      · rw [lay_ne e] at h0 ⊢; exact a2 i hi h0, ⟨h3.congr fun j => (ownB_drop m.inj hp hq j).symm, a3.row.keep (h2.block _ a3.row.lt a3.nr.2), a3.nr, a3.rng⟩, fun p o h => a4 p o (ow_drop m.inj h)⟩, drop_inj m.inj, drop_fine m.fine, m.rng, m.le⟩
end
set_option maxHeartbeats 1000000 in
theorem drop_any {lo hi lp pg : Nat} {K : Blk} {f : Nat → Int} (w : World) (m : PM w lo hi K lp pg f) (a : Int) :
    Calls Try.prog 16 #[.pointer (some ⟨K.G, 0, none⟩), .int .i64 a] w fun e w' => e = .returned (dropV (dropM lp f a)) ∧ Cl.Keeps (Out lo hi) w w' ∧ PM w' lo hi K lp pg (dropM lp f a).2.2 := by
  have hg := Lib.hid (get_any w m a)
  have M := Lib.hid m
  clear m
  unfold getV getM at hg
  unfold dropM
  cases hc : (inB lp a && decide (0 ≤ f a.toNat))
  · rw [hc] at hg
    simp only [Bool.false_eq_true, if_false] at hg ⊢
    replace hc := Lib.hid hc
    go_enter Try.func16, Try.ntmps16
    go_wp2_with (go_at_call 13; (with_reducible refine hg.out.mono ?_); rintro e w2 ⟨rfl, hB2⟩; replace hB2 := Lib.hid hB2)
    go_ret2
    exact ⟨rfl, Cl.Keeps.of_below hB2.out, M.out.below hB2.out⟩
  · rw [hc] at hg
    simp only [if_true] at hg ⊢
    rw [Bool.and_eq_true, decide_eq_true_eq] at hc
    obtain ⟨p, rfl, hp⟩ := of_inB hc.1
    have h0 := hc.2
    rw [Int.toNat_natCast] at h0 hg ⊢
    obtain ⟨q, hq⟩ : ∃ q : Nat, f p = (q : Int) := ⟨(f p).toNat, by omega⟩
    rw [hq] at hg ⊢
    replace hq := Lib.hid hq
    replace h0 := Lib.hid h0
    replace hc := Lib.hid hc
    go_enter Try.func16, Try.ntmps16
    go_wp2_with (go_at_call 13; (with_reducible refine hg.out.mono ?_); rintro e w2 ⟨rfl, hB2⟩; have M2 := Lib.hid (M.out.below hB2); replace hB2 := Lib.hid hB2; have c0 := M2.out.c0; clear hg)
    have hd := Lib.hid (drop1 M2.out hp)
    go_at_call 25
    (with_reducible refine hd.out.mono ?_)
    clear hd c0
    rintro e w3 ⟨⟨x, rfl⟩, k3, M3⟩
    have c2 := M3.c2
    replace k3 := Lib.hid k3
    replace M3 := Lib.hid M3
    have hd := Lib.hid (drop2 M3.out hp hq.out)
    go_wp2_with (go_at_call 25; (with_reducible refine hd.out.mono ?_); clear hd c2; rintro e w4 ⟨⟨y, rfl⟩, k4, M4⟩; replace k4 := Lib.hid k4; replace M4 := Lib.hid M4)
    go_ret2
    exact ⟨rfl, ((Cl.Keeps.of_below hB2.out).trans k3.out).trans k4.out, M4.out⟩
end Go.Proofs.Ytcnnmnjepofomaa.Lm
