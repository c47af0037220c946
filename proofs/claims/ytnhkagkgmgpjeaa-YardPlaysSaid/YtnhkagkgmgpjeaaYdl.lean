/- Turn, Erased walked. -/
import Derived.Test.YtnhkagkgmgpjeaaYdk
namespace Go.Proofs.Ytnhkagkgmgpjeaa.Yd
open Go.RowKit
set_option linter.unusedVariables false
set_option linter.unusedSimpArgs false
theorem keeps_set {w : World} {lo hi g i : Nat} (v : Value) (h1 : lo ≤ g) (h2 : g < hi) : Cl.Keeps (Out lo hi) w (w.setCell ⟨g, i, none⟩ v) :=
  ⟨rfl, rfl, rfl, by simp [World.setCell], fun b _ hb => We.setCell_block w v (fun e => hb (by rw [e]; exact ⟨h1, h2⟩))⟩
theorem lay_v (f : Nat → Int) (p : Nat) (b : Int) (j : Nat) : (if j = p then Value.int .i64 b else We.iF f j) = We.iF (lay f (p : Int) b) j := by
  unfold We.iF lay
  by_cases h : j = p
  · rw [if_pos h, if_pos (by rw [h])]
  · rw [if_neg h, if_neg (by omega)]
section
variable {w : World} {lo hi G k g1 g2 : Nat} {st er : Nat → Int}
theorem YM.put_st (m : YM w lo hi G k st er g1 g2) (p : Nat) (s : Int) : Cl.Keeps (Out lo hi) w (w.setCell ⟨g1, p, none⟩ (.int .i64 s)) ∧ YM (w.setCell ⟨g1, p, none⟩ (.int .i64 s)) lo hi G k (lay st (p : Int) s) er g1 g2 := by
  obtain ⟨r1, r2, r3, r4, r5, r6⟩ := m.rng
  exact ⟨keeps_set _ r3 r4, ⟨m.box.keep (We.setCell_block w _ (Ne.symm m.ne.2.1)), (m.sts.set_ p _).congr fun j _ => lay_v st p s j, m.ers.other _ (Ne.symm m.ne.1), m.ne, m.rng, m.le⟩⟩
theorem YM.put_er (m : YM w lo hi G k st er g1 g2) (p : Nat) (s : Int) : Cl.Keeps (Out lo hi) w (w.setCell ⟨g2, p, none⟩ (.int .i64 s)) ∧ YM (w.setCell ⟨g2, p, none⟩ (.int .i64 s)) lo hi G k st (lay er (p : Int) s) g1 g2 := by
  obtain ⟨r1, r2, r3, r4, r5, r6⟩ := m.rng
  exact ⟨keeps_set _ r5 r6, ⟨m.box.keep (We.setCell_block w _ (Ne.symm m.ne.2.2)), m.sts.other _ m.ne.1, (m.ers.set_ p _).congr fun j _ => lay_v er p s j, m.ne, m.rng, m.le⟩⟩
end
theorem of_in {k : Nat} {b : Int} (h : inB k b = true) : ∃ p : Nat, b = (p : Int) ∧ p < k := by
  rcases where_ k b with ⟨_, t⟩ | ⟨_, _, t⟩ | ⟨p, e, hp, _⟩
  · rw [t] at h; cases h
  · rw [t] at h; cases h
  · exact ⟨p, e, hp⟩
theorem turnB_as (k : Nat) (st : Nat → Int) (b s : Int) : turnB k st b s = turns (at_ k st b) s := by
  unfold turnB at_
  cases inB k b
  · rw [Bool.false_and, if_neg (by simp)]
    unfold turns; simp
  · rw [Bool.true_and, if_pos rfl]
set_option maxHeartbeats 1000000 in
theorem turn_any {w : World} {lo hi G k g1 g2 : Nat} {st er : Nat → Int} (m : YM w lo hi G k st er g1 g2) (b s : Int) :
    Calls Try.prog 12 #[.pointer (some ⟨G, 0, none⟩), .int .i64 b, .int .i64 s] w fun e w' => e = .returned (.bool (turnB k st b s)) ∧ Cl.Keeps (Out lo hi) w w' ∧ YM w' lo hi G k (turnF k st b s) er g1 g2 := by
  have hc1 := Lib.hid (state_any m b)
  have hc2 := Lib.hid (fun w => may_any w (at_ k st b) s)
  rw [← turnB_as] at hc2
  unfold turnF
  cases hb : turnB k st b s
  · rw [hb] at hc2
    have M := Lib.hid m
    clear m hb
    obtain ⟨X, hX⟩ : ∃ X, at_ k st b = X := ⟨_, rfl⟩
    rw [hX] at hc1 hc2
    clear hX
    simp only [Bool.false_eq_true, if_false]
    go_enter Try.func12, Try.ntmps12
    go_wp2_with (first
      | (go_at_call 13; (with_reducible refine hc1.out.mono ?_); rintro e w1 ⟨rfl, rfl⟩)
      | (go_at_call 20; (with_reducible refine (hc2.out _).mono ?_); rintro e w1 ⟨rfl, rfl⟩))
    go_ret
    exact ⟨rfl, Cl.Keeps.refl _ _, M.out⟩
  · rw [hb] at hc2
    obtain ⟨p, rfl, hp⟩ : ∃ p : Nat, b = (p : Int) ∧ p < k := of_in (by unfold turnB at hb; rw [Bool.and_eq_true] at hb; exact hb.1)
    have c0 := m.box.c0
    have c1 := m.st_at hp
    have f1 := m.sts.frozen p
    have hpI : (p : Int) < (k : Int) := by omega
    have M := Lib.hid (m.put_st p s)
    clear m hb hp
    obtain ⟨X, hX⟩ : ∃ X, at_ k st p = X := ⟨_, rfl⟩
    rw [hX] at hc1 hc2
    clear hX
    simp only [if_true]
    go_enter Try.func12, Try.ntmps12
    go_wp2_with (first
      | (go_at_call 13; (with_reducible refine hc1.out.mono ?_); rintro e w1 ⟨rfl, rfl⟩)
      | (go_at_call 20; (with_reducible refine (hc2.out _).mono ?_); rintro e w1 ⟨rfl, rfl⟩))
    go_ret
    exact ⟨rfl, M.out.1, M.out.2⟩
set_option maxHeartbeats 1000000 in
theorem erased_any {w : World} {lo hi G k g1 g2 : Nat} {st er : Nat → Int} (m : YM w lo hi G k st er g1 g2) (he : ∀ j, j < k → 0 ≤ er j ∧ er j ≤ 1000000) (b : Int) :
    Calls Try.prog 10 #[.pointer (some ⟨G, 0, none⟩), .int .i64 b] w fun e w' => e = .returned (.tuple #[]) ∧ Cl.Keeps (Out lo hi) w w' ∧ YM w' lo hi G k st (erF k er b) g1 g2 := by
  have hc := has_any m b
  unfold erF
  cases hin : inB k b
  · rw [hin] at hc
    replace hc := Lib.hid hc
    have M := Lib.hid m
    clear m hin he
    simp only [Bool.false_eq_true, if_false]
    go_enter Try.func10, Try.ntmps10
    go_wp2_with (go_at_call 19; (with_reducible refine hc.out.mono ?_); rintro e w1 ⟨rfl, rfl⟩)
    go_end0
    exact ⟨rfl, Cl.Keeps.refl _ _, M.out⟩
  · rw [hin] at hc
    replace hc := Lib.hid hc
    obtain ⟨p, rfl, hp⟩ := of_in hin
    simp only [if_true, Int.toNat_natCast]
    have c0 := m.box.c1
    have c1 := m.er_at hp
    have f1 := m.ers.frozen p
    have hpI : (p : Int) < (k : Int) := by omega
    have hr := he p hp
    have M := Lib.hid (m.put_er p (er p + 1))
    clear m hin hp he
    obtain ⟨S, hS⟩ : ∃ S, er p = S := ⟨_, rfl⟩
    rw [hS] at c1 hr M ⊢
    clear hS
    have hw : IntKind.i64.wrap (S + 1) = S + 1 := by simp only [IntKind.wrap, IntKind.signed, IntKind.bits]; simp; omega
    replace hr := Lib.hid hr
    go_enter Try.func10, Try.ntmps10
    go_wp2_with (go_at_call 19; (with_reducible refine hc.out.mono ?_); rintro e w1 ⟨rfl, rfl⟩)
    go_end0
    exact ⟨rfl, M.out.1, M.out.2⟩
end Go.Proofs.Ytnhkagkgmgpjeaa.Yd
