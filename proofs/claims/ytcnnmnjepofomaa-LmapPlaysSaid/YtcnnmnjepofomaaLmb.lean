/- The reference's Map: Put, Drop walked. -/
import Derived.Test.YtcnnmnjepofomaaLma
namespace Go.Proofs.Ytcnnmnjepofomaa.Lm
open Go.RowKit Go.Bw Go.Proofs.Ytcnnmnjepofomaa.Vl
set_option linter.unusedVariables false
set_option linter.unusedSimpArgs false
theorem tests {n : Nat} {a : Int} : (decide (a < 0) = true ∧ inB n a = false) ∨ (decide (a < 0) = false ∧ decide ((n : Int) ≤ a) = true ∧ inB n a = false) ∨ ∃ p : Nat, a = (p : Int) ∧ p < n ∧ decide ((p : Int) < 0) = false ∧ decide ((n : Int) ≤ (p : Int)) = false ∧ inB n (p : Int) = true := by
  by_cases h1 : a < 0
  · exact Or.inl ⟨decide_eq_true h1, by unfold inB; rw [decide_eq_false (by omega)]; rfl⟩
  · by_cases h2 : (n : Int) ≤ a
    · exact Or.inr (Or.inl ⟨decide_eq_false h1, decide_eq_true h2, by unfold inB; rw [decide_eq_false (show ¬ a < (n : Int) by omega)]; simp⟩)
    · exact Or.inr (Or.inr ⟨a.toNat, by omega, by omega, decide_eq_false (by omega), decide_eq_false (by omega), by unfold inB; simp; omega⟩)
/-- an answer of Put -/
def putV (r : Int × Int × (Nat → Int)) : Value := .tuple #[.int .i64 r.1, .int .i64 r.2.1]
set_option maxHeartbeats 2000000 in
theorem refput_any {g h c lp pg : Nat} {A : Option Addr} {f : Nat → Int} (w : World) (m : RM w g h A c lp pg f) (a b : Int) :
    Calls Try.prog 12 #[.pointer (some ⟨g, 0, none⟩), .int .i64 a, .int .i64 b] w fun e w' => e = .returned (putV (putM lp pg f a b)) ∧ Cl.Keeps (fun q => q ≠ h) w w' ∧ RM w' g h A c lp pg (putM lp pg f a b).2.2 := by
  have c0 := m.c0
  have c1 := m.c1
  have M := Lib.hid m
  have hle := m.le
  clear m
  rcases tests (n := lp) (a := a) with ⟨t1, t2⟩ | ⟨t1, t2, t3⟩ | ⟨p, rfl, hp, t1, t2, t3⟩
  · have hr : putM lp pg f a b = (0, 2, f) := by unfold putM; rw [t2]; rfl
    rw [hr]
    replace t2 := Lib.hid t2
    replace hr := Lib.hid hr
    go_enter Try.func12, Try.ntmps12
    go_wp2_with fail
    go_ret2
    exact ⟨rfl, Cl.Keeps.refl _ _, M.out⟩
  · have hr : putM lp pg f a b = (0, 2, f) := by unfold putM; rw [t3]; rfl
    rw [hr]
    replace t3 := Lib.hid t3
    replace hr := Lib.hid hr
    go_enter Try.func12, Try.ntmps12
    go_wp2_with fail
    go_ret2
    exact ⟨rfl, Cl.Keeps.refl _ _, M.out⟩
  rcases tests (n := pg) (a := b) with ⟨s1, s2⟩ | ⟨s1, s2, s3⟩ | ⟨q, rfl, hq, s1, s2, s3⟩
  · have hr : putM lp pg f (p : Int) b = (0, 2, f) := by unfold putM; rw [s2, t3]; rfl
    rw [hr]
    replace t3 := Lib.hid t3
    replace s2 := Lib.hid s2
    replace hr := Lib.hid hr
    go_enter Try.func12, Try.ntmps12
    go_wp2_with fail
    go_ret2
    exact ⟨rfl, Cl.Keeps.refl _ _, M.out⟩
  · have hr : putM lp pg f (p : Int) b = (0, 2, f) := by unfold putM; rw [s3, t3]; rfl
    rw [hr]
    replace t3 := Lib.hid t3
    replace s3 := Lib.hid s3
    replace hr := Lib.hid hr
    go_enter Try.func12, Try.ntmps12
    go_wp2_with fail
    go_ret2
    exact ⟨rfl, Cl.Keeps.refl _ _, M.out⟩
  have ho := Lib.hid (refowner_any w M.out (q : Int))
  obtain ⟨rfl, cp⟩ := M.out.at_ hp
  have fz := (M.out.row (by omega)).2.frozen p
  have hpl : (p : Int) < (lp : Int) := by omega
  have hin : (inB lp (p : Int) && inB pg (q : Int)) = true := by rw [t3, s3]; rfl
  obtain ⟨X, hX⟩ : ∃ X, f p = X := ⟨_, rfl⟩
  rw [hX] at cp
  have hfin : ∀ r, putM lp pg f (p : Int) (q : Int) = (r, 0, lay f (p : Int) (q : Int)) →
      putV (r, 0, lay f (p : Int) (q : Int)) = putV (putM lp pg f (p : Int) (q : Int)) ∧ Cl.Keeps (fun u => u ≠ h) w (w.setCell ⟨h, p, none⟩ (.int .i64 (q : Int))) ∧ RM (w.setCell ⟨h, p, none⟩ (.int .i64 (q : Int))) g h (some ⟨h, 0, none⟩) c lp pg (putM lp pg f (p : Int) (q : Int)).2.2 := fun r hr => by
    rw [hr]
    exact ⟨rfl, keeps_setN (Cl.Keeps.refl _ _) (by simp), M.out.set_ hp _⟩
  replace hfin := Lib.hid hfin
  cases how : ow f lp (q : Int) with
  | none =>
    rw [how] at ho
    have hov : owV none = .tuple #[.int .i64 0, .bool false] := rfl
    rw [hov] at ho
    have hr : putM lp pg f (p : Int) (q : Int) = (if X = (q : Int) then -1 else X, 0, lay f (p : Int) (q : Int)) := by unfold putM; rw [if_pos hin, how]; simp only [Int.toNat_natCast, hX]
    by_cases hXq : X = (q : Int)
    · rw [if_pos hXq] at hr
      have d1 : (X == (q : Int)) = true := by simpa using hXq
      subst hXq
      replace t3 := Lib.hid t3; replace s3 := Lib.hid s3; replace hin := Lib.hid hin; replace hX := Lib.hid hX; replace how := Lib.hid how
      have hf2 := Lib.hid (hfin.out _ hr)
      clear hfin hr
      go_enter Try.func12, Try.ntmps12
      go_wp2_with (go_at_call 15; (with_reducible refine ho.out.mono ?_); rintro e w2 ⟨rfl, rfl⟩)
      go_ret2
      exact ⟨by rw [← hf2.out.1]; rfl, hf2.out.2⟩
    · rw [if_neg hXq] at hr
      have d1 : (X == (q : Int)) = false := by simpa using hXq
      replace hXq := Lib.hid hXq
      replace t3 := Lib.hid t3; replace s3 := Lib.hid s3; replace hin := Lib.hid hin; replace hX := Lib.hid hX; replace how := Lib.hid how
      have hf2 := Lib.hid (hfin.out _ hr)
      clear hfin hr
      go_enter Try.func12, Try.ntmps12
      go_wp2_with (go_at_call 15; (with_reducible refine ho.out.mono ?_); rintro e w2 ⟨rfl, rfl⟩)
      go_ret2
      exact ⟨by rw [← hf2.out.1]; rfl, hf2.out.2⟩
  | some o =>
    rw [how] at ho
    have hov : owV (some o) = .tuple #[.int .i64 (o : Int), .bool true] := rfl
    rw [hov] at ho
    by_cases hop : (o : Int) = (p : Int)
    · have hr : putM lp pg f (p : Int) (q : Int) = (if X = (q : Int) then -1 else X, 0, lay f (p : Int) (q : Int)) := by unfold putM; rw [if_pos hin, how]; simp only [Int.toNat_natCast, hX, if_pos hop]
      have hXq : X = (q : Int) := by
        have h2 := (nx_some.1 how).2.1
        obtain rfl : o = p := by omega
        rw [hX] at h2
        simpa using h2
      rw [if_pos hXq] at hr
      have d1 : (X == (q : Int)) = true := by simpa using hXq
      subst hXq
      obtain rfl : o = p := by omega
      replace t3 := Lib.hid t3; replace s3 := Lib.hid s3; replace hin := Lib.hid hin; replace hX := Lib.hid hX; replace how := Lib.hid how
      have hf2 := Lib.hid (hfin.out _ hr)
      clear hfin hr hop
      go_enter Try.func12, Try.ntmps12
      go_wp2_with (go_at_call 15; (with_reducible refine ho.out.mono ?_); rintro e w2 ⟨rfl, rfl⟩)
      go_ret2
      exact ⟨by rw [← hf2.out.1]; rfl, hf2.out.2⟩
    · have hr : putM lp pg f (p : Int) (q : Int) = (0, 1, f) := by unfold putM; rw [if_pos hin, how]; simp only [if_neg hop]
      have d1 : ((o : Int) == (p : Int)) = false := by simpa using hop
      have d2 : ((o : Int) != (p : Int)) = true := by simpa using hop
      rw [hr]
      replace hop := Lib.hid hop
      replace t3 := Lib.hid t3; replace s3 := Lib.hid s3; replace hin := Lib.hid hin; replace hX := Lib.hid hX; replace how := Lib.hid how; replace hr := Lib.hid hr
      clear hfin
      go_enter Try.func12, Try.ntmps12
      go_wp2_with (go_at_call 15; (with_reducible refine ho.out.mono ?_); rintro e w2 ⟨rfl, rfl⟩)
      go_ret2
      exact ⟨rfl, Cl.Keeps.refl _ _, M.out⟩
end Go.Proofs.Ytcnnmnjepofomaa.Lm
