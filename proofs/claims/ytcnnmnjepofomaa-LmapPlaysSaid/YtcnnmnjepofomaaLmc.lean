/- The reference's Map: Drop, NewMap walked. -/
import Derived.Test.YtcnnmnjepofomaaLmb
namespace Go.Proofs.Ytcnnmnjepofomaa.Lm
open Go.RowKit Go.Bw Go.Proofs.Ytcnnmnjepofomaa.Vl
set_option linter.unusedVariables false
set_option linter.unusedSimpArgs false
/-- an answer of Drop -/
def dropV (r : Int × Bool × (Nat → Int)) : Value := .tuple #[.int .i64 r.1, .bool r.2.1]
set_option maxHeartbeats 2000000 in
theorem refdrop_any {g h c lp pg : Nat} {A : Option Addr} {f : Nat → Int} (w : World) (m : RM w g h A c lp pg f) (a : Int) :
    Calls Try.prog 17 #[.pointer (some ⟨g, 0, none⟩), .int .i64 a] w fun e w' => e = .returned (dropV (dropM lp f a)) ∧ Cl.Keeps (fun q => q ≠ h) w w' ∧ RM w' g h A c lp pg (dropM lp f a).2.2 := by
  have c0 := m.c0
  have M := Lib.hid m
  have hle := m.le
  clear m
  rcases tests (n := lp) (a := a) with ⟨t1, t2⟩ | ⟨t1, t2, t3⟩ | ⟨p, rfl, hp, t1, t2, t3⟩
  · have hr : dropM lp f a = (0, false, f) := by unfold dropM; rw [t2]; rfl
    rw [hr]
    replace t2 := Lib.hid t2
    replace hr := Lib.hid hr
    go_enter Try.func17, Try.ntmps17
    go_wp2_with fail
    go_ret2
    exact ⟨rfl, Cl.Keeps.refl _ _, M.out⟩
  · have hr : dropM lp f a = (0, false, f) := by unfold dropM; rw [t3]; rfl
    rw [hr]
    replace t3 := Lib.hid t3
    replace hr := Lib.hid hr
    go_enter Try.func17, Try.ntmps17
    go_wp2_with fail
    go_ret2
    exact ⟨rfl, Cl.Keeps.refl _ _, M.out⟩
  obtain ⟨rfl, cp⟩ := M.out.at_ hp
  have fz := (M.out.row (by omega)).2.frozen p
  have hpl : (p : Int) < (lp : Int) := by omega
  obtain ⟨X, hX⟩ : ∃ X, f p = X := ⟨_, rfl⟩
  rw [hX] at cp
  by_cases hneg : X < 0
  · have hr : dropM lp f (p : Int) = (0, false, f) := by unfold dropM; rw [t3]; simp only [Int.toNat_natCast, hX]; rw [decide_eq_false (show ¬ 0 ≤ X by omega)]; rfl
    rw [hr]
    have d1 : decide (X < 0) = true := decide_eq_true hneg
    replace t3 := Lib.hid t3; replace hX := Lib.hid hX; replace hr := Lib.hid hr
    go_enter Try.func17, Try.ntmps17
    go_wp2_with fail
    go_ret2
    exact ⟨rfl, Cl.Keeps.refl _ _, M.out⟩
  · have hr : dropM lp f (p : Int) = (X, true, lay f (p : Int) (-1)) := by unfold dropM; rw [t3]; simp only [Int.toNat_natCast, hX]; rw [decide_eq_true (show 0 ≤ X by omega)]; rfl
    rw [hr]
    have d1 : decide (X < 0) = false := decide_eq_false hneg
    have hset := Lib.hid (M.out.set_ hp (-1))
    have hK := Lib.hid (keeps_setN (K := fun u => u ≠ h) (Cl.Keeps.refl _ w) (g := h) (i := p) (v := .int .i64 (-1)) (by simp))
    replace t3 := Lib.hid t3; replace hX := Lib.hid hX; replace hr := Lib.hid hr
    go_enter Try.func17, Try.ntmps17
    go_wp2_with fail
    go_ret2
    exact ⟨rfl, hK.out, hset.out⟩
end Go.Proofs.Ytcnnmnjepofomaa.Lm
