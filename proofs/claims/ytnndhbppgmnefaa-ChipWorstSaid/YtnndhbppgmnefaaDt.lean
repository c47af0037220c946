/- ChipKnown: a device by hand. -/
import Derived.Test.YtnndhbppgmnefaaDs
namespace Go.Proofs.Ytnndhbppgmnefaa
open Go.RowKit Go.Fl
set_option linter.unusedVariables false
set_option linter.unusedSimpArgs false
attribute [local go_sem ↓] Cl.quiet_after Cl.quiet_since
def kts : List (Int × Int × Int) := [(2, 1, 25), (5, 1, 0), (8, 2, 20), (10, 2, 0)]
def k0 : Dev := freshD 4 2 1 9 (marksOf [3] 1) kts
def k1 : Dev := { k0 with ops := 1, pg := setPg k0.pg 0 0 (progPg (k0.pg 0 0) z25 k0.n) }
def k2 : Dev := { k1 with ops := 2, rf := 1 }
def k3 : Dev := { k2 with ops := 3, pg := setPg k2.pg 0 1 (progPg (k2.pg 0 1) z25 (min (fateOf k2).2.2 ((k2.n : Int) - (9 * k2.W : Nat)))) }
def k4 : Dev := { k3 with ops := 4, rf := 2 }
def k5 : Dev := { k4 with ops := 5, rf := 3 }
def k6 : Dev := { k5 with ops := 6, bk := putB k5.bk 1 true }
def k7 : Dev := { k6 with ops := 7 }
def k8 : Dev := { k7 with ops := 8 }
def k9 : Dev := { k8 with ops := 9, pg := setPg k8.pg 2 0 (progPg (k8.pg 2 0) z25 (fateOf k8).2.2), dark := true }
def k10 : Dev := { k9 with dark := false }
def k11 : Dev := { k10 with ops := 10 }
def k12 : Dev := { k11 with ops := 11, dark := true }
def k13 : Dev := { k12 with dark := false }
def k14 : Dev := { k13 with ops := 12 }
def k15 : Dev := { k14 with ops := 13, md := putB k14.md 0 true }
def k16 : Dev := { k15 with ops := 14 }
def k17 : Dev := { k16 with ops := 15, rf := 4 }
def k18 : Dev := { k17 with pg := setPg k17.pg 2 0 (driftPg (k17.pg 2 0) 0 2 0) }
def k19 : Dev := { k18 with pg := setPg k18.pg 0 0 (driftPg (k18.pg 0 0) 0 2 0) }
theorem ks_1 : stepD k0 2 0 0 z25 = (0, k1) := st_prog rfl (progE_ok (by decide) (nextB_yes (fun _ _ _ => rfl) (Or.inl rfl)) rfl) (by decide +kernel) (by decide +kernel)
theorem ks_2 : stepD k1 2 0 0 z25 = (5, k2) := st_prog_err (r := true) rfl (progE_next (by decide) (nextB_used (j := 0) (by decide) (by decide) (by decide +kernel))) (by decide) (by decide)
theorem ks_3 : stepD k2 2 0 1 z25 = (6, k3) := st_prog_fail rfl (by decide +kernel) (by decide +kernel)
theorem ks_4 : stepD k3 2 3 0 z25 = (9, k4) := st_prog_err (r := true) rfl (progE_md (by decide)) (by decide) (by decide)
theorem ks_5 : stepD k4 3 3 0 [] = (9, k5) := st_erase_err (r := true) rfl (erasE_md (by decide)) (by decide) (by decide)
theorem ks_6 : stepD k5 3 1 0 [] = (7, k6) := st_erase_fail rfl (erasE_ok (by decide) rfl) (by decide +kernel)
theorem ks_7 : stepD k6 2 1 0 z25 = (6, k7) := st_prog_err (r := false) rfl (by decide +kernel) (by decide) (by decide)
theorem ks_8 : stepD k7 3 1 0 [] = (7, k8) := st_erase_err (r := false) rfl (erasE_bk (by decide) rfl) (by decide) (by decide)
theorem ks_9 : stepD k8 2 2 0 z25 = (8, k9) := st_prog_cut rfl (by decide +kernel) (by decide +kernel)
theorem ks_10 : stepD k9 2 2 1 z25 = (8, k9) := st_dark rfl 2
theorem ks_11 : stepD k10 1 2 0 [] = (0, k11) := st_sense rfl (by decide +kernel)
theorem ks_12 : stepD k11 1 0 1 [] = (8, k12) := st_sense_cut rfl (by decide +kernel)
theorem ks_14 : stepD k13 1 0 1 [] = (0, k14) := st_sense rfl (by decide +kernel)
theorem ks_15 : stepD k14 4 0 0 [] = (0, k15) := st_mark rfl (by decide +kernel)
theorem ks_16 : stepD k15 5 0 0 [] = (0, k16) := st_marked rfl (by decide +kernel)
theorem ks_17 : stepN k16 = (1, k17) := sn_no rfl
theorem ks_18 : movB (k17.pg 2 0).ps (k17.pg 2 0).st 0 2 0 = false := by decide +kernel
theorem ks_19 : movB (k18.pg 0 0).ps (k18.pg 0 0).st 0 2 0 = true := by decide +kernel
theorem ks_w : worstD k19 = 1 := by decide +kernel
theorem k19_len : ∀ i j, (k19.pg i j).ps.length ≤ 100000 := by
  intro i j
  have key : ∀ (M : Dev) (b p : Nat) (q : Pg), (∀ i j, (M.pg i j).ps.length ≤ 100000) → q.ps.length ≤ 100000 → ∀ i j, (setPg M.pg b p q i j).ps.length ≤ 100000 := fun M b p q h hq i j => by
    unfold setPg
    split
    · exact hq
    · exact h i j
  have prog : ∀ (q : Pg) xs kp, q.ps.length ≤ 100000 → (progPg q xs kp).ps.length ≤ 100000 := fun q xs kp h => by
    show (progP q.ps xs kp).length ≤ 100000
    rw [progP_len]; exact h
  have drf : ∀ (q : Pg) (i u v : Int), q.ps.length ≤ 100000 → (driftPg q i u v).ps.length ≤ 100000 := fun q i u v h => by
    show (if movB q.ps q.st i u v = true then movP q.ps i.toNat u v else q.ps).length ≤ 100000
    split
    · unfold movP; rw [List.length_set]; exact h
    · exact h
  have h0 : ∀ i j, (k0.pg i j).ps.length ≤ 100000 := fun i j => by
    show (List.replicate 25 ((0 : Int), (0 : Int))).length ≤ 100000
    rw [List.length_replicate]; decide
  have h1 : ∀ i j, (k1.pg i j).ps.length ≤ 100000 := key k0 0 0 _ h0 (prog _ _ _ (h0 0 0))
  have h3 : ∀ i j, (k3.pg i j).ps.length ≤ 100000 := key k2 0 1 _ h1 (prog _ _ _ (h1 0 1))
  have h9 : ∀ i j, (k9.pg i j).ps.length ≤ 100000 := key k8 2 0 _ h3 (prog _ _ _ (h3 2 0))
  have h18 : ∀ i j, (k18.pg i j).ps.length ≤ 100000 := key k17 2 0 _ h9 (drf _ _ _ _ (h9 2 0))
  exact key k18 0 0 _ h18 (drf _ _ _ _ (h18 0 0)) i j
/-- how many of the first n points are at nought -/
def nought (ps : List (Int × Int)) : Nat → Nat
  | 0 => 0
  | i + 1 => nought ps i + if ptAt ps i = (0, 0) then 1 else 0
/-- .. are not -/
def charged (ps : List (Int × Int)) : Nat → Nat
  | 0 => 0
  | i + 1 => charged ps i + if ptAt ps i = (0, 0) then 0 else 1
theorem nought_hit {ps : List (Int × Int)} {i : Nat} (h : ptAt ps i = (0, 0)) : nought ps (i + 1) = nought ps i + 1 := congrArg (nought ps i + ·) (if_pos h)
theorem nought_miss {ps : List (Int × Int)} {i : Nat} (h : ptAt ps i ≠ (0, 0)) : nought ps (i + 1) = nought ps i := congrArg (nought ps i + ·) (if_neg h)
theorem charged_hit {ps : List (Int × Int)} {i : Nat} (h : ptAt ps i = (0, 0)) : charged ps (i + 1) = charged ps i := congrArg (charged ps i + ·) (if_pos h)
theorem charged_miss {ps : List (Int × Int)} {i : Nat} (h : ptAt ps i ≠ (0, 0)) : charged ps (i + 1) = charged ps i + 1 := congrArg (charged ps i + ·) (if_neg h)
theorem nought_le (ps : List (Int × Int)) : ∀ i, nought ps i ≤ i
  | 0 => Nat.le_refl _
  | i + 1 => by
    have := nought_le ps i
    unfold nought
    split <;> omega
theorem charged_le (ps : List (Int × Int)) : ∀ i, charged ps i ≤ i
  | 0 => Nat.le_refl _
  | i + 1 => by
    have := charged_le ps i
    unfold charged
    split <;> omega
theorem kn_n : nought (k11.pg 2 0).ps 25 = 5 := by decide +kernel
theorem kn_c : charged (k14.pg 0 1).ps 25 = 16 := by decide +kernel
theorem kl_n : (k11.pg 2 0).ps.length = 25 := by decide +kernel
theorem kl_c : (k14.pg 0 1).ps.length = 25 := by decide +kernel
end Go.Proofs.Ytnndhbppgmnefaa
