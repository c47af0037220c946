/- WearLevels walked. -/
import Derived.Test.YtoldfgnnmfaihaaWre
import Derived.Test.YtoldfgnnmfaihaaWrv
namespace Go.Proofs.Ytoldfgnnmfaihaa.We
open Go.RowKit
set_option linter.unusedVariables false
set_option linter.unusedSimpArgs false
/-- how worn block j is behind q rounds and r blocks more -/
def lev (q r j : Nat) : Int := if j < r then (q : Int) + 1 else (q : Int)
theorem lev_pick {k q r : Nat} (h : r < k) : fst (fun _ => true) (lo (lev q r)) k = some r := by
  refine fst_uniq (lo_ord _) h rfl fun i hi _ hne => ⟨?_, fun hlt => ?_⟩
  · simp only [lo, lev, decide_eq_false_iff_not, Nat.lt_irrefl, if_false]
    split <;> omega
  · simp only [lo, lev, decide_eq_true_eq, Nat.lt_irrefl, if_false]
    rw [if_pos hlt]; omega
theorem lev_gap {k q r : Nat} (h : r < k) : ¬ 1 < wrap64 (gapF (lev q r) (fun _ => true) k) := by
  obtain ⟨b, hq⟩ := hi_of_lo (lev_pick (q := q) h)
  rw [gap_some (lev_pick h) hq]
  have : lev q r b - lev q r r = 0 ∨ lev q r b - lev q r r = 1 := by
    unfold lev; split <;> split <;> omega
  rcases this with e | e <;> rw [e] <;> decide +kernel
theorem lev_step {k q r : Nat} (h : r + 1 < k) (j : Nat) : (if j = r then lev q r r + 1 else lev q r j) = lev q (r + 1) j := by
  unfold lev; split <;> split <;> split <;> omega
theorem lev_turn {k q r : Nat} (h : r + 1 = k) {j : Nat} (hj : j < k) : (if j = r then lev q r r + 1 else lev q r j) = lev (q + 1) 0 j := by
  unfold lev; split <;> split <;> split <;> omega
set_option maxRecDepth 20000 in
set_option maxHeartbeats 8000000 in
theorem levels_law (a0 : Int) (w0 : (Lit.int .u8 a0).wf = true) (a1 : Int) (w1 : (Lit.int .u8 a1).wf = true) (w : World) :
    Calls Try.prog 5 #[.int .u8 a0, .int .u8 a1] w (Ans w (.bool true)) := by
  have ca := Lib.hid awake_any
  obtain ⟨n, hn, rfl⟩ := u8_nat w0
  obtain ⟨t, ht, rfl⟩ := u8_nat w1
  clear w0 w1
  obtain ⟨m, hm⟩ : ∃ m, n % 20 = m := ⟨_, rfl⟩
  have hmI : (n : Int) % 20 = (m : Int) := by omega
  have hmT : (n : Int).tmod 20 = (m : Int) := by rw [Int.tmod_eq_emod_of_nonneg (by omega)]; exact hmI
  have hm20 : m < 20 := by omega
  obtain ⟨k, hk⟩ : ∃ k, 1 + m = k := ⟨_, rfl⟩
  have hkI : (1 : Int) + (m : Int) = (k : Int) := by omega
  have mk1 := fun w => run_makeI w k (by omega)
  have mk2 := fun w => run_makeF w k (by omega)
  go_enter Try.func5, Try.ntmps5
  go_wp2_with (first
    | (go_at_call 8; (with_reducible refine (ca.out _).mono ?_); rintro e w1 ⟨rfl, hb1⟩; have hb := Lib.hid hb1; clear hb1))
  have hgw := hb.out.size
  have P1 := (PV.ints w1 k).below (below_alloc (w1.alloc (.cells (zI k) 3)) (.cells (zF k) 4))
  have P2 := PV.bools (w1.alloc (.cells (zI k) 3)) k
  rw [World.size_alloc] at P2
  have hB := below_trans hb.out (below_trans (below_alloc w1 (.cells (zI k) 3)) (below_alloc (w1.alloc (.cells (zI k) 3)) (.cells (zF k) 4)))
  generalize (w1.alloc (.cells (zI k) 3)).alloc (.cells (zF k) 4) = w2 at *
  obtain ⟨g, hg⟩ : ∃ g, w1.heap.size = g := ⟨_, rfl⟩
  rw [hg] at hgw P1 P2 ⊢
  replace P1 := Lib.hid P1
  replace P2 := Lib.hid P2
  replace hB := Lib.hid hB
  have P2' : Hid (PV w2 4 (g + 1) k (bF fun j => decide (j < 0))) := Lib.hid (P2.out.congr fun j hj => rfl)
  clear P2 hb hg mk1 mk2 ca
  go_loopw [8] (fun p wr => ∃ i : Nat, i ≤ k ∧ p = .int .i64 (i : Int) ∧ Hid (PV wr 3 g k (iF fun _ => 0)) ∧ Hid (PV wr 4 (g + 1) k (bF fun j => decide (j < i))) ∧ Hid (Below w.heap.size w wr)) (fun p _ => k - (intOf p).toNat)
  case atStart => exact ⟨0, Nat.zero_le _, rfl, P1, P2', hB⟩
  case round =>
    clear P1 P2' hB
    obtain ⟨i, hi, rfl, P1, P2, hB⟩ := hrel
    by_cases hik : i < k
    · have hikI : (i : Int) < (k : Int) := by omega
      have hdk : decide (i < k) = true := decide_eq_true hik
      have c0 := P2.out.cell hik
      simp only [bF] at c0
      have z0 := P2.out.frozen i
      have Q2 : Hid (PV (wr.setCell ⟨g + 1, i, none⟩ (.bool true)) 4 (g + 1) k (bF fun j => decide (j < i + 1))) := Lib.hid ((P2.out.set_ i (.bool true)).congr fun j hj => by
        by_cases e : j = i
        · rw [if_pos e]; simp [bF, e]
        · rw [if_neg e]; simp only [bF]; rw [Value.bool.injEq]; rw [Bool.eq_iff_iff]; simp only [decide_eq_true_eq]; omega)
      have Q1 := Lib.hid (P1.out.other (g' := g + 1) (i := i) (.bool true) (by omega))
      have QB := Lib.hid (below_set (g := g + 1) (i := i) hB.out (by omega) (.bool true))
      clear P1 P2 hB
      go_wp2_with fail
      go_roundw
      case rel => exact ⟨i + 1, by omega, by go_num, Q1, Q2, QB⟩
      case measure => simp [intOf]; omega
    · obtain rfl : i = k := by omega
      have hdk : decide (i < i) = false := decide_eq_false hik
      have P2' : Hid (PV wr 4 (g + 1) i (bF fun _ => true)) := Lib.hid (P2.out.congr fun j hj => by simp [bF, hj])
      have P1' : Hid (PV wr 3 g i (iF (lev 0 0))) := Lib.hid (P1.out.congr fun j hj => by simp [iF, lev])
      clear P1 P2
      go_wp2_with fail
      clear hi hik hdk
      go_loopw [9] (fun p wr => ∃ s q r : Nat, s ≤ t ∧ p = .int .i64 (s : Int) ∧ s = q * i + r ∧ r < i ∧ Hid (PV wr 3 g i (iF (lev q r))) ∧ Hid (PV wr 4 (g + 1) i (bF fun _ => true)) ∧ Hid (Below w.heap.size w wr)) (fun p _ => t - (intOf p).toNat)
      case atStart => exact ⟨0, 0, 0, Nat.zero_le _, rfl, by omega, by omega, P1', P2', hB⟩
      case round =>
        clear P1' P2' hB
        obtain ⟨s, q, r, hs, rfl, hsq, hr, P1, P2, hB⟩ := hrel
        by_cases hst : s < t
        · have hstI : (s : Int) < (t : Int) := by omega
          have hdst : decide (s < t) = true := decide_eq_true hst
          have hi0 : ¬ (i : Int) = 0 := by omega
          have hrem : s % i = r := by rw [hsq, Nat.add_comm, Nat.add_mul_mod_self_right, Nat.mod_eq_of_lt hr]
          have hremI : (s : Int) % (i : Int) = (r : Int) := by rw [← hrem]; exact (Int.natCast_emod s i).symm
          have hremT : (s : Int).tmod (i : Int) = (r : Int) := by rw [Int.tmod_eq_emod_of_nonneg (by omega)]; exact hremI
          have hq : q ≤ s := by
            have : q * 1 ≤ q * i := Nat.mul_le_mul_left q (by omega)
            omega
          have hne : ((r : Int) != (r : Int)) = false := by simp
          have hne2 : (r != r) = false := by simp
          have hp : Hid (∀ w2, Below wr.heap.size wr w2 → Calls Try.prog 9 #[.slice (some ⟨g, 0, none⟩) i i, .slice (some ⟨g + 1, 0, none⟩) i i] w2 (Ans w2 (.tuple #[.int .i64 (r : Int), .bool true]))) := Lib.hid (fun w2 h2 => by
            have := pick_any (some ⟨g, 0, none⟩) i i (lev q r) (some ⟨g + 1, 0, none⟩) i i (fun _ => true) w2 (P1.out.below h2).sf (P2.out.below h2).sf (by omega)
            rw [show mn i i = i from by unfold mn; split <;> rfl, lev_pick hr] at this
            exact this)
          have hrI : (r : Int) < (i : Int) := by omega
          replace hsq := Lib.hid hsq
          clear hremI hrem
          go_wp2_with (go_at_call 9; (with_reducible refine (hp.out _ (Below.refl _ _)).mono ?_); rintro e w3 ⟨rfl, hb1⟩; have P3 := Lib.hid (P1.out.below hb1); have P4 := Lib.hid (P2.out.below hb1); have hB3 := Lib.hid (below_trans hB.out hb1); have c0 : w3.cell? ⟨g, r, none⟩ = some (.int .i64 (q : Int)) := (P3.out.cell hr).trans (by simp [iF, lev]); have z0 := P3.out.frozen r; clear hb1 P1 P2 hB)
          have hx : ∃ q' r', r' < i ∧ s + 1 = q' * i + r' ∧ PV (w3.setCell ⟨g, r, none⟩ (.int .i64 ((q : Int) + 1))) 3 g i (iF (lev q' r')) := by
            have h0 := P3.out.set_ r (.int .i64 ((q : Int) + 1))
            have hl : (q : Int) = lev q r r := by simp [lev]
            by_cases e : r + 1 < i
            · refine ⟨q, r + 1, e, by rw [hsq.out]; omega, h0.congr fun j hj => ?_⟩
              have := lev_step (q := q) e j
              by_cases e1 : j = r
              · rw [if_pos e1] at this ⊢; rw [← hl] at this; simp only [iF]; rw [this]
              · rw [if_neg e1] at this ⊢; simp only [iF]; rw [this]
            · have e2 : r + 1 = i := by omega
              refine ⟨q + 1, 0, by omega, by rw [hsq.out, Nat.add_mul]; omega, h0.congr fun j hj => ?_⟩
              have := lev_turn (q := q) e2 hj
              by_cases e1 : j = r
              · rw [if_pos e1] at this ⊢; rw [← hl] at this; simp only [iF]; rw [this]
              · rw [if_neg e1] at this ⊢; simp only [iF]; rw [this]
          obtain ⟨q', r', hr', hs', P5⟩ := hx
          have P6 := P4.out.other (g' := g) (i := r) (.int .i64 ((q : Int) + 1)) (by omega)
          have hB5 := Lib.hid (below_set (g := g) (i := r) hB3.out hgw (.int .i64 ((q : Int) + 1)))
          have hgap := gap_any (some ⟨g, 0, none⟩) i i (lev q' r') (some ⟨g + 1, 0, none⟩) i i (fun _ => true) _ P5.sf P6.sf (by omega)
          rw [show mn i i = i from by unfold mn; split <;> rfl] at hgap
          have hG1 := lev_gap (q := q') hr'
          generalize wrap64 (gapF (lev q' r') (fun _ => true) i) = G at hgap hG1
          have hdG : decide (1 < G) = false := decide_eq_false hG1
          generalize w3.setCell ⟨g, r, none⟩ (.int .i64 ((q : Int) + 1)) = w5 at *
          replace P5 := Lib.hid P5
          replace P6 := Lib.hid P6
          clear P3 P4 hB3 c0 z0 hp
          refine hgap.mono ?_
          rintro e w6 ⟨rfl, hb⟩
          have P7 := Lib.hid (P5.out.below hb)
          have P8 := Lib.hid (P6.out.below hb)
          have hB6 := Lib.hid (below_trans hB5.out hb)
          clear hb P5 P6 hB5 hgap
          dsimp only
          go_wp2_with fail
          go_roundw
          case rel => exact ⟨s + 1, q', r', by omega, by go_num, hs', hr', P7, P8, hB6⟩
          case measure => simp [intOf]; omega
        · obtain rfl : s = t := by omega
          have hdst : decide (s < s) = false := decide_eq_false hst
          go_wp2_with fail
          go_ret
          exact ⟨rfl, hB.out⟩
end Go.Proofs.Ytoldfgnnmfaihaa.We
