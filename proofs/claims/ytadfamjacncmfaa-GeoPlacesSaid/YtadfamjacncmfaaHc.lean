/- The law over the pages of a geometry, walked. -/
import Derived.Test.YtadfamjacncmfaaGd
namespace Go.Proofs.Ytadfamjacncmfaa
open Go.RowKit

theorem isN_at {B P W K : Int} {j i : Nat} (hM : mayG B P W K = true) (h1 : (j : Int) < B) (h2 : (i : Int) < P) : isN B P W K (j : Int) (i : Int) = true := by
  unfold isN
  rw [hM]
  simp only [Bool.true_and, Bool.and_eq_true, decide_eq_true_eq]
  omega
set_option maxRecDepth 20000 in
set_option maxHeartbeats 4000000 in
theorem places_any (B P W K : Int) (w : World) : Calls Try.prog 5 #[.agg #[.int .i64 B, .int .i64 P, .int .i64 W, .int .i64 K]] w (Ans w (.bool true)) := by
  have hb := Lib.hid (below_alloc w (.cells #[.int .i64 B, .int .i64 P, .int .i64 W, .int .i64 K] 23))
  have hx := Lib.hid (Box.new w B P W K)
  have ca := Lib.hid awake_any
  have cr := refmay_any B P W K
  have cc := count_any B P W K
  cases hM : mayG B P W K
  · have hc0 : cntG B P W K = 0 := by unfold cntG; rw [hM]; rfl
    rw [hM] at cr
    rw [hc0] at cc
    replace cr := Lib.hid cr
    replace cc := Lib.hid cc
    clear hc0 hM
    go_enter Try.func5, Try.ntmps5
    go_wp2_with (first
      | (go_at_call 8; (with_reducible refine (ca.out _).mono ?_); rintro e w1 ⟨rfl, hb1⟩; have hb := Lib.hid (hb.out.trans (hb1.mono hb.out.size)); have hx := Lib.hid (hx.out.keep hb1); obtain ⟨_, c0, c1, c2, c3⟩ := hx.out; clear hb1)
      | (go_at_call 9; (with_reducible refine (cr.out _).mono ?_); rintro e w1 ⟨rfl, hb1⟩; have hb := Lib.hid (hb.out.trans (hb1.mono hb.out.size)); have hx := Lib.hid (hx.out.keep hb1); obtain ⟨_, c0, c1, c2, c3⟩ := hx.out; clear hb1)
      | (go_at_call 17; (with_reducible refine (cc.out _).mono ?_); rintro e w1 ⟨rfl, hb1⟩; have hb := Lib.hid (hb.out.trans (hb1.mono hb.out.size)); have hx := Lib.hid (hx.out.keep hb1); obtain ⟨_, c0, c1, c2, c3⟩ := hx.out; clear hb1))
    go_ret
    exact ⟨rfl, hb.out⟩
  · obtain ⟨g1, g2, g3, g4, _⟩ := may_of hM
    have hc0 : cntG B P W K = B * P := by unfold cntG; rw [hM]; rfl
    obtain ⟨b, rfl⟩ : ∃ b : Nat, B = (b : Int) := ⟨B.toNat, by omega⟩
    obtain ⟨p, rfl⟩ : ∃ p : Nat, P = (p : Int) := ⟨P.toNat, by omega⟩
    obtain ⟨n, hn⟩ : ∃ n : Nat, b * p = n := ⟨_, rfl⟩
    have hnI : (b : Int) * (p : Int) = (n : Int) := by rw [← hn]; push_cast; rfl
    rw [hnI] at hc0
    have cn := Lib.hid (fun (j i m : Nat) (h1 : j < b) (h2 : i < p) (h3 : j * p + i = m) => number_lit (B := b) (P := p) (W := W) (K := K) (b := j) (p := i) (n := m) (i := true) (isN_at hM (by omega) (by omega)) (by
      unfold numG
      rw [isN_at hM (by omega) (by omega), if_pos rfl, ← h3]
      push_cast
      rfl))
    have cp := Lib.hid (fun (j i m : Nat) (h1 : j < b) (h2 : i < p) (h3 : j * p + i = m) (h4 : m < n) => place_lit (B := b) (P := p) (W := W) (K := K) (n := m) (q := j) (r := i) (by
      unfold isP
      rw [hc0, decide_eq_true (by omega), decide_eq_true (by omega)]
      rfl) (by
      have hp : 0 < p := by omega
      rw [← Int.natCast_ediv, ← h3, Nat.mul_comm, Nat.mul_add_div hp, Nat.div_eq_of_lt h2, Nat.add_zero]) (by
      have hp : 0 < p := by omega
      rw [← Int.natCast_emod, ← h3, Nat.mul_comm, Nat.mul_add_mod, Nat.mod_eq_of_lt h2]))
    rw [hM] at cr
    rw [hc0] at cc
    have hn2 : n ≤ 2048 := by
      have := bp_le (by omega : (0 : Int) ≤ b) g2 (by omega : (0 : Int) ≤ p) g4
      omega
    have hb64 : b ≤ 64 := by omega
    have hp32 : p ≤ 32 := by omega
    replace cr := Lib.hid cr
    replace cc := Lib.hid cc
    replace hn := Lib.hid hn
    clear hc0 hM hnI g1 g2 g3 g4
    go_enter Try.func5, Try.ntmps5
    go_wp2_with (first
      | (go_at_call 8; (with_reducible refine (ca.out _).mono ?_); rintro e w1 ⟨rfl, hb1⟩; have hb := Lib.hid (hb.out.trans (hb1.mono hb.out.size)); have hx := Lib.hid (hx.out.keep hb1); obtain ⟨_, c0, c1, c2, c3⟩ := hx.out; clear hb1)
      | (go_at_call 9; (with_reducible refine (cr.out _).mono ?_); rintro e w1 ⟨rfl, hb1⟩; have hb := Lib.hid (hb.out.trans (hb1.mono hb.out.size)); have hx := Lib.hid (hx.out.keep hb1); obtain ⟨_, c0, c1, c2, c3⟩ := hx.out; clear hb1))
    have hbb := hb
    clear hb
    have hxx := hx
    clear hx
    go_loopw [3, 4] (fun q r wr => ∃ j m : Nat, j ≤ b ∧ Hid (j * p = m) ∧ q = .int .i64 m ∧ r = .int .i64 j ∧ Below w1.heap.size w1 wr) (fun _ r _ => b - (intOf r).toNat)
    case atStart => exact ⟨0, 0, Nat.zero_le _, Lib.hid (Nat.zero_mul _), rfl, rfl, Below.refl _ _⟩
    case round =>
      obtain ⟨j, m, hj, hjm, rfl, rfl, hB⟩ := hrel
      by_cases hjb : j < b
      · have hjI : (j : Int) < (b : Int) := by omega
        have hdj : decide (j < b) = true := decide_eq_true hjb
        obtain ⟨_, c0, c1, c2, c3⟩ := hxx.out.keep hB
        replace hB := Lib.hid hB
        go_wp2_with fail
        go_loopw [3, 5] (fun q r wr => ∃ i t : Nat, i ≤ p ∧ Hid (j * p + i = t) ∧ q = .int .i64 t ∧ r = .int .i64 i ∧ Below w1.heap.size w1 wr) (fun _ r _ => p - (intOf r).toNat)
        case atStart => exact ⟨0, m, Nat.zero_le _, Lib.hid (by rw [hjm.out]; rfl), rfl, rfl, hB.out⟩
        case round =>
          clear hB c0 c1 c2 c3
          obtain ⟨i, t, hi, hit, rfl, rfl, hB⟩ := hrel
          have hx2 := Lib.hid (hxx.out.keep hB)
          have hb2 := Lib.hid (hB)
          obtain ⟨_, c0, c1, c2, c3⟩ := hx2.out
          clear hB
          by_cases hip : i < p
          · have hiI : (i : Int) < (p : Int) := by omega
            have hdi : decide (i < p) = true := decide_eq_true hip
            have htn : t < n := by
              have h1 : (j + 1) * p ≤ b * p := Nat.mul_le_mul_right _ hjb
              rw [Nat.add_mul, hn.out] at h1
              have := hit.out
              omega
            have cn' := Lib.hid (cn.out j i t hjb hip hit.out)
            have cp' := Lib.hid (cp.out j i t hjb hip hit.out htn)
            have n1 : ((t : Int) != (t : Int)) = false := by simp
            have n2 : ((j : Int) != (j : Int)) = false := by simp
            have n3 : ((i : Int) != (i : Int)) = false := by simp
            go_wp2_with (first
              | (go_at_call 11; (with_reducible refine (cn'.out _).mono ?_); rintro e w1 ⟨rfl, hb1⟩; have hb2 := Lib.hid (hb2.out.trans (hb1.mono hb2.out.size)); have hx2 := Lib.hid (hx2.out.keep hb1); obtain ⟨_, c0, c1, c2, c3⟩ := hx2.out; clear hb1)
              | (go_at_call 10; (with_reducible refine (cp'.out _).mono ?_); rintro e w1 ⟨rfl, hb1⟩; have hb2 := Lib.hid (hb2.out.trans (hb1.mono hb2.out.size)); have hx2 := Lib.hid (hx2.out.keep hb1); obtain ⟨_, c0, c1, c2, c3⟩ := hx2.out; clear hb1))
            go_roundw
            case rel => exact ⟨i + 1, t + 1, by omega, Lib.hid (by rw [← hit.out]; omega), by go_num, by go_num, hb2.out⟩
            case measure => simp [intOf]; omega
          · obtain rfl : i = p := by omega
            have hdi : decide (i < i) = false := decide_eq_false (Nat.lt_irrefl _)
            go_wp2_with fail
            go_roundw
            case rel => exact ⟨j + 1, t, by omega, Lib.hid (by rw [← hit.out, Nat.add_mul, Nat.one_mul]), rfl, by go_num, hb2.out⟩
            case measure => simp [intOf]; omega
      · obtain rfl : j = b := by omega
        have hdj : decide (j < j) = false := decide_eq_false (Nat.lt_irrefl _)
        obtain rfl : m = n := by rw [← hjm.out, ← hn.out]
        have hx2 := Lib.hid (hxx.out.keep hB)
        have hb2 := Lib.hid (hB)
        obtain ⟨_, c0, c1, c2, c3⟩ := hx2.out
        clear hB
        go_wp2_with (first
          | (go_at_call 17; (with_reducible refine (cc.out _).mono ?_); rintro e w1 ⟨rfl, hb1⟩; have hb2 := Lib.hid (hb2.out.trans (hb1.mono hb2.out.size)); have hx2 := Lib.hid (hx2.out.keep hb1); obtain ⟨_, c0, c1, c2, c3⟩ := hx2.out; clear hb1))
        go_ret
        exact ⟨rfl, hbb.out.trans (hb2.out.mono hbb.out.size)⟩
end Go.Proofs.Ytadfamjacncmfaa
