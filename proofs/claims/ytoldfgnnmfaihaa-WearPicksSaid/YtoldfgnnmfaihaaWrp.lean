/- WearPicks walked. -/
import Derived.Test.YtoldfgnnmfaihaaWre
import Derived.Test.YtoldfgnnmfaihaaWrd
namespace Go.Proofs.Ytoldfgnnmfaihaa.We
open Go.RowKit
set_option linter.unusedVariables false
set_option linter.unusedSimpArgs false
attribute [local go_sem ↓] Cl.quiet_after

/-- the least and the most of the first j that may, as the law keeps them; none lies far off -/
def Lm (e : Nat → Int) (μ : Nat → Bool) (j : Nat) (L M : Int) (F : Bool) : Prop :=
  (∀ i, i < j → -1099511627776 ≤ e i ∧ e i ≤ 1099511627776) ∧
  ((F = true ∧ L = 0 ∧ M = 0 ∧ ∀ i, i < j → μ i = false) ∨ (F = false ∧ (∃ i, i < j ∧ μ i = true ∧ e i = L) ∧ (∃ i, i < j ∧ μ i = true ∧ e i = M) ∧ ∀ i, i < j → μ i = true → L ≤ e i ∧ e i ≤ M))
theorem Lm.zero (e : Nat → Int) (μ : Nat → Bool) : Lm e μ 0 0 0 true := ⟨fun i hi => absurd hi (Nat.not_lt_zero _), Or.inl ⟨rfl, rfl, rfl, fun i hi => absurd hi (Nat.not_lt_zero _)⟩⟩
theorem Lm.no {e : Nat → Int} {μ : Nat → Bool} {j : Nat} {L M : Int} {F : Bool} (h : Lm e μ j L M F) (hr : -1099511627776 ≤ e j ∧ e j ≤ 1099511627776) (hm : μ j = false) : Lm e μ (j + 1) L M F := by
  refine ⟨fun i hi => ?_, ?_⟩
  · by_cases e1 : i = j
    · rw [e1]; exact hr
    · exact h.1 i (by omega)
  · rcases h.2 with ⟨h1, h2, h3, h4⟩ | ⟨h1, ⟨a, a1, a2, a3⟩, ⟨b, b1, b2, b3⟩, h4⟩
    · refine Or.inl ⟨h1, h2, h3, fun i hi => ?_⟩
      by_cases e1 : i = j
      · rw [e1]; exact hm
      · exact h4 i (by omega)
    · refine Or.inr ⟨h1, ⟨a, by omega, a2, a3⟩, ⟨b, by omega, b2, b3⟩, fun i hi hmi => ?_⟩
      by_cases e1 : i = j
      · rw [e1, hm] at hmi; cases hmi
      · exact h4 i (by omega) hmi
theorem Lm.first {e : Nat → Int} {μ : Nat → Bool} {j : Nat} {L M : Int} (h : Lm e μ j L M true) (hr : -1099511627776 ≤ e j ∧ e j ≤ 1099511627776) (hm : μ j = true) : Lm e μ (j + 1) (e j) (e j) false := by
  refine ⟨fun i hi => ?_, ?_⟩
  · by_cases e1 : i = j
    · rw [e1]; exact hr
    · exact h.1 i (by omega)
  · rcases h.2 with ⟨_, h2, h3, h4⟩ | ⟨h1, _⟩
    · refine Or.inr ⟨rfl, ⟨j, by omega, hm, rfl⟩, ⟨j, by omega, hm, rfl⟩, fun i hi hmi => ?_⟩
      by_cases e1 : i = j
      · rw [e1]; omega
      · rw [h4 i (by omega)] at hmi; cases hmi
    · cases h1
theorem Lm.more {e : Nat → Int} {μ : Nat → Bool} {j : Nat} {L M : Int} (h : Lm e μ j L M false) (hr : -1099511627776 ≤ e j ∧ e j ≤ 1099511627776) (hm : μ j = true) : Lm e μ (j + 1) (if e j < L then e j else L) (if M < e j then e j else M) false := by
  refine ⟨fun i hi => ?_, ?_⟩
  · by_cases e1 : i = j
    · rw [e1]; exact hr
    · exact h.1 i (by omega)
  · rcases h.2 with ⟨h1, _⟩ | ⟨_, ⟨a, a1, a2, a3⟩, ⟨b, b1, b2, b3⟩, h4⟩
    · cases h1
    · refine Or.inr ⟨rfl, ?_, ?_, fun i hi hmi => ?_⟩
      · split
        · exact ⟨j, by omega, hm, rfl⟩
        · exact ⟨a, by omega, a2, a3⟩
      · split
        · exact ⟨j, by omega, hm, rfl⟩
        · exact ⟨b, by omega, b2, b3⟩
      · by_cases e1 : i = j
        · rw [e1]; split <;> split <;> omega
        · have := h4 i (by omega) hmi
          split <;> split <;> omega
theorem Lm.gap {e : Nat → Int} {μ : Nat → Bool} {n : Nat} {L M : Int} {F : Bool} (h : Lm e μ n L M F) : gapF e μ n = M - L := by
  rcases h.2 with ⟨_, rfl, rfl, h4⟩ | ⟨_, ⟨a, a1, a2, a3⟩, ⟨b, b1, b2, b3⟩, h4⟩
  · cases hp : fst μ (lo e) n with
    | none => rw [gap_none hp]; rfl
    | some c => have := fst_lt hp; rw [h4 c this.1] at this; cases this.2
  · cases hp : fst μ (lo e) n with
    | none => have := fst_none hp a a1; rw [a2] at this; cases this
    | some c =>
      obtain ⟨d, hq⟩ := hi_of_lo hp
      rw [gap_some hp hq]
      have hc := fst_lt hp
      have hd := fst_lt hq
      have := lo_le hp a1 a2
      have := hi_ge hq b1 b2
      have := h4 c hc.1 hc.2
      have := h4 d hd.1 hd.2
      omega
set_option maxRecDepth 20000 in
set_option maxHeartbeats 8000000 in
theorem picks_law (A0 : Option Addr) (n0 : Nat) (x0 : Nat → Int) (c0 : Nat) (l0 : n0 ≤ c0) (m0 : c0 ≤ maxLen) (f0 : ∀ j, (Lit.int .i64 (x0 j)).wf = true) (A1 : Option Addr) (n1 : Nat) (x1 : Nat → Int) (c1 : Nat) (l1 : n1 ≤ c1) (m1 : c1 ≤ maxLen) (f1 : ∀ j, (Lit.int .i64 (x1 j)).wf = true)
    (A2 : Option Addr) (n2 : Nat) (x2 : Nat → Bool) (c2 : Nat) (l2 : n2 ≤ c2) (m2 : c2 ≤ maxLen) (w : World) (s0 : SF w w.heap.size A0 n0 (fun j => .int .i64 (x0 j))) (s1 : SF w w.heap.size A1 n1 (fun j => .int .i64 (x1 j))) (s2 : SF w w.heap.size A2 n2 (bF x2)) :
    Calls Try.prog 3 #[.slice A0 n0 c0, .slice A1 n1 c1, .slice A2 n2 c2] w (Ans w (.bool true)) := by
  have ca := Lib.hid awake_any
  have H0 : Hid (SF w w.heap.size A0 n0 (iF x0)) := Lib.hid s0
  have H1 : Hid (SF w w.heap.size A1 n1 (iF x1)) := Lib.hid s1
  have H2 := Lib.hid s2
  clear f0 f1 l0 l1 l2 m0 m1 m2 s0 s1 s2
  by_cases g0 : 300 < n0
  · have g0I : (300 : Int) < (n0 : Int) := by omega
    go_enter Try.func3, Try.ntmps3
    go_wp2_with (go_at_call 8; (with_reducible refine (ca.out _).mono ?_); rintro e w1 ⟨rfl, hb⟩)
    go_ret
    exact ⟨rfl, hb⟩
  have g0I : ¬ (300 : Int) < (n0 : Int) := by omega
  by_cases g1 : 300 < n1
  · have g1I : (300 : Int) < (n1 : Int) := by omega
    go_enter Try.func3, Try.ntmps3
    go_wp2_with (go_at_call 8; (with_reducible refine (ca.out _).mono ?_); rintro e w1 ⟨rfl, hb⟩)
    go_ret
    exact ⟨rfl, hb⟩
  have g1I : ¬ (300 : Int) < (n1 : Int) := by omega
  by_cases g2 : 300 < n2
  · have g2I : (300 : Int) < (n2 : Int) := by omega
    go_enter Try.func3, Try.ntmps3
    go_wp2_with (go_at_call 8; (with_reducible refine (ca.out _).mono ?_); rintro e w1 ⟨rfl, hb⟩)
    go_ret
    exact ⟨rfl, hb⟩
  have g2I : ¬ (300 : Int) < (n2 : Int) := by omega
  obtain ⟨N, hN⟩ : ∃ N, mn n1 n2 = N := ⟨_, rfl⟩
  have hlt : ∀ j, j < N ↔ j < n2 ∧ j < n1 := fun j => by rw [← hN]; unfold mn; split <;> omega
  have kp : Hid (∀ w1, Below w.heap.size w w1 → ∃ P : Int, ∃ o : Bool, True) := Lib.hid (fun _ _ => ⟨0, true, trivial⟩)
  have k1 := fun w1 (hb : Below w.heap.size w w1) => pick_any A1 n1 c1 x1 A2 n2 c2 x2 w1 (H1.out.far hb) (H2.out.far hb) (by omega)
  have k2 := fun w1 (hb : Below w.heap.size w w1) => refpick_any A1 n1 c1 x1 A2 n2 c2 x2 w1 (H1.out.far hb) (H2.out.far hb) (by omega)
  have k3 := fun w1 (hb : Below w.heap.size w w1) => victim_any A0 n0 c0 x0 A1 n1 c1 x1 A2 n2 c2 x2 w1 (H0.out.far hb) (H1.out.far hb) (H2.out.far hb) (by omega)
  have k4 := fun w1 (hb : Below w.heap.size w w1) => refvictim_any A0 n0 c0 x0 A1 n1 c1 x1 A2 n2 c2 x2 w1 (H0.out.far hb) (H1.out.far hb) (H2.out.far hb) (by omega)
  have k5 := fun w1 (hb : Below w.heap.size w w1) => gap_any A1 n1 c1 x1 A2 n2 c2 x2 w1 (H1.out.far hb) (H2.out.far hb) (by omega)
  rw [hN] at k1 k2 k5
  generalize fst x2 (lo x1) N = R1 at k1 k2
  generalize fst x2 (lx x0 x1) (mn (mn n0 n1) n2) = R2 at k3 k4
  generalize R1.getD 0 = P1 at k1 k2
  generalize R1.isSome = O1 at k1 k2
  generalize R2.getD 0 = P2 at k3 k4
  generalize R2.isSome = O2 at k3 k4
  replace k1 := Lib.hid k1
  replace k2 := Lib.hid k2
  replace k3 := Lib.hid k3
  replace k4 := Lib.hid k4
  replace k5 := Lib.hid k5
  replace hlt := Lib.hid hlt
  have b1 : (P1 == P1) = true := by simp
  have b2 : (P2 == P2) = true := by simp
  have b1I : ((P1 : Int) == (P1 : Int)) = true := by simp
  have b2I : ((P2 : Int) == (P2 : Int)) = true := by simp
  have b3 : (O1 == O1) = true := by simp
  have b4 : (O2 == O2) = true := by simp
  clear hN kp g0 g1 g2
  go_enter Try.func3, Try.ntmps3
  go_wp2_with (first
    | (go_at_call 8; (with_reducible refine (ca.out _).mono ?_); rintro e w1 ⟨rfl, hb1⟩; have hb := Lib.hid hb1; clear hb1)
    | (go_at_call 9; (with_reducible refine (k1.out _ hb.out).mono ?_); rintro e w1 ⟨rfl, hb1⟩; have hb := Lib.hid (below_trans hb.out hb1); clear hb1)
    | (go_at_call 10; (with_reducible refine (k2.out _ hb.out).mono ?_); rintro e w1 ⟨rfl, hb1⟩; have hb := Lib.hid (below_trans hb.out hb1); clear hb1)
    | (go_at_call 11; (with_reducible refine (k3.out _ hb.out).mono ?_); rintro e w1 ⟨rfl, hb1⟩; have hb := Lib.hid (below_trans hb.out hb1); clear hb1)
    | (go_at_call 12; (with_reducible refine (k4.out _ hb.out).mono ?_); rintro e w1 ⟨rfl, hb1⟩; have hb := Lib.hid (below_trans hb.out hb1); clear hb1))
  clear k1 k2 k3 k4 ca H0
  go_loopw [15, 16, 17, 18] (fun p q r s wr => ∃ (j : Nat) (L M : Int) (F : Bool), j ≤ N ∧ p = .int .i64 L ∧ q = .int .i64 M ∧ r = .bool F ∧ s = .int .i64 (j : Int) ∧ Hid (Lm x1 x2 j L M F) ∧ Hid (Below w.heap.size w wr)) (fun _ _ _ s _ => N - (intOf s).toNat)
  case atStart => exact ⟨0, 0, 0, true, Nat.zero_le _, rfl, rfl, rfl, rfl, Lib.hid (Lm.zero _ _), hb⟩
  case round =>
    clear hb
    obtain ⟨j, L, M, F, hj, rfl, rfl, rfl, rfl, HL, hB⟩ := hrel
    by_cases hjN : j < N
    · obtain ⟨j2, j1⟩ := (hlt.out j).1 hjN
      have d1 : decide (j < n1) = true := decide_eq_true j1
      have d2 : decide (j < n2) = true := decide_eq_true j2
      have e1 : (j : Int) < (n1 : Int) := by omega
      have e2 : (j : Int) < (n2 : Int) := by omega
      obtain ⟨a, rfl, _, y0⟩ := (H1.out.below hB.out).at_ j1
      obtain ⟨b, rfl, _, y1⟩ := (H2.out.below hB.out).at_ j2
      simp only [iF, bF] at y0 y1
      have hno := fun hr => Lm.no HL.out (μ := x2) (j := j) hr
      have hmr := fun (hF : F = false) hr => Lm.more (by rw [← hF]; exact HL.out) (μ := x2) (j := j) hr
      have hfi := fun (hF : F = true) hr => Lm.first (by rw [← hF]; exact HL.out) (μ := x2) (j := j) hr
      obtain ⟨X, hX⟩ : ∃ X, x1 j = X := ⟨_, rfl⟩
      rw [hX] at y0 hno hmr hfi
      clear HL
      by_cases r1 : X < -1099511627776
      · have r1d : decide (X < -1099511627776) = true := decide_eq_true r1
        clear hno hmr hfi
        go_wp2_with fail
        go_ret
        exact ⟨rfl, hB.out⟩
      have r1d : decide (X < -1099511627776) = false := decide_eq_false r1
      by_cases r2 : 1099511627776 < X
      · have r2d : decide (1099511627776 < X) = true := decide_eq_true r2
        clear hno hmr hfi
        go_wp2_with fail
        go_ret
        exact ⟨rfl, hB.out⟩
      have r2d : decide (1099511627776 < X) = false := decide_eq_false r2
      have hr : -1099511627776 ≤ X ∧ X ≤ 1099511627776 := by omega
      cases hmu : x2 j
      · have hst := Lib.hid (hno hr hmu)
        rw [hmu] at y1
        clear hno hmr hfi hr
        go_wp2_with fail
        go_roundw
        case rel => exact ⟨j + 1, L, M, F, by omega, rfl, rfl, rfl, by go_num, hst, hB⟩
        case measure => simp [intOf]; omega
      · rw [hmu] at y1
        cases F
        · have hst := hmr rfl hr hmu
          obtain ⟨L1, hL1⟩ : ∃ L1, (if X < L then X else L) = L1 := ⟨_, rfl⟩
          obtain ⟨M1, hM1⟩ : ∃ M1, (if M < X then X else M) = M1 := ⟨_, rfl⟩
          rw [hL1, hM1] at hst
          have hL2 : (if L ≤ X then L else X) = L1 := by rw [← hL1]; split <;> split <;> omega
          have hM2 : (if X ≤ M then M else X) = M1 := by rw [← hM1]; split <;> split <;> omega
          replace hst := Lib.hid hst
          clear hno hmr hfi hr
          go_wp2_with fail
          go_quiet (fail)
          go_wp2_with fail
          go_roundw
          case rel => exact ⟨j + 1, L1, M1, false, by omega, rfl, rfl, rfl, by go_num, hst, Lib.hid (below_trans hB.out (below_drewN _ _))⟩
          case measure => simp [intOf]; omega
        · have hst := Lib.hid (hfi rfl hr hmu)
          have hL1 : (if X < X then X else X) = X := by simp
          have hL2 : (if X ≤ X then X else X) = X := by simp
          have hl1 : decide (X < X) = false := by simp
          clear hno hmr hfi hr
          go_wp2_with fail
          go_quiet (fail)
          go_wp2_with fail
          go_quiet (fail)
          go_wp2_with fail
          go_roundw
          case rel => exact ⟨j + 1, X, X, false, by omega, rfl, rfl, rfl, by go_num, hst, Lib.hid (below_trans hB.out (below_drewN _ _))⟩
          case measure => simp [intOf]; omega
    · obtain rfl : j = N := by omega
      have hno := hlt.out j
      have hg := Lm.gap HL.out
      rw [hg] at k5
      have hca : (¬ j < n2) ∨ (j < n2 ∧ ¬ j < n1) := by omega
      obtain ⟨G, hG⟩ : ∃ G, wrap64 (M - L) = G := ⟨_, rfl⟩
      rw [hG] at k5
      have bG : (G == G) = true := by simp
      clear hno hg HL
      rcases hca with g1 | ⟨g1, g2⟩
      · go_wp2_with (go_at_call 13; (with_reducible refine (k5.out _ hB.out).mono ?_); rintro e w1 ⟨rfl, hb1⟩; have hb := Lib.hid (below_trans hB.out hb1); clear hb1)
        go_ret
        exact ⟨rfl, hb.out⟩
      · go_wp2_with (go_at_call 13; (with_reducible refine (k5.out _ hB.out).mono ?_); rintro e w1 ⟨rfl, hb1⟩; have hb := Lib.hid (below_trans hB.out hb1); clear hb1)
        go_ret
        exact ⟨rfl, hb.out⟩
end Go.Proofs.Ytoldfgnnmfaihaa.We
