/- The law over a geometry and its spares, walked. -/
import Derived.Test.YtadfamjacncmfaaGd
namespace Go.Proofs.Ytadfamjacncmfaa
open Go.RowKit
attribute [local go_sem ↓] Cl.quiet_after

theorem lpn_down {B P W K s : Int} (h0 : 0 ≤ s) (hM : mayG B P W K = true) : lpnG B P W K (s + 1) ≤ lpnG B P W K s := by
  obtain ⟨g1, g2, g3, g4, _⟩ := may_of hM
  unfold lpnG
  by_cases h1 : s + 1 ≤ B - 4
  · rw [if_pos ⟨hM, by omega, h1⟩, if_pos ⟨hM, h0, by omega⟩]
    have : (B - (s + 1) - 3) * P ≤ (B - s - 3) * P := Int.mul_le_mul_of_nonneg_right (by omega) (by omega)
    omega
  · rw [if_neg (fun e => h1 e.2.2)]
    split
    · rename_i h
      have := bp_le (by omega : 0 ≤ B - s - 3) (by omega) (by omega : 0 ≤ P) g4
      omega
    · exact Int.le_refl _
/-- how many pages are left, and how many host pages there are then -/
theorem lpn_room {B P W K s : Int} (h0 : 0 ≤ s) (h255 : s ≤ 255) (hM : mayG B P W K = true) : ∃ L, wrap64 ((B - s - 3) * P) = L ∧ -10000 ≤ L ∧ L ≤ 2048 ∧
    ((0 < lpnG B P W K s ∧ 2 * lpnG B P W K s ≤ L ∧ L < 2 * lpnG B P W K s + 2) ∨ (lpnG B P W K s = 0 ∧ L < 2)) := by
  obtain ⟨g1, g2, g3, g4, _⟩ := may_of hM
  unfold lpnG
  by_cases h1 : s ≤ B - 4
  · rw [if_pos ⟨hM, h0, h1⟩]
    have h2 := bp_le (by omega : 0 ≤ B - s - 3) (by omega) (by omega : 0 ≤ P) g4
    have h3 : 1 * P ≤ (B - s - 3) * P := Int.mul_le_mul_of_nonneg_right (by omega) (by omega)
    refine ⟨(B - s - 3) * P, IntWalk.wrap64_in _ (by omega), by omega, by omega, Or.inl ?_⟩
    omega
  · rw [if_neg (fun e => h1 e.2.2)]
    have h2 : (B - s - 3) * P ≤ 0 * P := Int.mul_le_mul_of_nonneg_right (by omega) (by omega)
    have h3 : -300 * P ≤ (B - s - 3) * P := Int.mul_le_mul_of_nonneg_right (by omega) (by omega)
    refine ⟨(B - s - 3) * P, IntWalk.wrap64_in _ (by omega), by omega, by omega, Or.inr ⟨rfl, by omega⟩⟩
theorem siz_fit {B P W K : Int} (hM : mayG B P W K = true) : 8 * sizG B P W K ≤ 10 * (W * K - 8) ∧ 0 ≤ sizG B P W K ∧ W * K ≤ 256 := by
  obtain ⟨_, _, _, _, g5, g6, g7, g8, g9⟩ := may_of hM
  have := prod_le g5 g6 g7 g8
  unfold sizG bytG
  rw [if_pos hM]
  omega
set_option maxRecDepth 20000 in
set_option maxHeartbeats 4000000 in
theorem room_any (B P W K s : Int) (w : World) (h0 : 0 ≤ s) (h255 : s ≤ 255) : Calls Try.prog 6 #[.agg #[.int .i64 B, .int .i64 P, .int .i64 W, .int .i64 K], .int .u8 s] w (Ans w (.bool true)) := by
  have hb := Lib.hid (below_alloc w (.cells #[.int .i64 B, .int .i64 P, .int .i64 W, .int .i64 K] 23))
  have hx := Lib.hid (Box.new w B P W K)
  have ca := Lib.hid awake_any
  have cr := refmay_any B P W K
  have d1 := fun w => lpns_any B P W K s w (by omega)
  have d2 := fun w => lpns_any B P W K (s + 1) w (by omega)
  have d3 := size_any B P W K
  cases hM : mayG B P W K
  · have e1 : lpnG B P W K s = 0 := by unfold lpnG; rw [hM, if_neg (by simp)]
    have e2 : lpnG B P W K (s + 1) = 0 := by unfold lpnG; rw [hM, if_neg (by simp)]
    rw [hM] at cr
    rw [e1] at d1
    rw [e2] at d2
    replace cr := Lib.hid cr
    replace d1 := Lib.hid d1
    replace d2 := Lib.hid d2
    clear e1 e2 hM d3
    go_enter Try.func6, Try.ntmps6
    go_wp2_with (go_at_call 8; (with_reducible refine (ca.out _).mono ?_); rintro e w1 ⟨rfl, hb1⟩; have hb := Lib.hid (hb.out.trans (hb1.mono hb.out.size)); have hx := Lib.hid (hx.out.keep hb1); obtain ⟨_, c0, c1, c2, c3⟩ := hx.out; clear hb1)
    have k0 := fun x : Cl.After w1.heap.size w1 => (hx.out.aft x).c0
    have k1 := fun x : Cl.After w1.heap.size w1 => (hx.out.aft x).c1
    have k2 := fun x : Cl.After w1.heap.size w1 => (hx.out.aft x).c2
    have k3 := fun x : Cl.After w1.heap.size w1 => (hx.out.aft x).c3
    refine Cl.region_after_at w1.heap.size (by kernel_rfl) lex6_3 (by kernel_rfl) ?_
    try simp only [List.append]
    repeat (go_big_quiet_step (first
      | (go_at_call 18; with_reducible exact ans_of (Nat.le_refl _) (d1.out _))
      | (go_at_call 18; with_reducible exact ans_of (Nat.le_refl _) (d2.out _))))
    refine wpQuiet_nil ?_
    rintro _ ⟨x, rfl⟩
    clear k0 k1 k2 k3
    have hb := Lib.hid (hb.out.trans (x.below.mono hb.out.size))
    have hx := Lib.hid (hx.out.aft x)
    generalize x.w = w1 at hb hx ⊢
    obtain ⟨_, c0, c1, c2, c3⟩ := hx.out
    go_wp2_with (go_at_call 9; (with_reducible refine (cr.out _).mono ?_); rintro e w1 ⟨rfl, hb1⟩; have hb := Lib.hid (hb.out.trans (hb1.mono hb.out.size)); have hx := Lib.hid (hx.out.keep hb1); obtain ⟨_, c0, c1, c2, c3⟩ := hx.out; clear hb1)
    go_ret
    exact ⟨rfl, hb.out⟩
  · have hdn := lpn_down h0 hM
    obtain ⟨L, hL, hL1, hL2, hL3⟩ := lpn_room h0 h255 hM
    obtain ⟨hz1, hz2, hz3⟩ := siz_fit hM
    obtain ⟨_, _, _, _, g5, g6, g7, g8, g9⟩ := may_of hM
    have hw := wk_in g5 g6 g7 g8
    obtain ⟨X, hX⟩ : ∃ X, W * K = X := ⟨_, rfl⟩
    obtain ⟨z, hz⟩ : ∃ z, sizG B P W K = z := ⟨_, rfl⟩
    obtain ⟨n, hn⟩ : ∃ n, lpnG B P W K s = n := ⟨_, rfl⟩
    obtain ⟨m, hm⟩ : ∃ m, lpnG B P W K (s + 1) = m := ⟨_, rfl⟩
    rw [hX] at hw hz1 hz3 g9
    rw [hX.symm] at hw
    have hw : wrap64 (W * K) = X := hw.trans hX
    rw [hM] at cr
    rw [hn] at d1 hdn hL3
    rw [hm] at d2 hdn
    rw [hz] at d3 hz1 hz2
    have hfin : Hid (decide (8 * z ≤ 10 * (W * K - 8)) = true) := by unfold Hid; rw [hX, decide_eq_true_eq]; exact hz1
    have hm0 : 0 ≤ m := by
      rw [← hm]
      unfold lpnG
      split
      · rename_i h
        obtain ⟨_, _, g3, g4, _⟩ := may_of hM
        have := bp_le (by omega : 0 ≤ B - (s + 1) - 3) (by omega) (by omega : 0 ≤ P) g4
        omega
      · exact Int.le_refl _
    replace cr := Lib.hid cr
    replace d1 := Lib.hid d1
    replace d2 := Lib.hid d2
    replace d3 := Lib.hid d3
    have hB : 4 ≤ B ∧ B ≤ 64 := ⟨(may_of hM).1, (may_of hM).2.1⟩
    clear hM hX hz hn hm g5 g6 g7 g8
    rcases hL3 with ⟨t1, t2, t3⟩ | ⟨rfl, t2⟩
    · have hne : (n == 0) = false := by rw [beq_eq_false_iff_ne]; omega
      go_enter Try.func6, Try.ntmps6
      go_wp2_with (go_at_call 8; (with_reducible refine (ca.out _).mono ?_); rintro e w1 ⟨rfl, hb1⟩; have hb := Lib.hid (hb.out.trans (hb1.mono hb.out.size)); have hx := Lib.hid (hx.out.keep hb1); obtain ⟨_, c0, c1, c2, c3⟩ := hx.out; clear hb1)
      have k0 := fun x : Cl.After w1.heap.size w1 => (hx.out.aft x).c0
      have k1 := fun x : Cl.After w1.heap.size w1 => (hx.out.aft x).c1
      have k2 := fun x : Cl.After w1.heap.size w1 => (hx.out.aft x).c2
      have k3 := fun x : Cl.After w1.heap.size w1 => (hx.out.aft x).c3
      refine Cl.region_after_at w1.heap.size (by kernel_rfl) lex6_3 (by kernel_rfl) ?_
      try simp only [List.append]
      repeat (go_big_quiet_step (first
        | (go_at_call 18; with_reducible exact ans_of (Nat.le_refl _) (d1.out _))
        | (go_at_call 18; with_reducible exact ans_of (Nat.le_refl _) (d2.out _))))
      refine wpQuiet_nil ?_
      rintro _ ⟨x, rfl⟩
      clear k0 k1 k2 k3
      have hb := Lib.hid (hb.out.trans (x.below.mono hb.out.size))
      have hx := Lib.hid (hx.out.aft x)
      generalize x.w = w1 at hb hx ⊢
      obtain ⟨_, c0, c1, c2, c3⟩ := hx.out
      go_wp2_with (go_at_call 9; (with_reducible refine (cr.out _).mono ?_); rintro e w1 ⟨rfl, hb1⟩; have hb := Lib.hid (hb.out.trans (hb1.mono hb.out.size)); have hx := Lib.hid (hx.out.keep hb1); obtain ⟨_, c0, c1, c2, c3⟩ := hx.out; clear hb1)
      have k0 := fun x : Cl.After w1.heap.size w1 => (hx.out.aft x).c0
      have k1 := fun x : Cl.After w1.heap.size w1 => (hx.out.aft x).c1
      have k2 := fun x : Cl.After w1.heap.size w1 => (hx.out.aft x).c2
      have k3 := fun x : Cl.After w1.heap.size w1 => (hx.out.aft x).c3
      refine Cl.region_after_at w1.heap.size (by kernel_rfl) lex6_7 (by kernel_rfl) ?_
      try simp only [List.append]
      repeat (go_big_quiet_step (first
        | (go_at_call 15; with_reducible exact ans_of (Nat.le_refl _) (d3.out _))))
      refine wpQuiet_nil ?_
      rintro _ ⟨x, rfl⟩
      clear k0 k1 k2 k3
      have hb := Lib.hid (hb.out.trans (x.below.mono hb.out.size))
      have hx := Lib.hid (hx.out.aft x)
      generalize x.w = w1 at hb hx ⊢
      obtain ⟨_, c0, c1, c2, c3⟩ := hx.out
      go_wp2
      go_ret
      exact ⟨congrArg (fun b => Ending.returned (.bool b)) hfin.out, hb.out⟩
    · go_enter Try.func6, Try.ntmps6
      go_wp2_with (go_at_call 8; (with_reducible refine (ca.out _).mono ?_); rintro e w1 ⟨rfl, hb1⟩; have hb := Lib.hid (hb.out.trans (hb1.mono hb.out.size)); have hx := Lib.hid (hx.out.keep hb1); obtain ⟨_, c0, c1, c2, c3⟩ := hx.out; clear hb1)
      have k0 := fun x : Cl.After w1.heap.size w1 => (hx.out.aft x).c0
      have k1 := fun x : Cl.After w1.heap.size w1 => (hx.out.aft x).c1
      have k2 := fun x : Cl.After w1.heap.size w1 => (hx.out.aft x).c2
      have k3 := fun x : Cl.After w1.heap.size w1 => (hx.out.aft x).c3
      refine Cl.region_after_at w1.heap.size (by kernel_rfl) lex6_3 (by kernel_rfl) ?_
      try simp only [List.append]
      repeat (go_big_quiet_step (first
        | (go_at_call 18; with_reducible exact ans_of (Nat.le_refl _) (d1.out _))
        | (go_at_call 18; with_reducible exact ans_of (Nat.le_refl _) (d2.out _))))
      refine wpQuiet_nil ?_
      rintro _ ⟨x, rfl⟩
      clear k0 k1 k2 k3
      have hb := Lib.hid (hb.out.trans (x.below.mono hb.out.size))
      have hx := Lib.hid (hx.out.aft x)
      generalize x.w = w1 at hb hx ⊢
      obtain ⟨_, c0, c1, c2, c3⟩ := hx.out
      go_wp2_with (go_at_call 9; (with_reducible refine (cr.out _).mono ?_); rintro e w1 ⟨rfl, hb1⟩; have hb := Lib.hid (hb.out.trans (hb1.mono hb.out.size)); have hx := Lib.hid (hx.out.keep hb1); obtain ⟨_, c0, c1, c2, c3⟩ := hx.out; clear hb1)
      have k0 := fun x : Cl.After w1.heap.size w1 => (hx.out.aft x).c0
      have k1 := fun x : Cl.After w1.heap.size w1 => (hx.out.aft x).c1
      have k2 := fun x : Cl.After w1.heap.size w1 => (hx.out.aft x).c2
      have k3 := fun x : Cl.After w1.heap.size w1 => (hx.out.aft x).c3
      refine Cl.region_after_at w1.heap.size (by kernel_rfl) lex6_7 (by kernel_rfl) ?_
      try simp only [List.append]
      repeat (go_big_quiet_step (first
        | (go_at_call 15; with_reducible exact ans_of (Nat.le_refl _) (d3.out _))))
      refine wpQuiet_nil ?_
      rintro _ ⟨x, rfl⟩
      clear k0 k1 k2 k3
      have hb := Lib.hid (hb.out.trans (x.below.mono hb.out.size))
      have hx := Lib.hid (hx.out.aft x)
      generalize x.w = w1 at hb hx ⊢
      obtain ⟨_, c0, c1, c2, c3⟩ := hx.out
      go_wp2
      go_ret
      exact ⟨congrArg (fun b => Ending.returned (.bool b)) hfin.out, hb.out⟩
end Go.Proofs.Ytadfamjacncmfaa
