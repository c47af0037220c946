/- The law over any geometry and any numbers, walked. -/
import Derived.Test.YtadfamjacncmfaaGd
namespace Go.Proofs.Ytadfamjacncmfaa
open Go.RowKit
attribute [local go_sem ↓] Cl.quiet_after

theorem isN_may {B P W K n s : Int} (h : mayG B P W K = false) : isN B P W K n s = false := by unfold isN; rw [h]; rfl
theorem isN_not {B P W K n s : Int} (h : ¬ (0 ≤ n ∧ n < B ∧ 0 ≤ s ∧ s < P)) : isN B P W K n s = false := by
  unfold isN
  rw [Bool.eq_false_iff]
  intro e
  simp only [Bool.and_eq_true, decide_eq_true_eq] at e
  omega
theorem isN_yes {B P W K n s : Int} (hM : mayG B P W K = true) (h : 0 ≤ n ∧ n < B ∧ 0 ≤ s ∧ s < P) : isN B P W K n s = true := by
  unfold isN
  rw [hM]
  simp only [Bool.true_and, Bool.and_eq_true, decide_eq_true_eq]
  omega
theorem num_no {B P W K n s : Int} (h : isN B P W K n s = false) : numG B P W K n s = 0 := by unfold numG; rw [h]; rfl
theorem isP_not {B P W K n : Int} (h : ¬ (0 ≤ n ∧ n < cntG B P W K)) : isP B P W K n = false := by
  unfold isP
  rw [Bool.eq_false_iff]
  intro e
  rw [Bool.and_eq_true, decide_eq_true_eq, decide_eq_true_eq] at e
  exact h e
set_option maxRecDepth 20000 in
set_option maxHeartbeats 8000000 in
theorem reckons_any (B P W K n s : Int) (w : World) (hn : -9223372036854775808 ≤ n ∧ n ≤ 9223372036854775807) (hs : -9223372036854775808 ≤ s ∧ s ≤ 9223372036854775807) :
    Calls Try.prog 3 #[.agg #[.int .i64 B, .int .i64 P, .int .i64 W, .int .i64 K], .int .i64 n, .int .i64 s] w (Ans w (.bool true)) := by
  have hb := Lib.hid (below_alloc w (.cells #[.int .i64 B, .int .i64 P, .int .i64 W, .int .i64 K] 23))
  have hx := Lib.hid (Box.new w B P W K)
  have ca := Lib.hid awake_any
  have cm := may_any B P W K
  have cr := refmay_any B P W K
  have d1 := cells_any B P W K
  have d2 := refcells_any B P W K
  have d3 := size_any B P W K
  have d4 := refsize_any B P W K
  have d5 := count_any B P W K
  have d6 := fun w => lpns_any B P W K s w hs
  have d7 := fun w => reflpns_any B P W K s w hs
  obtain ⟨e, he⟩ : ∃ e, celG B P W K = e := ⟨_, rfl⟩
  obtain ⟨z, hz⟩ : ∃ z, sizG B P W K = z := ⟨_, rfl⟩
  obtain ⟨l, hl⟩ : ∃ l, lpnG B P W K s = l := ⟨_, rfl⟩
  obtain ⟨c, hc⟩ : ∃ c, cntG B P W K = c := ⟨_, rfl⟩
  rw [he] at d1 d2; rw [hz] at d3 d4; rw [hl] at d6 d7; rw [hc] at d5
  clear he hz hl
  replace d1 := Lib.hid d1; replace d2 := Lib.hid d2; replace d3 := Lib.hid d3; replace d4 := Lib.hid d4; replace d5 := Lib.hid d5; replace d6 := Lib.hid d6; replace d7 := Lib.hid d7
  cases hM : mayG B P W K
  · have hc0 : c = 0 := by rw [← hc]; unfold cntG; rw [hM]; rfl
    have hi := isN_may (n := n) (s := s) hM
    have cn := Lib.hid (number_lit (B := B) (P := P) (W := W) (K := K) hi (num_no hi))
    have cp := Lib.hid (fun w => place_no B P W K n w (isP_not (by rw [hc, hc0]; omega)))
    rw [hM] at cm cr
    replace cm := Lib.hid cm
    replace cr := Lib.hid cr
    clear hM hi hc
    subst hc0
    rcases Int.lt_or_le n 0 with h0 | h0
    · go_enter Try.func3, Try.ntmps3
      go_wp2_with (first
        | (go_at_call 8; (with_reducible refine (ca.out _).mono ?_); rintro e w1 ⟨rfl, hb1⟩; have hb := Lib.hid (hb.out.trans (hb1.mono hb.out.size)); have hx := Lib.hid (hx.out.keep hb1); obtain ⟨_, c0, c1, c2, c3⟩ := hx.out; clear hb1)
        | (go_at_call 9; (with_reducible refine (cr.out _).mono ?_); rintro e w1 ⟨rfl, hb1⟩; have hb := Lib.hid (hb.out.trans (hb1.mono hb.out.size)); have hx := Lib.hid (hx.out.keep hb1); obtain ⟨_, c0, c1, c2, c3⟩ := hx.out; clear hb1)
        | (go_at_call 10; (with_reducible refine (cp.out _).mono ?_); rintro e w1 ⟨rfl, hb1⟩; have hb := Lib.hid (hb.out.trans (hb1.mono hb.out.size)); have hx := Lib.hid (hx.out.keep hb1); obtain ⟨_, c0, c1, c2, c3⟩ := hx.out; clear hb1)
        | (go_at_call 11; (with_reducible refine (cn.out _).mono ?_); rintro e w1 ⟨rfl, hb1⟩; have hb := Lib.hid (hb.out.trans (hb1.mono hb.out.size)); have hx := Lib.hid (hx.out.keep hb1); obtain ⟨_, c0, c1, c2, c3⟩ := hx.out; clear hb1))
      have k0 := fun x : Cl.After w1.heap.size w1 => (hx.out.aft x).c0
      have k1 := fun x : Cl.After w1.heap.size w1 => (hx.out.aft x).c1
      have k2 := fun x : Cl.After w1.heap.size w1 => (hx.out.aft x).c2
      have k3 := fun x : Cl.After w1.heap.size w1 => (hx.out.aft x).c3
      refine Cl.region_after_at w1.heap.size (by kernel_rfl) lex3_15 (by kernel_rfl) ?_
      try simp only [List.append]
      repeat (go_big_quiet_step (first
        | (go_at_call 12; with_reducible exact ans_of (Nat.le_refl _) (cm.out _))
        | (go_at_call 13; with_reducible exact ans_of (Nat.le_refl _) (d1.out _))
        | (go_at_call 14; with_reducible exact ans_of (Nat.le_refl _) (d2.out _))
        | (go_at_call 15; with_reducible exact ans_of (Nat.le_refl _) (d3.out _))
        | (go_at_call 16; with_reducible exact ans_of (Nat.le_refl _) (d4.out _))
        | (go_at_call 17; with_reducible exact ans_of (Nat.le_refl _) (d5.out _))
        | (go_at_call 18; with_reducible exact ans_of (Nat.le_refl _) (d6.out _))
        | (go_at_call 19; with_reducible exact ans_of (Nat.le_refl _) (d7.out _))))
      refine wpQuiet_nil ?_
      rintro _ ⟨x, rfl⟩
      go_wp2
      go_ret
      exact ⟨rfl, hb.out.trans (x.below.mono hb.out.size)⟩
    · go_enter Try.func3, Try.ntmps3
      go_wp2_with (first
        | (go_at_call 8; (with_reducible refine (ca.out _).mono ?_); rintro e w1 ⟨rfl, hb1⟩; have hb := Lib.hid (hb.out.trans (hb1.mono hb.out.size)); have hx := Lib.hid (hx.out.keep hb1); obtain ⟨_, c0, c1, c2, c3⟩ := hx.out; clear hb1)
        | (go_at_call 9; (with_reducible refine (cr.out _).mono ?_); rintro e w1 ⟨rfl, hb1⟩; have hb := Lib.hid (hb.out.trans (hb1.mono hb.out.size)); have hx := Lib.hid (hx.out.keep hb1); obtain ⟨_, c0, c1, c2, c3⟩ := hx.out; clear hb1)
        | (go_at_call 10; (with_reducible refine (cp.out _).mono ?_); rintro e w1 ⟨rfl, hb1⟩; have hb := Lib.hid (hb.out.trans (hb1.mono hb.out.size)); have hx := Lib.hid (hx.out.keep hb1); obtain ⟨_, c0, c1, c2, c3⟩ := hx.out; clear hb1)
        | (go_at_call 11; (with_reducible refine (cn.out _).mono ?_); rintro e w1 ⟨rfl, hb1⟩; have hb := Lib.hid (hb.out.trans (hb1.mono hb.out.size)); have hx := Lib.hid (hx.out.keep hb1); obtain ⟨_, c0, c1, c2, c3⟩ := hx.out; clear hb1))
      have k0 := fun x : Cl.After w1.heap.size w1 => (hx.out.aft x).c0
      have k1 := fun x : Cl.After w1.heap.size w1 => (hx.out.aft x).c1
      have k2 := fun x : Cl.After w1.heap.size w1 => (hx.out.aft x).c2
      have k3 := fun x : Cl.After w1.heap.size w1 => (hx.out.aft x).c3
      refine Cl.region_after_at w1.heap.size (by kernel_rfl) lex3_15 (by kernel_rfl) ?_
      try simp only [List.append]
      repeat (go_big_quiet_step (first
        | (go_at_call 12; with_reducible exact ans_of (Nat.le_refl _) (cm.out _))
        | (go_at_call 13; with_reducible exact ans_of (Nat.le_refl _) (d1.out _))
        | (go_at_call 14; with_reducible exact ans_of (Nat.le_refl _) (d2.out _))
        | (go_at_call 15; with_reducible exact ans_of (Nat.le_refl _) (d3.out _))
        | (go_at_call 16; with_reducible exact ans_of (Nat.le_refl _) (d4.out _))
        | (go_at_call 17; with_reducible exact ans_of (Nat.le_refl _) (d5.out _))
        | (go_at_call 18; with_reducible exact ans_of (Nat.le_refl _) (d6.out _))
        | (go_at_call 19; with_reducible exact ans_of (Nat.le_refl _) (d7.out _))))
      refine wpQuiet_nil ?_
      rintro _ ⟨x, rfl⟩
      go_wp2
      go_ret
      exact ⟨rfl, hb.out.trans (x.below.mono hb.out.size)⟩
  · obtain ⟨g1, g2, g3, g4, _⟩ := may_of hM
    have hcc : B * P = c := by rw [← hc]; unfold cntG; rw [hM]; rfl
    have hcl : 0 ≤ c ∧ c ≤ 2048 := by rw [← hcc]; exact bp_le (by omega) g2 (by omega) g4
    have hcw : wrap64 (B * P) = c := by rw [hcc]; exact IntWalk.wrap64_in _ (by omega)
    rw [hM] at cm cr
    replace cm := Lib.hid cm
    replace cr := Lib.hid cr
    rcases Int.lt_or_le n 0 with h0 | h0
    · have hi : isN B P W K n s = false := isN_not (by omega)
      have cn := Lib.hid (number_lit (B := B) (P := P) (W := W) (K := K) hi (num_no hi))
      have cp := Lib.hid (fun w => place_no B P W K n w (isP_not (by omega)))
      clear hM hi hc hcc
      go_enter Try.func3, Try.ntmps3
      go_wp2_with (first
        | (go_at_call 8; (with_reducible refine (ca.out _).mono ?_); rintro e w1 ⟨rfl, hb1⟩; have hb := Lib.hid (hb.out.trans (hb1.mono hb.out.size)); have hx := Lib.hid (hx.out.keep hb1); obtain ⟨_, c0, c1, c2, c3⟩ := hx.out; clear hb1)
        | (go_at_call 9; (with_reducible refine (cr.out _).mono ?_); rintro e w1 ⟨rfl, hb1⟩; have hb := Lib.hid (hb.out.trans (hb1.mono hb.out.size)); have hx := Lib.hid (hx.out.keep hb1); obtain ⟨_, c0, c1, c2, c3⟩ := hx.out; clear hb1)
        | (go_at_call 10; (with_reducible refine (cp.out _).mono ?_); rintro e w1 ⟨rfl, hb1⟩; have hb := Lib.hid (hb.out.trans (hb1.mono hb.out.size)); have hx := Lib.hid (hx.out.keep hb1); obtain ⟨_, c0, c1, c2, c3⟩ := hx.out; clear hb1)
        | (go_at_call 11; (with_reducible refine (cn.out _).mono ?_); rintro e w1 ⟨rfl, hb1⟩; have hb := Lib.hid (hb.out.trans (hb1.mono hb.out.size)); have hx := Lib.hid (hx.out.keep hb1); obtain ⟨_, c0, c1, c2, c3⟩ := hx.out; clear hb1))
      have k0 := fun x : Cl.After w1.heap.size w1 => (hx.out.aft x).c0
      have k1 := fun x : Cl.After w1.heap.size w1 => (hx.out.aft x).c1
      have k2 := fun x : Cl.After w1.heap.size w1 => (hx.out.aft x).c2
      have k3 := fun x : Cl.After w1.heap.size w1 => (hx.out.aft x).c3
      refine Cl.region_after_at w1.heap.size (by kernel_rfl) lex3_15 (by kernel_rfl) ?_
      try simp only [List.append]
      repeat (go_big_quiet_step (first
        | (go_at_call 12; with_reducible exact ans_of (Nat.le_refl _) (cm.out _))
        | (go_at_call 13; with_reducible exact ans_of (Nat.le_refl _) (d1.out _))
        | (go_at_call 14; with_reducible exact ans_of (Nat.le_refl _) (d2.out _))
        | (go_at_call 15; with_reducible exact ans_of (Nat.le_refl _) (d3.out _))
        | (go_at_call 16; with_reducible exact ans_of (Nat.le_refl _) (d4.out _))
        | (go_at_call 17; with_reducible exact ans_of (Nat.le_refl _) (d5.out _))
        | (go_at_call 18; with_reducible exact ans_of (Nat.le_refl _) (d6.out _))
        | (go_at_call 19; with_reducible exact ans_of (Nat.le_refl _) (d7.out _))))
      refine wpQuiet_nil ?_
      rintro _ ⟨x, rfl⟩
      go_wp2
      go_ret
      exact ⟨rfl, hb.out.trans (x.below.mono hb.out.size)⟩
    · rcases Int.lt_or_le n c with h1 | h1
      · obtain ⟨m, rfl⟩ : ∃ m : Nat, n = (m : Int) := ⟨n.toNat, by omega⟩
        obtain ⟨p, rfl⟩ : ∃ p : Nat, P = (p : Int) := ⟨P.toNat, by omega⟩
        have cp := Lib.hid (fun w => place_yes B W K p m w (by rw [hc]; exact h1))
        have hp0 : (p : Int) ≠ 0 := by omega
        have hq : wrap64 ((m : Int) / (p : Int)) = (m : Int) / (p : Int) := by
          rw [← Int.natCast_ediv]
          have : m / p ≤ m := Nat.div_le_self _ _
          generalize m / p = q at this
          exact IntWalk.wrap64_in _ (by omega)
        rcases Int.lt_or_le (m : Int) B with h2 | h2
        · rcases Int.lt_or_le s 0 with h3 | h3
          · have hi : isN B (p : Int) W K (m : Int) s = false := isN_not (by omega)
            have cn := Lib.hid (number_lit (B := B) (P := (p : Int)) (W := W) (K := K) hi (num_no hi))
            clear hM hi hc hcc
            go_enter Try.func3, Try.ntmps3
            go_wp2_with (first
              | (go_at_call 8; (with_reducible refine (ca.out _).mono ?_); rintro e w1 ⟨rfl, hb1⟩; have hb := Lib.hid (hb.out.trans (hb1.mono hb.out.size)); have hx := Lib.hid (hx.out.keep hb1); obtain ⟨_, c0, c1, c2, c3⟩ := hx.out; clear hb1)
              | (go_at_call 9; (with_reducible refine (cr.out _).mono ?_); rintro e w1 ⟨rfl, hb1⟩; have hb := Lib.hid (hb.out.trans (hb1.mono hb.out.size)); have hx := Lib.hid (hx.out.keep hb1); obtain ⟨_, c0, c1, c2, c3⟩ := hx.out; clear hb1)
              | (go_at_call 10; (with_reducible refine (cp.out _).mono ?_); rintro e w1 ⟨rfl, hb1⟩; have hb := Lib.hid (hb.out.trans (hb1.mono hb.out.size)); have hx := Lib.hid (hx.out.keep hb1); obtain ⟨_, c0, c1, c2, c3⟩ := hx.out; clear hb1)
              | (go_at_call 11; (with_reducible refine (cn.out _).mono ?_); rintro e w1 ⟨rfl, hb1⟩; have hb := Lib.hid (hb.out.trans (hb1.mono hb.out.size)); have hx := Lib.hid (hx.out.keep hb1); obtain ⟨_, c0, c1, c2, c3⟩ := hx.out; clear hb1))
            have k0 := fun x : Cl.After w1.heap.size w1 => (hx.out.aft x).c0
            have k1 := fun x : Cl.After w1.heap.size w1 => (hx.out.aft x).c1
            have k2 := fun x : Cl.After w1.heap.size w1 => (hx.out.aft x).c2
            have k3 := fun x : Cl.After w1.heap.size w1 => (hx.out.aft x).c3
            refine Cl.region_after_at w1.heap.size (by kernel_rfl) lex3_15 (by kernel_rfl) ?_
            try simp only [List.append]
            repeat (go_big_quiet_step (first
              | (go_at_call 12; with_reducible exact ans_of (Nat.le_refl _) (cm.out _))
              | (go_at_call 13; with_reducible exact ans_of (Nat.le_refl _) (d1.out _))
              | (go_at_call 14; with_reducible exact ans_of (Nat.le_refl _) (d2.out _))
              | (go_at_call 15; with_reducible exact ans_of (Nat.le_refl _) (d3.out _))
              | (go_at_call 16; with_reducible exact ans_of (Nat.le_refl _) (d4.out _))
              | (go_at_call 17; with_reducible exact ans_of (Nat.le_refl _) (d5.out _))
              | (go_at_call 18; with_reducible exact ans_of (Nat.le_refl _) (d6.out _))
              | (go_at_call 19; with_reducible exact ans_of (Nat.le_refl _) (d7.out _))))
            refine wpQuiet_nil ?_
            rintro _ ⟨x, rfl⟩
            go_wp2
            go_ret
            exact ⟨rfl, hb.out.trans (x.below.mono hb.out.size)⟩
          · rcases Int.lt_or_le s p with h4 | h4
            · have hi : isN B (p : Int) W K (m : Int) s = true := isN_yes hM (by omega)
              have cn := Lib.hid (number_lit (n := (m : Int) * (p : Int) + s) (B := B) (P := (p : Int)) (W := W) (K := K) hi (by unfold numG; rw [hi]; rfl))
              have hw := bp_in h0 (by omega) (by omega : (0 : Int) ≤ p) g4
              have hwl := bp_le h0 (by omega) (by omega : (0 : Int) ≤ p) g4
              clear hM hi hc hcc
              go_enter Try.func3, Try.ntmps3
              go_wp2_with (first
                | (go_at_call 8; (with_reducible refine (ca.out _).mono ?_); rintro e w1 ⟨rfl, hb1⟩; have hb := Lib.hid (hb.out.trans (hb1.mono hb.out.size)); have hx := Lib.hid (hx.out.keep hb1); obtain ⟨_, c0, c1, c2, c3⟩ := hx.out; clear hb1)
                | (go_at_call 9; (with_reducible refine (cr.out _).mono ?_); rintro e w1 ⟨rfl, hb1⟩; have hb := Lib.hid (hb.out.trans (hb1.mono hb.out.size)); have hx := Lib.hid (hx.out.keep hb1); obtain ⟨_, c0, c1, c2, c3⟩ := hx.out; clear hb1)
                | (go_at_call 10; (with_reducible refine (cp.out _).mono ?_); rintro e w1 ⟨rfl, hb1⟩; have hb := Lib.hid (hb.out.trans (hb1.mono hb.out.size)); have hx := Lib.hid (hx.out.keep hb1); obtain ⟨_, c0, c1, c2, c3⟩ := hx.out; clear hb1)
                | (go_at_call 11; (with_reducible refine (cn.out _).mono ?_); rintro e w1 ⟨rfl, hb1⟩; have hb := Lib.hid (hb.out.trans (hb1.mono hb.out.size)); have hx := Lib.hid (hx.out.keep hb1); obtain ⟨_, c0, c1, c2, c3⟩ := hx.out; clear hb1))
              have k0 := fun x : Cl.After w1.heap.size w1 => (hx.out.aft x).c0
              have k1 := fun x : Cl.After w1.heap.size w1 => (hx.out.aft x).c1
              have k2 := fun x : Cl.After w1.heap.size w1 => (hx.out.aft x).c2
              have k3 := fun x : Cl.After w1.heap.size w1 => (hx.out.aft x).c3
              refine Cl.region_after_at w1.heap.size (by kernel_rfl) lex3_15 (by kernel_rfl) ?_
              try simp only [List.append]
              repeat (go_big_quiet_step (first
                | (go_at_call 12; with_reducible exact ans_of (Nat.le_refl _) (cm.out _))
                | (go_at_call 13; with_reducible exact ans_of (Nat.le_refl _) (d1.out _))
                | (go_at_call 14; with_reducible exact ans_of (Nat.le_refl _) (d2.out _))
                | (go_at_call 15; with_reducible exact ans_of (Nat.le_refl _) (d3.out _))
                | (go_at_call 16; with_reducible exact ans_of (Nat.le_refl _) (d4.out _))
                | (go_at_call 17; with_reducible exact ans_of (Nat.le_refl _) (d5.out _))
                | (go_at_call 18; with_reducible exact ans_of (Nat.le_refl _) (d6.out _))
                | (go_at_call 19; with_reducible exact ans_of (Nat.le_refl _) (d7.out _))))
              refine wpQuiet_nil ?_
              rintro _ ⟨x, rfl⟩
              go_wp2
              go_ret
              exact ⟨rfl, hb.out.trans (x.below.mono hb.out.size)⟩
            · have hi : isN B (p : Int) W K (m : Int) s = false := isN_not (by omega)
              have cn := Lib.hid (number_lit (B := B) (P := (p : Int)) (W := W) (K := K) hi (num_no hi))
              clear hM hi hc hcc
              go_enter Try.func3, Try.ntmps3
              go_wp2_with (first
                | (go_at_call 8; (with_reducible refine (ca.out _).mono ?_); rintro e w1 ⟨rfl, hb1⟩; have hb := Lib.hid (hb.out.trans (hb1.mono hb.out.size)); have hx := Lib.hid (hx.out.keep hb1); obtain ⟨_, c0, c1, c2, c3⟩ := hx.out; clear hb1)
                | (go_at_call 9; (with_reducible refine (cr.out _).mono ?_); rintro e w1 ⟨rfl, hb1⟩; have hb := Lib.hid (hb.out.trans (hb1.mono hb.out.size)); have hx := Lib.hid (hx.out.keep hb1); obtain ⟨_, c0, c1, c2, c3⟩ := hx.out; clear hb1)
                | (go_at_call 10; (with_reducible refine (cp.out _).mono ?_); rintro e w1 ⟨rfl, hb1⟩; have hb := Lib.hid (hb.out.trans (hb1.mono hb.out.size)); have hx := Lib.hid (hx.out.keep hb1); obtain ⟨_, c0, c1, c2, c3⟩ := hx.out; clear hb1)
                | (go_at_call 11; (with_reducible refine (cn.out _).mono ?_); rintro e w1 ⟨rfl, hb1⟩; have hb := Lib.hid (hb.out.trans (hb1.mono hb.out.size)); have hx := Lib.hid (hx.out.keep hb1); obtain ⟨_, c0, c1, c2, c3⟩ := hx.out; clear hb1))
              have k0 := fun x : Cl.After w1.heap.size w1 => (hx.out.aft x).c0
              have k1 := fun x : Cl.After w1.heap.size w1 => (hx.out.aft x).c1
              have k2 := fun x : Cl.After w1.heap.size w1 => (hx.out.aft x).c2
              have k3 := fun x : Cl.After w1.heap.size w1 => (hx.out.aft x).c3
              refine Cl.region_after_at w1.heap.size (by kernel_rfl) lex3_15 (by kernel_rfl) ?_
              try simp only [List.append]
              repeat (go_big_quiet_step (first
                | (go_at_call 12; with_reducible exact ans_of (Nat.le_refl _) (cm.out _))
                | (go_at_call 13; with_reducible exact ans_of (Nat.le_refl _) (d1.out _))
                | (go_at_call 14; with_reducible exact ans_of (Nat.le_refl _) (d2.out _))
                | (go_at_call 15; with_reducible exact ans_of (Nat.le_refl _) (d3.out _))
                | (go_at_call 16; with_reducible exact ans_of (Nat.le_refl _) (d4.out _))
                | (go_at_call 17; with_reducible exact ans_of (Nat.le_refl _) (d5.out _))
                | (go_at_call 18; with_reducible exact ans_of (Nat.le_refl _) (d6.out _))
                | (go_at_call 19; with_reducible exact ans_of (Nat.le_refl _) (d7.out _))))
              refine wpQuiet_nil ?_
              rintro _ ⟨x, rfl⟩
              go_wp2
              go_ret
              exact ⟨rfl, hb.out.trans (x.below.mono hb.out.size)⟩
        · have hi : isN B (p : Int) W K (m : Int) s = false := isN_not (by omega)
          have cn := Lib.hid (number_lit (B := B) (P := (p : Int)) (W := W) (K := K) hi (num_no hi))
          clear hM hi hc hcc
          go_enter Try.func3, Try.ntmps3
          go_wp2_with (first
            | (go_at_call 8; (with_reducible refine (ca.out _).mono ?_); rintro e w1 ⟨rfl, hb1⟩; have hb := Lib.hid (hb.out.trans (hb1.mono hb.out.size)); have hx := Lib.hid (hx.out.keep hb1); obtain ⟨_, c0, c1, c2, c3⟩ := hx.out; clear hb1)
            | (go_at_call 9; (with_reducible refine (cr.out _).mono ?_); rintro e w1 ⟨rfl, hb1⟩; have hb := Lib.hid (hb.out.trans (hb1.mono hb.out.size)); have hx := Lib.hid (hx.out.keep hb1); obtain ⟨_, c0, c1, c2, c3⟩ := hx.out; clear hb1)
            | (go_at_call 10; (with_reducible refine (cp.out _).mono ?_); rintro e w1 ⟨rfl, hb1⟩; have hb := Lib.hid (hb.out.trans (hb1.mono hb.out.size)); have hx := Lib.hid (hx.out.keep hb1); obtain ⟨_, c0, c1, c2, c3⟩ := hx.out; clear hb1)
            | (go_at_call 11; (with_reducible refine (cn.out _).mono ?_); rintro e w1 ⟨rfl, hb1⟩; have hb := Lib.hid (hb.out.trans (hb1.mono hb.out.size)); have hx := Lib.hid (hx.out.keep hb1); obtain ⟨_, c0, c1, c2, c3⟩ := hx.out; clear hb1))
          have k0 := fun x : Cl.After w1.heap.size w1 => (hx.out.aft x).c0
          have k1 := fun x : Cl.After w1.heap.size w1 => (hx.out.aft x).c1
          have k2 := fun x : Cl.After w1.heap.size w1 => (hx.out.aft x).c2
          have k3 := fun x : Cl.After w1.heap.size w1 => (hx.out.aft x).c3
          refine Cl.region_after_at w1.heap.size (by kernel_rfl) lex3_15 (by kernel_rfl) ?_
          try simp only [List.append]
          repeat (go_big_quiet_step (first
            | (go_at_call 12; with_reducible exact ans_of (Nat.le_refl _) (cm.out _))
            | (go_at_call 13; with_reducible exact ans_of (Nat.le_refl _) (d1.out _))
            | (go_at_call 14; with_reducible exact ans_of (Nat.le_refl _) (d2.out _))
            | (go_at_call 15; with_reducible exact ans_of (Nat.le_refl _) (d3.out _))
            | (go_at_call 16; with_reducible exact ans_of (Nat.le_refl _) (d4.out _))
            | (go_at_call 17; with_reducible exact ans_of (Nat.le_refl _) (d5.out _))
            | (go_at_call 18; with_reducible exact ans_of (Nat.le_refl _) (d6.out _))
            | (go_at_call 19; with_reducible exact ans_of (Nat.le_refl _) (d7.out _))))
          refine wpQuiet_nil ?_
          rintro _ ⟨x, rfl⟩
          go_wp2
          go_ret
          exact ⟨rfl, hb.out.trans (x.below.mono hb.out.size)⟩
      · have cp := Lib.hid (fun w => place_no B P W K n w (isP_not (by omega)))
        rcases Int.lt_or_le n B with h2 | h2
        · rcases Int.lt_or_le s 0 with h3 | h3
          · have hi : isN B P W K n s = false := isN_not (by omega)
            have cn := Lib.hid (number_lit (B := B) (P := P) (W := W) (K := K) hi (num_no hi))
            clear hM hi hc hcc
            go_enter Try.func3, Try.ntmps3
            go_wp2_with (first
              | (go_at_call 8; (with_reducible refine (ca.out _).mono ?_); rintro e w1 ⟨rfl, hb1⟩; have hb := Lib.hid (hb.out.trans (hb1.mono hb.out.size)); have hx := Lib.hid (hx.out.keep hb1); obtain ⟨_, c0, c1, c2, c3⟩ := hx.out; clear hb1)
              | (go_at_call 9; (with_reducible refine (cr.out _).mono ?_); rintro e w1 ⟨rfl, hb1⟩; have hb := Lib.hid (hb.out.trans (hb1.mono hb.out.size)); have hx := Lib.hid (hx.out.keep hb1); obtain ⟨_, c0, c1, c2, c3⟩ := hx.out; clear hb1)
              | (go_at_call 10; (with_reducible refine (cp.out _).mono ?_); rintro e w1 ⟨rfl, hb1⟩; have hb := Lib.hid (hb.out.trans (hb1.mono hb.out.size)); have hx := Lib.hid (hx.out.keep hb1); obtain ⟨_, c0, c1, c2, c3⟩ := hx.out; clear hb1)
              | (go_at_call 11; (with_reducible refine (cn.out _).mono ?_); rintro e w1 ⟨rfl, hb1⟩; have hb := Lib.hid (hb.out.trans (hb1.mono hb.out.size)); have hx := Lib.hid (hx.out.keep hb1); obtain ⟨_, c0, c1, c2, c3⟩ := hx.out; clear hb1))
            have k0 := fun x : Cl.After w1.heap.size w1 => (hx.out.aft x).c0
            have k1 := fun x : Cl.After w1.heap.size w1 => (hx.out.aft x).c1
            have k2 := fun x : Cl.After w1.heap.size w1 => (hx.out.aft x).c2
            have k3 := fun x : Cl.After w1.heap.size w1 => (hx.out.aft x).c3
            refine Cl.region_after_at w1.heap.size (by kernel_rfl) lex3_15 (by kernel_rfl) ?_
            try simp only [List.append]
            repeat (go_big_quiet_step (first
              | (go_at_call 12; with_reducible exact ans_of (Nat.le_refl _) (cm.out _))
              | (go_at_call 13; with_reducible exact ans_of (Nat.le_refl _) (d1.out _))
              | (go_at_call 14; with_reducible exact ans_of (Nat.le_refl _) (d2.out _))
              | (go_at_call 15; with_reducible exact ans_of (Nat.le_refl _) (d3.out _))
              | (go_at_call 16; with_reducible exact ans_of (Nat.le_refl _) (d4.out _))
              | (go_at_call 17; with_reducible exact ans_of (Nat.le_refl _) (d5.out _))
              | (go_at_call 18; with_reducible exact ans_of (Nat.le_refl _) (d6.out _))
              | (go_at_call 19; with_reducible exact ans_of (Nat.le_refl _) (d7.out _))))
            refine wpQuiet_nil ?_
            rintro _ ⟨x, rfl⟩
            go_wp2
            go_ret
            exact ⟨rfl, hb.out.trans (x.below.mono hb.out.size)⟩
          · rcases Int.lt_or_le s P with h4 | h4
            · have hi : isN B P W K n s = true := isN_yes hM (by omega)
              have cn := Lib.hid (number_lit (n := n * P + s) (B := B) (P := P) (W := W) (K := K) hi (by unfold numG; rw [hi]; rfl))
              have hw := bp_in h0 (by omega) (by omega : 0 ≤ P) g4
              have hwl := bp_le h0 (by omega) (by omega : 0 ≤ P) g4
              clear hM hi hc hcc
              go_enter Try.func3, Try.ntmps3
              go_wp2_with (first
                | (go_at_call 8; (with_reducible refine (ca.out _).mono ?_); rintro e w1 ⟨rfl, hb1⟩; have hb := Lib.hid (hb.out.trans (hb1.mono hb.out.size)); have hx := Lib.hid (hx.out.keep hb1); obtain ⟨_, c0, c1, c2, c3⟩ := hx.out; clear hb1)
                | (go_at_call 9; (with_reducible refine (cr.out _).mono ?_); rintro e w1 ⟨rfl, hb1⟩; have hb := Lib.hid (hb.out.trans (hb1.mono hb.out.size)); have hx := Lib.hid (hx.out.keep hb1); obtain ⟨_, c0, c1, c2, c3⟩ := hx.out; clear hb1)
                | (go_at_call 10; (with_reducible refine (cp.out _).mono ?_); rintro e w1 ⟨rfl, hb1⟩; have hb := Lib.hid (hb.out.trans (hb1.mono hb.out.size)); have hx := Lib.hid (hx.out.keep hb1); obtain ⟨_, c0, c1, c2, c3⟩ := hx.out; clear hb1)
                | (go_at_call 11; (with_reducible refine (cn.out _).mono ?_); rintro e w1 ⟨rfl, hb1⟩; have hb := Lib.hid (hb.out.trans (hb1.mono hb.out.size)); have hx := Lib.hid (hx.out.keep hb1); obtain ⟨_, c0, c1, c2, c3⟩ := hx.out; clear hb1))
              have k0 := fun x : Cl.After w1.heap.size w1 => (hx.out.aft x).c0
              have k1 := fun x : Cl.After w1.heap.size w1 => (hx.out.aft x).c1
              have k2 := fun x : Cl.After w1.heap.size w1 => (hx.out.aft x).c2
              have k3 := fun x : Cl.After w1.heap.size w1 => (hx.out.aft x).c3
              refine Cl.region_after_at w1.heap.size (by kernel_rfl) lex3_15 (by kernel_rfl) ?_
              try simp only [List.append]
              repeat (go_big_quiet_step (first
                | (go_at_call 12; with_reducible exact ans_of (Nat.le_refl _) (cm.out _))
                | (go_at_call 13; with_reducible exact ans_of (Nat.le_refl _) (d1.out _))
                | (go_at_call 14; with_reducible exact ans_of (Nat.le_refl _) (d2.out _))
                | (go_at_call 15; with_reducible exact ans_of (Nat.le_refl _) (d3.out _))
                | (go_at_call 16; with_reducible exact ans_of (Nat.le_refl _) (d4.out _))
                | (go_at_call 17; with_reducible exact ans_of (Nat.le_refl _) (d5.out _))
                | (go_at_call 18; with_reducible exact ans_of (Nat.le_refl _) (d6.out _))
                | (go_at_call 19; with_reducible exact ans_of (Nat.le_refl _) (d7.out _))))
              refine wpQuiet_nil ?_
              rintro _ ⟨x, rfl⟩
              go_wp2
              go_ret
              exact ⟨rfl, hb.out.trans (x.below.mono hb.out.size)⟩
            · have hi : isN B P W K n s = false := isN_not (by omega)
              have cn := Lib.hid (number_lit (B := B) (P := P) (W := W) (K := K) hi (num_no hi))
              clear hM hi hc hcc
              go_enter Try.func3, Try.ntmps3
              go_wp2_with (first
                | (go_at_call 8; (with_reducible refine (ca.out _).mono ?_); rintro e w1 ⟨rfl, hb1⟩; have hb := Lib.hid (hb.out.trans (hb1.mono hb.out.size)); have hx := Lib.hid (hx.out.keep hb1); obtain ⟨_, c0, c1, c2, c3⟩ := hx.out; clear hb1)
                | (go_at_call 9; (with_reducible refine (cr.out _).mono ?_); rintro e w1 ⟨rfl, hb1⟩; have hb := Lib.hid (hb.out.trans (hb1.mono hb.out.size)); have hx := Lib.hid (hx.out.keep hb1); obtain ⟨_, c0, c1, c2, c3⟩ := hx.out; clear hb1)
                | (go_at_call 10; (with_reducible refine (cp.out _).mono ?_); rintro e w1 ⟨rfl, hb1⟩; have hb := Lib.hid (hb.out.trans (hb1.mono hb.out.size)); have hx := Lib.hid (hx.out.keep hb1); obtain ⟨_, c0, c1, c2, c3⟩ := hx.out; clear hb1)
                | (go_at_call 11; (with_reducible refine (cn.out _).mono ?_); rintro e w1 ⟨rfl, hb1⟩; have hb := Lib.hid (hb.out.trans (hb1.mono hb.out.size)); have hx := Lib.hid (hx.out.keep hb1); obtain ⟨_, c0, c1, c2, c3⟩ := hx.out; clear hb1))
              have k0 := fun x : Cl.After w1.heap.size w1 => (hx.out.aft x).c0
              have k1 := fun x : Cl.After w1.heap.size w1 => (hx.out.aft x).c1
              have k2 := fun x : Cl.After w1.heap.size w1 => (hx.out.aft x).c2
              have k3 := fun x : Cl.After w1.heap.size w1 => (hx.out.aft x).c3
              refine Cl.region_after_at w1.heap.size (by kernel_rfl) lex3_15 (by kernel_rfl) ?_
              try simp only [List.append]
              repeat (go_big_quiet_step (first
                | (go_at_call 12; with_reducible exact ans_of (Nat.le_refl _) (cm.out _))
                | (go_at_call 13; with_reducible exact ans_of (Nat.le_refl _) (d1.out _))
                | (go_at_call 14; with_reducible exact ans_of (Nat.le_refl _) (d2.out _))
                | (go_at_call 15; with_reducible exact ans_of (Nat.le_refl _) (d3.out _))
                | (go_at_call 16; with_reducible exact ans_of (Nat.le_refl _) (d4.out _))
                | (go_at_call 17; with_reducible exact ans_of (Nat.le_refl _) (d5.out _))
                | (go_at_call 18; with_reducible exact ans_of (Nat.le_refl _) (d6.out _))
                | (go_at_call 19; with_reducible exact ans_of (Nat.le_refl _) (d7.out _))))
              refine wpQuiet_nil ?_
              rintro _ ⟨x, rfl⟩
              go_wp2
              go_ret
              exact ⟨rfl, hb.out.trans (x.below.mono hb.out.size)⟩
        · have hi : isN B P W K n s = false := isN_not (by omega)
          have cn := Lib.hid (number_lit (B := B) (P := P) (W := W) (K := K) hi (num_no hi))
          clear hM hi hc hcc
          go_enter Try.func3, Try.ntmps3
          go_wp2_with (first
            | (go_at_call 8; (with_reducible refine (ca.out _).mono ?_); rintro e w1 ⟨rfl, hb1⟩; have hb := Lib.hid (hb.out.trans (hb1.mono hb.out.size)); have hx := Lib.hid (hx.out.keep hb1); obtain ⟨_, c0, c1, c2, c3⟩ := hx.out; clear hb1)
            | (go_at_call 9; (with_reducible refine (cr.out _).mono ?_); rintro e w1 ⟨rfl, hb1⟩; have hb := Lib.hid (hb.out.trans (hb1.mono hb.out.size)); have hx := Lib.hid (hx.out.keep hb1); obtain ⟨_, c0, c1, c2, c3⟩ := hx.out; clear hb1)
            | (go_at_call 10; (with_reducible refine (cp.out _).mono ?_); rintro e w1 ⟨rfl, hb1⟩; have hb := Lib.hid (hb.out.trans (hb1.mono hb.out.size)); have hx := Lib.hid (hx.out.keep hb1); obtain ⟨_, c0, c1, c2, c3⟩ := hx.out; clear hb1)
            | (go_at_call 11; (with_reducible refine (cn.out _).mono ?_); rintro e w1 ⟨rfl, hb1⟩; have hb := Lib.hid (hb.out.trans (hb1.mono hb.out.size)); have hx := Lib.hid (hx.out.keep hb1); obtain ⟨_, c0, c1, c2, c3⟩ := hx.out; clear hb1))
          have k0 := fun x : Cl.After w1.heap.size w1 => (hx.out.aft x).c0
          have k1 := fun x : Cl.After w1.heap.size w1 => (hx.out.aft x).c1
          have k2 := fun x : Cl.After w1.heap.size w1 => (hx.out.aft x).c2
          have k3 := fun x : Cl.After w1.heap.size w1 => (hx.out.aft x).c3
          refine Cl.region_after_at w1.heap.size (by kernel_rfl) lex3_15 (by kernel_rfl) ?_
          try simp only [List.append]
          repeat (go_big_quiet_step (first
            | (go_at_call 12; with_reducible exact ans_of (Nat.le_refl _) (cm.out _))
            | (go_at_call 13; with_reducible exact ans_of (Nat.le_refl _) (d1.out _))
            | (go_at_call 14; with_reducible exact ans_of (Nat.le_refl _) (d2.out _))
            | (go_at_call 15; with_reducible exact ans_of (Nat.le_refl _) (d3.out _))
            | (go_at_call 16; with_reducible exact ans_of (Nat.le_refl _) (d4.out _))
            | (go_at_call 17; with_reducible exact ans_of (Nat.le_refl _) (d5.out _))
            | (go_at_call 18; with_reducible exact ans_of (Nat.le_refl _) (d6.out _))
            | (go_at_call 19; with_reducible exact ans_of (Nat.le_refl _) (d7.out _))))
          refine wpQuiet_nil ?_
          rintro _ ⟨x, rfl⟩
          go_wp2
          go_ret
          exact ⟨rfl, hb.out.trans (x.below.mono hb.out.size)⟩
end Go.Proofs.Ytadfamjacncmfaa
