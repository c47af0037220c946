/- The reference's Pick and Victim walked. -/
import Derived.Test.YtnhkagkgmgpjeaaWrc
import Derived.Laws.MakeOwn
namespace Go.Proofs.Ytnhkagkgmgpjeaa.We
open Go.RowKit
set_option linter.unusedVariables false
set_option linter.unusedSimpArgs false
attribute [local go_sem ↓] Cl.quiet_after
theorem lex_ref5 : (Cl.opsAt 5 (Try.f22.body.getD .skip)).map (Region.lexB .any) = some true := by kernel_rfl
/-- the best so far as the reference has it -/
def bst : Option Nat → Int
  | none => -1
  | some b => (b : Int)

set_option maxHeartbeats 4000000 in
theorem refvictim_any (A : Option Addr) (n c : Nat) (v : Nat → Int) (A' : Option Addr) (n' c' : Nat) (e : Nat → Int) (B : Option Addr) (m d : Nat) (μ : Nat → Bool) (w : World) (hs : SF w w.heap.size A n (iF v)) (hs' : SF w w.heap.size A' n' (iF e)) (hm : SF w w.heap.size B m (bF μ)) (h62 : n ≤ 4611686018427387904) :
    Calls Try.prog 22 #[.slice A n c, .slice A' n' c', .slice B m d] w (Ans w (.tuple #[.int .i64 (((fst μ (lx v e) (mn (mn n n') m)).getD 0 : Nat) : Int), .bool (fst μ (lx v e) (mn (mn n n') m)).isSome])) := by
  obtain ⟨N, hN⟩ : ∃ N, mn (mn n n') m = N := ⟨_, rfl⟩
  have hlt : ∀ j, j < N ↔ j < m ∧ j < n' ∧ j < n := fun j => by rw [← hN]; unfold mn; split <;> split <;> omega
  have h62N : N ≤ 4611686018427387904 := by
    have := mn_le n n'; have := mn_le (mn n n') m; omega
  rw [hN]
  clear hN
  have H := Lib.hid hs
  have H' := Lib.hid hs'
  have HM := Lib.hid hm
  replace hlt := Lib.hid hlt
  clear hs hs' hm h62
  go_enter Try.func22, Try.ntmps22
  go_wp2_with fail
  go_loopw [8, 9] (fun p q wr => ∃ j : Nat, j ≤ N ∧ p = .int .i64 (bst (fst μ (lx v e) j)) ∧ q = .int .i64 (j : Int) ∧ Hid (Below w.heap.size w wr)) (fun _ q _ => N - (intOf q).toNat)
  case atStart => exact ⟨0, Nat.zero_le _, rfl, rfl, Lib.hid (Below.refl _ _)⟩
  case round =>
    obtain ⟨j, hj, rfl, rfl, hB⟩ := hrel
    by_cases hjN : j < N
    · obtain ⟨j1, j2, j3⟩ := (hlt.out j).1 hjN
      have d1 : decide (j < m) = true := decide_eq_true j1
      have d2 : decide (j < n') = true := decide_eq_true j2
      have d3 : decide (j < n) = true := decide_eq_true j3
      have e1 : (j : Int) < (m : Int) := by omega
      have e2 : (j : Int) < (n' : Int) := by omega
      have e3 : (j : Int) < (n : Int) := by omega
      obtain ⟨a, rfl, _, c0⟩ := (HM.out.below hB.out).at_ j1
      simp only [bF] at c0
      cases hmu : μ j
      · rw [hmu] at c0
        have hf := Lib.hid (fst_no (ah := lx v e) hmu)
        generalize hG : bst (fst μ (lx v e) j) = G at *
        replace hG := Lib.hid hG
        have t0 := aft c0
        clear c0
        go_wp2_with fail
        refine Cl.region_after_at wr.heap.size (by kernel_rfl) lex_ref5 (by kernel_rfl) ?_
        try simp only [List.append]
        repeat (go_big_quiet_step (fail))
        refine wpQuiet_nil ?_
        rintro _ ⟨x, rfl⟩
        go_wp2_with fail
        go_roundw
        case rel => exact ⟨j + 1, by omega, by rw [hf.out, hG.out], by go_num, Lib.hid (below_trans hB.out x.below)⟩
        case measure => simp [intOf]; omega
      · rw [hmu] at c0
        cases hG : fst μ (lx v e) j with
        | none =>
          have hf1 := Lib.hid (fst_new (ah := lx v e) hmu hG)
          simp only [bst]
          clear hG
          have t0 := aft c0
          clear c0
          go_wp2_with fail
          refine Cl.region_after_at wr.heap.size (by kernel_rfl) lex_ref5 (by kernel_rfl) ?_
          try simp only [List.append]
          repeat (go_big_quiet_step (fail))
          refine wpQuiet_nil ?_
          rintro _ ⟨x, rfl⟩
          go_wp2_with fail
          go_roundw
          case rel => exact ⟨j + 1, by omega, by simp only [hf1.out, bst], by go_num, Lib.hid (below_trans hB.out x.below)⟩
          case measure => simp [intOf]; omega
        | some b =>
          have hb := fst_lt hG
          obtain ⟨k1, k2, k3⟩ := (hlt.out b).1 (by omega)
          have l1 : (b : Int) < (m : Int) := by omega
          have l2 : (b : Int) < (n' : Int) := by omega
          have l3 : (b : Int) < (n : Int) := by omega
          have l4 : decide ((b : Int) < 0) = false := decide_eq_false (by omega)
          obtain ⟨p, rfl, _, x0⟩ := (H.out.below hB.out).at_ j3
          obtain ⟨p', q, _, x1⟩ := (H.out.below hB.out).at_ k3
          injection q with q
          subst q
          obtain ⟨q, rfl, _, y0⟩ := (H'.out.below hB.out).at_ j2
          obtain ⟨q', q2, _, y1⟩ := (H'.out.below hB.out).at_ k2
          injection q2 with q2
          subst q2
          simp only [iF] at x0 x1 y0 y1
          simp only [bst]
          have hst := fst_stay (m := μ) (ah := lx v e) hG
          have htn := fst_turn (m := μ) (ah := lx v e) hmu hG
          have hx : lx v e j b = (decide (v j < v b) || decide (v j = v b) && decide (e j < e b)) := rfl
          obtain ⟨X, hX⟩ : ∃ X, v j = X := ⟨_, rfl⟩
          obtain ⟨Y, hY⟩ : ∃ Y, v b = Y := ⟨_, rfl⟩
          obtain ⟨Z, hZ⟩ : ∃ Z, e j = Z := ⟨_, rfl⟩
          obtain ⟨T, hT⟩ : ∃ T, e b = T := ⟨_, rfl⟩
          rw [hX] at x0 hx
          rw [hY] at x1 hx
          rw [hZ] at y0 hx
          rw [hT] at y1 hx
          clear hX hY hZ hT hG hb
          have t0 := aft c0
          have t1 := aft x0
          have t2 := aft x1
          have t3 := aft y0
          have t4 := aft y1
          clear c0 x0 x1 y0 y1
          by_cases q1 : X < Y
          · have hf1 := Lib.hid (htn (by rw [hx]; simp [q1]))
            clear hst htn hx
            go_wp2_with fail
            refine Cl.region_after_at wr.heap.size (by kernel_rfl) lex_ref5 (by kernel_rfl) ?_
            try simp only [List.append]
            repeat (go_big_quiet_step (fail))
            refine wpQuiet_nil ?_
            rintro _ ⟨x, rfl⟩
            go_wp2_with fail
            go_roundw
            case rel => exact ⟨j + 1, by omega, by simp only [hf1.out, bst], by go_num, Lib.hid (below_trans hB.out x.below)⟩
            case measure => simp [intOf]; omega
          · by_cases q2 : X = Y
            · have q2' : (X == Y) = true := by simp [q2]
              by_cases q3 : Z < T
              · have hf1 := Lib.hid (htn (by rw [hx]; simp [q2, q3]))
                clear hst htn hx
                go_wp2_with fail
                refine Cl.region_after_at wr.heap.size (by kernel_rfl) lex_ref5 (by kernel_rfl) ?_
                try simp only [List.append]
                repeat (go_big_quiet_step (fail))
                refine wpQuiet_nil ?_
                rintro _ ⟨x, rfl⟩
                go_wp2_with fail
                go_roundw
                case rel => exact ⟨j + 1, by omega, by simp only [hf1.out, bst], by go_num, Lib.hid (below_trans hB.out x.below)⟩
                case measure => simp [intOf]; omega
              · have hf1 := Lib.hid (hst (by rw [hx]; simp [q2, q3]))
                clear hst htn hx
                go_wp2_with fail
                refine Cl.region_after_at wr.heap.size (by kernel_rfl) lex_ref5 (by kernel_rfl) ?_
                try simp only [List.append]
                repeat (go_big_quiet_step (fail))
                refine wpQuiet_nil ?_
                rintro _ ⟨x, rfl⟩
                go_wp2_with fail
                go_roundw
                case rel => exact ⟨j + 1, by omega, by simp only [hf1.out, bst], by go_num, Lib.hid (below_trans hB.out x.below)⟩
                case measure => simp [intOf]; omega
            · have q2' : (X == Y) = false := by simp [q2]
              have q3' : decide (X < Y) = false := by simp [q1]
              have hf1 := Lib.hid (hst (by rw [hx]; simp [q1, q2]))
              clear hst htn hx
              go_wp2_with fail
              refine Cl.region_after_at wr.heap.size (by kernel_rfl) lex_ref5 (by kernel_rfl) ?_
              try simp only [List.append]
              repeat (go_big_quiet_step (fail))
              refine wpQuiet_nil ?_
              rintro _ ⟨x, rfl⟩
              go_wp2_with fail
              go_roundw
              case rel => exact ⟨j + 1, by omega, by simp only [hf1.out, bst], by go_num, Lib.hid (below_trans hB.out x.below)⟩
              case measure => simp [intOf]; omega
    · obtain rfl : j = N := by omega
      have hno := hlt.out j
      have hfin : (bst (fst μ (lx v e) j) < 0 ∧ (fst μ (lx v e) j).isSome = false ∧ (fst μ (lx v e) j).getD 0 = 0) ∨ (0 ≤ bst (fst μ (lx v e) j) ∧ (fst μ (lx v e) j).isSome = true ∧ (((fst μ (lx v e) j).getD 0 : Nat) : Int) = bst (fst μ (lx v e) j)) := by
        cases fst μ (lx v e) j with
        | none => left; exact ⟨by decide, rfl, rfl⟩
        | some b => right; exact ⟨by simp [bst], rfl, rfl⟩
      generalize hG : bst (fst μ (lx v e) j) = G at *
      generalize hG2 : (fst μ (lx v e) j).getD 0 = G2 at *
      generalize hG3 : (fst μ (lx v e) j).isSome = G3 at *
      have hca : (¬ j < m) ∨ (j < m ∧ ¬ j < n') ∨ (j < m ∧ j < n' ∧ ¬ j < n) := by omega
      clear hno
      rcases hfin with ⟨f1, rfl, rfl⟩ | ⟨f1, rfl, f3⟩
      · have f0 : (if G < 0 then 0 else G) = 0 := if_pos f1
        have f0' : (if 0 ≤ G then G else 0) = 0 := if_neg (by omega)
        have f4 : decide (0 ≤ G) = false := by simp; omega
        have f5 : (if 0 < G then G else 0) = 0 := if_neg (by omega)
        rcases hca with g1 | ⟨g1, g2⟩ | ⟨g1, g2, g3⟩
        · go_wp2_with fail
          go_ret2
          exact ⟨rfl, hB.out⟩
        · go_wp2_with fail
          go_ret2
          exact ⟨rfl, hB.out⟩
        · go_wp2_with fail
          go_ret2
          exact ⟨rfl, hB.out⟩
      · have f0 : (if G < 0 then 0 else G) = G := if_neg (by omega)
        have f0' : (if 0 ≤ G then G else 0) = G := if_pos f1
        have f4 : decide (0 ≤ G) = true := by simp; omega
        rcases hca with g1 | ⟨g1, g2⟩ | ⟨g1, g2, g3⟩
        · go_wp2_with fail
          go_ret2
          exact ⟨by rw [f3]; rfl, hB.out⟩
        · go_wp2_with fail
          go_ret2
          exact ⟨by rw [f3]; rfl, hB.out⟩
        · go_wp2_with fail
          go_ret2
          exact ⟨by rw [f3]; rfl, hB.out⟩
theorem infoI : (Try.prog.info? 3).map (fun i => (i.zero, i.size, i.bytes)) = some (some (.int .i64 0), 1, 8) := by kernel_rfl
/-- n noughts -/
def zI (n : Nat) : Array Value := madeCells #[.int .i64 0] n
theorem zI_size (n : Nat) : (zI n).size = n := size_madeCells _ _
theorem zI_at {n i : Nat} (h : i < n) : (zI n)[i]? = some (.int .i64 0) := by
  unfold zI madeCells
  simp [h, Nat.mod_one]
theorem run_makeI (w : World) (n : Nat) (hn : n ≤ 65536) : (Instr.makeSlice 26 (.int .i64 (n : Int)) (.int .i64 (n : Int))).run Try.prog w = .ok (.slice (some ⟨w.heap.size, 0, none⟩) n n) (w.alloc (.cells (zI n) 3)) := by
  have hi0 := infoI
  obtain ⟨i, hi, hrest⟩ := Option.map_eq_some_iff.1 hi0
  simp only [Prod.mk.injEq] at hrest
  obtain ⟨i1, i2, i3⟩ := hrest
  have h := run_make (P := Try.prog) w 26 3 i _ Try.underlying26 hi i1 .i64 .i64 (n : Int) (n : Int) (by omega) (Int.le_refl _) (by rw [i3]; omega) (by omega)
  rw [i2, Int.toNat_natCast, Nat.mul_one] at h
  exact h
theorem SF.zeros (w : World) (n : Nat) (T : TypeId) : SF (w.alloc (.cells (zI n) T)) (w.alloc (.cells (zI n) T)).heap.size (some ⟨w.heap.size, 0, none⟩) n (iF fun _ => 0) := by
  refine Or.inr ⟨_, rfl, by rw [World.size_alloc]; exact Nat.lt_succ_self _, fun i hi => ?_⟩
  have e : (⟨w.heap.size, 0, none⟩ : Addr).add i = ⟨w.heap.size, i, none⟩ := by unfold Addr.add; split <;> simp_all
  rw [e, cell_new, zI_at hi]
  rfl
theorem mn_self (n m : Nat) : mn (mn n n) m = mn n m := by
  have : mn n n = n := by unfold mn; split <;> rfl
  rw [this]
theorem lx_none (e : Nat → Int) : lx (fun _ => 0) e = lo e := by
  funext a b
  simp [lx, lo]
set_option maxHeartbeats 1000000 in
theorem refpick_any (A : Option Addr) (n c : Nat) (e : Nat → Int) (B : Option Addr) (m d : Nat) (μ : Nat → Bool) (w : World) (hs : SF w w.heap.size A n (iF e)) (hm : SF w w.heap.size B m (bF μ)) (h62 : n ≤ 65536) :
    Calls Try.prog 16 #[.slice A n c, .slice B m d] w (Ans w (.tuple #[.int .i64 (((fst μ (lo e) (mn n m)).getD 0 : Nat) : Int), .bool (fst μ (lo e) (mn n m)).isSome])) := by
  have hA := below_alloc w (.cells (zI n) 3)
  have hc := refvictim_any (some ⟨w.heap.size, 0, none⟩) n n (fun _ => 0) A n c e B m d μ (w.alloc (.cells (zI n) 3)) (SF.zeros w n _) (hs.far hA) (hm.far hA) (by omega)
  rw [mn_self, lx_none] at hc
  have hmk := run_makeI w n h62
  replace hc := Lib.hid hc
  replace hA := Lib.hid hA
  clear hs hm
  go_enter Try.func16, Try.ntmps16
  go_wp2_with (go_at_call 22; (with_reducible refine hc.out.mono ?_); rintro e w1 ⟨rfl, hb1⟩; have hb1 := Lib.hid (below_trans hA.out hb1))
  go_ret2
  exact ⟨rfl, hb1.out⟩
end Go.Proofs.Ytnhkagkgmgpjeaa.We
