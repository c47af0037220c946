/- LmapPlays walked. -/
import Derived.Test.YtcnnmnjepofomaaLmw
import Derived.Deep.Cut
namespace Go.Proofs.Ytcnnmnjepofomaa.Lm
open Go.RowKit Go.Bw Go.Proofs.Ytcnnmnjepofomaa.Vl
set_option linter.unusedVariables false
set_option linter.unusedSimpArgs false
attribute [local go_sem ↓] Cl.quiet_since
/-- a deed's three cells -/
def dF (D A B : Int) (i : Nat) : Value := if i = 0 then .int .i64 D else if i = 1 then .int .i64 A else .int .i64 B
/-- a pair's two cells -/
def nF (a b : Nat) (i : Nat) : Value := if i = 0 then .int .u8 (a : Int) else .int .u8 (b : Int)
theorem i64_range {a : Int} (h : (Lit.int .i64 a).wf = true) : a ≤ 9223372036854775807 := by
  simp [Lit.wf, IntKind.min, IntKind.max, IntKind.signed, IntKind.bits] at h; omega
theorem PV.out {w w' : World} {T : TypeId} {g n lo hi : Nat} {f : Nat → Value} (h : PV w T g n f) (k : Cl.Keeps (Out lo hi) w w') (hg : hi ≤ g) : PV w' T g n f := h.keep (k.block g h.lt (by unfold Out; omega))
theorem PV.keeps {w w' : World} {T : TypeId} {g n q : Nat} {f : Nat → Value} (h : PV w T g n f) (k : Cl.Keeps (fun i => i ≠ q) w w') (hg : g ≠ q) : PV w' T g n f := h.keep (k.block g h.lt hg)
theorem RM.out {w w' : World} {g h c lp pg lo hi : Nat} {A : Option Addr} {f : Nat → Int} (m : RM w g h A c lp pg f) (k : Cl.Keeps (Out lo hi) w w') (hg : hi ≤ g) (hh : hi ≤ h) : RM w' g h A c lp pg f := m.keep (k.block g m.box.lt (by unfold Out; omega)) fun hp => k.block h (m.row hp).2.lt (by unfold Out; omega)
set_option maxHeartbeats 16000000 in
set_option maxRecDepth 20000 in
theorem plays_law (N M : Nat) (hN : N < 256) (hM : M < 256) (L : Option Addr) (n c : Nat) (qd : Nat → Int × Int × Int) (w : World) (hs : DT w w.heap.size L n qd) :
    Calls Try.prog 3 #[.agg #[.int .u8 (N : Int), .int .u8 (M : Int)], .slice L n c] w (We.Ans w (.bool true)) := by
  have bx := PV.new w 22 #[.int .u8 (N : Int), .int .u8 (M : Int)] 2 (nF N M) fun i hi => by
    match i, hi with
    | 0, _ => rfl
    | 1, _ => rfl
  have hBb := Lib.hid (We.below_alloc w (.cells #[.int .u8 (N : Int), .int .u8 (M : Int)] 22))
  have ha := Lib.hid (awake_any (w.alloc (.cells #[.int .u8 (N : Int), .int .u8 (M : Int)] 22)))
  replace bx := Lib.hid bx
  have H := Lib.hid hs
  clear hs
  by_cases h200 : (200 : Int) < (n : Int)
  · go_enter Try.func3, Try.ntmps3
    go_wp2_with (go_at_call 8; (with_reducible refine ha.out.mono ?_); rintro e w1 ⟨rfl, hB1⟩; replace hB1 := Lib.hid (We.below_trans hBb.out hB1))
    go_ret
    exact ⟨rfl, hB1.out⟩
  have f1 : (N : Int) % 40 = ((N % 40 : Nat) : Int) := by omega
  have f2 : (M : Int) % 60 = ((M % 60 : Nat) : Int) := by omega
  have hl40 : N % 40 < 40 := Nat.mod_lt _ (by decide)
  have hp60 : M % 60 < 60 := Nat.mod_lt _ (by decide)
  generalize hlp : N % 40 = lp at *
  generalize hpg : M % 60 = pg at *
  clear hlp hpg
  go_enter Try.func3, Try.ntmps3
  go_wp2_with (go_at_call 8; (with_reducible refine ha.out.mono ?_); clear ha; rintro e w1 ⟨rfl, hB1⟩; have bx1 := Lib.hid (bx.out.below hB1); replace hB1 := Lib.hid (We.below_trans hBb.out hB1); clear bx)
  refine Cl.region_way (fun _ => True) 9 [(0, .r), (1, .r), (2, .r), (3, .r), (4, .r), (5, .r), (6, .r), (7, .r), (8, .r), (9, .z)] (by kernel_rfl) (by kernel_rfl) ?_
  intro w2 hk2
  have hB2 := Lib.hid (We.below_trans hB1.out hk2.below)
  have t0 : ∀ y : Cl.Since (fun _ => True) w2, y.w.cell? ⟨w.heap.size, 0, none⟩ = some (.int .u8 (N : Int)) := fun y => ((bx1.out.below hk2.below).below y.keeps.below).cell (i := 0) (by decide)
  have t1 : ∀ y : Cl.Since (fun _ => True) w2, y.w.cell? ⟨w.heap.size, 1, none⟩ = some (.int .u8 (M : Int)) := fun y => ((bx1.out.below hk2.below).below y.keeps.below).cell (i := 1) (by decide)
  clear hk2 hB1 bx1
  iterate 9 (refine Cl.way_r rfl ?_; go_big_quiet_step (fail); refine wpQuiet_nil ?_)
  refine Cl.way_z rfl ?_
  clear t0 t1
  go_wp2_with fail
  refine Cl.Calm.normal ?_
  rw [f1, f2]
  clear f1 f2
  have hnew := Lib.hid (new_any lp pg (by omega) (by omega) w2)
  go_wp2_with (go_at_call 9; (with_reducible refine hnew.out.mono ?_); clear hnew; rintro e w3 ⟨K, rfl, hB3, m3⟩; have hs3 := Lib.hid hB3.size; replace m3 := Lib.hid m3; have hlo := Lib.hid hB2.out.size; replace hB3 := Lib.hid (We.below_trans hB2.out hB3); clear hB2)
  have hnew := Lib.hid (refnew_any lp pg (by omega) w3)
  go_wp2_with (go_at_call 10; (with_reducible refine hnew.out.mono ?_); clear hnew; rintro e w4 ⟨g, h, RA, rc, rfl, hB4, hg, hh, r4⟩; have m4 := Lib.hid (m3.out.below hB4); replace hB4 := Lib.hid (We.below_trans hB3.out hB4); replace hg := Lib.hid hg; replace hh := Lib.hid hh; replace r4 := Lib.hid r4; clear m3 hB3)
  have hml : Hid (∀ b, w2.heap.size ≤ b → b < w3.heap.size → b ≠ h) := Lib.hid fun b _ h2 => by have := hh.out; omega
  have hwh : Hid (w.heap.size ≤ h) := Lib.hid (by have := hlo.out; have := hg.out; have := hh.out; have := hs3.out; omega)
  generalize w3.heap.size = hi at *
  generalize w2.heap.size = lo at *
  go_loopw [10] (fun p wr => ∃ (i : Nat) (f : Nat → Int), p = .int .i64 (i : Int) ∧ i ≤ n ∧ Hid (PM wr lo hi K lp pg f) ∧ Hid (RM wr g h RA rc lp pg f) ∧ Hid (Below w.heap.size w wr)) (fun p _ => n - (intOf p).toNat)
  case atStart => exact ⟨0, _, rfl, Nat.zero_le _, m4, r4, hB4⟩
  case round =>
    obtain ⟨i, f, rfl, hi', m, r, hB⟩ := hrel
    clear m4 r4 hB4
    by_cases hin : i < n
    · obtain ⟨a, rfl, hab, c0, c1, c2⟩ := (H.out.below hB.out).at_ hin
      have hwf := H.out.1 i
      have hinI : (i : Int) < (n : Int) := by omega
      have d1 : decide ((i : Int) < (n : Int)) = true := decide_eq_true hinI
      obtain ⟨⟨D, A, B⟩, hq⟩ : ∃ q, qd i = q := ⟨_, rfl⟩
      rw [hq] at c0 c1 c2 hwf
      simp only at c0 c1 c2 hwf
      clear hq
      go_upto_region 14 with fail
      have pd := Lib.hid (PV.new wr 32 #[.int .i64 D, .int .i64 A, .int .i64 B] 3 (dF D A B) fun i hi => by
        match i, hi with
        | 0, _ => rfl
        | 1, _ => rfl
        | 2, _ => rfl)
      have m4 := Lib.hid (m.out.below (We.below_alloc wr (.cells #[.int .i64 D, .int .i64 A, .int .i64 B] 32)))
      have r4 := Lib.hid (r.out.below (We.below_alloc wr (.cells #[.int .i64 D, .int .i64 A, .int .i64 B] 32)))
      have hB4 := Lib.hid (We.below_trans hB.out (We.below_alloc wr (.cells #[.int .i64 D, .int .i64 A, .int .i64 B] 32)))
      have hdg := Lib.hid (show hi ≤ wr.heap.size from by have := r.out.box.lt; have := hg.out; omega)
      have hdh := Lib.hid (show 0 < lp → wr.heap.size ≠ h from fun hp e => by have := (r.out.row hp).2.lt; omega)
      have hA64 : A ≤ 9223372036854775807 := i64_range hwf.2.1
      clear m r hB c0 c1 c2 hwf
      generalize wr.alloc (.cells #[.int .i64 D, .int .i64 A, .int .i64 B] 32) = w4 at *
      generalize wr.heap.size = gd at *
      have e0 : w4.cell? ⟨gd, 0, none⟩ = some (.int .i64 D) := pd.out.cell (i := 0) (by decide)
      have e1 : w4.cell? ⟨gd, 1, none⟩ = some (.int .i64 A) := pd.out.cell (i := 1) (by decide)
      have e2 : w4.cell? ⟨gd, 2, none⟩ = some (.int .i64 B) := pd.out.cell (i := 2) (by decide)
      have hD : D = 0 ∨ D = 1 ∨ D = 2 ∨ D = 3 ∨ D = 4 ∨ D = 5 ∨ D = 6 ∨ D = 7 ∨ ((D == 0) = false ∧ (D == 1) = false ∧ (D == 2) = false ∧ (D == 3) = false ∧ (D == 4) = false ∧ (D == 5) = false ∧ (D == 6) = false ∧ (D == 7) = false) := by
        simp only [beq_eq_false_iff_ne]; omega
      rcases hD with rfl | rfl | rfl | rfl | rfl | rfl | rfl | rfl | ⟨D0, D1, D2, D3, D4, D5, D6, D7⟩
      · as_aux_lemma =>
          obtain ⟨F, hF⟩ : ∃ F, (putM lp pg f A B).2.2 = F := ⟨_, rfl⟩
          obtain ⟨X, hX⟩ : ∃ X, (putM lp pg f A B).1 = X := ⟨_, rfl⟩
          obtain ⟨Y, hY⟩ : ∃ Y, (putM lp pg f A B).2.1 = Y := ⟨_, rfl⟩
          have hc := Lib.hid (put_any w4 m4.out A B)
          have hr := Lib.hid (fun w r => refput_any (g := g) (h := h) (c := rc) (A := RA) (lp := lp) (pg := pg) (f := f) w r A B)
          unfold putV at hc hr
          rw [hF, hX, hY] at hc hr
          clear hF hX hY
          go_wp2_with (go_at_call 11; (with_reducible refine hc.out.mono ?_); clear hc; rintro e w5 ⟨rfl, k5, m5⟩; have r5 := Lib.hid (r4.out.out k5 hg.out hh.out); have pd5 := Lib.hid (PV.out pd.out k5 hdg.out); have hB5 := Lib.hid (below_out hB4.out hlo.out k5); replace m5 := Lib.hid m5; clear k5 m4 r4 hB4 pd e0 e1 e2; have e1 : w5.cell? ⟨gd, 1, none⟩ = some (.int .i64 A) := pd5.out.cell (i := 1) (by decide); have e2 : w5.cell? ⟨gd, 2, none⟩ = some (.int .i64 B) := pd5.out.cell (i := 2) (by decide))
          go_wp2_with (go_at_call 12; (with_reducible refine (hr.out _ r5.out).mono ?_); clear hr; rintro e w6 ⟨rfl, k6, r6⟩; have m6 := Lib.hid (m5.out.keeps k6 hml.out); have hB6 := Lib.hid (below_keeps hB5.out hwh.out k6); replace r6 := Lib.hid r6; clear k6 m5 r5 hB5 pd5 e1 e2)

          go_wp2_with fail
          go_loopw [30, 31] (fun p1 q1 wq => ∃ j : Nat, p1 = .int .i64 ((pc (fun i => decide (0 ≤ F i)) j : Nat) : Int) ∧ q1 = .int .i64 (j : Int) ∧ j ≤ lp ∧ w6 = wq) (fun _ q1 _ => lp - (intOf q1).toNat)
          case atStart => exact ⟨0, rfl, rfl, Nat.zero_le _, rfl⟩
          case round =>
            obtain ⟨j, rfl, rfl, hj, rfl⟩ := hrel
            have hsu := pc_succ (fun i => decide (0 ≤ F i)) j
            obtain ⟨S, hS⟩ : ∃ S, pc (fun i => decide (0 ≤ F i)) j = S := ⟨_, rfl⟩
            have hSl : S ≤ j := by rw [← hS]; exact pc_le _ _
            rw [hS] at hsu ⊢
            by_cases hjl : j < lp
            · have d2 : decide ((j : Int) < (lp : Int)) = true := decide_eq_true (by omega)
              have hjI : (j : Int) < (lp : Int) := by omega
              obtain ⟨rfl, cj⟩ := r6.out.at_ hjl
              have cb := r6.out.c0
              replace hS := Lib.hid hS
              obtain ⟨V, hV⟩ : ∃ V, F j = V := ⟨_, rfl⟩
              rw [hV] at cj hsu
              cases h0 : decide (0 ≤ V)
              · rw [h0] at hsu
                replace hsu := Lib.hid hsu
                replace hV := Lib.hid hV
                go_wp2_with fail
                go_roundw
                case rel => exact ⟨j + 1, by rw [hsu.out]; rfl, by go_num, by omega, by first | rfl | trivial⟩
                case measure => simp [intOf] <;> omega
              · rw [h0] at hsu
                replace hsu := Lib.hid hsu
                replace hV := Lib.hid hV
                go_wp2_with fail
                go_roundw
                case rel => exact ⟨j + 1, by rw [hsu.out]; rfl, by go_num, by omega, by first | rfl | trivial⟩
                case measure => simp [intOf] <;> omega
            · have hje : j = lp := by omega
              have d2 : decide ((j : Int) < (lp : Int)) = false := decide_eq_false (by omega)
              have hc := many_any w6 m6.out
              rw [show pc (fun i => decide (0 ≤ F i)) lp = S by rw [← hS, hje]] at hc
              replace hc := Lib.hid hc
              replace hje := Lib.hid hje
              replace hS := Lib.hid hS
              replace hsu := Lib.hid hsu
              go_wp2_with (go_at_call 19; (with_reducible refine hc.out.mono ?_); clear hc; rintro e w20 ⟨rfl, b20⟩; have r20 := Lib.hid (r6.out.below b20); have m20 := Lib.hid (m6.out.below b20); have B20 := Lib.hid (We.below_trans hB6.out b20))
              go_roundw
              case rel => exact ⟨i + 1, F, by go_num, by omega, m20, r20, B20⟩
              case measure => simp [intOf] <;> omega
      · as_aux_lemma =>
          obtain ⟨F, hF⟩ : ∃ F, (putM lp pg f A B).2.2 = F := ⟨_, rfl⟩
          obtain ⟨X, hX⟩ : ∃ X, (putM lp pg f A B).1 = X := ⟨_, rfl⟩
          obtain ⟨Y, hY⟩ : ∃ Y, (putM lp pg f A B).2.1 = Y := ⟨_, rfl⟩
          have hc := Lib.hid (put_any w4 m4.out A B)
          have hr := Lib.hid (fun w r => refput_any (g := g) (h := h) (c := rc) (A := RA) (lp := lp) (pg := pg) (f := f) w r A B)
          unfold putV at hc hr
          rw [hF, hX, hY] at hc hr
          clear hF hX hY
          go_wp2_with (go_at_call 11; (with_reducible refine hc.out.mono ?_); clear hc; rintro e w5 ⟨rfl, k5, m5⟩; have r5 := Lib.hid (r4.out.out k5 hg.out hh.out); have pd5 := Lib.hid (PV.out pd.out k5 hdg.out); have hB5 := Lib.hid (below_out hB4.out hlo.out k5); replace m5 := Lib.hid m5; clear k5 m4 r4 hB4 pd e0 e1 e2; have e1 : w5.cell? ⟨gd, 1, none⟩ = some (.int .i64 A) := pd5.out.cell (i := 1) (by decide); have e2 : w5.cell? ⟨gd, 2, none⟩ = some (.int .i64 B) := pd5.out.cell (i := 2) (by decide))
          go_wp2_with (go_at_call 12; (with_reducible refine (hr.out _ r5.out).mono ?_); clear hr; rintro e w6 ⟨rfl, k6, r6⟩; have m6 := Lib.hid (m5.out.keeps k6 hml.out); have hB6 := Lib.hid (below_keeps hB5.out hwh.out k6); replace r6 := Lib.hid r6; clear k6 m5 r5 hB5 pd5 e1 e2)

          go_wp2_with fail
          go_loopw [30, 31] (fun p1 q1 wq => ∃ j : Nat, p1 = .int .i64 ((pc (fun i => decide (0 ≤ F i)) j : Nat) : Int) ∧ q1 = .int .i64 (j : Int) ∧ j ≤ lp ∧ w6 = wq) (fun _ q1 _ => lp - (intOf q1).toNat)
          case atStart => exact ⟨0, rfl, rfl, Nat.zero_le _, rfl⟩
          case round =>
            obtain ⟨j, rfl, rfl, hj, rfl⟩ := hrel
            have hsu := pc_succ (fun i => decide (0 ≤ F i)) j
            obtain ⟨S, hS⟩ : ∃ S, pc (fun i => decide (0 ≤ F i)) j = S := ⟨_, rfl⟩
            have hSl : S ≤ j := by rw [← hS]; exact pc_le _ _
            rw [hS] at hsu ⊢
            by_cases hjl : j < lp
            · have d2 : decide ((j : Int) < (lp : Int)) = true := decide_eq_true (by omega)
              have hjI : (j : Int) < (lp : Int) := by omega
              obtain ⟨rfl, cj⟩ := r6.out.at_ hjl
              have cb := r6.out.c0
              replace hS := Lib.hid hS
              obtain ⟨V, hV⟩ : ∃ V, F j = V := ⟨_, rfl⟩
              rw [hV] at cj hsu
              cases h0 : decide (0 ≤ V)
              · rw [h0] at hsu
                replace hsu := Lib.hid hsu
                replace hV := Lib.hid hV
                go_wp2_with fail
                go_roundw
                case rel => exact ⟨j + 1, by rw [hsu.out]; rfl, by go_num, by omega, by first | rfl | trivial⟩
                case measure => simp [intOf] <;> omega
              · rw [h0] at hsu
                replace hsu := Lib.hid hsu
                replace hV := Lib.hid hV
                go_wp2_with fail
                go_roundw
                case rel => exact ⟨j + 1, by rw [hsu.out]; rfl, by go_num, by omega, by first | rfl | trivial⟩
                case measure => simp [intOf] <;> omega
            · have hje : j = lp := by omega
              have d2 : decide ((j : Int) < (lp : Int)) = false := decide_eq_false (by omega)
              have hc := many_any w6 m6.out
              rw [show pc (fun i => decide (0 ≤ F i)) lp = S by rw [← hS, hje]] at hc
              replace hc := Lib.hid hc
              replace hje := Lib.hid hje
              replace hS := Lib.hid hS
              replace hsu := Lib.hid hsu
              go_wp2_with (go_at_call 19; (with_reducible refine hc.out.mono ?_); clear hc; rintro e w20 ⟨rfl, b20⟩; have r20 := Lib.hid (r6.out.below b20); have m20 := Lib.hid (m6.out.below b20); have B20 := Lib.hid (We.below_trans hB6.out b20))
              go_roundw
              case rel => exact ⟨i + 1, F, by go_num, by omega, m20, r20, B20⟩
              case measure => simp [intOf] <;> omega
      · as_aux_lemma =>
          obtain ⟨F, hF⟩ : ∃ F, (putM lp pg f A B).2.2 = F := ⟨_, rfl⟩
          obtain ⟨X, hX⟩ : ∃ X, (putM lp pg f A B).1 = X := ⟨_, rfl⟩
          obtain ⟨Y, hY⟩ : ∃ Y, (putM lp pg f A B).2.1 = Y := ⟨_, rfl⟩
          have hc := Lib.hid (put_any w4 m4.out A B)
          have hr := Lib.hid (fun w r => refput_any (g := g) (h := h) (c := rc) (A := RA) (lp := lp) (pg := pg) (f := f) w r A B)
          unfold putV at hc hr
          rw [hF, hX, hY] at hc hr
          clear hF hX hY
          go_wp2_with (go_at_call 11; (with_reducible refine hc.out.mono ?_); clear hc; rintro e w5 ⟨rfl, k5, m5⟩; have r5 := Lib.hid (r4.out.out k5 hg.out hh.out); have pd5 := Lib.hid (PV.out pd.out k5 hdg.out); have hB5 := Lib.hid (below_out hB4.out hlo.out k5); replace m5 := Lib.hid m5; clear k5 m4 r4 hB4 pd e0 e1 e2; have e1 : w5.cell? ⟨gd, 1, none⟩ = some (.int .i64 A) := pd5.out.cell (i := 1) (by decide); have e2 : w5.cell? ⟨gd, 2, none⟩ = some (.int .i64 B) := pd5.out.cell (i := 2) (by decide))
          go_wp2_with (go_at_call 12; (with_reducible refine (hr.out _ r5.out).mono ?_); clear hr; rintro e w6 ⟨rfl, k6, r6⟩; have m6 := Lib.hid (m5.out.keeps k6 hml.out); have hB6 := Lib.hid (below_keeps hB5.out hwh.out k6); replace r6 := Lib.hid r6; clear k6 m5 r5 hB5 pd5 e1 e2)

          go_wp2_with fail
          go_loopw [30, 31] (fun p1 q1 wq => ∃ j : Nat, p1 = .int .i64 ((pc (fun i => decide (0 ≤ F i)) j : Nat) : Int) ∧ q1 = .int .i64 (j : Int) ∧ j ≤ lp ∧ w6 = wq) (fun _ q1 _ => lp - (intOf q1).toNat)
          case atStart => exact ⟨0, rfl, rfl, Nat.zero_le _, rfl⟩
          case round =>
            obtain ⟨j, rfl, rfl, hj, rfl⟩ := hrel
            have hsu := pc_succ (fun i => decide (0 ≤ F i)) j
            obtain ⟨S, hS⟩ : ∃ S, pc (fun i => decide (0 ≤ F i)) j = S := ⟨_, rfl⟩
            have hSl : S ≤ j := by rw [← hS]; exact pc_le _ _
            rw [hS] at hsu ⊢
            by_cases hjl : j < lp
            · have d2 : decide ((j : Int) < (lp : Int)) = true := decide_eq_true (by omega)
              have hjI : (j : Int) < (lp : Int) := by omega
              obtain ⟨rfl, cj⟩ := r6.out.at_ hjl
              have cb := r6.out.c0
              replace hS := Lib.hid hS
              obtain ⟨V, hV⟩ : ∃ V, F j = V := ⟨_, rfl⟩
              rw [hV] at cj hsu
              cases h0 : decide (0 ≤ V)
              · rw [h0] at hsu
                replace hsu := Lib.hid hsu
                replace hV := Lib.hid hV
                go_wp2_with fail
                go_roundw
                case rel => exact ⟨j + 1, by rw [hsu.out]; rfl, by go_num, by omega, by first | rfl | trivial⟩
                case measure => simp [intOf] <;> omega
              · rw [h0] at hsu
                replace hsu := Lib.hid hsu
                replace hV := Lib.hid hV
                go_wp2_with fail
                go_roundw
                case rel => exact ⟨j + 1, by rw [hsu.out]; rfl, by go_num, by omega, by first | rfl | trivial⟩
                case measure => simp [intOf] <;> omega
            · have hje : j = lp := by omega
              have d2 : decide ((j : Int) < (lp : Int)) = false := decide_eq_false (by omega)
              have hc := many_any w6 m6.out
              rw [show pc (fun i => decide (0 ≤ F i)) lp = S by rw [← hS, hje]] at hc
              replace hc := Lib.hid hc
              replace hje := Lib.hid hje
              replace hS := Lib.hid hS
              replace hsu := Lib.hid hsu
              go_wp2_with (go_at_call 19; (with_reducible refine hc.out.mono ?_); clear hc; rintro e w20 ⟨rfl, b20⟩; have r20 := Lib.hid (r6.out.below b20); have m20 := Lib.hid (m6.out.below b20); have B20 := Lib.hid (We.below_trans hB6.out b20))
              go_roundw
              case rel => exact ⟨i + 1, F, by go_num, by omega, m20, r20, B20⟩
              case measure => simp [intOf] <;> omega
      · as_aux_lemma =>
          obtain ⟨F, hF⟩ : ∃ F, (putM lp pg f A B).2.2 = F := ⟨_, rfl⟩
          obtain ⟨X, hX⟩ : ∃ X, (putM lp pg f A B).1 = X := ⟨_, rfl⟩
          obtain ⟨Y, hY⟩ : ∃ Y, (putM lp pg f A B).2.1 = Y := ⟨_, rfl⟩
          have hc := Lib.hid (put_any w4 m4.out A B)
          have hr := Lib.hid (fun w r => refput_any (g := g) (h := h) (c := rc) (A := RA) (lp := lp) (pg := pg) (f := f) w r A B)
          unfold putV at hc hr
          rw [hF, hX, hY] at hc hr
          clear hF hX hY
          go_wp2_with (go_at_call 11; (with_reducible refine hc.out.mono ?_); clear hc; rintro e w5 ⟨rfl, k5, m5⟩; have r5 := Lib.hid (r4.out.out k5 hg.out hh.out); have pd5 := Lib.hid (PV.out pd.out k5 hdg.out); have hB5 := Lib.hid (below_out hB4.out hlo.out k5); replace m5 := Lib.hid m5; clear k5 m4 r4 hB4 pd e0 e1 e2; have e1 : w5.cell? ⟨gd, 1, none⟩ = some (.int .i64 A) := pd5.out.cell (i := 1) (by decide); have e2 : w5.cell? ⟨gd, 2, none⟩ = some (.int .i64 B) := pd5.out.cell (i := 2) (by decide))
          go_wp2_with (go_at_call 12; (with_reducible refine (hr.out _ r5.out).mono ?_); clear hr; rintro e w6 ⟨rfl, k6, r6⟩; have m6 := Lib.hid (m5.out.keeps k6 hml.out); have hB6 := Lib.hid (below_keeps hB5.out hwh.out k6); replace r6 := Lib.hid r6; clear k6 m5 r5 hB5 pd5 e1 e2)

          go_wp2_with fail
          go_loopw [30, 31] (fun p1 q1 wq => ∃ j : Nat, p1 = .int .i64 ((pc (fun i => decide (0 ≤ F i)) j : Nat) : Int) ∧ q1 = .int .i64 (j : Int) ∧ j ≤ lp ∧ w6 = wq) (fun _ q1 _ => lp - (intOf q1).toNat)
          case atStart => exact ⟨0, rfl, rfl, Nat.zero_le _, rfl⟩
          case round =>
            obtain ⟨j, rfl, rfl, hj, rfl⟩ := hrel
            have hsu := pc_succ (fun i => decide (0 ≤ F i)) j
            obtain ⟨S, hS⟩ : ∃ S, pc (fun i => decide (0 ≤ F i)) j = S := ⟨_, rfl⟩
            have hSl : S ≤ j := by rw [← hS]; exact pc_le _ _
            rw [hS] at hsu ⊢
            by_cases hjl : j < lp
            · have d2 : decide ((j : Int) < (lp : Int)) = true := decide_eq_true (by omega)
              have hjI : (j : Int) < (lp : Int) := by omega
              obtain ⟨rfl, cj⟩ := r6.out.at_ hjl
              have cb := r6.out.c0
              replace hS := Lib.hid hS
              obtain ⟨V, hV⟩ : ∃ V, F j = V := ⟨_, rfl⟩
              rw [hV] at cj hsu
              cases h0 : decide (0 ≤ V)
              · rw [h0] at hsu
                replace hsu := Lib.hid hsu
                replace hV := Lib.hid hV
                go_wp2_with fail
                go_roundw
                case rel => exact ⟨j + 1, by rw [hsu.out]; rfl, by go_num, by omega, by first | rfl | trivial⟩
                case measure => simp [intOf] <;> omega
              · rw [h0] at hsu
                replace hsu := Lib.hid hsu
                replace hV := Lib.hid hV
                go_wp2_with fail
                go_roundw
                case rel => exact ⟨j + 1, by rw [hsu.out]; rfl, by go_num, by omega, by first | rfl | trivial⟩
                case measure => simp [intOf] <;> omega
            · have hje : j = lp := by omega
              have d2 : decide ((j : Int) < (lp : Int)) = false := decide_eq_false (by omega)
              have hc := many_any w6 m6.out
              rw [show pc (fun i => decide (0 ≤ F i)) lp = S by rw [← hS, hje]] at hc
              replace hc := Lib.hid hc
              replace hje := Lib.hid hje
              replace hS := Lib.hid hS
              replace hsu := Lib.hid hsu
              go_wp2_with (go_at_call 19; (with_reducible refine hc.out.mono ?_); clear hc; rintro e w20 ⟨rfl, b20⟩; have r20 := Lib.hid (r6.out.below b20); have m20 := Lib.hid (m6.out.below b20); have B20 := Lib.hid (We.below_trans hB6.out b20))
              go_roundw
              case rel => exact ⟨i + 1, F, by go_num, by omega, m20, r20, B20⟩
              case measure => simp [intOf] <;> omega
      · as_aux_lemma =>
          rcases tests (n := lp) (a := A) with ⟨s1, s2⟩ | ⟨s1, s2, s3⟩ | ⟨p, rfl, hp, s1, s2, s3⟩
          · have A0 : decide (0 ≤ A) = false := decide_eq_false (by have := of_decide_eq_true s1; omega)
            have hgm : getM f lp A = (0, false) := by unfold getM; rw [s2]; rfl
            clear s1 s2
            have hc := get_any w4 m4.out A
            rw [hgm] at hc
            unfold getV at hc
            replace hc := Lib.hid hc
            clear hgm
            go_wp2_with (go_at_call 13; (with_reducible refine hc.out.mono ?_); clear hc; rintro e w5 ⟨rfl, b5⟩; have r5 := Lib.hid (r4.out.below b5); have pd5 := Lib.hid (pd.out.below b5); have hB5 := Lib.hid (We.below_trans hB4.out b5); have m5 := Lib.hid (m4.out.below b5); clear b5 m4 r4 hB4 pd e0 e1 e2)
            refine Cl.region_way (fun _ => True) 20 [(0, .r), (1, .r), (2, .r), (3, .r), (4, .r), (5, .r), (6, .r), (7, .r), (8, .r), (9, .r), (10, .r), (11, .r), (12, .r), (13, .r), (14, .r), (15, .r), (16, .r), (17, .r), (18, .r), (19, .r), (20, .z)] (by kernel_rfl) (by kernel_rfl) ?_
            intro w6 hk6
            have q0 : ∀ y : Cl.Since (fun _ => True) w6, y.w.cell? ⟨g, 0, none⟩ = some (.slice RA lp rc) := fun y => ((r5.out.below hk6.below).below y.keeps.below).c0
            have q2 : ∀ y : Cl.Since (fun _ => True) w6, y.w.cell? ⟨gd, 1, none⟩ = some (.int .i64 A) := fun y => ((pd5.out.below hk6.below).below y.keeps.below).cell (i := 1) (by decide)
            have m6 := Lib.hid (m5.out.below hk6.below)
            have r6 := Lib.hid (r5.out.below hk6.below)
            have pd6 := Lib.hid (pd5.out.below hk6.below)
            have hB6 := Lib.hid (We.below_trans hB5.out hk6.below)
            clear hk6 m5 r5 pd5 hB5
            iterate 20 (with_reducible refine (no_implicit_lambda% (Cl.way_r rfl ?_)); go_big_quiet_step (fail); with_reducible refine (no_implicit_lambda% (wpQuiet_nil ?_)))
            with_reducible refine (no_implicit_lambda% (Cl.way_z rfl ?_))
            clear q0 q2
            go_wp2_with fail
            refine Cl.Calm.normal ?_
            go_wp2_with fail
            refine Cl.region_way (fun _ => True) 26 [(0, .r), (1, .r), (2, .r), (3, .r), (4, .r), (5, .r), (6, .r), (7, .r), (8, .r), (9, .r), (10, .r), (11, .r), (12, .r), (13, .r), (14, .r), (15, .r), (16, .r), (17, .r), (18, .r), (19, .r), (20, .r), (21, .r), (22, .r), (23, .r), (24, .r), (25, .r), (26, .z)] (by kernel_rfl) (by kernel_rfl) ?_
            intro w7 hk7
            have q0 : ∀ y : Cl.Since (fun _ => True) w7, y.w.cell? ⟨g, 0, none⟩ = some (.slice RA lp rc) := fun y => ((r6.out.below hk7.below).below y.keeps.below).c0
            have q2 : ∀ y : Cl.Since (fun _ => True) w7, y.w.cell? ⟨gd, 1, none⟩ = some (.int .i64 A) := fun y => ((pd6.out.below hk7.below).below y.keeps.below).cell (i := 1) (by decide)
            have m7 := Lib.hid (m6.out.below hk7.below)
            have r7 := Lib.hid (r6.out.below hk7.below)
            have hB7 := Lib.hid (We.below_trans hB6.out hk7.below)
            clear hk7 m6 r6 pd6 hB6
            iterate 26 (with_reducible refine (no_implicit_lambda% (Cl.way_r rfl ?_)); go_big_quiet_step (fail); with_reducible refine (no_implicit_lambda% (wpQuiet_nil ?_)))
            with_reducible refine (no_implicit_lambda% (Cl.way_z rfl ?_))
            clear q0 q2
            go_wp2_with fail
            refine Cl.Calm.normal ?_

            go_wp2_with fail
            go_loopw [30, 31] (fun p1 q1 wq => ∃ j : Nat, p1 = .int .i64 ((pc (fun i => decide (0 ≤ f i)) j : Nat) : Int) ∧ q1 = .int .i64 (j : Int) ∧ j ≤ lp ∧ w7 = wq) (fun _ q1 _ => lp - (intOf q1).toNat)
            case atStart => exact ⟨0, rfl, rfl, Nat.zero_le _, rfl⟩
            case round =>
              obtain ⟨j, rfl, rfl, hj, rfl⟩ := hrel
              have hsu := pc_succ (fun i => decide (0 ≤ f i)) j
              obtain ⟨S, hS⟩ : ∃ S, pc (fun i => decide (0 ≤ f i)) j = S := ⟨_, rfl⟩
              have hSl : S ≤ j := by rw [← hS]; exact pc_le _ _
              rw [hS] at hsu ⊢
              by_cases hjl : j < lp
              · have d2 : decide ((j : Int) < (lp : Int)) = true := decide_eq_true (by omega)
                have hjI : (j : Int) < (lp : Int) := by omega
                obtain ⟨rfl, cj⟩ := r7.out.at_ hjl
                have cb := r7.out.c0
                replace hS := Lib.hid hS
                obtain ⟨V, hV⟩ : ∃ V, f j = V := ⟨_, rfl⟩
                rw [hV] at cj hsu
                cases h0 : decide (0 ≤ V)
                · rw [h0] at hsu
                  replace hsu := Lib.hid hsu
                  replace hV := Lib.hid hV
                  go_wp2_with fail
                  go_roundw
                  case rel => exact ⟨j + 1, by rw [hsu.out]; rfl, by go_num, by omega, by first | rfl | trivial⟩
                  case measure => simp [intOf] <;> omega
                · rw [h0] at hsu
                  replace hsu := Lib.hid hsu
                  replace hV := Lib.hid hV
                  go_wp2_with fail
                  go_roundw
                  case rel => exact ⟨j + 1, by rw [hsu.out]; rfl, by go_num, by omega, by first | rfl | trivial⟩
                  case measure => simp [intOf] <;> omega
              · have hje : j = lp := by omega
                have d2 : decide ((j : Int) < (lp : Int)) = false := decide_eq_false (by omega)
                have hc := many_any w7 m7.out
                rw [show pc (fun i => decide (0 ≤ f i)) lp = S by rw [← hS, hje]] at hc
                replace hc := Lib.hid hc
                replace hje := Lib.hid hje
                replace hS := Lib.hid hS
                replace hsu := Lib.hid hsu
                go_wp2_with (go_at_call 19; (with_reducible refine hc.out.mono ?_); clear hc; rintro e w20 ⟨rfl, b20⟩; have r20 := Lib.hid (r7.out.below b20); have m20 := Lib.hid (m7.out.below b20); have B20 := Lib.hid (We.below_trans hB7.out b20))
                go_roundw
                case rel => exact ⟨i + 1, f, by go_num, by omega, m20, r20, B20⟩
                case measure => simp [intOf] <;> omega

          · have A0 : decide (0 ≤ A) = true := decide_eq_true (by have := of_decide_eq_false s1; omega)
            have A1 : decide (A < (lp : Int)) = false := decide_eq_false (by have := of_decide_eq_true s2; omega)
            have hgm : getM f lp A = (0, false) := by unfold getM; rw [s3]; rfl
            clear s1 s2 s3
            have hc := get_any w4 m4.out A
            rw [hgm] at hc
            unfold getV at hc
            replace hc := Lib.hid hc
            clear hgm
            go_wp2_with (go_at_call 13; (with_reducible refine hc.out.mono ?_); clear hc; rintro e w5 ⟨rfl, b5⟩; have r5 := Lib.hid (r4.out.below b5); have pd5 := Lib.hid (pd.out.below b5); have hB5 := Lib.hid (We.below_trans hB4.out b5); have m5 := Lib.hid (m4.out.below b5); clear b5 m4 r4 hB4 pd e0 e1 e2)
            refine Cl.region_way (fun _ => True) 20 [(0, .r), (1, .r), (2, .r), (3, .r), (4, .r), (5, .r), (6, .r), (7, .r), (8, .r), (9, .r), (10, .r), (11, .r), (12, .r), (13, .r), (14, .r), (15, .r), (16, .r), (17, .r), (18, .r), (19, .r), (20, .z)] (by kernel_rfl) (by kernel_rfl) ?_
            intro w6 hk6
            have q0 : ∀ y : Cl.Since (fun _ => True) w6, y.w.cell? ⟨g, 0, none⟩ = some (.slice RA lp rc) := fun y => ((r5.out.below hk6.below).below y.keeps.below).c0
            have q2 : ∀ y : Cl.Since (fun _ => True) w6, y.w.cell? ⟨gd, 1, none⟩ = some (.int .i64 A) := fun y => ((pd5.out.below hk6.below).below y.keeps.below).cell (i := 1) (by decide)
            have m6 := Lib.hid (m5.out.below hk6.below)
            have r6 := Lib.hid (r5.out.below hk6.below)
            have pd6 := Lib.hid (pd5.out.below hk6.below)
            have hB6 := Lib.hid (We.below_trans hB5.out hk6.below)
            clear hk6 m5 r5 pd5 hB5
            iterate 20 (with_reducible refine (no_implicit_lambda% (Cl.way_r rfl ?_)); go_big_quiet_step (fail); with_reducible refine (no_implicit_lambda% (wpQuiet_nil ?_)))
            with_reducible refine (no_implicit_lambda% (Cl.way_z rfl ?_))
            clear q0 q2
            go_wp2_with fail
            refine Cl.Calm.normal ?_
            go_wp2_with fail
            refine Cl.region_way (fun _ => True) 26 [(0, .r), (1, .r), (2, .r), (3, .r), (4, .r), (5, .r), (6, .r), (7, .r), (8, .r), (9, .r), (10, .r), (11, .r), (12, .r), (13, .r), (14, .r), (15, .r), (16, .r), (17, .r), (18, .r), (19, .r), (20, .r), (21, .r), (22, .r), (23, .r), (24, .r), (25, .r), (26, .z)] (by kernel_rfl) (by kernel_rfl) ?_
            intro w7 hk7
            have q0 : ∀ y : Cl.Since (fun _ => True) w7, y.w.cell? ⟨g, 0, none⟩ = some (.slice RA lp rc) := fun y => ((r6.out.below hk7.below).below y.keeps.below).c0
            have q2 : ∀ y : Cl.Since (fun _ => True) w7, y.w.cell? ⟨gd, 1, none⟩ = some (.int .i64 A) := fun y => ((pd6.out.below hk7.below).below y.keeps.below).cell (i := 1) (by decide)
            have m7 := Lib.hid (m6.out.below hk7.below)
            have r7 := Lib.hid (r6.out.below hk7.below)
            have hB7 := Lib.hid (We.below_trans hB6.out hk7.below)
            clear hk7 m6 r6 pd6 hB6
            iterate 26 (with_reducible refine (no_implicit_lambda% (Cl.way_r rfl ?_)); go_big_quiet_step (fail); with_reducible refine (no_implicit_lambda% (wpQuiet_nil ?_)))
            with_reducible refine (no_implicit_lambda% (Cl.way_z rfl ?_))
            clear q0 q2
            go_wp2_with fail
            refine Cl.Calm.normal ?_

            go_wp2_with fail
            go_loopw [30, 31] (fun p1 q1 wq => ∃ j : Nat, p1 = .int .i64 ((pc (fun i => decide (0 ≤ f i)) j : Nat) : Int) ∧ q1 = .int .i64 (j : Int) ∧ j ≤ lp ∧ w7 = wq) (fun _ q1 _ => lp - (intOf q1).toNat)
            case atStart => exact ⟨0, rfl, rfl, Nat.zero_le _, rfl⟩
            case round =>
              obtain ⟨j, rfl, rfl, hj, rfl⟩ := hrel
              have hsu := pc_succ (fun i => decide (0 ≤ f i)) j
              obtain ⟨S, hS⟩ : ∃ S, pc (fun i => decide (0 ≤ f i)) j = S := ⟨_, rfl⟩
              have hSl : S ≤ j := by rw [← hS]; exact pc_le _ _
              rw [hS] at hsu ⊢
              by_cases hjl : j < lp
              · have d2 : decide ((j : Int) < (lp : Int)) = true := decide_eq_true (by omega)
                have hjI : (j : Int) < (lp : Int) := by omega
                obtain ⟨rfl, cj⟩ := r7.out.at_ hjl
                have cb := r7.out.c0
                replace hS := Lib.hid hS
                obtain ⟨V, hV⟩ : ∃ V, f j = V := ⟨_, rfl⟩
                rw [hV] at cj hsu
                cases h0 : decide (0 ≤ V)
                · rw [h0] at hsu
                  replace hsu := Lib.hid hsu
                  replace hV := Lib.hid hV
                  go_wp2_with fail
                  go_roundw
                  case rel => exact ⟨j + 1, by rw [hsu.out]; rfl, by go_num, by omega, by first | rfl | trivial⟩
                  case measure => simp [intOf] <;> omega
                · rw [h0] at hsu
                  replace hsu := Lib.hid hsu
                  replace hV := Lib.hid hV
                  go_wp2_with fail
                  go_roundw
                  case rel => exact ⟨j + 1, by rw [hsu.out]; rfl, by go_num, by omega, by first | rfl | trivial⟩
                  case measure => simp [intOf] <;> omega
              · have hje : j = lp := by omega
                have d2 : decide ((j : Int) < (lp : Int)) = false := decide_eq_false (by omega)
                have hc := many_any w7 m7.out
                rw [show pc (fun i => decide (0 ≤ f i)) lp = S by rw [← hS, hje]] at hc
                replace hc := Lib.hid hc
                replace hje := Lib.hid hje
                replace hS := Lib.hid hS
                replace hsu := Lib.hid hsu
                go_wp2_with (go_at_call 19; (with_reducible refine hc.out.mono ?_); clear hc; rintro e w20 ⟨rfl, b20⟩; have r20 := Lib.hid (r7.out.below b20); have m20 := Lib.hid (m7.out.below b20); have B20 := Lib.hid (We.below_trans hB7.out b20))
                go_roundw
                case rel => exact ⟨i + 1, f, by go_num, by omega, m20, r20, B20⟩
                case measure => simp [intOf] <;> omega

          · have A0 : decide (0 ≤ (p : Int)) = true := decide_eq_true (by omega)
            have A1 : decide ((p : Int) < (lp : Int)) = true := decide_eq_true (by omega)
            have hpI : (p : Int) < (lp : Int) := by omega
            obtain ⟨rfl, cj⟩ := r4.out.at_ hp
            obtain ⟨V, hV⟩ : ∃ V, f p = V := ⟨_, rfl⟩
            clear cj s1 s2
            cases h0 : decide (0 ≤ V)
            · have hgm : getM f lp (p : Int) = (0, false) := by unfold getM; rw [s3, Int.toNat_natCast, hV, h0]; rfl
              clear s3
              replace hV := Lib.hid hV
              have hc := get_any w4 m4.out (p : Int)
              rw [hgm] at hc
              unfold getV at hc
              replace hc := Lib.hid hc
              clear hgm
              go_wp2_with (go_at_call 13; (with_reducible refine hc.out.mono ?_); clear hc; rintro e w5 ⟨rfl, b5⟩; have r5 := Lib.hid (r4.out.below b5); have pd5 := Lib.hid (pd.out.below b5); have hB5 := Lib.hid (We.below_trans hB4.out b5); have m5 := Lib.hid (m4.out.below b5); clear b5 m4 r4 hB4 pd e0 e1 e2)
              refine Cl.region_way (fun _ => True) 20 [(0, .r), (1, .r), (2, .r), (3, .r), (4, .r), (5, .r), (6, .r), (7, .r), (8, .r), (9, .r), (10, .r), (11, .r), (12, .r), (13, .r), (14, .r), (15, .r), (16, .r), (17, .r), (18, .r), (19, .r), (20, .z)] (by kernel_rfl) (by kernel_rfl) ?_
              intro w6 hk6
              have q0 : ∀ y : Cl.Since (fun _ => True) w6, y.w.cell? ⟨g, 0, none⟩ = some (.slice (some ⟨h, 0, none⟩) lp rc) := fun y => ((r5.out.below hk6.below).below y.keeps.below).c0
              have q1 : ∀ y : Cl.Since (fun _ => True) w6, y.w.cell? ⟨h, p, none⟩ = some (.int .i64 V) := fun y => by have := (((r5.out.below hk6.below).below y.keeps.below).at_ hp).2; rw [hV.out] at this; exact this
              have q2 : ∀ y : Cl.Since (fun _ => True) w6, y.w.cell? ⟨gd, 1, none⟩ = some (.int .i64 (p : Int)) := fun y => ((pd5.out.below hk6.below).below y.keeps.below).cell (i := 1) (by decide)
              have m6 := Lib.hid (m5.out.below hk6.below)
              have r6 := Lib.hid (r5.out.below hk6.below)
              have pd6 := Lib.hid (pd5.out.below hk6.below)
              have hB6 := Lib.hid (We.below_trans hB5.out hk6.below)
              clear hk6 m5 r5 pd5 hB5
              iterate 20 (with_reducible refine (no_implicit_lambda% (Cl.way_r rfl ?_)); go_big_quiet_step (fail); with_reducible refine (no_implicit_lambda% (wpQuiet_nil ?_)))
              with_reducible refine (no_implicit_lambda% (Cl.way_z rfl ?_))
              clear q0 q1 q2
              go_wp2_with fail
              refine Cl.Calm.normal ?_
              go_wp2_with fail
              refine Cl.region_way (fun _ => True) 26 [(0, .r), (1, .r), (2, .r), (3, .r), (4, .r), (5, .r), (6, .r), (7, .r), (8, .r), (9, .r), (10, .r), (11, .r), (12, .r), (13, .r), (14, .r), (15, .r), (16, .r), (17, .r), (18, .r), (19, .r), (20, .r), (21, .r), (22, .r), (23, .r), (24, .r), (25, .r), (26, .z)] (by kernel_rfl) (by kernel_rfl) ?_
              intro w7 hk7
              have q0 : ∀ y : Cl.Since (fun _ => True) w7, y.w.cell? ⟨g, 0, none⟩ = some (.slice (some ⟨h, 0, none⟩) lp rc) := fun y => ((r6.out.below hk7.below).below y.keeps.below).c0
              have q1 : ∀ y : Cl.Since (fun _ => True) w7, y.w.cell? ⟨h, p, none⟩ = some (.int .i64 V) := fun y => by have := (((r6.out.below hk7.below).below y.keeps.below).at_ hp).2; rw [hV.out] at this; exact this
              have q2 : ∀ y : Cl.Since (fun _ => True) w7, y.w.cell? ⟨gd, 1, none⟩ = some (.int .i64 (p : Int)) := fun y => ((pd6.out.below hk7.below).below y.keeps.below).cell (i := 1) (by decide)
              have m7 := Lib.hid (m6.out.below hk7.below)
              have r7 := Lib.hid (r6.out.below hk7.below)
              have hB7 := Lib.hid (We.below_trans hB6.out hk7.below)
              clear hk7 m6 r6 pd6 hB6
              iterate 26 (with_reducible refine (no_implicit_lambda% (Cl.way_r rfl ?_)); go_big_quiet_step (fail); with_reducible refine (no_implicit_lambda% (wpQuiet_nil ?_)))
              with_reducible refine (no_implicit_lambda% (Cl.way_z rfl ?_))
              clear q0 q1 q2
              go_wp2_with fail
              refine Cl.Calm.normal ?_

              go_wp2_with fail
              go_loopw [30, 31] (fun p1 q1 wq => ∃ j : Nat, p1 = .int .i64 ((pc (fun i => decide (0 ≤ f i)) j : Nat) : Int) ∧ q1 = .int .i64 (j : Int) ∧ j ≤ lp ∧ w7 = wq) (fun _ q1 _ => lp - (intOf q1).toNat)
              case atStart => exact ⟨0, rfl, rfl, Nat.zero_le _, rfl⟩
              case round =>
                obtain ⟨j, rfl, rfl, hj, rfl⟩ := hrel
                have hsu := pc_succ (fun i => decide (0 ≤ f i)) j
                obtain ⟨S, hS⟩ : ∃ S, pc (fun i => decide (0 ≤ f i)) j = S := ⟨_, rfl⟩
                have hSl : S ≤ j := by rw [← hS]; exact pc_le _ _
                rw [hS] at hsu ⊢
                by_cases hjl : j < lp
                · have d2 : decide ((j : Int) < (lp : Int)) = true := decide_eq_true (by omega)
                  have hjI : (j : Int) < (lp : Int) := by omega
                  obtain ⟨_, cj⟩ := r7.out.at_ hjl
                  have cb := r7.out.c0
                  replace hS := Lib.hid hS
                  obtain ⟨V, hV⟩ : ∃ V, f j = V := ⟨_, rfl⟩
                  rw [hV] at cj hsu
                  cases h0 : decide (0 ≤ V)
                  · rw [h0] at hsu
                    replace hsu := Lib.hid hsu
                    replace hV := Lib.hid hV
                    go_wp2_with fail
                    go_roundw
                    case rel => exact ⟨j + 1, by rw [hsu.out]; rfl, by go_num, by omega, by first | rfl | trivial⟩
                    case measure => simp [intOf] <;> omega
                  · rw [h0] at hsu
                    replace hsu := Lib.hid hsu
                    replace hV := Lib.hid hV
                    go_wp2_with fail
                    go_roundw
                    case rel => exact ⟨j + 1, by rw [hsu.out]; rfl, by go_num, by omega, by first | rfl | trivial⟩
                    case measure => simp [intOf] <;> omega
                · have hje : j = lp := by omega
                  have d2 : decide ((j : Int) < (lp : Int)) = false := decide_eq_false (by omega)
                  have hc := many_any w7 m7.out
                  rw [show pc (fun i => decide (0 ≤ f i)) lp = S by rw [← hS, hje]] at hc
                  replace hc := Lib.hid hc
                  replace hje := Lib.hid hje
                  replace hS := Lib.hid hS
                  replace hsu := Lib.hid hsu
                  go_wp2_with (go_at_call 19; (with_reducible refine hc.out.mono ?_); clear hc; rintro e w20 ⟨rfl, b20⟩; have r20 := Lib.hid (r7.out.below b20); have m20 := Lib.hid (m7.out.below b20); have B20 := Lib.hid (We.below_trans hB7.out b20))
                  go_roundw
                  case rel => exact ⟨i + 1, f, by go_num, by omega, m20, r20, B20⟩
                  case measure => simp [intOf] <;> omega

            · have hgm : getM f lp (p : Int) = (V, true) := by unfold getM; rw [s3, Int.toNat_natCast, hV, h0]; rfl
              clear s3
              replace hV := Lib.hid hV
              have hc := get_any w4 m4.out (p : Int)
              rw [hgm] at hc
              unfold getV at hc
              replace hc := Lib.hid hc
              clear hgm
              go_wp2_with (go_at_call 13; (with_reducible refine hc.out.mono ?_); clear hc; rintro e w5 ⟨rfl, b5⟩; have r5 := Lib.hid (r4.out.below b5); have pd5 := Lib.hid (pd.out.below b5); have hB5 := Lib.hid (We.below_trans hB4.out b5); have m5 := Lib.hid (m4.out.below b5); clear b5 m4 r4 hB4 pd e0 e1 e2)
              refine Cl.region_way (fun _ => True) 20 [(0, .r), (1, .r), (2, .r), (3, .r), (4, .r), (5, .r), (6, .r), (7, .r), (8, .r), (9, .r), (10, .r), (11, .r), (12, .r), (13, .r), (14, .r), (15, .r), (16, .r), (17, .r), (18, .r), (19, .r), (20, .z)] (by kernel_rfl) (by kernel_rfl) ?_
              intro w6 hk6
              have q0 : ∀ y : Cl.Since (fun _ => True) w6, y.w.cell? ⟨g, 0, none⟩ = some (.slice (some ⟨h, 0, none⟩) lp rc) := fun y => ((r5.out.below hk6.below).below y.keeps.below).c0
              have q1 : ∀ y : Cl.Since (fun _ => True) w6, y.w.cell? ⟨h, p, none⟩ = some (.int .i64 V) := fun y => by have := (((r5.out.below hk6.below).below y.keeps.below).at_ hp).2; rw [hV.out] at this; exact this
              have q2 : ∀ y : Cl.Since (fun _ => True) w6, y.w.cell? ⟨gd, 1, none⟩ = some (.int .i64 (p : Int)) := fun y => ((pd5.out.below hk6.below).below y.keeps.below).cell (i := 1) (by decide)
              have m6 := Lib.hid (m5.out.below hk6.below)
              have r6 := Lib.hid (r5.out.below hk6.below)
              have pd6 := Lib.hid (pd5.out.below hk6.below)
              have hB6 := Lib.hid (We.below_trans hB5.out hk6.below)
              clear hk6 m5 r5 pd5 hB5
              iterate 20 (with_reducible refine (no_implicit_lambda% (Cl.way_r rfl ?_)); go_big_quiet_step (fail); with_reducible refine (no_implicit_lambda% (wpQuiet_nil ?_)))
              with_reducible refine (no_implicit_lambda% (Cl.way_z rfl ?_))
              clear q0 q1 q2
              go_wp2_with fail
              refine Cl.Calm.normal ?_
              go_wp2_with fail
              refine Cl.region_way (fun _ => True) 26 [(0, .r), (1, .r), (2, .r), (3, .r), (4, .r), (5, .r), (6, .r), (7, .r), (8, .r), (9, .r), (10, .r), (11, .r), (12, .r), (13, .r), (14, .r), (15, .r), (16, .r), (17, .r), (18, .r), (19, .r), (20, .r), (21, .r), (22, .r), (23, .r), (24, .r), (25, .r), (26, .z)] (by kernel_rfl) (by kernel_rfl) ?_
              intro w7 hk7
              have q0 : ∀ y : Cl.Since (fun _ => True) w7, y.w.cell? ⟨g, 0, none⟩ = some (.slice (some ⟨h, 0, none⟩) lp rc) := fun y => ((r6.out.below hk7.below).below y.keeps.below).c0
              have q1 : ∀ y : Cl.Since (fun _ => True) w7, y.w.cell? ⟨h, p, none⟩ = some (.int .i64 V) := fun y => by have := (((r6.out.below hk7.below).below y.keeps.below).at_ hp).2; rw [hV.out] at this; exact this
              have q2 : ∀ y : Cl.Since (fun _ => True) w7, y.w.cell? ⟨gd, 1, none⟩ = some (.int .i64 (p : Int)) := fun y => ((pd6.out.below hk7.below).below y.keeps.below).cell (i := 1) (by decide)
              have m7 := Lib.hid (m6.out.below hk7.below)
              have r7 := Lib.hid (r6.out.below hk7.below)
              have hB7 := Lib.hid (We.below_trans hB6.out hk7.below)
              clear hk7 m6 r6 pd6 hB6
              iterate 26 (with_reducible refine (no_implicit_lambda% (Cl.way_r rfl ?_)); go_big_quiet_step (fail); with_reducible refine (no_implicit_lambda% (wpQuiet_nil ?_)))
              with_reducible refine (no_implicit_lambda% (Cl.way_z rfl ?_))
              clear q0 q1 q2
              go_wp2_with fail
              refine Cl.Calm.normal ?_

              go_wp2_with fail
              go_loopw [30, 31] (fun p1 q1 wq => ∃ j : Nat, p1 = .int .i64 ((pc (fun i => decide (0 ≤ f i)) j : Nat) : Int) ∧ q1 = .int .i64 (j : Int) ∧ j ≤ lp ∧ w7 = wq) (fun _ q1 _ => lp - (intOf q1).toNat)
              case atStart => exact ⟨0, rfl, rfl, Nat.zero_le _, rfl⟩
              case round =>
                obtain ⟨j, rfl, rfl, hj, rfl⟩ := hrel
                have hsu := pc_succ (fun i => decide (0 ≤ f i)) j
                obtain ⟨S, hS⟩ : ∃ S, pc (fun i => decide (0 ≤ f i)) j = S := ⟨_, rfl⟩
                have hSl : S ≤ j := by rw [← hS]; exact pc_le _ _
                rw [hS] at hsu ⊢
                by_cases hjl : j < lp
                · have d2 : decide ((j : Int) < (lp : Int)) = true := decide_eq_true (by omega)
                  have hjI : (j : Int) < (lp : Int) := by omega
                  obtain ⟨_, cj⟩ := r7.out.at_ hjl
                  have cb := r7.out.c0
                  replace hS := Lib.hid hS
                  obtain ⟨V, hV⟩ : ∃ V, f j = V := ⟨_, rfl⟩
                  rw [hV] at cj hsu
                  cases h0 : decide (0 ≤ V)
                  · rw [h0] at hsu
                    replace hsu := Lib.hid hsu
                    replace hV := Lib.hid hV
                    go_wp2_with fail
                    go_roundw
                    case rel => exact ⟨j + 1, by rw [hsu.out]; rfl, by go_num, by omega, by first | rfl | trivial⟩
                    case measure => simp [intOf] <;> omega
                  · rw [h0] at hsu
                    replace hsu := Lib.hid hsu
                    replace hV := Lib.hid hV
                    go_wp2_with fail
                    go_roundw
                    case rel => exact ⟨j + 1, by rw [hsu.out]; rfl, by go_num, by omega, by first | rfl | trivial⟩
                    case measure => simp [intOf] <;> omega
                · have hje : j = lp := by omega
                  have d2 : decide ((j : Int) < (lp : Int)) = false := decide_eq_false (by omega)
                  have hc := many_any w7 m7.out
                  rw [show pc (fun i => decide (0 ≤ f i)) lp = S by rw [← hS, hje]] at hc
                  replace hc := Lib.hid hc
                  replace hje := Lib.hid hje
                  replace hS := Lib.hid hS
                  replace hsu := Lib.hid hsu
                  go_wp2_with (go_at_call 19; (with_reducible refine hc.out.mono ?_); clear hc; rintro e w20 ⟨rfl, b20⟩; have r20 := Lib.hid (r7.out.below b20); have m20 := Lib.hid (m7.out.below b20); have B20 := Lib.hid (We.below_trans hB7.out b20))
                  go_roundw
                  case rel => exact ⟨i + 1, f, by go_num, by omega, m20, r20, B20⟩
                  case measure => simp [intOf] <;> omega
      · as_aux_lemma =>
          obtain ⟨X, hX⟩ : ∃ X, (((ow f lp A).getD 0 : Nat) : Int) = X := ⟨_, rfl⟩
          obtain ⟨Y, hY⟩ : ∃ Y, (ow f lp A).isSome = Y := ⟨_, rfl⟩
          have hc := Lib.hid (owner_any w4 m4.out A)
          have hr := Lib.hid (fun w r => refowner_any (g := g) (h := h) (c := rc) (A := RA) (lp := lp) (pg := pg) (f := f) w r A)
          unfold owV at hc hr
          rw [hX, hY] at hc hr
          clear hX hY
          go_wp2_with (go_at_call 14; (with_reducible refine hc.out.mono ?_); clear hc; rintro e w5 ⟨rfl, b5⟩; have r5 := Lib.hid (r4.out.below b5); have pd5 := Lib.hid (pd.out.below b5); have hB5 := Lib.hid (We.below_trans hB4.out b5); have m5 := Lib.hid (m4.out.below b5); clear b5 m4 r4 hB4 pd e0 e1 e2; have e1 : w5.cell? ⟨gd, 1, none⟩ = some (.int .i64 A) := pd5.out.cell (i := 1) (by decide))
          go_wp2_with (go_at_call 15; (with_reducible refine (hr.out _ r5.out).mono ?_); clear hr; rintro e w6 ⟨rfl, rfl⟩; clear e1 pd5)

          go_wp2_with fail
          go_loopw [30, 31] (fun p1 q1 wq => ∃ j : Nat, p1 = .int .i64 ((pc (fun i => decide (0 ≤ f i)) j : Nat) : Int) ∧ q1 = .int .i64 (j : Int) ∧ j ≤ lp ∧ w5 = wq) (fun _ q1 _ => lp - (intOf q1).toNat)
          case atStart => exact ⟨0, rfl, rfl, Nat.zero_le _, rfl⟩
          case round =>
            obtain ⟨j, rfl, rfl, hj, rfl⟩ := hrel
            have hsu := pc_succ (fun i => decide (0 ≤ f i)) j
            obtain ⟨S, hS⟩ : ∃ S, pc (fun i => decide (0 ≤ f i)) j = S := ⟨_, rfl⟩
            have hSl : S ≤ j := by rw [← hS]; exact pc_le _ _
            rw [hS] at hsu ⊢
            by_cases hjl : j < lp
            · have d2 : decide ((j : Int) < (lp : Int)) = true := decide_eq_true (by omega)
              have hjI : (j : Int) < (lp : Int) := by omega
              obtain ⟨rfl, cj⟩ := r5.out.at_ hjl
              have cb := r5.out.c0
              replace hS := Lib.hid hS
              obtain ⟨V, hV⟩ : ∃ V, f j = V := ⟨_, rfl⟩
              rw [hV] at cj hsu
              cases h0 : decide (0 ≤ V)
              · rw [h0] at hsu
                replace hsu := Lib.hid hsu
                replace hV := Lib.hid hV
                go_wp2_with fail
                go_roundw
                case rel => exact ⟨j + 1, by rw [hsu.out]; rfl, by go_num, by omega, by first | rfl | trivial⟩
                case measure => simp [intOf] <;> omega
              · rw [h0] at hsu
                replace hsu := Lib.hid hsu
                replace hV := Lib.hid hV
                go_wp2_with fail
                go_roundw
                case rel => exact ⟨j + 1, by rw [hsu.out]; rfl, by go_num, by omega, by first | rfl | trivial⟩
                case measure => simp [intOf] <;> omega
            · have hje : j = lp := by omega
              have d2 : decide ((j : Int) < (lp : Int)) = false := decide_eq_false (by omega)
              have hc := many_any w5 m5.out
              rw [show pc (fun i => decide (0 ≤ f i)) lp = S by rw [← hS, hje]] at hc
              replace hc := Lib.hid hc
              replace hje := Lib.hid hje
              replace hS := Lib.hid hS
              replace hsu := Lib.hid hsu
              go_wp2_with (go_at_call 19; (with_reducible refine hc.out.mono ?_); clear hc; rintro e w20 ⟨rfl, b20⟩; have r20 := Lib.hid (r5.out.below b20); have m20 := Lib.hid (m5.out.below b20); have B20 := Lib.hid (We.below_trans hB5.out b20))
              go_roundw
              case rel => exact ⟨i + 1, f, by go_num, by omega, m20, r20, B20⟩
              case measure => simp [intOf] <;> omega
      · as_aux_lemma =>
          obtain ⟨F, hF⟩ : ∃ F, (dropM lp f A).2.2 = F := ⟨_, rfl⟩
          obtain ⟨X, hX⟩ : ∃ X, (dropM lp f A).1 = X := ⟨_, rfl⟩
          obtain ⟨Y, hY⟩ : ∃ Y, (dropM lp f A).2.1 = Y := ⟨_, rfl⟩
          have hc := Lib.hid (drop_any w4 m4.out A)
          have hr := Lib.hid (fun w r => refdrop_any (g := g) (h := h) (c := rc) (A := RA) (lp := lp) (pg := pg) (f := f) w r A)
          unfold dropV at hc hr
          rw [hF, hX, hY] at hc hr
          clear hF hX hY
          go_wp2_with (go_at_call 16; (with_reducible refine hc.out.mono ?_); clear hc; rintro e w5 ⟨rfl, k5, m5⟩; have r5 := Lib.hid (r4.out.out k5 hg.out hh.out); have pd5 := Lib.hid (PV.out pd.out k5 hdg.out); have hB5 := Lib.hid (below_out hB4.out hlo.out k5); replace m5 := Lib.hid m5; clear k5 m4 r4 hB4 pd e0 e1 e2; have e1 : w5.cell? ⟨gd, 1, none⟩ = some (.int .i64 A) := pd5.out.cell (i := 1) (by decide))
          go_wp2_with (go_at_call 17; (with_reducible refine (hr.out _ r5.out).mono ?_); clear hr; rintro e w6 ⟨rfl, k6, r6⟩; have m6 := Lib.hid (m5.out.keeps k6 hml.out); have hB6 := Lib.hid (below_keeps hB5.out hwh.out k6); replace r6 := Lib.hid r6; clear k6 m5 r5 hB5 pd5 e1)

          go_wp2_with fail
          go_loopw [30, 31] (fun p1 q1 wq => ∃ j : Nat, p1 = .int .i64 ((pc (fun i => decide (0 ≤ F i)) j : Nat) : Int) ∧ q1 = .int .i64 (j : Int) ∧ j ≤ lp ∧ w6 = wq) (fun _ q1 _ => lp - (intOf q1).toNat)
          case atStart => exact ⟨0, rfl, rfl, Nat.zero_le _, rfl⟩
          case round =>
            obtain ⟨j, rfl, rfl, hj, rfl⟩ := hrel
            have hsu := pc_succ (fun i => decide (0 ≤ F i)) j
            obtain ⟨S, hS⟩ : ∃ S, pc (fun i => decide (0 ≤ F i)) j = S := ⟨_, rfl⟩
            have hSl : S ≤ j := by rw [← hS]; exact pc_le _ _
            rw [hS] at hsu ⊢
            by_cases hjl : j < lp
            · have d2 : decide ((j : Int) < (lp : Int)) = true := decide_eq_true (by omega)
              have hjI : (j : Int) < (lp : Int) := by omega
              obtain ⟨rfl, cj⟩ := r6.out.at_ hjl
              have cb := r6.out.c0
              replace hS := Lib.hid hS
              obtain ⟨V, hV⟩ : ∃ V, F j = V := ⟨_, rfl⟩
              rw [hV] at cj hsu
              cases h0 : decide (0 ≤ V)
              · rw [h0] at hsu
                replace hsu := Lib.hid hsu
                replace hV := Lib.hid hV
                go_wp2_with fail
                go_roundw
                case rel => exact ⟨j + 1, by rw [hsu.out]; rfl, by go_num, by omega, by first | rfl | trivial⟩
                case measure => simp [intOf] <;> omega
              · rw [h0] at hsu
                replace hsu := Lib.hid hsu
                replace hV := Lib.hid hV
                go_wp2_with fail
                go_roundw
                case rel => exact ⟨j + 1, by rw [hsu.out]; rfl, by go_num, by omega, by first | rfl | trivial⟩
                case measure => simp [intOf] <;> omega
            · have hje : j = lp := by omega
              have d2 : decide ((j : Int) < (lp : Int)) = false := decide_eq_false (by omega)
              have hc := many_any w6 m6.out
              rw [show pc (fun i => decide (0 ≤ F i)) lp = S by rw [← hS, hje]] at hc
              replace hc := Lib.hid hc
              replace hje := Lib.hid hje
              replace hS := Lib.hid hS
              replace hsu := Lib.hid hsu
              go_wp2_with (go_at_call 19; (with_reducible refine hc.out.mono ?_); clear hc; rintro e w20 ⟨rfl, b20⟩; have r20 := Lib.hid (r6.out.below b20); have m20 := Lib.hid (m6.out.below b20); have B20 := Lib.hid (We.below_trans hB6.out b20))
              go_roundw
              case rel => exact ⟨i + 1, F, by go_num, by omega, m20, r20, B20⟩
              case measure => simp [intOf] <;> omega
      · as_aux_lemma =>
          go_wp2_with fail
          go_loopw [28, 29] (fun p1 q1 wq => ∃ j : Nat, p1 = .int .i64 ((pc (fun i => decide (0 ≤ f i) && decide (A ≤ f i) && decide (f i < B)) j : Nat) : Int) ∧ q1 = .int .i64 (j : Int) ∧ j ≤ lp ∧ Hid (PM wq lo hi K lp pg f) ∧ Hid (RM wq g h RA rc lp pg f) ∧ Hid (PV wq 32 gd 3 (dF 7 A B)) ∧ Hid (Below w.heap.size w wq)) (fun _ q1 _ => lp - (intOf q1).toNat)
          case atStart => exact ⟨0, rfl, rfl, Nat.zero_le _, m4, r4, pd, hB4⟩
          case round =>
            clear m4 r4 pd hB4 e0 e1 e2
            obtain ⟨j, rfl, rfl, hj, m4, r4, pd, hB4⟩ := hrel
            have hp1 := pc_succ (fun i => decide (0 ≤ f i) && decide (A ≤ f i) && decide (f i < B)) j
            obtain ⟨S, hS⟩ : ∃ S, pc (fun i => decide (0 ≤ f i) && decide (A ≤ f i) && decide (f i < B)) j = S := ⟨_, rfl⟩
            have hSl : S ≤ j := by rw [← hS]; exact pc_le _ _
            rw [hS] at hp1 ⊢
            by_cases hjl : j < lp
            · have d2 : decide ((j : Int) < (lp : Int)) = true := decide_eq_true (by omega)
              have hjI : (j : Int) < (lp : Int) := by omega
              obtain ⟨rfl, cj⟩ := r4.out.at_ hjl
              obtain ⟨V, hV⟩ : ∃ V, f j = V := ⟨_, rfl⟩
              rw [hV] at cj hp1
              cases h0 : decide (0 ≤ V)
              · rw [h0] at hp1
                have hp2 := Lib.hid (show pc (fun i => decide (0 ≤ f i) && decide (A ≤ f i) && decide (f i < B)) (j + 1) = S by rw [hp1]; simp)
                replace hV := Lib.hid hV
                replace hS := Lib.hid hS
                clear hp1
                go_wp2_with fail
                refine Cl.region_way (fun _ => True) 31 [(0, .r), (1, .r), (2, .r), (3, .r), (4, .r), (5, .r), (6, .r), (7, .r), (8, .r), (9, .r), (10, .r), (11, .r), (12, .r), (13, .r), (14, .r), (15, .r), (16, .r), (17, .r), (18, .r), (19, .r), (20, .r), (21, .r), (22, .r), (23, .r), (24, .r), (25, .r), (26, .r), (27, .r), (28, .r), (29, .r), (30, .r), (31, .z)] (by kernel_rfl) (by kernel_rfl) ?_
                intro w5 hk5
                have q0 : ∀ y : Cl.Since (fun _ => True) w5, y.w.cell? ⟨g, 0, none⟩ = some (.slice (some ⟨h, 0, none⟩) lp rc) := fun y => ((r4.out.below hk5.below).below y.keeps.below).c0
                have q1 : ∀ y : Cl.Since (fun _ => True) w5, y.w.cell? ⟨h, j, none⟩ = some (.int .i64 V) := fun y => by have := (((r4.out.below hk5.below).below y.keeps.below).at_ hjl).2; rw [hV.out] at this; exact this
                have q2 : ∀ y : Cl.Since (fun _ => True) w5, y.w.cell? ⟨gd, 1, none⟩ = some (.int .i64 A) := fun y => ((pd.out.below hk5.below).below y.keeps.below).cell (i := 1) (by decide)
                have q3 : ∀ y : Cl.Since (fun _ => True) w5, y.w.cell? ⟨gd, 2, none⟩ = some (.int .i64 B) := fun y => ((pd.out.below hk5.below).below y.keeps.below).cell (i := 2) (by decide)
                have m5 := Lib.hid (m4.out.below hk5.below)
                have r5 := Lib.hid (r4.out.below hk5.below)
                have pd5 := Lib.hid (pd.out.below hk5.below)
                have hB5 := Lib.hid (We.below_trans hB4.out hk5.below)
                clear hk5 m4 r4 pd hB4 cj
                iterate 31 (with_reducible refine (no_implicit_lambda% (Cl.way_r rfl ?_)); go_big_quiet_step (fail); with_reducible refine (no_implicit_lambda% (wpQuiet_nil ?_)))
                refine Cl.way_z rfl ?_
                clear q0 q1 q2 q3
                go_wp2_with fail
                refine Cl.Calm.normal ?_
                go_wp2_with fail
                go_roundw
                case rel => exact ⟨j + 1, by rw [hp2.out] <;> first | rfl | go_num, by go_num, by omega, m5, r5, pd5, hB5⟩
                case measure => simp [intOf] <;> omega

              · rw [h0] at hp1
                cases h1 : decide (A ≤ V)
                · rw [h1] at hp1
                  have hp2 := Lib.hid (show pc (fun i => decide (0 ≤ f i) && decide (A ≤ f i) && decide (f i < B)) (j + 1) = S by rw [hp1]; simp)
                  replace hV := Lib.hid hV
                  replace hS := Lib.hid hS
                  clear hp1
                  go_wp2_with fail
                  refine Cl.region_way (fun _ => True) 31 [(0, .r), (1, .r), (2, .r), (3, .r), (4, .r), (5, .r), (6, .r), (7, .r), (8, .r), (9, .r), (10, .r), (11, .r), (12, .r), (13, .r), (14, .r), (15, .r), (16, .r), (17, .r), (18, .r), (19, .r), (20, .r), (21, .r), (22, .r), (23, .r), (24, .r), (25, .r), (26, .r), (27, .r), (28, .r), (29, .r), (30, .r), (31, .z)] (by kernel_rfl) (by kernel_rfl) ?_
                  intro w5 hk5
                  have q0 : ∀ y : Cl.Since (fun _ => True) w5, y.w.cell? ⟨g, 0, none⟩ = some (.slice (some ⟨h, 0, none⟩) lp rc) := fun y => ((r4.out.below hk5.below).below y.keeps.below).c0
                  have q1 : ∀ y : Cl.Since (fun _ => True) w5, y.w.cell? ⟨h, j, none⟩ = some (.int .i64 V) := fun y => by have := (((r4.out.below hk5.below).below y.keeps.below).at_ hjl).2; rw [hV.out] at this; exact this
                  have q2 : ∀ y : Cl.Since (fun _ => True) w5, y.w.cell? ⟨gd, 1, none⟩ = some (.int .i64 A) := fun y => ((pd.out.below hk5.below).below y.keeps.below).cell (i := 1) (by decide)
                  have q3 : ∀ y : Cl.Since (fun _ => True) w5, y.w.cell? ⟨gd, 2, none⟩ = some (.int .i64 B) := fun y => ((pd.out.below hk5.below).below y.keeps.below).cell (i := 2) (by decide)
                  have m5 := Lib.hid (m4.out.below hk5.below)
                  have r5 := Lib.hid (r4.out.below hk5.below)
                  have pd5 := Lib.hid (pd.out.below hk5.below)
                  have hB5 := Lib.hid (We.below_trans hB4.out hk5.below)
                  clear hk5 m4 r4 pd hB4 cj
                  iterate 31 (with_reducible refine (no_implicit_lambda% (Cl.way_r rfl ?_)); go_big_quiet_step (fail); with_reducible refine (no_implicit_lambda% (wpQuiet_nil ?_)))
                  refine Cl.way_z rfl ?_
                  clear q0 q1 q2 q3
                  go_wp2_with fail
                  refine Cl.Calm.normal ?_
                  go_wp2_with fail
                  go_roundw
                  case rel => exact ⟨j + 1, by rw [hp2.out] <;> first | rfl | go_num, by go_num, by omega, m5, r5, pd5, hB5⟩
                  case measure => simp [intOf] <;> omega

                · rw [h1] at hp1
                  cases h2 : decide (V < B)
                  · rw [h2] at hp1
                    have hp2 := Lib.hid (show pc (fun i => decide (0 ≤ f i) && decide (A ≤ f i) && decide (f i < B)) (j + 1) = S by rw [hp1]; simp)
                    replace hV := Lib.hid hV
                    replace hS := Lib.hid hS
                    clear hp1
                    go_wp2_with fail
                    refine Cl.region_way (fun _ => True) 31 [(0, .r), (1, .r), (2, .r), (3, .r), (4, .r), (5, .r), (6, .r), (7, .r), (8, .r), (9, .r), (10, .r), (11, .r), (12, .r), (13, .r), (14, .r), (15, .r), (16, .r), (17, .r), (18, .r), (19, .r), (20, .r), (21, .r), (22, .r), (23, .r), (24, .r), (25, .r), (26, .r), (27, .r), (28, .r), (29, .r), (30, .r), (31, .z)] (by kernel_rfl) (by kernel_rfl) ?_
                    intro w5 hk5
                    have q0 : ∀ y : Cl.Since (fun _ => True) w5, y.w.cell? ⟨g, 0, none⟩ = some (.slice (some ⟨h, 0, none⟩) lp rc) := fun y => ((r4.out.below hk5.below).below y.keeps.below).c0
                    have q1 : ∀ y : Cl.Since (fun _ => True) w5, y.w.cell? ⟨h, j, none⟩ = some (.int .i64 V) := fun y => by have := (((r4.out.below hk5.below).below y.keeps.below).at_ hjl).2; rw [hV.out] at this; exact this
                    have q2 : ∀ y : Cl.Since (fun _ => True) w5, y.w.cell? ⟨gd, 1, none⟩ = some (.int .i64 A) := fun y => ((pd.out.below hk5.below).below y.keeps.below).cell (i := 1) (by decide)
                    have q3 : ∀ y : Cl.Since (fun _ => True) w5, y.w.cell? ⟨gd, 2, none⟩ = some (.int .i64 B) := fun y => ((pd.out.below hk5.below).below y.keeps.below).cell (i := 2) (by decide)
                    have m5 := Lib.hid (m4.out.below hk5.below)
                    have r5 := Lib.hid (r4.out.below hk5.below)
                    have pd5 := Lib.hid (pd.out.below hk5.below)
                    have hB5 := Lib.hid (We.below_trans hB4.out hk5.below)
                    clear hk5 m4 r4 pd hB4 cj
                    iterate 31 (with_reducible refine (no_implicit_lambda% (Cl.way_r rfl ?_)); go_big_quiet_step (fail); with_reducible refine (no_implicit_lambda% (wpQuiet_nil ?_)))
                    refine Cl.way_z rfl ?_
                    clear q0 q1 q2 q3
                    go_wp2_with fail
                    refine Cl.Calm.normal ?_
                    go_wp2_with fail
                    go_roundw
                    case rel => exact ⟨j + 1, by rw [hp2.out] <;> first | rfl | go_num, by go_num, by omega, m5, r5, pd5, hB5⟩
                    case measure => simp [intOf] <;> omega

                  · rw [h2] at hp1
                    have hp2 := Lib.hid (show pc (fun i => decide (0 ≤ f i) && decide (A ≤ f i) && decide (f i < B)) (j + 1) = S + 1 by rw [hp1]; simp)
                    replace hV := Lib.hid hV
                    replace hS := Lib.hid hS
                    clear hp1
                    go_wp2_with fail
                    refine Cl.region_way (fun _ => True) 31 [(0, .r), (1, .r), (2, .r), (3, .r), (4, .r), (5, .r), (6, .r), (7, .r), (8, .r), (9, .r), (10, .r), (11, .r), (12, .r), (13, .r), (14, .r), (15, .r), (16, .r), (17, .r), (18, .r), (19, .r), (20, .r), (21, .r), (22, .r), (23, .r), (24, .r), (25, .r), (26, .r), (27, .r), (28, .r), (29, .r), (30, .r), (31, .z)] (by kernel_rfl) (by kernel_rfl) ?_
                    intro w5 hk5
                    have q0 : ∀ y : Cl.Since (fun _ => True) w5, y.w.cell? ⟨g, 0, none⟩ = some (.slice (some ⟨h, 0, none⟩) lp rc) := fun y => ((r4.out.below hk5.below).below y.keeps.below).c0
                    have q1 : ∀ y : Cl.Since (fun _ => True) w5, y.w.cell? ⟨h, j, none⟩ = some (.int .i64 V) := fun y => by have := (((r4.out.below hk5.below).below y.keeps.below).at_ hjl).2; rw [hV.out] at this; exact this
                    have q2 : ∀ y : Cl.Since (fun _ => True) w5, y.w.cell? ⟨gd, 1, none⟩ = some (.int .i64 A) := fun y => ((pd.out.below hk5.below).below y.keeps.below).cell (i := 1) (by decide)
                    have q3 : ∀ y : Cl.Since (fun _ => True) w5, y.w.cell? ⟨gd, 2, none⟩ = some (.int .i64 B) := fun y => ((pd.out.below hk5.below).below y.keeps.below).cell (i := 2) (by decide)
                    have m5 := Lib.hid (m4.out.below hk5.below)
                    have r5 := Lib.hid (r4.out.below hk5.below)
                    have pd5 := Lib.hid (pd.out.below hk5.below)
                    have hB5 := Lib.hid (We.below_trans hB4.out hk5.below)
                    clear hk5 m4 r4 pd hB4 cj
                    iterate 31 (with_reducible refine (no_implicit_lambda% (Cl.way_r rfl ?_)); go_big_quiet_step (fail); with_reducible refine (no_implicit_lambda% (wpQuiet_nil ?_)))
                    refine Cl.way_z rfl ?_
                    clear q0 q1 q2 q3
                    go_wp2_with fail
                    refine Cl.Calm.normal ?_
                    go_wp2_with fail
                    go_roundw
                    case rel => exact ⟨j + 1, by rw [hp2.out] <;> first | rfl | go_num, by go_num, by omega, m5, r5, pd5, hB5⟩
                    case measure => simp [intOf] <;> omega

            · have hje : j = lp := by omega
              have d2 : decide ((j : Int) < (lp : Int)) = false := decide_eq_false (by omega)
              have hc := count_any wr m4.out A B hA64
              rw [show pc (fun i => decide (0 ≤ f i) && decide (A ≤ f i) && decide (f i < B)) lp = S by rw [← hS, hje]] at hc
              replace hc := Lib.hid hc
              replace hje := Lib.hid hje
              replace hS := Lib.hid hS
              replace hp1 := Lib.hid hp1
              have e1 : wr.cell? ⟨gd, 1, none⟩ = some (.int .i64 A) := pd.out.cell (i := 1) (by decide)
              have e2 : wr.cell? ⟨gd, 2, none⟩ = some (.int .i64 B) := pd.out.cell (i := 2) (by decide)
              go_wp2_with (go_at_call 18; (with_reducible refine hc.out.mono ?_); clear hc; rintro e w6 ⟨rfl, rfl⟩)
              clear e1 e2 pd hje hS hp1 d2 hj hSl
              go_wp2_with fail
              go_loopw [30, 31] (fun p1 q1 wq => ∃ j : Nat, p1 = .int .i64 ((pc (fun i => decide (0 ≤ f i)) j : Nat) : Int) ∧ q1 = .int .i64 (j : Int) ∧ j ≤ lp ∧ wr = wq) (fun _ q1 _ => lp - (intOf q1).toNat)
              case atStart => exact ⟨0, rfl, rfl, Nat.zero_le _, rfl⟩
              case round =>
                obtain ⟨j, rfl, rfl, hj, rfl⟩ := hrel
                have hsu := pc_succ (fun i => decide (0 ≤ f i)) j
                obtain ⟨S, hS⟩ : ∃ S, pc (fun i => decide (0 ≤ f i)) j = S := ⟨_, rfl⟩
                have hSl : S ≤ j := by rw [← hS]; exact pc_le _ _
                rw [hS] at hsu ⊢
                by_cases hjl : j < lp
                · have d2 : decide ((j : Int) < (lp : Int)) = true := decide_eq_true (by omega)
                  have hjI : (j : Int) < (lp : Int) := by omega
                  obtain ⟨rfl, cj⟩ := r4.out.at_ hjl
                  have cb := r4.out.c0
                  replace hS := Lib.hid hS
                  obtain ⟨V, hV⟩ : ∃ V, f j = V := ⟨_, rfl⟩
                  rw [hV] at cj hsu
                  cases h0 : decide (0 ≤ V)
                  · rw [h0] at hsu
                    replace hsu := Lib.hid hsu
                    replace hV := Lib.hid hV
                    go_wp2_with fail
                    go_roundw
                    case rel => exact ⟨j + 1, by rw [hsu.out]; rfl, by go_num, by omega, by first | rfl | trivial⟩
                    case measure => simp [intOf] <;> omega
                  · rw [h0] at hsu
                    replace hsu := Lib.hid hsu
                    replace hV := Lib.hid hV
                    go_wp2_with fail
                    go_roundw
                    case rel => exact ⟨j + 1, by rw [hsu.out]; rfl, by go_num, by omega, by first | rfl | trivial⟩
                    case measure => simp [intOf] <;> omega
                · have hje : j = lp := by omega
                  have d2 : decide ((j : Int) < (lp : Int)) = false := decide_eq_false (by omega)
                  have hc := many_any wr m4.out
                  rw [show pc (fun i => decide (0 ≤ f i)) lp = S by rw [← hS, hje]] at hc
                  replace hc := Lib.hid hc
                  replace hje := Lib.hid hje
                  replace hS := Lib.hid hS
                  replace hsu := Lib.hid hsu
                  go_wp2_with (go_at_call 19; (with_reducible refine hc.out.mono ?_); clear hc; rintro e w20 ⟨rfl, b20⟩; have r20 := Lib.hid (r4.out.below b20); have m20 := Lib.hid (m4.out.below b20); have B20 := Lib.hid (We.below_trans hB4.out b20))
                  go_roundw
                  case rel => exact ⟨i + 1, f, by go_num, by omega, m20, r20, B20⟩
                  case measure => simp [intOf] <;> omega
      · as_aux_lemma =>
          go_wp2_with fail
          go_loopw [30, 31] (fun p1 q1 wq => ∃ j : Nat, p1 = .int .i64 ((pc (fun i => decide (0 ≤ f i)) j : Nat) : Int) ∧ q1 = .int .i64 (j : Int) ∧ j ≤ lp ∧ w4 = wq) (fun _ q1 _ => lp - (intOf q1).toNat)
          case atStart => exact ⟨0, rfl, rfl, Nat.zero_le _, rfl⟩
          case round =>
            obtain ⟨j, rfl, rfl, hj, rfl⟩ := hrel
            have hsu := pc_succ (fun i => decide (0 ≤ f i)) j
            obtain ⟨S, hS⟩ : ∃ S, pc (fun i => decide (0 ≤ f i)) j = S := ⟨_, rfl⟩
            have hSl : S ≤ j := by rw [← hS]; exact pc_le _ _
            rw [hS] at hsu ⊢
            by_cases hjl : j < lp
            · have d2 : decide ((j : Int) < (lp : Int)) = true := decide_eq_true (by omega)
              have hjI : (j : Int) < (lp : Int) := by omega
              obtain ⟨rfl, cj⟩ := r4.out.at_ hjl
              have cb := r4.out.c0
              replace hS := Lib.hid hS
              obtain ⟨V, hV⟩ : ∃ V, f j = V := ⟨_, rfl⟩
              rw [hV] at cj hsu
              cases h0 : decide (0 ≤ V)
              · rw [h0] at hsu
                replace hsu := Lib.hid hsu
                replace hV := Lib.hid hV
                go_wp2_with fail
                go_roundw
                case rel => exact ⟨j + 1, by rw [hsu.out]; rfl, by go_num, by omega, by first | rfl | trivial⟩
                case measure => simp [intOf] <;> omega
              · rw [h0] at hsu
                replace hsu := Lib.hid hsu
                replace hV := Lib.hid hV
                go_wp2_with fail
                go_roundw
                case rel => exact ⟨j + 1, by rw [hsu.out]; rfl, by go_num, by omega, by first | rfl | trivial⟩
                case measure => simp [intOf] <;> omega
            · have hje : j = lp := by omega
              have d2 : decide ((j : Int) < (lp : Int)) = false := decide_eq_false (by omega)
              have hc := many_any w4 m4.out
              rw [show pc (fun i => decide (0 ≤ f i)) lp = S by rw [← hS, hje]] at hc
              replace hc := Lib.hid hc
              replace hje := Lib.hid hje
              replace hS := Lib.hid hS
              replace hsu := Lib.hid hsu
              go_wp2_with (go_at_call 19; (with_reducible refine hc.out.mono ?_); clear hc; rintro e w20 ⟨rfl, b20⟩; have r20 := Lib.hid (r4.out.below b20); have m20 := Lib.hid (m4.out.below b20); have B20 := Lib.hid (We.below_trans hB4.out b20))
              go_roundw
              case rel => exact ⟨i + 1, f, by go_num, by omega, m20, r20, B20⟩
              case measure => simp [intOf] <;> omega
    · obtain rfl : i = n := by omega
      have d1 : decide ((i : Int) < (i : Int)) = false := decide_eq_false (by omega)
      go_wp2_with fail
      go_ret
      exact ⟨rfl, hB.out⟩
end Go.Proofs.Ytcnnmnjepofomaa.Lm
