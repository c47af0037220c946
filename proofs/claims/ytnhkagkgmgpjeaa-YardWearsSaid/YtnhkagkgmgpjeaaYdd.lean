/- YardPicks walked, for whatever is a yard. -/
import Derived.Test.YtnhkagkgmgpjeaaYdb
namespace Go.Proofs.Ytnhkagkgmgpjeaa.Yd
open Go.RowKit
set_option linter.unusedVariables false
set_option linter.unusedSimpArgs false
attribute [local go_sem ↓] Cl.quiet_since
theorem lay_lay {f : Nat → Int} {a : Nat} {b c : Int} : lay (lay f (a : Int) b) (a : Int) c = lay f (a : Int) c := by
  funext j
  by_cases e : j = a
  · subst e; rw [lay_eq, lay_eq]
  · rw [lay_ne e, lay_ne e, lay_ne e]
theorem lay_self {f : Nat → Int} {a : Nat} {b : Int} (h : f a = b) : lay f (a : Int) b = f := by
  funext j
  by_cases e : j = a
  · subst e; rw [lay_eq, h]
  · rw [lay_ne e]
theorem alike_bound {k i : Nat} {er : Nat → Int} (h : Alike k er i) (hi : i ≤ 256) : ∀ j, j < k → 0 ≤ er j ∧ er j ≤ 1000000 := fun j hj => by
  have h1 := h.2 j hj
  have h2 : i / k ≤ i := Nat.div_le_self i k
  generalize i / k = q at *
  omega
set_option maxRecDepth 4000 in
set_option maxHeartbeats 8000000 in
theorem picks_law {Y : World → Nat → Nat → Nat → Nat → (Nat → Int) → (Nat → Int) → Prop} (C : YC Y) (N T : Nat) (hN : N < 256) (hT : T < 256) (w : World) :
    Calls Try.prog 5 #[.int .u8 (N : Int), .int .u8 (T : Int)] w (We.Ans w (.bool true)) := by
  have ha := Lib.hid (awake_any C w)
  have f1 : 2 + (N : Int) % 12 = ((2 + N % 12 : Nat) : Int) := by omega
  obtain ⟨k, hk⟩ : ∃ k, 2 + N % 12 = k := ⟨_, rfl⟩
  rw [hk] at f1
  have hk2 : 2 ≤ k ∧ k ≤ 14 := by omega
  have h1 := Lib.hid (fun w => new_lit C w (k : Int) k (by omega))
  have C' := Lib.hid C
  clear hk C
  go_enter Try.func5, Try.ntmps5
  go_wp2_with (go_at_call 8; (with_reducible refine ha.out.mono ?_); clear ha; rintro e w0 ⟨rfl, hB0⟩; replace hB0 := Lib.hid hB0)
  go_wp2_with (go_at_call 9; (with_reducible refine (h1.out _).mono ?_); clear h1; rintro e w1 ⟨G, rfl, hB, y1⟩; replace hB := Lib.hid (We.below_trans hB0.out hB); replace y1 := Lib.hid y1)
  have hlo := Lib.hid hB0.out.size
  clear hB0
  generalize w0.heap.size = lo at *
  generalize w1.heap.size = hi at *
  have ha0 := Lib.hid (alike_zero (k := k) (by omega))
  go_loopw [7] (fun q wr => ∃ (i : Nat) (er : Nat → Int), q = .int .i64 (i : Int) ∧ i ≤ T ∧ Hid (Y wr lo hi G k (fun _ => 1) er) ∧ Hid (Alike k er i) ∧ Hid (Below w.heap.size w wr)) (fun q _ => T - (intOf q).toNat)
  case atStart => exact ⟨0, _, rfl, Nat.zero_le _, y1, ha0, hB⟩
  case round =>
    obtain ⟨i, er, rfl, hi', yr, hA, hBr⟩ := hrel
    clear y1 ha0 hB
    by_cases hin : i < T
    · have hinI : (i : Int) < (T : Int) := by omega
      have d1 : decide ((i : Int) < (T : Int)) = true := decide_eq_true hinI
      obtain ⟨b, hb⟩ : ∃ b, pk k (fun _ => 1) er = some b := by
        cases h : pk k (fun _ => 1) er with
        | some b => exact ⟨b, rfl⟩
        | none => have := pk_none h; have h3 := nb_pos (f := isS (fun _ => 1) 1) (b := 0) (k := k) (by omega) rfl; omega
      obtain ⟨hbk, _, hmin⟩ := pk_some hb
      have he := alike_least (by omega) hA.out hbk (fun c hc => hmin c hc rfl)
      obtain ⟨hA2, hch⟩ := alike_step (by omega) hA.out hbk he
      have hbd := Lib.hid (alike_bound hA.out (by omega))
      have n1 := Lib.hid (show turnB k (fun _ => 1) (b : Int) 2 = true by rw [turnB_yes hbk]; rfl)
      have g1 := Lib.hid (turnF_go n1.out)
      have n2 := Lib.hid (show turnB k (lay (fun _ => 1) (b : Int) 2) (b : Int) 3 = true by rw [turnB_yes hbk, lay_eq]; rfl)
      have g2 := turnF_go n2.out
      rw [lay_lay] at g2
      replace g2 := Lib.hid g2
      have n3 := Lib.hid (show turnB k (lay (fun _ => 1) (b : Int) 3) (b : Int) 1 = true by rw [turnB_yes hbk, lay_eq]; rfl)
      have g3 := turnF_go n3.out
      rw [lay_lay, lay_self rfl] at g3
      replace g3 := Lib.hid g3
      have hq : (i : Int) / (k : Int) = ((i / k : Nat) : Int) := by omega
      have hqi : i / k ≤ i := Nat.div_le_self i k
      have hk0 : ¬ (k : Int) = 0 := by omega
      obtain ⟨q, hqe⟩ : ∃ q, i / k = q := ⟨_, rfl⟩
      rw [hqe] at hq hqi hch
      obtain ⟨E, hE⟩ : ∃ E, lay er (b : Int) (er b + 1) = E := ⟨_, rfl⟩
      rw [hE] at hA2 hch
      have hE2 := Lib.hid (show erF k er (b : Int) = E by rw [erF_yes hbk, hE])
      replace hA2 := Lib.hid hA2
      replace hch := Lib.hid hch
      replace hqe := Lib.hid hqe
      have hp := Lib.hid (show pkV (some b) = .tuple #[.int .i64 (b : Int), .bool true] from rfl)
      have hc := Lib.hid (pick_lit C'.out hBr.out yr.out (some b) hb)
      rw [hp.out] at hc
      clear hE he hmin hb hA
      go_wp2_with (go_at_call 15; (with_reducible refine hc.out.mono ?_); clear hc; rintro e w2 ⟨rfl, B2, y2⟩; replace B2 := Lib.hid B2; replace y2 := Lib.hid y2; clear yr hBr)
      have hc := Lib.hid (turn_lit C'.out B2.out hlo.out y2.out (b : Int) 2 true n1.out _ g1.out)
      go_wp2_with (go_at_call 12; (with_reducible refine hc.out.mono ?_); clear hc; rintro e w3 ⟨rfl, B3, y3⟩; replace B3 := Lib.hid B3; replace y3 := Lib.hid y3; clear y2 B2)
      have hc := Lib.hid (turn_lit C'.out B3.out hlo.out y3.out (b : Int) 3 true n2.out _ g2.out)
      go_wp2_with (go_at_call 12; (with_reducible refine hc.out.mono ?_); clear hc; rintro e w4 ⟨rfl, B4, y4⟩; replace B4 := Lib.hid B4; replace y4 := Lib.hid y4; clear y3 B3)
      have hc := Lib.hid (turn_lit C'.out B4.out hlo.out y4.out (b : Int) 1 true n3.out _ g3.out)
      go_wp2_with (go_at_call 12; (with_reducible refine hc.out.mono ?_); clear hc; rintro e w5 ⟨rfl, B5, y5⟩; replace B5 := Lib.hid B5; replace y5 := Lib.hid y5; clear y4 B4)
      have hc := Lib.hid (erased_lit C'.out B5.out hlo.out y5.out hbd.out (b : Int) E hE2.out)
      go_wp2_with (go_at_call 10; (with_reducible refine hc.out.mono ?_); clear hc; rintro e w6 ⟨rfl, B6, y6⟩; replace B6 := Lib.hid B6; replace y6 := Lib.hid y6; clear y5 B5)
      clear n1 n2 n3 g1 g2 g3 hp hbd hE2
      go_loopw [10] (fun q wq => ∃ c : Nat, q = .int .i64 (c : Int) ∧ c ≤ k ∧ Hid (Y wq lo hi G k (fun _ => 1) E) ∧ Hid (Below w.heap.size w wq)) (fun q _ => k - (intOf q).toNat)
      case atStart => exact ⟨0, rfl, Nat.zero_le _, y6, B6⟩
      case round =>
        obtain ⟨c, rfl, hck', yq, Bq⟩ := hrel
        clear y6 B6
        by_cases hck : c < k
        · have hckI : (c : Int) < (k : Int) := by omega
          have d2 : decide ((c : Int) < (k : Int)) = true := decide_eq_true hckI
          rcases hch.out c hck with hcc | hcc
          · skip
            have hx : at_ k E (c : Int) = (q : Int) := (at_yes hck).trans hcc
            replace hx := Lib.hid hx
            replace hcc := Lib.hid hcc
            go_wp2_with fail
            refine Cl.region_way (fun _ => True) 7 [(0, .r), (1, .r), (3, .r), (4, .r), (5, .r), (2, .c), (6, .r), (7, .z)] (by kernel_rfl) (by kernel_rfl) ?_
            intro w7 hk7
            have B7 := Lib.hid (We.below_trans Bq.out hk7.below)
            have y7 := Lib.hid (YC.below C'.out yq.out hk7.below)
            clear hk7 yq Bq
            iterate 5 (refine Cl.way_r rfl ?_; go_big_quiet_step (fail); refine wpQuiet_nil ?_)
            have hc7 := C'.out.erases y7.out (c : Int)
            rw [hx.out] at hc7
            replace hc7 := Lib.hid hc7
            refine Cl.way_c rfl ?_
            go_wp2_with (go_at_call 14; (with_reducible refine hc7.out.mono ?_); clear hc7; rintro e w8 ⟨rfl, hb8⟩; have hB8 := Lib.hid (We.below_trans B7.out hb8); have y8 := Lib.hid (YC.below C'.out y7.out hb8); replace hb8 := Lib.hid hb8)
            refine Cl.way_on (Cl.Keeps.of_below hb8.out) ?_
            clear hb8 B7 y7
            refine Cl.way_r rfl ?_
            go_big_quiet_step (fail)
            refine wpQuiet_nil ?_
            refine Cl.way_z rfl ?_
            go_wp2_with fail
            refine Cl.Calm.normal ?_
            go_wp2_with fail
            go_roundw
            case rel => exact ⟨c + 1, by go_num, by omega, y8, hB8⟩
            case measure => simp [intOf]; omega
          · skip
            have hx : at_ k E (c : Int) = (q : Int) + 1 := (at_yes hck).trans hcc
            replace hx := Lib.hid hx
            replace hcc := Lib.hid hcc
            go_wp2_with fail
            refine Cl.region_way (fun _ => True) 7 [(0, .r), (1, .r), (3, .r), (4, .r), (5, .r), (2, .c), (6, .r), (7, .z)] (by kernel_rfl) (by kernel_rfl) ?_
            intro w7 hk7
            have B7 := Lib.hid (We.below_trans Bq.out hk7.below)
            have y7 := Lib.hid (YC.below C'.out yq.out hk7.below)
            clear hk7 yq Bq
            iterate 5 (refine Cl.way_r rfl ?_; go_big_quiet_step (fail); refine wpQuiet_nil ?_)
            have hc7 := C'.out.erases y7.out (c : Int)
            rw [hx.out] at hc7
            replace hc7 := Lib.hid hc7
            refine Cl.way_c rfl ?_
            go_wp2_with (go_at_call 14; (with_reducible refine hc7.out.mono ?_); clear hc7; rintro e w8 ⟨rfl, hb8⟩; have hB8 := Lib.hid (We.below_trans B7.out hb8); have y8 := Lib.hid (YC.below C'.out y7.out hb8); replace hb8 := Lib.hid hb8)
            refine Cl.way_on (Cl.Keeps.of_below hb8.out) ?_
            clear hb8 B7 y7
            refine Cl.way_r rfl ?_
            go_big_quiet_step (fail)
            refine wpQuiet_nil ?_
            refine Cl.way_z rfl ?_
            go_wp2_with fail
            refine Cl.Calm.normal ?_
            go_wp2_with fail
            go_roundw
            case rel => exact ⟨c + 1, by go_num, by omega, y8, hB8⟩
            case measure => simp [intOf]; omega
        · have hce : c = k := by omega
          have d2 : decide ((c : Int) < (k : Int)) = false := decide_eq_false (by omega)
          replace hce := Lib.hid hce
          go_wp2_with fail
          go_roundw
          case rel => exact ⟨i + 1, E, by go_num, by omega, yq, hA2, Bq⟩
          case measure => simp [intOf]; omega
    · obtain rfl : i = T := by omega
      have d1 : decide ((i : Int) < (i : Int)) = false := decide_eq_false (by omega)
      go_wp2_with fail
      go_ret
      exact ⟨rfl, hBr.out⟩
end Go.Proofs.Ytnhkagkgmgpjeaa.Yd
