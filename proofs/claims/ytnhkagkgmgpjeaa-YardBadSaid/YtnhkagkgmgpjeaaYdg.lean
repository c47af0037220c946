/- YardKnown walked, for whatever is a yard. -/
import Derived.Test.YtnhkagkgmgpjeaaYdd
namespace Go.Proofs.Ytnhkagkgmgpjeaa.Yd
open Go.RowKit
set_option linter.unusedVariables false
set_option linter.unusedSimpArgs false
attribute [local go_sem ↓] Cl.quiet_since
/-- numbers of a list -/
def lv (l : List Int) (i : Nat) : Value := .int .i64 (l.getD i 0)
def slF (b : Nat) (i : Nat) : Value := if i = 0 then .slice (some ⟨b, 0, none⟩) 1 1 else if i = 1 then .slice (some ⟨b + 1, 0, none⟩) 2 2 else if i = 2 then .slice (some ⟨b + 1 + 1, 0, none⟩) 1 1 else .slice (some ⟨b + 1 + 1 + 1, 0, none⟩) 0 0
/-- the ways, as they lie -/
def LitW (w : World) (b : Nat) : Prop := We.PV w 3 b 1 (lv [2]) ∧ We.PV w 3 (b + 1) 2 (lv [2, 3]) ∧ We.PV w 3 (b + 1 + 1) 1 (lv [4]) ∧ We.PV w 26 (b + 1 + 1 + 1 + 1) 4 (slF b)
theorem LitW.below {w w' : World} {b : Nat} (h : LitW w b) (hb : Below w.heap.size w w') : LitW w' b := ⟨h.1.below hb, h.2.1.below hb, h.2.2.1.below hb, h.2.2.2.below hb⟩
theorem LitW.out {w w' : World} {b lo hi : Nat} (h : LitW w b) (k : Cl.Keeps (Out lo hi) w w') (hb : b + 1 + 1 + 1 + 1 < lo) : LitW w' b :=
  ⟨h.1.keep (k.block _ h.1.lt (by unfold Out; omega)), h.2.1.keep (k.block _ h.2.1.lt (by unfold Out; omega)), h.2.2.1.keep (k.block _ h.2.2.1.lt (by unfold Out; omega)), h.2.2.2.keep (k.block _ h.2.2.2.lt (by unfold Out; omega))⟩
theorem litw_new (w0 : World) : LitW (((((w0.alloc (.cells #[.int .i64 2] 3)).alloc (.cells #[.int .i64 2, .int .i64 3] 3)).alloc (.cells #[.int .i64 4] 3)).alloc (.cells #[] 3)).alloc (.cells #[.slice (some ⟨w0.heap.size, 0, none⟩) 1 1, .slice (some ⟨w0.heap.size + 1, 0, none⟩) 2 2, .slice (some ⟨w0.heap.size + 1 + 1, 0, none⟩) 1 1, .slice (some ⟨w0.heap.size + 1 + 1 + 1, 0, none⟩) 0 0] 26)) w0.heap.size ∧ Below w0.heap.size w0 (((((w0.alloc (.cells #[.int .i64 2] 3)).alloc (.cells #[.int .i64 2, .int .i64 3] 3)).alloc (.cells #[.int .i64 4] 3)).alloc (.cells #[] 3)).alloc (.cells #[.slice (some ⟨w0.heap.size, 0, none⟩) 1 1, .slice (some ⟨w0.heap.size + 1, 0, none⟩) 2 2, .slice (some ⟨w0.heap.size + 1 + 1, 0, none⟩) 1 1, .slice (some ⟨w0.heap.size + 1 + 1 + 1, 0, none⟩) 0 0] 26)) := by
  have p1 := We.PV.new w0 3 #[.int .i64 2] 1 (lv [2]) fun i hi => by
    match i, hi with
    | 0, _ => rfl
  have b1 := We.below_alloc w0 (.cells #[.int .i64 2] 3)
  have s1 : (w0.alloc (.cells #[.int .i64 2] 3)).heap.size = w0.heap.size + 1 := World.size_alloc _ _
  generalize w0.alloc (.cells #[.int .i64 2] 3) = w1 at *
  have p2 := We.PV.new w1 3 #[.int .i64 2, .int .i64 3] 2 (lv [2, 3]) fun i hi => by
    match i, hi with
    | 0, _ => rfl
    | 1, _ => rfl
  have b2 := We.below_alloc w1 (.cells #[.int .i64 2, .int .i64 3] 3)
  have s2 : (w1.alloc (.cells #[.int .i64 2, .int .i64 3] 3)).heap.size = w1.heap.size + 1 := World.size_alloc _ _
  generalize w1.alloc (.cells #[.int .i64 2, .int .i64 3] 3) = w2 at *
  have p3 := We.PV.new w2 3 #[.int .i64 4] 1 (lv [4]) fun i hi => by
    match i, hi with
    | 0, _ => rfl
  have b3 := We.below_alloc w2 (.cells #[.int .i64 4] 3)
  have s3 : (w2.alloc (.cells #[.int .i64 4] 3)).heap.size = w2.heap.size + 1 := World.size_alloc _ _
  generalize w2.alloc (.cells #[.int .i64 4] 3) = w3 at *
  have b4 := We.below_alloc w3 (.cells #[] 3)
  have s4 : (w3.alloc (.cells #[] 3)).heap.size = w3.heap.size + 1 := World.size_alloc _ _
  generalize w3.alloc (.cells #[] 3) = w4 at *
  have p5 := We.PV.new w4 26 #[.slice (some ⟨w0.heap.size, 0, none⟩) 1 1, .slice (some ⟨w0.heap.size + 1, 0, none⟩) 2 2, .slice (some ⟨w0.heap.size + 1 + 1, 0, none⟩) 1 1, .slice (some ⟨w0.heap.size + 1 + 1 + 1, 0, none⟩) 0 0] 4 (slF w0.heap.size) fun i hi => by
    match i, hi with
    | 0, _ => rfl
    | 1, _ => rfl
    | 2, _ => rfl
    | 3, _ => rfl
  have b5 := We.below_alloc w4 (.cells #[.slice (some ⟨w0.heap.size, 0, none⟩) 1 1, .slice (some ⟨w0.heap.size + 1, 0, none⟩) 2 2, .slice (some ⟨w0.heap.size + 1 + 1, 0, none⟩) 1 1, .slice (some ⟨w0.heap.size + 1 + 1 + 1, 0, none⟩) 0 0] 26)
  generalize w4.alloc (.cells #[.slice (some ⟨w0.heap.size, 0, none⟩) 1 1, .slice (some ⟨w0.heap.size + 1, 0, none⟩) 2 2, .slice (some ⟨w0.heap.size + 1 + 1, 0, none⟩) 1 1, .slice (some ⟨w0.heap.size + 1 + 1 + 1, 0, none⟩) 0 0] 26) = w5 at *
  rw [s1] at p2 s2
  rw [s2] at p3 s3
  rw [s3] at s4
  rw [s4] at p5
  exact ⟨⟨(((p1.below b2).below b3).below b4).below b5, ((p2.below b3).below b4).below b5, (p3.below b4).below b5, p5⟩, We.below_trans (We.below_trans (We.below_trans (We.below_trans b1 b2) b3) b4) b5⟩
theorem turn_other {st : Nat → Int} (t : Int) (h : st 0 = 1) : at_ 2 (turnF 2 st 1 t) 0 = 1 := by
  have : at_ 2 (turnF 2 st 1 t) 0 = turnF 2 st 1 t 0 := at_yes (p := 0) (by decide)
  rw [this]
  cases ht : turnB 2 st 1 t
  · rw [turnF_stay ht]; exact h
  · rw [turnF_go ht]
    show lay st ((1 : Nat) : Int) t 0 = 1
    rw [lay_ne (by decide)]; exact h
theorem turn_at {st : Nat → Int} (t : Int) : turnB 2 st 1 t = turns (st 1) t := turnB_yes (p := 1) (by decide)
theorem turn_four {st : Nat → Int} (h : st 1 = 4) (t : Int) : turnB 2 st 1 t = false := by rw [turn_at, h]; exact turns_bad
theorem turn_of1 {st : Nat → Int} (h : st 1 = 1) (t : Int) : turnB 2 st 1 t = ((t == 2) || (t == 4)) := by
  rw [turn_at, h]; unfold turns; rw [Bool.eq_iff_iff]; simp
theorem turn_of2 {st : Nat → Int} (h : st 1 = 2) (t : Int) : turnB 2 st 1 t = ((t == 3) || (t == 4)) := by
  rw [turn_at, h]; unfold turns; rw [Bool.eq_iff_iff]; simp
theorem turn_of3 {st : Nat → Int} (h : st 1 = 3) (t : Int) : turnB 2 st 1 t = ((t == 1) || (t == 4)) := by
  rw [turn_at, h]; unfold turns; rw [Bool.eq_iff_iff]; simp
set_option maxRecDepth 4000 in
set_option maxHeartbeats 16000000 in
theorem known_law {Y : World → Nat → Nat → Nat → Nat → (Nat → Int) → (Nat → Int) → Prop} (C : YC Y) (w : World) :
    Calls Try.prog 4 #[] w (We.Ans w (.bool true)) := by
  have ha := Lib.hid (awake_any C w)
  have C' := Lib.hid C
  clear C
  go_enter Try.func4, Try.ntmps4
  go_wp2_with (go_at_call 8; (with_reducible refine ha.out.mono ?_); clear ha; rintro e w0 ⟨rfl, hB0⟩; replace hB0 := Lib.hid hB0)
  obtain ⟨l1, b1⟩ := litw_new w0
  have B1 := Lib.hid (We.below_trans hB0.out b1)
  replace l1 := Lib.hid l1
  clear b1 hB0
  generalize (((((w0.alloc (.cells #[.int .i64 2] 3)).alloc (.cells #[.int .i64 2, .int .i64 3] 3)).alloc (.cells #[.int .i64 4] 3)).alloc (.cells #[] 3)).alloc (.cells #[.slice (some ⟨w0.heap.size, 0, none⟩) 1 1, .slice (some ⟨w0.heap.size + 1, 0, none⟩) 2 2, .slice (some ⟨w0.heap.size + 1 + 1, 0, none⟩) 1 1, .slice (some ⟨w0.heap.size + 1 + 1 + 1, 0, none⟩) 0 0] 26)) = w1 at *
  generalize w0.heap.size = bb at *
  go_loopw [2] (fun q wr => ∃ i : Nat, q = .int .i64 (i : Int) ∧ i ≤ 4 ∧ Hid (LitW wr bb) ∧ Hid (Below w.heap.size w wr)) (fun q _ => 4 - (intOf q).toNat)
  case atStart => exact ⟨0, rfl, Nat.zero_le _, l1, B1⟩
  case round =>
    obtain ⟨i, rfl, hi4, lr, Br⟩ := hrel
    clear l1 B1
    by_cases hin : i < 4
    · have hinI : (i : Int) < 4 := by omega
      rcases (show i = 0 ∨ i = 1 ∨ i = 2 ∨ i = 3 by omega) with rfl | rfl | rfl | rfl
      · skip
        rw [show ((0 : Nat) : Int) = 0 from rfl]
        go_wp2_with fail
        go_loopw [3] (fun q wq => ∃ t : Nat, q = .int .i64 (t : Int) ∧ t ≤ 6 ∧ Hid (LitW wq bb) ∧ Hid (Below w.heap.size w wq)) (fun q _ => 6 - (intOf q).toNat)
        case atStart => exact ⟨0, rfl, Nat.zero_le _, lr, Br⟩
        case round =>
          obtain ⟨t, rfl, ht6, lt, Bt⟩ := hrel
          clear lr Br
          by_cases ht : t < 6
          · have htI : (t : Int) ≤ 5 := by omega
            have d2 : decide ((t : Int) ≤ 5) = true := decide_eq_true htI
            have hc := Lib.hid (new_lit C'.out wr 2 2 (by decide))
            go_wp2_with (go_at_call 9; (with_reducible refine hc.out.mono ?_); clear hc; rintro e w3 ⟨G, rfl, hb, y3⟩; have B3 := Lib.hid (We.below_trans Bt.out hb); have l3 := Lib.hid (lt.out.below hb); replace y3 := Lib.hid y3; have hlo := Lib.hid Bt.out.size; have hbl := Lib.hid lt.out.2.2.2.lt; clear hb lt Bt)
            generalize wr.heap.size = lo at *
            generalize w3.heap.size = hi at *
            obtain ⟨F, hF⟩ : ∃ F : Nat → Nat → Int, Hid ((fun j => if j = 0 then (fun _ => 1) else (lay (fun _ => 1) 1 2)) = F) := ⟨_, Lib.hid rfl⟩
            have hF0 := Lib.hid (show F 0 = (fun _ => 1) by rw [← hF.out] <;> rfl)
            have hF1 := Lib.hid (show F 1 = (lay (fun _ => 1) 1 2) by rw [← hF.out] <;> rfl)

            go_loopw [5] (fun q wq => ∃ j : Nat, q = .int .i64 (j : Int) ∧ j ≤ 1 ∧ Hid (Y wq lo hi G 2 (F j) (fun _ => 0)) ∧ Hid (LitW wq bb) ∧ Hid (Below w.heap.size w wq)) (fun q _ => 1 - (intOf q).toNat)
            case atStart => exact ⟨0, rfl, Nat.zero_le _, by rw [hF0.out]; exact y3, l3, B3⟩
            case round =>
              obtain ⟨j, rfl, hjn, yq, lq, Bq⟩ := hrel
              clear y3 l3 B3
              have cw := lq.out.2.2.2.cell (i := 0) (by decide)
              replace cw : wr.cell? ⟨bb + 1 + 1 + 1 + 1, 0, none⟩ = some (.slice (some ⟨bb, 0, none⟩) 1 1) := cw
              by_cases hj : j < 1
              · have hjI : (j : Int) < 1 := by omega
                have d3 : decide ((j : Int) < 1) = true := decide_eq_true hjI
                obtain rfl : j = 0 := by omega
                have ci := lq.out.1.cell (i := 0) (by decide)
                replace ci : wr.cell? ⟨bb, 0, none⟩ = some (.int .i64 2) := ci
                rw [hF0.out] at yq
                have hb := Lib.hid (show turnB 2 (fun _ => 1) 1 2 = true by decide +kernel)
                have hc := Lib.hid (turn_lit C'.out Bq.out hlo.out yq.out 1 2 true hb.out (lay (fun _ => 1) 1 2) (turnF_go hb.out))
                have hkp := Lib.hid (C'.out.turn yq.out 1 2)
                rw [hb.out, turnF_go hb.out] at hkp
                go_wp2_with (go_at_call 12; (with_reducible refine hkp.out.mono ?_); rintro e w5 ⟨rfl, kk, yy⟩; have B5 := Lib.hid (below_out Bq.out hlo.out kk); have l5 := Lib.hid (lq.out.out kk hbl.out); have y5 := Lib.hid yy; clear kk yy hkp hc)
                go_roundw
                case rel => exact ⟨1, by first | rfl | go_num, by omega, by rw [hF1.out]; exact y5, l5, B5⟩
                case measure => simp [intOf] <;> omega
              · obtain rfl : j = 1 := by omega
                rw [hF1.out] at yq
                have hx := Lib.hid (show at_ 2 (lay (fun _ => 1) 1 2) 1 = 2 by decide +kernel)
                clear hj hjn
                cases e1 : ((t : Int) == 3)
                · cases e4 : ((t : Int) == 4)
                  · skip
                    have hw : turnB 2 (lay (fun _ => 1) 1 2) 1 (t : Int) = false := by rw [turn_of2 (by decide +kernel) (t : Int), e1, e4]; rfl
                    go_wp2_with (go_at_call 13; (with_reducible refine (C'.out.state yq.out 1).mono ?_); (rw [hx.out]); rintro e w5 ⟨rfl, hb⟩; have B5 := Lib.hid (We.below_trans Bq.out hb); have y5 := Lib.hid (YC.below C'.out yq.out hb); have l5 := Lib.hid (lq.out.below hb); clear hb yq lq Bq cw)
                    have h0 := Lib.hid (show at_ 2 (turnF 2 (lay (fun _ => 1) 1 2) 1 (t : Int)) 0 = 1 from turn_other (t : Int) (by decide +kernel))
                    have hkp := C'.out.turn y5.out 1 (t : Int)
                    rw [hw] at hkp
                    replace hkp := Lib.hid hkp
                    replace hw := Lib.hid hw
                    go_wp2_with (go_at_call 12; (with_reducible refine hkp.out.mono ?_); rintro e w6 ⟨rfl, kk, yy⟩; have B6 := Lib.hid (below_out B5.out hlo.out kk); have l6 := Lib.hid (l5.out.out kk hbl.out); have y6 := Lib.hid yy; clear kk yy hkp y5 l5 B5)
                    go_wp2_with (go_at_call 13; (with_reducible refine (C'.out.state y6.out 0).mono ?_); (rw [h0.out]); rintro e w7 ⟨rfl, hb⟩; have B7 := Lib.hid (We.below_trans B6.out hb); have l7 := Lib.hid (l6.out.below hb); clear hb y6 l6 B6)
                    go_roundw
                    case rel => exact ⟨t + 1, by go_num, by omega, l7, B7⟩
                    case measure => simp [intOf] <;> omega
                  · skip
                    have hw : turnB 2 (lay (fun _ => 1) 1 2) 1 (t : Int) = true := by rw [turn_of2 (by decide +kernel) (t : Int), e1, e4]; rfl
                    go_wp2_with (go_at_call 13; (with_reducible refine (C'.out.state yq.out 1).mono ?_); (rw [hx.out]); rintro e w5 ⟨rfl, hb⟩; have B5 := Lib.hid (We.below_trans Bq.out hb); have y5 := Lib.hid (YC.below C'.out yq.out hb); have l5 := Lib.hid (lq.out.below hb); clear hb yq lq Bq cw)
                    have h0 := Lib.hid (show at_ 2 (turnF 2 (lay (fun _ => 1) 1 2) 1 (t : Int)) 0 = 1 from turn_other (t : Int) (by decide +kernel))
                    have hkp := C'.out.turn y5.out 1 (t : Int)
                    rw [hw] at hkp
                    replace hkp := Lib.hid hkp
                    replace hw := Lib.hid hw
                    go_wp2_with (go_at_call 12; (with_reducible refine hkp.out.mono ?_); rintro e w6 ⟨rfl, kk, yy⟩; have B6 := Lib.hid (below_out B5.out hlo.out kk); have l6 := Lib.hid (l5.out.out kk hbl.out); have y6 := Lib.hid yy; clear kk yy hkp y5 l5 B5)
                    go_wp2_with (go_at_call 13; (with_reducible refine (C'.out.state y6.out 0).mono ?_); (rw [h0.out]); rintro e w7 ⟨rfl, hb⟩; have B7 := Lib.hid (We.below_trans B6.out hb); have l7 := Lib.hid (l6.out.below hb); clear hb y6 l6 B6)
                    go_roundw
                    case rel => exact ⟨t + 1, by go_num, by omega, l7, B7⟩
                    case measure => simp [intOf] <;> omega
                · skip
                  have hw : turnB 2 (lay (fun _ => 1) 1 2) 1 (t : Int) = true := by rw [turn_of2 (by decide +kernel) (t : Int), e1]; rfl
                  go_wp2_with (go_at_call 13; (with_reducible refine (C'.out.state yq.out 1).mono ?_); (rw [hx.out]); rintro e w5 ⟨rfl, hb⟩; have B5 := Lib.hid (We.below_trans Bq.out hb); have y5 := Lib.hid (YC.below C'.out yq.out hb); have l5 := Lib.hid (lq.out.below hb); clear hb yq lq Bq cw)
                  have h0 := Lib.hid (show at_ 2 (turnF 2 (lay (fun _ => 1) 1 2) 1 (t : Int)) 0 = 1 from turn_other (t : Int) (by decide +kernel))
                  have hkp := C'.out.turn y5.out 1 (t : Int)
                  rw [hw] at hkp
                  replace hkp := Lib.hid hkp
                  replace hw := Lib.hid hw
                  go_wp2_with (go_at_call 12; (with_reducible refine hkp.out.mono ?_); rintro e w6 ⟨rfl, kk, yy⟩; have B6 := Lib.hid (below_out B5.out hlo.out kk); have l6 := Lib.hid (l5.out.out kk hbl.out); have y6 := Lib.hid yy; clear kk yy hkp y5 l5 B5)
                  go_wp2_with (go_at_call 13; (with_reducible refine (C'.out.state y6.out 0).mono ?_); (rw [h0.out]); rintro e w7 ⟨rfl, hb⟩; have B7 := Lib.hid (We.below_trans B6.out hb); have l7 := Lib.hid (l6.out.below hb); clear hb y6 l6 B6)
                  go_roundw
                  case rel => exact ⟨t + 1, by go_num, by omega, l7, B7⟩
                  case measure => simp [intOf] <;> omega

          · have d2 : decide ((t : Int) ≤ 5) = false := decide_eq_false (by omega)
            go_wp2_with fail
            go_roundw
            case rel => exact ⟨1, by first | rfl | go_num, by omega, lt, Bt⟩
            case measure => simp [intOf] <;> omega
      · skip
        rw [show ((1 : Nat) : Int) = 1 from rfl]
        go_wp2_with fail
        go_loopw [3] (fun q wq => ∃ t : Nat, q = .int .i64 (t : Int) ∧ t ≤ 6 ∧ Hid (LitW wq bb) ∧ Hid (Below w.heap.size w wq)) (fun q _ => 6 - (intOf q).toNat)
        case atStart => exact ⟨0, rfl, Nat.zero_le _, lr, Br⟩
        case round =>
          obtain ⟨t, rfl, ht6, lt, Bt⟩ := hrel
          clear lr Br
          by_cases ht : t < 6
          · have htI : (t : Int) ≤ 5 := by omega
            have d2 : decide ((t : Int) ≤ 5) = true := decide_eq_true htI
            have hc := Lib.hid (new_lit C'.out wr 2 2 (by decide))
            go_wp2_with (go_at_call 9; (with_reducible refine hc.out.mono ?_); clear hc; rintro e w3 ⟨G, rfl, hb, y3⟩; have B3 := Lib.hid (We.below_trans Bt.out hb); have l3 := Lib.hid (lt.out.below hb); replace y3 := Lib.hid y3; have hlo := Lib.hid Bt.out.size; have hbl := Lib.hid lt.out.2.2.2.lt; clear hb lt Bt)
            generalize wr.heap.size = lo at *
            generalize w3.heap.size = hi at *
            obtain ⟨F, hF⟩ : ∃ F : Nat → Nat → Int, Hid ((fun j => if j = 0 then (fun _ => 1) else if j = 1 then (lay (fun _ => 1) 1 2) else (lay (lay (fun _ => 1) 1 2) 1 3)) = F) := ⟨_, Lib.hid rfl⟩
            have hF0 := Lib.hid (show F 0 = (fun _ => 1) by rw [← hF.out] <;> rfl)
            have hF1 := Lib.hid (show F 1 = (lay (fun _ => 1) 1 2) by rw [← hF.out] <;> rfl)
            have hF2 := Lib.hid (show F 2 = (lay (lay (fun _ => 1) 1 2) 1 3) by rw [← hF.out] <;> rfl)

            go_loopw [5] (fun q wq => ∃ j : Nat, q = .int .i64 (j : Int) ∧ j ≤ 2 ∧ Hid (Y wq lo hi G 2 (F j) (fun _ => 0)) ∧ Hid (LitW wq bb) ∧ Hid (Below w.heap.size w wq)) (fun q _ => 2 - (intOf q).toNat)
            case atStart => exact ⟨0, rfl, Nat.zero_le _, by rw [hF0.out]; exact y3, l3, B3⟩
            case round =>
              obtain ⟨j, rfl, hjn, yq, lq, Bq⟩ := hrel
              clear y3 l3 B3
              have cw := lq.out.2.2.2.cell (i := 1) (by decide)
              replace cw : wr.cell? ⟨bb + 1 + 1 + 1 + 1, 1, none⟩ = some (.slice (some ⟨bb + 1, 0, none⟩) 2 2) := cw
              by_cases hj : j < 2
              · have hjI : (j : Int) < 2 := by omega
                have d3 : decide ((j : Int) < 2) = true := decide_eq_true hjI
                rcases (show j = 0 ∨ j = 1 by omega) with rfl | rfl
                · skip
                  have ci := lq.out.2.1.cell (i := 0) (by decide)
                  replace ci : wr.cell? ⟨bb + 1, 0, none⟩ = some (.int .i64 2) := ci
                  rw [hF0.out] at yq
                  have hb := Lib.hid (show turnB 2 (fun _ => 1) 1 2 = true by decide +kernel)
                  have hc := Lib.hid (turn_lit C'.out Bq.out hlo.out yq.out 1 2 true hb.out (lay (fun _ => 1) 1 2) (turnF_go hb.out))
                  have hkp := Lib.hid (C'.out.turn yq.out 1 2)
                  rw [hb.out, turnF_go hb.out] at hkp
                  go_wp2_with (go_at_call 12; (with_reducible refine hkp.out.mono ?_); rintro e w5 ⟨rfl, kk, yy⟩; have B5 := Lib.hid (below_out Bq.out hlo.out kk); have l5 := Lib.hid (lq.out.out kk hbl.out); have y5 := Lib.hid yy; clear kk yy hkp hc)
                  go_roundw
                  case rel => exact ⟨1, by first | rfl | go_num, by omega, by rw [hF1.out]; exact y5, l5, B5⟩
                  case measure => simp [intOf] <;> omega
                · skip
                  have ci := lq.out.2.1.cell (i := 1) (by decide)
                  replace ci : wr.cell? ⟨bb + 1, 1, none⟩ = some (.int .i64 3) := ci
                  rw [hF1.out] at yq
                  have hb := Lib.hid (show turnB 2 (lay (fun _ => 1) 1 2) 1 3 = true by decide +kernel)
                  have hc := Lib.hid (turn_lit C'.out Bq.out hlo.out yq.out 1 3 true hb.out (lay (lay (fun _ => 1) 1 2) 1 3) (turnF_go hb.out))
                  have hkp := Lib.hid (C'.out.turn yq.out 1 3)
                  rw [hb.out, turnF_go hb.out] at hkp
                  go_wp2_with (go_at_call 12; (with_reducible refine hkp.out.mono ?_); rintro e w5 ⟨rfl, kk, yy⟩; have B5 := Lib.hid (below_out Bq.out hlo.out kk); have l5 := Lib.hid (lq.out.out kk hbl.out); have y5 := Lib.hid yy; clear kk yy hkp hc)
                  go_roundw
                  case rel => exact ⟨2, by first | rfl | go_num, by omega, by rw [hF2.out]; exact y5, l5, B5⟩
                  case measure => simp [intOf] <;> omega
              · obtain rfl : j = 2 := by omega
                rw [hF2.out] at yq
                have hx := Lib.hid (show at_ 2 (lay (lay (fun _ => 1) 1 2) 1 3) 1 = 3 by decide +kernel)
                clear hj hjn
                cases e1 : ((t : Int) == 1)
                · cases e4 : ((t : Int) == 4)
                  · skip
                    have hw : turnB 2 (lay (lay (fun _ => 1) 1 2) 1 3) 1 (t : Int) = false := by rw [turn_of3 (by decide +kernel) (t : Int), e1, e4]; rfl
                    go_wp2_with (go_at_call 13; (with_reducible refine (C'.out.state yq.out 1).mono ?_); (rw [hx.out]); rintro e w5 ⟨rfl, hb⟩; have B5 := Lib.hid (We.below_trans Bq.out hb); have y5 := Lib.hid (YC.below C'.out yq.out hb); have l5 := Lib.hid (lq.out.below hb); clear hb yq lq Bq cw)
                    have h0 := Lib.hid (show at_ 2 (turnF 2 (lay (lay (fun _ => 1) 1 2) 1 3) 1 (t : Int)) 0 = 1 from turn_other (t : Int) (by decide +kernel))
                    have hkp := C'.out.turn y5.out 1 (t : Int)
                    rw [hw] at hkp
                    replace hkp := Lib.hid hkp
                    replace hw := Lib.hid hw
                    go_wp2_with (go_at_call 12; (with_reducible refine hkp.out.mono ?_); rintro e w6 ⟨rfl, kk, yy⟩; have B6 := Lib.hid (below_out B5.out hlo.out kk); have l6 := Lib.hid (l5.out.out kk hbl.out); have y6 := Lib.hid yy; clear kk yy hkp y5 l5 B5)
                    go_wp2_with (go_at_call 13; (with_reducible refine (C'.out.state y6.out 0).mono ?_); (rw [h0.out]); rintro e w7 ⟨rfl, hb⟩; have B7 := Lib.hid (We.below_trans B6.out hb); have l7 := Lib.hid (l6.out.below hb); clear hb y6 l6 B6)
                    go_roundw
                    case rel => exact ⟨t + 1, by go_num, by omega, l7, B7⟩
                    case measure => simp [intOf] <;> omega
                  · skip
                    have hw : turnB 2 (lay (lay (fun _ => 1) 1 2) 1 3) 1 (t : Int) = true := by rw [turn_of3 (by decide +kernel) (t : Int), e1, e4]; rfl
                    go_wp2_with (go_at_call 13; (with_reducible refine (C'.out.state yq.out 1).mono ?_); (rw [hx.out]); rintro e w5 ⟨rfl, hb⟩; have B5 := Lib.hid (We.below_trans Bq.out hb); have y5 := Lib.hid (YC.below C'.out yq.out hb); have l5 := Lib.hid (lq.out.below hb); clear hb yq lq Bq cw)
                    have h0 := Lib.hid (show at_ 2 (turnF 2 (lay (lay (fun _ => 1) 1 2) 1 3) 1 (t : Int)) 0 = 1 from turn_other (t : Int) (by decide +kernel))
                    have hkp := C'.out.turn y5.out 1 (t : Int)
                    rw [hw] at hkp
                    replace hkp := Lib.hid hkp
                    replace hw := Lib.hid hw
                    go_wp2_with (go_at_call 12; (with_reducible refine hkp.out.mono ?_); rintro e w6 ⟨rfl, kk, yy⟩; have B6 := Lib.hid (below_out B5.out hlo.out kk); have l6 := Lib.hid (l5.out.out kk hbl.out); have y6 := Lib.hid yy; clear kk yy hkp y5 l5 B5)
                    go_wp2_with (go_at_call 13; (with_reducible refine (C'.out.state y6.out 0).mono ?_); (rw [h0.out]); rintro e w7 ⟨rfl, hb⟩; have B7 := Lib.hid (We.below_trans B6.out hb); have l7 := Lib.hid (l6.out.below hb); clear hb y6 l6 B6)
                    go_roundw
                    case rel => exact ⟨t + 1, by go_num, by omega, l7, B7⟩
                    case measure => simp [intOf] <;> omega
                · skip
                  have hw : turnB 2 (lay (lay (fun _ => 1) 1 2) 1 3) 1 (t : Int) = true := by rw [turn_of3 (by decide +kernel) (t : Int), e1]; rfl
                  go_wp2_with (go_at_call 13; (with_reducible refine (C'.out.state yq.out 1).mono ?_); (rw [hx.out]); rintro e w5 ⟨rfl, hb⟩; have B5 := Lib.hid (We.below_trans Bq.out hb); have y5 := Lib.hid (YC.below C'.out yq.out hb); have l5 := Lib.hid (lq.out.below hb); clear hb yq lq Bq cw)
                  have h0 := Lib.hid (show at_ 2 (turnF 2 (lay (lay (fun _ => 1) 1 2) 1 3) 1 (t : Int)) 0 = 1 from turn_other (t : Int) (by decide +kernel))
                  have hkp := C'.out.turn y5.out 1 (t : Int)
                  rw [hw] at hkp
                  replace hkp := Lib.hid hkp
                  replace hw := Lib.hid hw
                  go_wp2_with (go_at_call 12; (with_reducible refine hkp.out.mono ?_); rintro e w6 ⟨rfl, kk, yy⟩; have B6 := Lib.hid (below_out B5.out hlo.out kk); have l6 := Lib.hid (l5.out.out kk hbl.out); have y6 := Lib.hid yy; clear kk yy hkp y5 l5 B5)
                  go_wp2_with (go_at_call 13; (with_reducible refine (C'.out.state y6.out 0).mono ?_); (rw [h0.out]); rintro e w7 ⟨rfl, hb⟩; have B7 := Lib.hid (We.below_trans B6.out hb); have l7 := Lib.hid (l6.out.below hb); clear hb y6 l6 B6)
                  go_roundw
                  case rel => exact ⟨t + 1, by go_num, by omega, l7, B7⟩
                  case measure => simp [intOf] <;> omega

          · have d2 : decide ((t : Int) ≤ 5) = false := decide_eq_false (by omega)
            go_wp2_with fail
            go_roundw
            case rel => exact ⟨2, by first | rfl | go_num, by omega, lt, Bt⟩
            case measure => simp [intOf] <;> omega
      · skip
        rw [show ((2 : Nat) : Int) = 2 from rfl]
        go_wp2_with fail
        go_loopw [3] (fun q wq => ∃ t : Nat, q = .int .i64 (t : Int) ∧ t ≤ 6 ∧ Hid (LitW wq bb) ∧ Hid (Below w.heap.size w wq)) (fun q _ => 6 - (intOf q).toNat)
        case atStart => exact ⟨0, rfl, Nat.zero_le _, lr, Br⟩
        case round =>
          obtain ⟨t, rfl, ht6, lt, Bt⟩ := hrel
          clear lr Br
          by_cases ht : t < 6
          · have htI : (t : Int) ≤ 5 := by omega
            have d2 : decide ((t : Int) ≤ 5) = true := decide_eq_true htI
            have hc := Lib.hid (new_lit C'.out wr 2 2 (by decide))
            go_wp2_with (go_at_call 9; (with_reducible refine hc.out.mono ?_); clear hc; rintro e w3 ⟨G, rfl, hb, y3⟩; have B3 := Lib.hid (We.below_trans Bt.out hb); have l3 := Lib.hid (lt.out.below hb); replace y3 := Lib.hid y3; have hlo := Lib.hid Bt.out.size; have hbl := Lib.hid lt.out.2.2.2.lt; clear hb lt Bt)
            generalize wr.heap.size = lo at *
            generalize w3.heap.size = hi at *
            obtain ⟨F, hF⟩ : ∃ F : Nat → Nat → Int, Hid ((fun j => if j = 0 then (fun _ => 1) else (lay (fun _ => 1) 1 4)) = F) := ⟨_, Lib.hid rfl⟩
            have hF0 := Lib.hid (show F 0 = (fun _ => 1) by rw [← hF.out] <;> rfl)
            have hF1 := Lib.hid (show F 1 = (lay (fun _ => 1) 1 4) by rw [← hF.out] <;> rfl)

            go_loopw [5] (fun q wq => ∃ j : Nat, q = .int .i64 (j : Int) ∧ j ≤ 1 ∧ Hid (Y wq lo hi G 2 (F j) (fun _ => 0)) ∧ Hid (LitW wq bb) ∧ Hid (Below w.heap.size w wq)) (fun q _ => 1 - (intOf q).toNat)
            case atStart => exact ⟨0, rfl, Nat.zero_le _, by rw [hF0.out]; exact y3, l3, B3⟩
            case round =>
              obtain ⟨j, rfl, hjn, yq, lq, Bq⟩ := hrel
              clear y3 l3 B3
              have cw := lq.out.2.2.2.cell (i := 2) (by decide)
              replace cw : wr.cell? ⟨bb + 1 + 1 + 1 + 1, 2, none⟩ = some (.slice (some ⟨bb + 1 + 1, 0, none⟩) 1 1) := cw
              by_cases hj : j < 1
              · have hjI : (j : Int) < 1 := by omega
                have d3 : decide ((j : Int) < 1) = true := decide_eq_true hjI
                obtain rfl : j = 0 := by omega
                have ci := lq.out.2.2.1.cell (i := 0) (by decide)
                replace ci : wr.cell? ⟨bb + 1 + 1, 0, none⟩ = some (.int .i64 4) := ci
                rw [hF0.out] at yq
                have hb := Lib.hid (show turnB 2 (fun _ => 1) 1 4 = true by decide +kernel)
                have hc := Lib.hid (turn_lit C'.out Bq.out hlo.out yq.out 1 4 true hb.out (lay (fun _ => 1) 1 4) (turnF_go hb.out))
                have hkp := Lib.hid (C'.out.turn yq.out 1 4)
                rw [hb.out, turnF_go hb.out] at hkp
                go_wp2_with (go_at_call 12; (with_reducible refine hkp.out.mono ?_); rintro e w5 ⟨rfl, kk, yy⟩; have B5 := Lib.hid (below_out Bq.out hlo.out kk); have l5 := Lib.hid (lq.out.out kk hbl.out); have y5 := Lib.hid yy; clear kk yy hkp hc)
                go_roundw
                case rel => exact ⟨1, by first | rfl | go_num, by omega, by rw [hF1.out]; exact y5, l5, B5⟩
                case measure => simp [intOf] <;> omega
              · obtain rfl : j = 1 := by omega
                rw [hF1.out] at yq
                have hx := Lib.hid (show at_ 2 (lay (fun _ => 1) 1 4) 1 = 4 by decide +kernel)
                clear hj hjn
                have hw : turnB 2 (lay (fun _ => 1) 1 4) 1 (t : Int) = false := turn_four (by decide +kernel) (t : Int)
                go_wp2_with (go_at_call 13; (with_reducible refine (C'.out.state yq.out 1).mono ?_); (rw [hx.out]); rintro e w5 ⟨rfl, hb⟩; have B5 := Lib.hid (We.below_trans Bq.out hb); have y5 := Lib.hid (YC.below C'.out yq.out hb); have l5 := Lib.hid (lq.out.below hb); clear hb yq lq Bq cw)
                have h0 := Lib.hid (show at_ 2 (turnF 2 (lay (fun _ => 1) 1 4) 1 (t : Int)) 0 = 1 from turn_other (t : Int) (by decide +kernel))
                have hkp := C'.out.turn y5.out 1 (t : Int)
                rw [hw] at hkp
                replace hkp := Lib.hid hkp
                replace hw := Lib.hid hw
                go_wp2_with (go_at_call 12; (with_reducible refine hkp.out.mono ?_); rintro e w6 ⟨rfl, kk, yy⟩; have B6 := Lib.hid (below_out B5.out hlo.out kk); have l6 := Lib.hid (l5.out.out kk hbl.out); have y6 := Lib.hid yy; clear kk yy hkp y5 l5 B5)
                go_wp2_with (go_at_call 13; (with_reducible refine (C'.out.state y6.out 0).mono ?_); (rw [h0.out]); rintro e w7 ⟨rfl, hb⟩; have B7 := Lib.hid (We.below_trans B6.out hb); have l7 := Lib.hid (l6.out.below hb); clear hb y6 l6 B6)
                go_roundw
                case rel => exact ⟨t + 1, by go_num, by omega, l7, B7⟩
                case measure => simp [intOf] <;> omega

          · have d2 : decide ((t : Int) ≤ 5) = false := decide_eq_false (by omega)
            go_wp2_with fail
            go_roundw
            case rel => exact ⟨3, by first | rfl | go_num, by omega, lt, Bt⟩
            case measure => simp [intOf] <;> omega
      · skip
        rw [show ((3 : Nat) : Int) = 3 from rfl]
        go_wp2_with fail
        go_loopw [3] (fun q wq => ∃ t : Nat, q = .int .i64 (t : Int) ∧ t ≤ 6 ∧ Hid (LitW wq bb) ∧ Hid (Below w.heap.size w wq)) (fun q _ => 6 - (intOf q).toNat)
        case atStart => exact ⟨0, rfl, Nat.zero_le _, lr, Br⟩
        case round =>
          obtain ⟨t, rfl, ht6, lt, Bt⟩ := hrel
          clear lr Br
          by_cases ht : t < 6
          · have htI : (t : Int) ≤ 5 := by omega
            have d2 : decide ((t : Int) ≤ 5) = true := decide_eq_true htI
            have hc := Lib.hid (new_lit C'.out wr 2 2 (by decide))
            go_wp2_with (go_at_call 9; (with_reducible refine hc.out.mono ?_); clear hc; rintro e w3 ⟨G, rfl, hb, y3⟩; have B3 := Lib.hid (We.below_trans Bt.out hb); have l3 := Lib.hid (lt.out.below hb); replace y3 := Lib.hid y3; have hlo := Lib.hid Bt.out.size; have hbl := Lib.hid lt.out.2.2.2.lt; clear hb lt Bt)
            generalize wr.heap.size = lo at *
            generalize w3.heap.size = hi at *
            obtain ⟨F, hF⟩ : ∃ F : Nat → Nat → Int, Hid ((fun j => (fun _ => 1)) = F) := ⟨_, Lib.hid rfl⟩
            have hF0 := Lib.hid (show F 0 = (fun _ => 1) by rw [← hF.out] <;> rfl)

            go_loopw [5] (fun q wq => ∃ j : Nat, q = .int .i64 (j : Int) ∧ j ≤ 0 ∧ Hid (Y wq lo hi G 2 (F j) (fun _ => 0)) ∧ Hid (LitW wq bb) ∧ Hid (Below w.heap.size w wq)) (fun q _ => 0 - (intOf q).toNat)
            case atStart => exact ⟨0, rfl, Nat.zero_le _, by rw [hF0.out]; exact y3, l3, B3⟩
            case round =>
              obtain ⟨j, rfl, hjn, yq, lq, Bq⟩ := hrel
              clear y3 l3 B3
              have cw := lq.out.2.2.2.cell (i := 3) (by decide)
              replace cw : wr.cell? ⟨bb + 1 + 1 + 1 + 1, 3, none⟩ = some (.slice (some ⟨bb + 1 + 1 + 1, 0, none⟩) 0 0) := cw
              by_cases hj : j < 0
              · have hjI : (j : Int) < 0 := by omega
                have d3 : decide ((j : Int) < 0) = true := decide_eq_true hjI
                omega
              · obtain rfl : j = 0 := by omega
                rw [hF0.out] at yq
                have hx := Lib.hid (show at_ 2 (fun _ => 1) 1 = 1 by decide +kernel)
                clear hj hjn
                cases e1 : ((t : Int) == 2)
                · cases e4 : ((t : Int) == 4)
                  · skip
                    have hw : turnB 2 (fun _ => 1) 1 (t : Int) = false := by rw [turn_of1 (by decide +kernel) (t : Int), e1, e4]; rfl
                    go_wp2_with (go_at_call 13; (with_reducible refine (C'.out.state yq.out 1).mono ?_); (rw [hx.out]); rintro e w5 ⟨rfl, hb⟩; have B5 := Lib.hid (We.below_trans Bq.out hb); have y5 := Lib.hid (YC.below C'.out yq.out hb); have l5 := Lib.hid (lq.out.below hb); clear hb yq lq Bq cw)
                    have h0 := Lib.hid (show at_ 2 (turnF 2 (fun _ => 1) 1 (t : Int)) 0 = 1 from turn_other (t : Int) (by decide +kernel))
                    have hkp := C'.out.turn y5.out 1 (t : Int)
                    rw [hw] at hkp
                    replace hkp := Lib.hid hkp
                    replace hw := Lib.hid hw
                    go_wp2_with (go_at_call 12; (with_reducible refine hkp.out.mono ?_); rintro e w6 ⟨rfl, kk, yy⟩; have B6 := Lib.hid (below_out B5.out hlo.out kk); have l6 := Lib.hid (l5.out.out kk hbl.out); have y6 := Lib.hid yy; clear kk yy hkp y5 l5 B5)
                    go_wp2_with (go_at_call 13; (with_reducible refine (C'.out.state y6.out 0).mono ?_); (rw [h0.out]); rintro e w7 ⟨rfl, hb⟩; have B7 := Lib.hid (We.below_trans B6.out hb); have l7 := Lib.hid (l6.out.below hb); clear hb y6 l6 B6)
                    go_roundw
                    case rel => exact ⟨t + 1, by go_num, by omega, l7, B7⟩
                    case measure => simp [intOf] <;> omega
                  · skip
                    have hw : turnB 2 (fun _ => 1) 1 (t : Int) = true := by rw [turn_of1 (by decide +kernel) (t : Int), e1, e4]; rfl
                    go_wp2_with (go_at_call 13; (with_reducible refine (C'.out.state yq.out 1).mono ?_); (rw [hx.out]); rintro e w5 ⟨rfl, hb⟩; have B5 := Lib.hid (We.below_trans Bq.out hb); have y5 := Lib.hid (YC.below C'.out yq.out hb); have l5 := Lib.hid (lq.out.below hb); clear hb yq lq Bq cw)
                    have h0 := Lib.hid (show at_ 2 (turnF 2 (fun _ => 1) 1 (t : Int)) 0 = 1 from turn_other (t : Int) (by decide +kernel))
                    have hkp := C'.out.turn y5.out 1 (t : Int)
                    rw [hw] at hkp
                    replace hkp := Lib.hid hkp
                    replace hw := Lib.hid hw
                    go_wp2_with (go_at_call 12; (with_reducible refine hkp.out.mono ?_); rintro e w6 ⟨rfl, kk, yy⟩; have B6 := Lib.hid (below_out B5.out hlo.out kk); have l6 := Lib.hid (l5.out.out kk hbl.out); have y6 := Lib.hid yy; clear kk yy hkp y5 l5 B5)
                    go_wp2_with (go_at_call 13; (with_reducible refine (C'.out.state y6.out 0).mono ?_); (rw [h0.out]); rintro e w7 ⟨rfl, hb⟩; have B7 := Lib.hid (We.below_trans B6.out hb); have l7 := Lib.hid (l6.out.below hb); clear hb y6 l6 B6)
                    go_roundw
                    case rel => exact ⟨t + 1, by go_num, by omega, l7, B7⟩
                    case measure => simp [intOf] <;> omega
                · skip
                  have hw : turnB 2 (fun _ => 1) 1 (t : Int) = true := by rw [turn_of1 (by decide +kernel) (t : Int), e1]; rfl
                  go_wp2_with (go_at_call 13; (with_reducible refine (C'.out.state yq.out 1).mono ?_); (rw [hx.out]); rintro e w5 ⟨rfl, hb⟩; have B5 := Lib.hid (We.below_trans Bq.out hb); have y5 := Lib.hid (YC.below C'.out yq.out hb); have l5 := Lib.hid (lq.out.below hb); clear hb yq lq Bq cw)
                  have h0 := Lib.hid (show at_ 2 (turnF 2 (fun _ => 1) 1 (t : Int)) 0 = 1 from turn_other (t : Int) (by decide +kernel))
                  have hkp := C'.out.turn y5.out 1 (t : Int)
                  rw [hw] at hkp
                  replace hkp := Lib.hid hkp
                  replace hw := Lib.hid hw
                  go_wp2_with (go_at_call 12; (with_reducible refine hkp.out.mono ?_); rintro e w6 ⟨rfl, kk, yy⟩; have B6 := Lib.hid (below_out B5.out hlo.out kk); have l6 := Lib.hid (l5.out.out kk hbl.out); have y6 := Lib.hid yy; clear kk yy hkp y5 l5 B5)
                  go_wp2_with (go_at_call 13; (with_reducible refine (C'.out.state y6.out 0).mono ?_); (rw [h0.out]); rintro e w7 ⟨rfl, hb⟩; have B7 := Lib.hid (We.below_trans B6.out hb); have l7 := Lib.hid (l6.out.below hb); clear hb y6 l6 B6)
                  go_roundw
                  case rel => exact ⟨t + 1, by go_num, by omega, l7, B7⟩
                  case measure => simp [intOf] <;> omega

          · have d2 : decide ((t : Int) ≤ 5) = false := decide_eq_false (by omega)
            go_wp2_with fail
            go_roundw
            case rel => exact ⟨4, by first | rfl | go_num, by omega, lt, Bt⟩
            case measure => simp [intOf] <;> omega
    · skip
      obtain rfl : i = 4 := by omega
      have h1 := Lib.hid (new_lit C'.out wr 73 64 (by decide))
      go_wp2_with (go_at_call 9; (with_reducible refine h1.out.mono ?_); clear h1; rintro e w3 ⟨G, rfl, hb, y3⟩; have B3 := Lib.hid (We.below_trans Br.out hb); replace y3 := Lib.hid y3; have hlo := Lib.hid Br.out.size; clear hb lr Br)
      generalize wr.heap.size = lo at *
      generalize w3.heap.size = hi at *
      obtain ⟨E, hE⟩ : ∃ E, erF 64 (fun _ => 0) 3 = E := ⟨_, rfl⟩
      have n1 := Lib.hid (show ((nb (isS (fun _ => 1) 1) 64 : Nat) : Int) = 64 by decide +kernel)
      have n2 := Lib.hid (show at_ 64 E 3 = 1 by rw [← hE]; decide +kernel)
      have n3 := Lib.hid (show turnB 64 (fun _ => 1) (-1) 2 = false by decide +kernel)
      have n4 := Lib.hid (show at_ 64 E 99 = 0 by rw [← hE]; decide +kernel)
      have n5 := Lib.hid (show ((nb (isS (fun _ => 1) 1) 0 : Nat) : Int) = 0 by decide +kernel)
      have hc := Lib.hid (erased_lit C'.out B3.out hlo.out y3.out (fun j hj => ⟨Int.le_refl 0, (by decide : (0 : Int) ≤ 1000000)⟩) 3 E hE)
      replace hE := Lib.hid hE
      go_wp2_with (go_at_call 10; (with_reducible refine hc.out.mono ?_); clear hc; rintro e w4 ⟨rfl, B4, y4⟩; replace B4 := Lib.hid B4; replace y4 := Lib.hid y4; clear y3 B3)
      have hc := Lib.hid (count_lit C'.out B4.out y4.out 1 64 n1.out)
      go_wp2_with (go_at_call 18; (with_reducible refine hc.out.mono ?_); clear hc; rintro e w5 ⟨rfl, B5, y5⟩; replace B5 := Lib.hid B5; replace y5 := Lib.hid y5; clear y4 B4)
      have hc := Lib.hid (erases_lit C'.out B5.out y5.out 3 1 n2.out)
      go_wp2_with (go_at_call 14; (with_reducible refine hc.out.mono ?_); clear hc; rintro e w6 ⟨rfl, B6, y6⟩; replace B6 := Lib.hid B6; replace y6 := Lib.hid y6; clear y5 B5)
      have hc := Lib.hid (new_lit C'.out w6 (-4) 0 (by decide))
      go_wp2_with (go_at_call 9; (with_reducible refine hc.out.mono ?_); clear hc; rintro e w7 ⟨G7, rfl, hb, z7⟩; have B7 := Lib.hid (We.below_trans B6.out hb); have y7 := Lib.hid (YC.below C'.out y6.out hb); replace z7 := Lib.hid z7; clear hb y6 B6)
      have hc := Lib.hid (C'.out.count z7.out 1)
      rw [n5.out] at hc
      go_wp2_with (go_at_call 18; (with_reducible refine hc.out.mono ?_); clear hc; rintro e w8 ⟨rfl, hb⟩; have B8 := Lib.hid (We.below_trans B7.out hb); have y8 := Lib.hid (YC.below C'.out y7.out hb); clear hb y7 B7 z7)
      have hc := Lib.hid (turn_lit C'.out B8.out hlo.out y8.out (-1) 2 false n3.out _ (turnF_stay n3.out))
      go_wp2_with (go_at_call 12; (with_reducible refine hc.out.mono ?_); clear hc; rintro e w9 ⟨rfl, B9, y9⟩; replace B9 := Lib.hid B9; replace y9 := Lib.hid y9; clear y8 B8)
      have hc := Lib.hid (erases_lit C'.out B9.out y9.out 99 0 n4.out)
      go_wp2_with (go_at_call 14; (with_reducible refine hc.out.mono ?_); clear hc; rintro e w10 ⟨rfl, B10, y10⟩; replace B10 := Lib.hid B10; clear y9 B9)
      go_ret
      exact ⟨rfl, B10.out⟩
end Go.Proofs.Ytnhkagkgmgpjeaa.Yd
