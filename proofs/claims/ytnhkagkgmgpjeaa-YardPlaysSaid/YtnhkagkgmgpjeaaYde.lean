/- YardWears walked, for whatever is a yard. -/
import Derived.Test.YtnhkagkgmgpjeaaYdd
namespace Go.Proofs.Ytnhkagkgmgpjeaa.Yd
open Go.RowKit
set_option linter.unusedVariables false
set_option linter.unusedSimpArgs false
attribute [local go_sem ↓] Cl.quiet_since
set_option maxRecDepth 4000 in
set_option maxHeartbeats 8000000 in
theorem wears_law {Y : World → Nat → Nat → Nat → Nat → (Nat → Int) → (Nat → Int) → Prop} (C : YC Y) (N : Nat) (hN : N < 256) (A : Option Addr) (n : Nat) (x : Nat → Int) (c : Nat) (hl : n ≤ c) (hm : c ≤ maxLen) (hx8 : ∀ j, (Lit.int .u8 (x j)).wf = true) (w : World) (hs : We.SF w w.heap.size A n (fun j => .int .u8 (x j))) :
    Calls Try.prog 7 #[.int .u8 (N : Int), .slice A n c] w (We.Ans w (.bool true)) := by
  have ha := Lib.hid (awake_any C w)
  have f1 : 1 + (N : Int) % 20 = ((1 + N % 20 : Nat) : Int) := by omega
  obtain ⟨k, hk⟩ : ∃ k, 1 + N % 20 = k := ⟨_, rfl⟩
  rw [hk] at f1
  have hk2 : 1 ≤ k ∧ k ≤ 20 := by omega
  have H := Lib.hid hs
  clear hs hk hl hm
  by_cases h200 : 200 < n
  · have h200I : (200 : Int) < (n : Int) := by omega
    go_enter Try.func7, Try.ntmps7
    go_wp2_with (go_at_call 8; (with_reducible refine ha.out.mono ?_); rintro e w1 ⟨rfl, hb⟩)
    go_ret
    exact ⟨rfl, hb⟩
  have h200I : ¬ (200 : Int) < (n : Int) := by omega
  have h1 := Lib.hid (fun w => new_lit C w (k : Int) k (by omega))
  have C' := Lib.hid C
  have mk := fun w => We.run_makeI w k (by omega)
  clear C
  go_enter Try.func7, Try.ntmps7
  go_wp2_with (go_at_call 8; (with_reducible refine ha.out.mono ?_); clear ha; rintro e w0 ⟨rfl, hB0⟩; replace hB0 := Lib.hid hB0)
  go_wp2_with (go_at_call 9; (with_reducible refine (h1.out _).mono ?_); clear h1; rintro e w1 ⟨G, rfl, hB, y1⟩; replace hB := Lib.hid (We.below_trans hB0.out hB); replace y1 := Lib.hid y1)
  have hlo := Lib.hid hB0.out.size
  have hwr := Lib.hid hB.out.size
  clear hB0 mk
  have hB2 := Lib.hid (We.below_trans hB.out (We.below_alloc w1 (.cells (We.zI k) 3)))
  have y2 := Lib.hid (YC.below C'.out y1.out (We.below_alloc w1 (.cells (We.zI k) 3)))
  have R2 := Lib.hid (We.PV.ints w1 k)
  clear hB y1
  generalize w1.alloc (.cells (We.zI k) 3) = w2 at *
  generalize w0.heap.size = lo at *
  generalize w1.heap.size = r at *
  go_loopw [8] (fun q wr => ∃ (i : Nat) (st er : Nat → Int), q = .int .i64 (i : Int) ∧ i ≤ n ∧ Hid (Y wr lo r G k st er) ∧ Hid (We.PV wr 3 r k (We.iF er)) ∧ (∀ j, j < k → 0 ≤ er j ∧ er j ≤ (i : Int)) ∧ Hid (Below w.heap.size w wr)) (fun q _ => n - (intOf q).toNat)
  case atStart => exact ⟨0, _, _, rfl, Nat.zero_le _, y2, R2, fun j hj => ⟨Int.le_refl _, Int.le_refl _⟩, hB2⟩
  case round =>
    obtain ⟨i, st, er, rfl, hi', yr, Rr, hbd, hBr⟩ := hrel
    clear y2 R2 hB2
    by_cases hin : i < n
    · have hinI : (i : Int) < (n : Int) := by omega
      have d1 : decide ((i : Int) < (n : Int)) = true := decide_eq_true hinI
      obtain ⟨a, rfl, hab, g0⟩ := (H.out.below hBr.out).at_ hin
      obtain ⟨X, hXl, hX⟩ := We.u8_nat (hx8 i)
      rw [hX] at g0
      obtain ⟨b, hb⟩ : ∃ b, X % k = b := ⟨_, rfl⟩
      have hbk : b < k := by rw [← hb]; exact Nat.mod_lt _ (by omega)
      have f2 : (X : Int) % (k : Int) = (b : Int) := by rw [← hb]; exact (Int.natCast_emod X k).symm
      have hk0 : ¬ (k : Int) = 0 := by omega
      obtain ⟨E, hE⟩ : ∃ E, lay er (b : Int) (er b + 1) = E := ⟨_, rfl⟩
      obtain ⟨V, hV⟩ : ∃ V, er b = V := ⟨_, rfl⟩
      have hVb : 0 ≤ V ∧ V ≤ 200 := by have := hbd b hbk; omega
      have hbd1 := Lib.hid (show ∀ j, j < k → 0 ≤ er j ∧ er j ≤ 1000000 from fun j hj => by have := hbd j hj; omega)
      have hbd2 := Lib.hid (show ∀ j, j < k → 0 ≤ E j ∧ E j ≤ ((i + 1 : Nat) : Int) from fun j hj => by
        rw [← hE]
        by_cases e : j = b
        · subst e; rw [lay_eq]; have := hbd j hj; omega
        · rw [lay_ne e]; have := hbd j hj; omega)
      have hc := C'.out.erased yr.out hbd1.out (b : Int)
      rw [erF_yes hbk, hE] at hc
      replace hc := Lib.hid hc
      replace hX := Lib.hid hX
      have hbkI : (b : Int) < (k : Int) := by omega
      clear hbd hbd1 hb
      go_wp2_with (go_at_call 10; (with_reducible refine hc.out.mono ?_); clear hc; rintro e w3 ⟨rfl, kk, yy⟩; have R3 := Lib.hid (Rr.out.keep (kk.block r Rr.out.lt (by unfold Out; omega))); have B3 := Lib.hid (below_out hBr.out hlo.out kk); have y3 := Lib.hid yy; clear kk yy yr Rr hBr; have ce := R3.out.cell hbk; (unfold We.iF at ce); (rw [hV] at ce); have fz := R3.out.frozen b)
      have R4 := (R3.out.set_ b (.int .i64 (V + 1))).congr (f' := We.iF E) fun j hj => by
        show (if j = b then Value.int .i64 (V + 1) else We.iF er j) = .int .i64 (E j)
        rw [← hE]
        unfold We.iF
        by_cases e : j = b
        · subst e; rw [if_pos rfl, lay_eq, hV]
        · rw [if_neg e, lay_ne e]
      have y4 := C'.out.keep (w' := w3.setCell ⟨r, b, none⟩ (.int .i64 (V + 1))) y3.out fun q h1 h2 _ => We.setCell_block w3 _ (by omega)
      have B4 := We.below_set (i := b) B3.out hwr.out (.int .i64 (V + 1))
      replace R4 := Lib.hid R4
      replace y4 := Lib.hid y4
      replace B4 := Lib.hid B4
      clear ce fz R3 B3 y3
      generalize w3.setCell ⟨r, b, none⟩ (.int .i64 (V + 1)) = w4 at *
      have hcell : Hid (∀ w', Below w.heap.size w w' → w'.cell? (a.add i) = some (.int .u8 (X : Int))) := Lib.hid fun w' hb => by
        obtain ⟨a', e, _, h⟩ := (H.out.below hb).at_ hin
        cases e
        rw [hX.out] at h
        exact h
      replace hE := Lib.hid hE
      replace hV := Lib.hid hV
      obtain ⟨s5, hs5⟩ : ∃ s, turnF k st (b : Int) 2 = s := ⟨_, rfl⟩
      obtain ⟨v5, hv5⟩ : ∃ s, turnB k st (b : Int) 2 = s := ⟨_, rfl⟩
      have hc := C'.out.turn y4.out (b : Int) 2
      rw [hs5, hv5] at hc
      replace hc := Lib.hid hc
      clear hs5 hv5
      go_wp2_with (go_at_call 12; (with_reducible refine hc.out.mono ?_); clear hc; rintro e w5 ⟨rfl, kk, yy⟩; have R5 := Lib.hid (R4.out.keep (kk.block r R4.out.lt (by unfold Out; omega))); have B5 := Lib.hid (below_out B4.out hlo.out kk); have y5 := Lib.hid yy; clear kk yy y4 R4 B4)
      obtain ⟨s6, hs6⟩ : ∃ s, turnF k s5 (b : Int) 3 = s := ⟨_, rfl⟩
      obtain ⟨v6, hv6⟩ : ∃ s, turnB k s5 (b : Int) 3 = s := ⟨_, rfl⟩
      have hc := C'.out.turn y5.out (b : Int) 3
      rw [hs6, hv6] at hc
      replace hc := Lib.hid hc
      clear hs6 hv6
      cases hz : (bits BinOp.and IntKind.u8 (X : Int) 64 == 0)
      · have hz2 : (bits BinOp.and IntKind.u8 (X : Int) 64 != 0) = true := by simp [bne, hz]
        go_wp2_with (go_at_call 12; (with_reducible refine hc.out.mono ?_); clear hc; rintro e w6 ⟨rfl, kk, yy⟩; have R6 := Lib.hid (R5.out.keep (kk.block r R5.out.lt (by unfold Out; omega))); have B6 := Lib.hid (below_out B5.out hlo.out kk); have y6 := Lib.hid yy; clear kk yy y5 R5 B5; have cx := hcell.out w6 B6.out)
        obtain ⟨s7, hs7⟩ : ∃ s, turnF k s6 (b : Int) 4 = s := ⟨_, rfl⟩
        obtain ⟨v7, hv7⟩ : ∃ s, turnB k s6 (b : Int) 4 = s := ⟨_, rfl⟩
        have hc := C'.out.turn y6.out (b : Int) 4
        rw [hs7, hv7] at hc
        replace hc := Lib.hid hc
        clear hs7 hv7
        go_wp2_with (go_at_call 12; (with_reducible refine hc.out.mono ?_); clear hc; rintro e w7 ⟨rfl, kk, yy⟩; have R7 := Lib.hid (R6.out.keep (kk.block r R6.out.lt (by unfold Out; omega))); have B7 := Lib.hid (below_out B6.out hlo.out kk); have y7 := Lib.hid yy; clear kk yy y6 R6 B6 cx hz hz2)
        go_loopw [10] (fun q wq => ∃ c : Nat, q = .int .i64 (c : Int) ∧ c ≤ k ∧ Hid (Y wq lo r G k s7 E) ∧ Hid (We.PV wq 3 r k (We.iF E)) ∧ Hid (Below w.heap.size w wq)) (fun q _ => k - (intOf q).toNat)
        case atStart => exact ⟨0, rfl, Nat.zero_le _, y7, R7, B7⟩
        case round =>
          obtain ⟨c, rfl, hck', yq, Rq, Bq⟩ := hrel
          clear y7 R7 B7
          by_cases hck : c < k
          · have hckI : (c : Int) < (k : Int) := by omega
            have d2 : decide ((c : Int) < (k : Int)) = true := decide_eq_true hckI
            obtain ⟨V, hV⟩ : ∃ V, E c = V := ⟨_, rfl⟩
            have hx : at_ k E (c : Int) = V := (at_yes hck).trans hV
            replace hV := Lib.hid hV
            replace hx := Lib.hid hx
            go_wp2_with fail
            refine Cl.region_way (fun _ => True) 7 [(0, .r), (1, .r), (3, .r), (4, .r), (5, .r), (6, .r), (2, .c), (7, .z)] (by kernel_rfl) (by kernel_rfl) ?_
            intro w7 hk7
            have B7 := Lib.hid (We.below_trans Bq.out hk7.below)
            have y7 := Lib.hid (YC.below C'.out yq.out hk7.below)
            have R7 := Lib.hid (Rq.out.below hk7.below)
            clear hk7 yq Bq Rq
            have t0 : ∀ y : Cl.Since (fun _ => True) w7, y.w.cell? ⟨r, c, none⟩ = some (.int .i64 V) := fun y => by have := (R7.out.below y.keeps.below).cell hck; unfold We.iF at this; rw [hV.out] at this; exact this
            iterate 6 (refine Cl.way_r rfl ?_; go_big_quiet_step (fail); refine wpQuiet_nil ?_)
            have hc7 := C'.out.erases y7.out (c : Int)
            rw [hx.out] at hc7
            replace hc7 := Lib.hid hc7
            refine Cl.way_c rfl ?_
            go_wp2_with (go_at_call 14; (with_reducible refine hc7.out.mono ?_); clear hc7; rintro e w8 ⟨rfl, hb8⟩; have hB8 := Lib.hid (We.below_trans B7.out hb8); have y8 := Lib.hid (YC.below C'.out y7.out hb8); have R8 := Lib.hid (R7.out.below hb8); replace hb8 := Lib.hid hb8)
            refine Cl.way_on (Cl.Keeps.of_below hb8.out) ?_
            clear hb8 B7 y7 R7 t0
            refine Cl.way_z rfl ?_
            go_wp2_with fail
            refine Cl.Calm.normal ?_
            go_wp2_with fail
            go_roundw
            case rel => exact ⟨c + 1, by go_num, by omega, y8, R8, hB8⟩
            case measure => simp [intOf]; omega
          · have hce : c = k := by omega
            have d2 : decide ((c : Int) < (k : Int)) = false := decide_eq_false (by omega)
            replace hce := Lib.hid hce
            go_wp2_with fail
            go_roundw
            case rel => exact ⟨i + 1, _, E, by go_num, by omega, yq, Rq, hbd2.out, Bq⟩
            case measure => simp [intOf]; omega

      · have hz2 : (bits BinOp.and IntKind.u8 (X : Int) 64 != 0) = false := by simp [bne, hz]
        go_wp2_with (go_at_call 12; (with_reducible refine hc.out.mono ?_); clear hc; rintro e w6 ⟨rfl, kk, yy⟩; have R6 := Lib.hid (R5.out.keep (kk.block r R5.out.lt (by unfold Out; omega))); have B6 := Lib.hid (below_out B5.out hlo.out kk); have y6 := Lib.hid yy; clear kk yy y5 R5 B5; have cx := hcell.out w6 B6.out)
        clear cx hz hz2
        go_loopw [10] (fun q wq => ∃ c : Nat, q = .int .i64 (c : Int) ∧ c ≤ k ∧ Hid (Y wq lo r G k s6 E) ∧ Hid (We.PV wq 3 r k (We.iF E)) ∧ Hid (Below w.heap.size w wq)) (fun q _ => k - (intOf q).toNat)
        case atStart => exact ⟨0, rfl, Nat.zero_le _, y6, R6, B6⟩
        case round =>
          obtain ⟨c, rfl, hck', yq, Rq, Bq⟩ := hrel
          clear y6 R6 B6
          by_cases hck : c < k
          · have hckI : (c : Int) < (k : Int) := by omega
            have d2 : decide ((c : Int) < (k : Int)) = true := decide_eq_true hckI
            obtain ⟨V, hV⟩ : ∃ V, E c = V := ⟨_, rfl⟩
            have hx : at_ k E (c : Int) = V := (at_yes hck).trans hV
            replace hV := Lib.hid hV
            replace hx := Lib.hid hx
            go_wp2_with fail
            refine Cl.region_way (fun _ => True) 7 [(0, .r), (1, .r), (3, .r), (4, .r), (5, .r), (6, .r), (2, .c), (7, .z)] (by kernel_rfl) (by kernel_rfl) ?_
            intro w7 hk7
            have B7 := Lib.hid (We.below_trans Bq.out hk7.below)
            have y7 := Lib.hid (YC.below C'.out yq.out hk7.below)
            have R7 := Lib.hid (Rq.out.below hk7.below)
            clear hk7 yq Bq Rq
            have t0 : ∀ y : Cl.Since (fun _ => True) w7, y.w.cell? ⟨r, c, none⟩ = some (.int .i64 V) := fun y => by have := (R7.out.below y.keeps.below).cell hck; unfold We.iF at this; rw [hV.out] at this; exact this
            iterate 6 (refine Cl.way_r rfl ?_; go_big_quiet_step (fail); refine wpQuiet_nil ?_)
            have hc7 := C'.out.erases y7.out (c : Int)
            rw [hx.out] at hc7
            replace hc7 := Lib.hid hc7
            refine Cl.way_c rfl ?_
            go_wp2_with (go_at_call 14; (with_reducible refine hc7.out.mono ?_); clear hc7; rintro e w8 ⟨rfl, hb8⟩; have hB8 := Lib.hid (We.below_trans B7.out hb8); have y8 := Lib.hid (YC.below C'.out y7.out hb8); have R8 := Lib.hid (R7.out.below hb8); replace hb8 := Lib.hid hb8)
            refine Cl.way_on (Cl.Keeps.of_below hb8.out) ?_
            clear hb8 B7 y7 R7 t0
            refine Cl.way_z rfl ?_
            go_wp2_with fail
            refine Cl.Calm.normal ?_
            go_wp2_with fail
            go_roundw
            case rel => exact ⟨c + 1, by go_num, by omega, y8, R8, hB8⟩
            case measure => simp [intOf]; omega
          · have hce : c = k := by omega
            have d2 : decide ((c : Int) < (k : Int)) = false := decide_eq_false (by omega)
            replace hce := Lib.hid hce
            go_wp2_with fail
            go_roundw
            case rel => exact ⟨i + 1, _, E, by go_num, by omega, yq, Rq, hbd2.out, Bq⟩
            case measure => simp [intOf]; omega
    · obtain rfl : i = n := by omega
      have d1 : decide ((i : Int) < (i : Int)) = false := decide_eq_false (by omega)
      have e1 := Lib.hid (at_no (s := er) (show inB k (-1) = false by unfold inB; rfl))
      have e2 := Lib.hid (at_no (s := er) (show inB k (k : Int) = false by unfold inB; simp))
      have hc := Lib.hid (erases_lit C'.out hBr.out yr.out (-1) 0 e1.out)
      replace hbd := Lib.hid hbd
      go_wp2_with (go_at_call 14; (with_reducible refine hc.out.mono ?_); clear hc; rintro e w3 ⟨rfl, B3, y3⟩; replace B3 := Lib.hid B3; replace y3 := Lib.hid y3)
      have hc := Lib.hid (erases_lit C'.out B3.out y3.out (k : Int) 0 e2.out)
      go_wp2_with (go_at_call 14; (with_reducible refine hc.out.mono ?_); clear hc; rintro e w4 ⟨rfl, B4, y4⟩; replace B4 := Lib.hid B4; replace y4 := Lib.hid y4)
      go_ret
      exact ⟨rfl, B4.out⟩
end Go.Proofs.Ytnhkagkgmgpjeaa.Yd
