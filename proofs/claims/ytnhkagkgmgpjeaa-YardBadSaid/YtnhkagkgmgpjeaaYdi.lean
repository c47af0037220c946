/- YardPlays walked, for whatever is a yard. -/
import Derived.Test.YtnhkagkgmgpjeaaYdh
import Derived.Test.YtnhkagkgmgpjeaaYdd
import Derived.Test.YtnhkagkgmgpjeaaLmo
import Derived.Test.YtnhkagkgmgpjeaaTr
import Derived.Deep.Cut
import Derived.Deep.CutRange
namespace Go.Proofs.Ytnhkagkgmgpjeaa.Yd
open Go.RowKit
set_option linter.unusedVariables false
set_option linter.unusedSimpArgs false
attribute [local go_sem ↓] Cl.quiet_since
theorem row_lay {w : World} {r n k : Nat} {f : Nat → Int} {b : Int} (h : We.PV w 3 r n (We.iF f)) : We.PV (w.setCell ⟨r, k, none⟩ (.int .i64 b)) 3 r n (We.iF (lay f (k : Int) b)) := (h.set_ k (.int .i64 b)).congr fun j hj => by
  show (if j = k then Value.int .i64 b else We.iF f j) = .int .i64 (lay f (k : Int) b j)
  unfold We.iF
  by_cases e : j = k
  · subst e; rw [if_pos rfl, lay_eq]
  · rw [if_neg e, lay_ne e]
theorem pv_out {w1 w2 : World} {lo hi r m : Nat} {T : TypeId} {f : Nat → Value} (kk : Cl.Keeps (Out lo hi) w1 w2) (hr : hi ≤ r) (h : We.PV w1 T r m f) : We.PV w2 T r m f := h.keep (kk.block r h.lt (by unfold Out; omega))
/-- a deed's three cells -/
def dF (D A B : Int) (i : Nat) : Value := if i = 0 then .int .i64 D else if i = 1 then .int .i64 A else .int .i64 B
/-- WHAT STANDS IN THE LAW's ROUND: the yard, the law's two rows -/
structure Std (Y : World → Nat → Nat → Nat → Nat → (Nat → Int) → (Nat → Int) → Prop) (w0 wx : World) (lo hi G ga gb k : Nat) (st er : Nat → Int) (m : Nat) : Prop where
  y : Y wx lo hi G k st er
  ra : We.PV wx 3 ga k (We.iF st)
  rb : We.PV wx 3 gb k (We.iF er)
  bd : ∀ j, j < k → 0 ≤ er j ∧ er j ≤ (m : Int)
  b : Below w0.heap.size w0 wx
theorem Std.below {Y : World → Nat → Nat → Nat → Nat → (Nat → Int) → (Nat → Int) → Prop} {w0 wx w' : World} {lo hi G ga gb k m : Nat} {st er : Nat → Int} (C : YC Y) (h : Std Y w0 wx lo hi G ga gb k st er m) (hb : Below wx.heap.size wx w') : Std Y w0 w' lo hi G ga gb k st er m :=
  ⟨YC.below C h.y hb, h.ra.below hb, h.rb.below hb, h.bd, We.below_trans h.b hb⟩
theorem Std.more {Y : World → Nat → Nat → Nat → Nat → (Nat → Int) → (Nat → Int) → Prop} {w0 wx : World} {lo hi G ga gb k m m' : Nat} {st er : Nat → Int} (h : Std Y w0 wx lo hi G ga gb k st er m) (hm : m ≤ m') : Std Y w0 wx lo hi G ga gb k st er m' :=
  ⟨h.y, h.ra, h.rb, fun j hj => by have := h.bd j hj; omega, h.b⟩
set_option maxRecDepth 8000 in
set_option maxHeartbeats 16000000 in
theorem plays_law {Y : World → Nat → Nat → Nat → Nat → (Nat → Int) → (Nat → Int) → Prop} (C : YC Y) (N : Nat) (hN : N < 256) (L : Option Addr) (n c : Nat) (qd : Nat → Int × Int × Int) (w : World) (hs : Lm.DT w w.heap.size L n qd) :
    Calls Try.prog 3 #[.int .u8 (N : Int), .slice L n c] w (We.Ans w (.bool true)) := by
  have ha := Lib.hid (awake_any C w)
  have H := Lib.hid hs
  clear hs
  by_cases h300 : (300 : Int) < (n : Int)
  · go_enter Try.func3, Try.ntmps3
    go_wp2_with (go_at_call 8; (with_reducible refine ha.out.mono ?_); rintro e w1 ⟨rfl, hb⟩)
    go_ret
    exact ⟨rfl, hb⟩
  have f1 : (N : Int) % 65 = ((N % 65 : Nat) : Int) := by omega
  obtain ⟨k, hk⟩ : ∃ k, N % 65 = k := ⟨_, rfl⟩
  rw [hk] at f1
  have hk2 : k ≤ 64 := by omega
  have h1 := Lib.hid (fun w => new_lit C w (k : Int) k (by omega))
  have C' := Lib.hid C
  have mk := Lib.hid (fun w => We.run_makeI w k (by omega))
  clear hk C
  go_enter Try.func3, Try.ntmps3
  go_wp2_with (go_at_call 8; (with_reducible refine ha.out.mono ?_); clear ha; rintro e w0 ⟨rfl, hB0⟩; replace hB0 := Lib.hid hB0)
  go_wp2_with (go_at_call 9; (with_reducible refine (h1.out _).mono ?_); clear h1; rintro e w1 ⟨G, rfl, hB, y1⟩; replace hB := Lib.hid (We.below_trans hB0.out hB); replace y1 := Lib.hid y1)
  have hlo := Lib.hid hB0.out.size
  have hwr := Lib.hid hB.out.size
  clear hB0
  generalize w0.heap.size = lo at *
  go_cut [7, 8] from 36 to 39 (fun p q wx => ∃ ga gb, p = .slice (some ⟨ga, 0, none⟩) k k ∧ q = .slice (some ⟨gb, 0, none⟩) k k ∧ ga ≠ gb ∧ w1.heap.size ≤ ga ∧ w1.heap.size ≤ gb ∧ Hid (We.PV wx 3 ga k (We.iF fun _ => 0)) ∧ Hid (We.PV wx 3 gb k (We.iF fun _ => 0)) ∧ Hid (Y wx lo w1.heap.size G k (fun _ => 1) (fun _ => 0)) ∧ Hid (Below w.heap.size w wx))
  case first =>
    refine Cl.region_tree (fun _ => True) 6 (.r 0 <| .r 2 <| .b 1 3 (.r 4 <| .c 3 <| .r 5 <| .e) (.c 1 <| .r 4 <| .r 5 <| .e)) (by kernel_rfl) (by kernel_rfl) ?_
    intro w6 hk6
    have y6 := Lib.hid (YC.below C'.out y1.out hk6.below)
    have B6 := Lib.hid (We.below_trans hB.out hk6.below)
    have S6 := Lib.hid hk6.size
    clear hk6
    iterate 2 (refine Cl.tree_r rfl ?_; go_big_quiet_step (fail); refine wpQuiet_nil ?_)
    refine Cl.tree_b rfl rfl ?_ ?_
    · have mk6 := mk.out w6
      go_wp2_with fail
      refine Cl.way_on (Cl.Keeps.of_below (We.below_alloc _ _)) ?_
      refine Cl.tree_r rfl ?_
      go_big_quiet_step (fail)
      refine wpQuiet_nil ?_
      refine Cl.tree_c rfl ?_
      have mk7 := mk.out (w6.alloc (.cells (We.zI k) 3))
      have hs7 : (w6.alloc (.cells (We.zI k) 3)).heap.size = w6.heap.size + 1 := World.size_alloc _ _
      rw [hs7] at mk7
      go_wp2_with fail
      refine Cl.way_on (Cl.Keeps.of_below (We.below_alloc _ _)) ?_
      have p1 := We.PV.ints w6 k
      have b1 := We.below_alloc w6 (.cells (We.zI k) 3)
      have p2 := We.PV.ints (w6.alloc (.cells (We.zI k) 3)) k
      have b2 := We.below_alloc (w6.alloc (.cells (We.zI k) 3)) (.cells (We.zI k) 3)
      rw [hs7] at p2
      iterate 1 (refine Cl.tree_r rfl ?_; go_big_quiet_step (fail); refine wpQuiet_nil ?_)
      refine Cl.tree_e ?_
      go_wp2_with fail
      go_meet
      exact ⟨w6.heap.size, w6.heap.size + 1, rfl, rfl, by omega, by have := S6.out; omega, by have := S6.out; omega, Lib.hid (p1.below b2), Lib.hid (p2), Lib.hid (YC.below C'.out (YC.below C'.out y6.out b1) b2), Lib.hid (We.below_trans (We.below_trans B6.out b1) b2)⟩
    · have mk6 := mk.out w6
      go_wp2_with fail
      refine Cl.way_on (Cl.Keeps.of_below (We.below_alloc _ _)) ?_
      refine Cl.tree_c rfl ?_
      have mk7 := mk.out (w6.alloc (.cells (We.zI k) 3))
      have hs7 : (w6.alloc (.cells (We.zI k) 3)).heap.size = w6.heap.size + 1 := World.size_alloc _ _
      rw [hs7] at mk7
      go_wp2_with fail
      refine Cl.way_on (Cl.Keeps.of_below (We.below_alloc _ _)) ?_
      have p1 := We.PV.ints w6 k
      have b1 := We.below_alloc w6 (.cells (We.zI k) 3)
      have p2 := We.PV.ints (w6.alloc (.cells (We.zI k) 3)) k
      have b2 := We.below_alloc (w6.alloc (.cells (We.zI k) 3)) (.cells (We.zI k) 3)
      rw [hs7] at p2
      iterate 2 (refine Cl.tree_r rfl ?_; go_big_quiet_step (fail); refine wpQuiet_nil ?_)
      refine Cl.tree_e ?_
      go_wp2_with fail
      go_meet
      exact ⟨w6.heap.size + 1, w6.heap.size, rfl, rfl, by omega, by have := S6.out; omega, by have := S6.out; omega, Lib.hid (p2), Lib.hid (p1.below b2), Lib.hid (YC.below C'.out (YC.below C'.out y6.out b1) b2), Lib.hid (We.below_trans (We.below_trans B6.out b1) b2)⟩
  case rest =>
    obtain ⟨ga, gb, rfl, rfl, hgab, hga, hgb, Ra, Rb, yc, Bc⟩ := hcut
    have hga' := Lib.hid hga
    have hgb' := Lib.hid hgb
    clear y1 hB mk
    generalize w1.heap.size = hi at *
    go_wp2_with fail
    go_loopw [9] (fun q wr => ∃ (i : Nat) (f : Nat → Int), q = .int .i64 (i : Int) ∧ i ≤ k ∧ (∀ j, j < i → f j = 1) ∧ Hid (We.PV wr 3 ga k (We.iF f)) ∧ Hid (We.PV wr 3 gb k (We.iF fun _ => 0)) ∧ Hid (Y wr lo hi G k (fun _ => 1) (fun _ => 0)) ∧ Hid (Below w.heap.size w wr)) (fun q _ => k - (intOf q).toNat)
    case atStart => exact ⟨0, _, rfl, Nat.zero_le _, fun j hj => absurd hj (Nat.not_lt_zero _), Ra, Rb, yc, Bc⟩
    case round =>
      obtain ⟨i, f, rfl, hi', hf, Ra, Rb, yr, hBr⟩ := hrel
      clear yc Bc
      by_cases hin : i < k
      · have hinI : (i : Int) < (k : Int) := by omega
        have d1 : decide ((i : Int) < (k : Int)) = true := decide_eq_true hinI
        have c0 := Ra.out.cell hin
        have fz := Ra.out.frozen i
        have R3 := Lib.hid (row_lay (k := i) (b := 1) Ra.out)
        have Q3 := Lib.hid (Rb.out.keep (w' := wr.setCell ⟨ga, i, none⟩ (.int .i64 1)) (We.setCell_block wr _ (by omega)))
        have y3 := Lib.hid (C'.out.keep (w' := wr.setCell ⟨ga, i, none⟩ (.int .i64 1)) yr.out fun b h1 h2 _ => We.setCell_block wr _ (by omega))
        have B3 := Lib.hid (We.below_set hBr.out (Nat.le_trans hwr.out hga) (i := i) (.int .i64 1))
        unfold We.iF at c0
        have hf2 : ∀ j, j < i + 1 → lay f (i : Int) 1 j = 1 := fun j hj => by
          by_cases e : j = i
          · subst e; rw [lay_eq]
          · rw [lay_ne e]; exact hf j (by omega)
        replace hf2 := Lib.hid hf2
        clear hf Ra Rb yr hBr
        go_wp2_with fail
        go_roundw
        case rel => exact ⟨i + 1, _, by go_num, by omega, hf2.out, R3, Q3, y3, B3⟩
        case measure => simp [intOf]; omega
      · have hie : i = k := by omega
        have d1 : decide ((i : Int) < (k : Int)) = false := decide_eq_false (by omega)
        have S3 := Lib.hid (show Std Y w wr lo hi G ga gb k (fun _ => 1) (fun _ => 0) 0 from ⟨yr.out, Ra.out.congr (f' := We.iF fun _ => 1) fun j hj => by unfold We.iF; rw [hf j (by omega)], Rb.out, fun j hj => ⟨Int.le_refl _, Int.le_refl _⟩, hBr.out⟩)
        replace hie := Lib.hid hie
        clear hf Ra Rb yr hBr
        go_wp2_with fail
        clear hie d1 hin hi'
        go_loopw [10] (fun q wr => ∃ (i : Nat) (st er : Nat → Int), q = .int .i64 (i : Int) ∧ i ≤ n ∧ Hid (Std Y w wr lo hi G ga gb k st er i)) (fun q _ => n - (intOf q).toNat)
        case atStart => exact ⟨0, _, _, rfl, Nat.zero_le _, S3⟩
        case round =>
          obtain ⟨i, st, er, rfl, hi', S⟩ := hrel
          clear S3
          by_cases hin : i < n
          · obtain ⟨a, rfl, hab, c0, c1, c2⟩ := (H.out.below S.out.b).at_ hin
            have hinI : (i : Int) < (n : Int) := by omega
            have d1 : decide ((i : Int) < (n : Int)) = true := decide_eq_true hinI
            obtain ⟨⟨D, A, B⟩, hq⟩ : ∃ q, qd i = q := ⟨_, rfl⟩
            rw [hq] at c0 c1 c2
            simp only at c0 c1 c2
            clear hq
            go_upto_region 18 with fail
            have pd := Lib.hid (We.PV.new wr 28 #[.int .i64 D, .int .i64 A, .int .i64 B] 3 (dF D A B) fun i hi => by
              match i, hi with
              | 0, _ => rfl
              | 1, _ => rfl
              | 2, _ => rfl)
            have S4 := Lib.hid (Std.below C'.out S.out (We.below_alloc wr (.cells #[.int .i64 D, .int .i64 A, .int .i64 B] 28)))
            have hdg := Lib.hid (show hi ≤ wr.heap.size from by have := S.out.ra.lt; omega)
            have hda := Lib.hid (show wr.heap.size ≠ ga from fun e => by have := S.out.ra.lt; omega)
            have hdb := Lib.hid (show wr.heap.size ≠ gb from fun e => by have := S.out.rb.lt; omega)
            have hin' := Lib.hid hi'
            clear S c0 c1 c2 hi'
            generalize wr.alloc (.cells #[.int .i64 D, .int .i64 A, .int .i64 B] 28) = w4 at *
            generalize wr.heap.size = gd at *
            go_cut [12] from 48 to 213 (fun p wx => p = .bool (inB k A) ∧ wx = w4)
            case first =>
              have e0 : w4.cell? ⟨gd, 0, none⟩ = some (.int .i64 D) := pd.out.cell (i := 0) (by decide)
              have e1 : w4.cell? ⟨gd, 1, none⟩ = some (.int .i64 A) := pd.out.cell (i := 1) (by decide)
              have e2 : w4.cell? ⟨gd, 2, none⟩ = some (.int .i64 B) := pd.out.cell (i := 2) (by decide)

              cases h1 : decide (0 ≤ A)
              · go_wp2_with fail
                go_meet
                exact ⟨by unfold inB; rw [h1]; rfl, by first | rfl | trivial⟩
              · go_wp2_with fail
                go_meet
                exact ⟨by unfold inB; rw [h1]; rfl, by first | rfl | trivial⟩
            case rest =>
              obtain ⟨rfl, rfl⟩ := hcut
              have e0 : wc.cell? ⟨gd, 0, none⟩ = some (.int .i64 D) := pd.out.cell (i := 0) (by decide)
              have e1 : wc.cell? ⟨gd, 1, none⟩ = some (.int .i64 A) := pd.out.cell (i := 1) (by decide)
              have e2 : wc.cell? ⟨gd, 2, none⟩ = some (.int .i64 B) := pd.out.cell (i := 2) (by decide)

              obtain ⟨v, hv⟩ : ∃ v, inB k A = v := ⟨_, rfl⟩
              rw [hv]
              go_upto_if 69 with fail
              go_cut [13] from 48 to 213 (fun p wx => ∃ st' er', Hid (Std Y w wx lo hi G ga gb k st' er' (i + 1)))
              case first =>
                have hbd : Hid (∀ j, j < k → 0 ≤ er j ∧ er j ≤ 1000000) := Lib.hid fun j hj => by have := S4.out.bd j hj; omega
                cases v
                · have hA := hv
                  cases hD : (D == 6)
                  · skip
                    clear e0 e1 e2

                    go_wp2_with fail
                    refine Cl.region_way (fun _ => True) 11 [(0, .r), (1, .r), (2, .r), (3, .r), (4, .r), (5, .r), (6, .r), (7, .r), (8, .r), (9, .c), (10, .r), (11, .z)] (by kernel_rfl) (by kernel_rfl) ?_
                    intro w6 hk6
                    have S6 := Lib.hid (Std.below C'.out S4.out hk6.below)
                    have pd6 := Lib.hid (pd.out.below hk6.below)
                    have e1 : w6.cell? ⟨gd, 1, none⟩ = some (.int .i64 A) := pd6.out.cell (i := 1) (by decide)
                    have e2 : w6.cell? ⟨gd, 2, none⟩ = some (.int .i64 B) := pd6.out.cell (i := 2) (by decide)
                    clear hk6
                    iterate 9 (with_reducible refine (no_implicit_lambda% (Cl.way_r rfl ?_)); go_big_quiet_step (fail); with_reducible refine (no_implicit_lambda% (wpQuiet_nil ?_)))
                    refine Cl.way_c rfl ?_
                    go_wp2_with fail
                    refine Cl.way_on (Cl.Keeps.refl _ _) ?_
                    with_reducible refine (no_implicit_lambda% (Cl.way_r rfl ?_))
                    go_big_quiet_step (fail)
                    with_reducible refine (no_implicit_lambda% (wpQuiet_nil ?_))
                    refine Cl.way_z rfl ?_
                    go_wp2_with fail
                    refine Cl.Calm.normal ?_

                    have ht : turnB k st A B = false := by unfold turnB; rw [hA]; rfl
                    have hc := C'.out.turn S6.out.y A B
                    rw [turnF_stay ht, ht] at hc
                    replace hc := Lib.hid hc
                    replace ht := Lib.hid ht
                    go_wp2_with (go_at_call 12; (with_reducible refine hc.out.mono ?_); clear hc; rintro e w8 ⟨rfl, kk, yy⟩; have S8 := Lib.hid (show Std Y w w8 lo hi G ga gb k st er (i + 1) from ⟨yy, pv_out kk hga'.out S6.out.ra, pv_out kk hgb'.out S6.out.rb, fun j hj => by have := S6.out.bd j hj; omega, below_out S6.out.b hlo.out kk⟩); clear kk yy)
                    go_meet
                    exact ⟨_, _, S8⟩
                  · have he : erF k er A = er := by unfold erF; rw [hA]; rfl
                    have hc := C'.out.erased S4.out.y hbd.out A
                    rw [he] at hc
                    replace hc := Lib.hid hc
                    replace he := Lib.hid he
                    go_wp2_with (go_at_call 10; (with_reducible refine hc.out.mono ?_); clear hc; rintro e w5 ⟨rfl, kk, yy⟩; have S5 := Lib.hid (show Std Y w w5 lo hi G ga gb k st er (i + 1) from ⟨yy, pv_out kk hga'.out S4.out.ra, pv_out kk hgb'.out S4.out.rb, fun j hj => by have := S4.out.bd j hj; omega, below_out S4.out.b hlo.out kk⟩); clear kk yy)
                    go_meet
                    exact ⟨_, _, S5⟩
                · obtain ⟨p, rfl, hpk⟩ : ∃ p : Nat, A = (p : Int) ∧ p < k := by unfold inB at hv; simp at hv; exact ⟨A.toNat, by omega, by omega⟩
                  have hpkI : (p : Int) < (k : Int) := by omega
                  cases hD : (D == 6)
                  · skip
                    clear e0 e1 e2
                    obtain ⟨V, hV⟩ : ∃ V, Hid (st p = V) := ⟨_, Lib.hid rfl⟩

                    go_wp2_with fail
                    refine Cl.region_way (fun _ => True) 11 [(0, .r), (1, .r), (2, .r), (3, .r), (4, .r), (5, .r), (6, .r), (7, .r), (8, .r), (9, .c), (10, .r), (11, .z)] (by kernel_rfl) (by kernel_rfl) ?_
                    intro w6 hk6
                    have q1 : ∀ y : Cl.Since (fun _ => True) w6, y.w.cell? ⟨gd, 1, none⟩ = some (.int .i64 (p : Int)) := fun y => ((pd.out.below hk6.below).below y.keeps.below).cell (i := 1) (by decide)
                    have q2 : ∀ y : Cl.Since (fun _ => True) w6, y.w.cell? ⟨gd, 2, none⟩ = some (.int .i64 B) := fun y => ((pd.out.below hk6.below).below y.keeps.below).cell (i := 2) (by decide)
                    have q3 : ∀ y : Cl.Since (fun _ => True) w6, y.w.cell? ⟨ga, p, none⟩ = some (.int .i64 V) := fun y => by have := ((S4.out.ra.below hk6.below).below y.keeps.below).cell hpk; unfold We.iF at this; rw [hV.out] at this; exact this
                    have S6 := Lib.hid (Std.below C'.out S4.out hk6.below)
                    have pd6 := Lib.hid (pd.out.below hk6.below)
                    have e1 : w6.cell? ⟨gd, 1, none⟩ = some (.int .i64 (p : Int)) := pd6.out.cell (i := 1) (by decide)
                    have e2 : w6.cell? ⟨gd, 2, none⟩ = some (.int .i64 B) := pd6.out.cell (i := 2) (by decide)
                    clear hk6
                    iterate 9 (with_reducible refine (no_implicit_lambda% (Cl.way_r rfl ?_)); go_big_quiet_step (fail); with_reducible refine (no_implicit_lambda% (wpQuiet_nil ?_)))
                    refine Cl.way_c rfl ?_
                    go_wp2_with (go_at_call 11; (with_reducible refine (refturns_any w6 V B).mono ?_); rintro e w7 ⟨rfl, rfl⟩)
                    refine Cl.way_on (Cl.Keeps.refl _ _) ?_
                    with_reducible refine (no_implicit_lambda% (Cl.way_r rfl ?_))
                    go_big_quiet_step (fail)
                    with_reducible refine (no_implicit_lambda% (wpQuiet_nil ?_))
                    refine Cl.way_z rfl ?_
                    go_wp2_with fail
                    refine Cl.Calm.normal ?_

                    clear q1 q2 q3
                    have hc := C'.out.turn S6.out.y (p : Int) B
                    have hb : turnB k st (p : Int) B = turns V B := by rw [turnB_yes hpk, hV.out]
                    cases ht : turns V B
                    · rw [ht] at hb
                      rw [turnF_stay hb, hb] at hc
                      replace hc := Lib.hid hc
                      replace hb := Lib.hid hb
                      go_wp2_with (go_at_call 12; (with_reducible refine hc.out.mono ?_); clear hc; rintro e w8 ⟨rfl, kk, yy⟩; have S8 := Lib.hid (show Std Y w w8 lo hi G ga gb k st er (i + 1) from ⟨yy, pv_out kk hga'.out S6.out.ra, pv_out kk hgb'.out S6.out.rb, fun j hj => by have := S6.out.bd j hj; omega, below_out S6.out.b hlo.out kk⟩); clear kk yy)
                      go_meet
                      exact ⟨_, _, S8⟩
                    · rw [ht] at hb
                      rw [turnF_go hb, hb] at hc
                      replace hc := Lib.hid hc
                      replace hb := Lib.hid hb
                      go_wp2_with (go_at_call 12; (with_reducible refine hc.out.mono ?_); clear hc; rintro e w8 ⟨rfl, kk, yy⟩; have ra8 := Lib.hid (pv_out kk hga'.out S6.out.ra); have rb8 := Lib.hid (pv_out kk hgb'.out S6.out.rb); have pd8 := Lib.hid (pv_out kk hdg.out pd6.out); have B8 := Lib.hid (below_out S6.out.b hlo.out kk); have y8 := Lib.hid yy; clear kk yy e1 e2; have e1 : w8.cell? ⟨gd, 1, none⟩ = some (.int .i64 (p : Int)) := pd8.out.cell (i := 1) (by decide); have e2 : w8.cell? ⟨gd, 2, none⟩ = some (.int .i64 B) := pd8.out.cell (i := 2) (by decide); have ce := ra8.out.cell hpk; (unfold We.iF at ce); (rw [hV.out] at ce); have fz := ra8.out.frozen p)
                      go_meet
                      exact ⟨lay st (p : Int) B, er, Lib.hid ⟨C'.out.keep y8.out fun q h1 h2 _ => We.setCell_block w8 _ (by omega), row_lay ra8.out, rb8.out.keep (We.setCell_block w8 _ (Ne.symm hgab)), fun j hj => by have := S6.out.bd j hj; omega, We.below_set B8.out (Nat.le_trans hwr.out hga) _⟩⟩
                  · obtain ⟨V, hV⟩ : ∃ V, er p = V := ⟨_, rfl⟩
                    have hVb := S4.out.bd p hpk
                    have hc := C'.out.erased S4.out.y hbd.out (p : Int)
                    rw [erF_yes hpk] at hc
                    rw [hV] at hc hVb
                    replace hc := Lib.hid hc
                    have hV300 : 0 ≤ V ∧ V ≤ 300 := by have := hin; omega
                    go_wp2_with (go_at_call 10; (with_reducible refine hc.out.mono ?_); clear hc; rintro e w5 ⟨rfl, kk, yy⟩; have ra5 := Lib.hid (pv_out kk hga'.out S4.out.ra); have rb5 := Lib.hid (pv_out kk hgb'.out S4.out.rb); have pd5 := Lib.hid (pv_out kk hdg.out pd.out); have B5 := Lib.hid (below_out S4.out.b hlo.out kk); have y5 := Lib.hid yy; clear kk yy e0 e1 e2; have e1 : w5.cell? ⟨gd, 1, none⟩ = some (.int .i64 (p : Int)) := pd5.out.cell (i := 1) (by decide); have ce := rb5.out.cell hpk; (unfold We.iF at ce); (rw [hV] at ce); have fz := rb5.out.frozen p)
                    go_meet
                    refine ⟨st, lay er (p : Int) (V + 1), Lib.hid ⟨C'.out.keep y5.out fun q h1 h2 _ => We.setCell_block w5 _ (by omega), ra5.out.keep (We.setCell_block w5 _ hgab), row_lay rb5.out, fun j hj => ?_, We.below_set B5.out (Nat.le_trans hwr.out hgb) _⟩⟩
                    by_cases e : j = p
                    · subst e; rw [lay_eq]; omega
                    · rw [lay_ne e]; have := S4.out.bd j hj; omega
              case rest =>
                obtain ⟨s2, r2, S5⟩ := hcut
                clear S4 e0 e1 e2
                have S5s := Lib.hid (show hi ≤ wc.heap.size ∧ wc.heap.size ≠ ga ∧ wc.heap.size ≠ gb from ⟨by have := S5.out.ra.lt; omega, fun e => by have := S5.out.ra.lt; omega, fun e => by have := S5.out.rb.lt; omega⟩)
                have mkb := We.run_makeF wc k (by omega)
                go_wp2_with fail
                have S6 := Lib.hid (Std.below C'.out S5.out (We.below_alloc wc (.cells (We.zF k) 4)))
                have M6 := Lib.hid (We.PV.bools wc k)
                clear S5 mkb
                generalize wc.alloc (.cells (We.zF k) 4) = w6 at *
                generalize wc.heap.size = gm at *
                go_loopw [15] (fun q wq => ∃ (b : Nat) (f : Nat → Bool), q = .int .i64 (b : Int) ∧ b ≤ k ∧ (∀ j, j < b → f j = isS s2 1 j) ∧ Hid (We.PV wq 4 gm k (We.bF f)) ∧ Hid (Std Y w wq lo hi G ga gb k s2 r2 (i + 1))) (fun q _ => k - (intOf q).toNat)
                case atStart => exact ⟨0, _, rfl, Nat.zero_le _, fun j hj => absurd hj (Nat.not_lt_zero _), M6, S6⟩
                case round =>
                  obtain ⟨b, f, rfl, hbk', hf, M, S⟩ := hrel
                  clear M6 S6
                  by_cases hbk : b < k
                  · have hbkI : (b : Int) < (k : Int) := by omega
                    have d2 : decide ((b : Int) < (k : Int)) = true := decide_eq_true hbkI
                    obtain ⟨V, hV⟩ : ∃ V, s2 b = V := ⟨_, rfl⟩
                    obtain ⟨Z, hZ⟩ : ∃ Z, r2 b = Z := ⟨_, rfl⟩
                    obtain ⟨x, hx⟩ : ∃ x, (V == 1) = x := ⟨_, rfl⟩
                    have hx2 : isS s2 1 b = x := by unfold isS; rw [hV, ← hx, Bool.eq_iff_iff]; simp
                    have cs := S.out.ra.cell hbk
                    unfold We.iF at cs
                    rw [hV] at cs
                    have cm := M.out.cell hbk
                    unfold We.bF at cm
                    have fm := M.out.frozen b
                    have hv1 := Lib.hid (show at_ k s2 (b : Int) = V from (at_yes hbk).trans hV)
                    have hv2 := Lib.hid (show at_ k r2 (b : Int) = Z from (at_yes hbk).trans hZ)
                    have M7 := Lib.hid ((M.out.set_ b (.bool x)).congr (f' := We.bF fun j => if j = b then x else f j) fun j hj => by
                      show (if j = b then Value.bool x else We.bF f j) = .bool (if j = b then x else f j)
                      by_cases e : j = b
                      · rw [if_pos e, if_pos e]
                      · rw [if_neg e, if_neg e]; rfl)
                    have S7 := Lib.hid (show Std Y w (wr.setCell ⟨gm, b, none⟩ (.bool x)) lo hi G ga gb k s2 r2 (i + 1) from ⟨C'.out.keep S.out.y fun q h1 h2 _ => We.setCell_block wr _ (by have := S5s.out; omega), S.out.ra.keep (We.setCell_block wr _ (Ne.symm S5s.out.2.1)), S.out.rb.keep (We.setCell_block wr _ (Ne.symm S5s.out.2.2)), S.out.bd, We.below_set S.out.b (Nat.le_trans hwr.out S5s.out.1) _⟩)
                    have hf2 := Lib.hid (show ∀ j, j < b + 1 → (if j = b then x else f j) = isS s2 1 j from fun j hj => by
                      by_cases e : j = b
                      · subst e; rw [if_pos rfl, hx2]
                      · rw [if_neg e]; exact hf j (by omega))
                    replace hV := Lib.hid hV
                    replace hZ := Lib.hid hZ
                    replace hx2 := Lib.hid hx2
                    clear hf
                    go_wp2_with fail
                    clear M S cs cm fm
                    generalize wr.setCell ⟨gm, b, none⟩ (.bool x) = w7 at *
                    refine Cl.region_way (fun _ => True) 17 [(0, .r), (1, .r), (3, .r), (4, .r), (5, .r), (6, .r), (2, .c), (7, .r), (8, .r), (9, .r), (10, .r), (12, .r), (13, .r), (14, .r), (15, .r), (11, .c), (16, .r), (17, .z)] (by kernel_rfl) (by kernel_rfl) ?_
                    intro w8 hk8
                    have S8 := Lib.hid (Std.below C'.out S7.out hk8.below)
                    have M8 := Lib.hid (M7.out.below hk8.below)
                    clear hk8 S7 M7
                    have t0 : ∀ y : Cl.Since (fun _ => True) w8, y.w.cell? ⟨ga, b, none⟩ = some (.int .i64 V) := fun y => by have := (S8.out.ra.below y.keeps.below).cell hbk; unfold We.iF at this; rw [hV.out] at this; exact this
                    iterate 6 (with_reducible refine (no_implicit_lambda% (Cl.way_r rfl ?_)); go_big_quiet_step (fail); with_reducible refine (no_implicit_lambda% (wpQuiet_nil ?_)))
                    have hc := C'.out.state S8.out.y (b : Int)
                    rw [hv1.out] at hc
                    replace hc := Lib.hid hc
                    refine Cl.way_c rfl ?_
                    go_wp2_with (go_at_call 13; (with_reducible refine hc.out.mono ?_); clear hc; rintro e w9 ⟨rfl, hb9⟩; have S9 := Lib.hid (Std.below C'.out S8.out hb9); have M9 := Lib.hid (M8.out.below hb9); replace hb9 := Lib.hid hb9)
                    refine Cl.way_on (Cl.Keeps.of_below hb9.out) ?_
                    clear hb9 S8 M8 t0
                    have t1 : ∀ y : Cl.Since (fun _ => True) w9, y.w.cell? ⟨gb, b, none⟩ = some (.int .i64 Z) := fun y => by have := (S9.out.rb.below y.keeps.below).cell hbk; unfold We.iF at this; rw [hZ.out] at this; exact this
                    iterate 8 (with_reducible refine (no_implicit_lambda% (Cl.way_r rfl ?_)); go_big_quiet_step (fail); with_reducible refine (no_implicit_lambda% (wpQuiet_nil ?_)))
                    have hc := C'.out.erases S9.out.y (b : Int)
                    rw [hv2.out] at hc
                    replace hc := Lib.hid hc
                    refine Cl.way_c rfl ?_
                    go_wp2_with (go_at_call 14; (with_reducible refine hc.out.mono ?_); clear hc; rintro e w10 ⟨rfl, hb10⟩; have S10 := Lib.hid (Std.below C'.out S9.out hb10); have M10 := Lib.hid (M9.out.below hb10); replace hb10 := Lib.hid hb10)
                    refine Cl.way_on (Cl.Keeps.of_below hb10.out) ?_
                    clear hb10 S9 M9 t1
                    iterate 1 (with_reducible refine (no_implicit_lambda% (Cl.way_r rfl ?_)); go_big_quiet_step (fail); with_reducible refine (no_implicit_lambda% (wpQuiet_nil ?_)))
                    refine Cl.way_z rfl ?_
                    go_wp2_with fail
                    refine Cl.Calm.normal ?_
                    go_wp2_with fail
                    go_roundw
                    case rel => exact ⟨b + 1, _, by go_num, by omega, hf2.out, M10, S10⟩
                    case measure => simp [intOf]; omega
                  · have hbe : b = k := by omega
                    have d2 : decide ((b : Int) < (k : Int)) = false := decide_eq_false (by omega)
                    have M7 := Lib.hid (M.out.congr (f' := We.bF (isS s2 1)) fun j hj => by unfold We.bF; rw [hf j (by omega)])
                    clear hf M
                    replace hbe := Lib.hid hbe
                    have hmn : We.mn k k = k := by unfold We.mn; split <;> omega
                    obtain ⟨P, hP⟩ : ∃ P, (((pk k s2 r2).getD 0 : Nat) : Int) = P := ⟨_, rfl⟩
                    obtain ⟨u, hu⟩ : ∃ u, (pk k s2 r2).isSome = u := ⟨_, rfl⟩
                    have hc := C'.out.pick S.out.y
                    unfold pkV at hc
                    rw [hP, hu] at hc
                    replace hc := Lib.hid hc
                    go_wp2_with (go_at_call 15; (with_reducible refine hc.out.mono ?_); clear hc; rintro e w8 ⟨rfl, hb⟩; have S8 := Lib.hid (Std.below C'.out S.out hb); have M8 := Lib.hid (M7.out.below hb); clear hb S M7)
                    have hc := We.refpick_any (some ⟨gb, 0, none⟩) k k r2 (some ⟨gm, 0, none⟩) k k (isS s2 1) w8 S8.out.rb.sf M8.out.sf (by omega)
                    rw [hmn] at hc
                    unfold pk at hP hu
                    rw [hP, hu] at hc
                    replace hc := Lib.hid hc
                    replace hP := Lib.hid hP
                    replace hu := Lib.hid hu
                    go_wp2_with (go_at_call 16; (with_reducible refine hc.out.mono ?_); clear hc; rintro e w9 ⟨rfl, hb⟩; have S9 := Lib.hid (Std.below C'.out S8.out hb); clear hb S8 M8)
                    have x1 := Lib.hid (at_no (s := s2) (show inB k (-1) = false by unfold inB; rfl))
                    have x2 := Lib.hid (at_no (s := s2) (show inB k (k : Int) = false by unfold inB; simp))
                    have hc := C'.out.state S9.out.y (-1)
                    rw [x1.out] at hc
                    replace hc := Lib.hid hc
                    go_wp2_with (go_at_call 13; (with_reducible refine hc.out.mono ?_); clear hc; rintro e w10 ⟨rfl, hb⟩; have S10 := Lib.hid (Std.below C'.out S9.out hb); clear hb S9)
                    have hc := C'.out.state S10.out.y (k : Int)
                    rw [x2.out] at hc
                    replace hc := Lib.hid hc
                    go_wp2_with (go_at_call 13; (with_reducible refine hc.out.mono ?_); clear hc; rintro e w11 ⟨rfl, hb⟩; have S11 := Lib.hid (Std.below C'.out S10.out hb); clear hb S10)
                    clear x1 x2 hmn hP hu
                    go_wp2_with fail
                    go_loopw [20] (fun q wq => ∃ s : Nat, q = .int .i64 (s : Int) ∧ s ≤ 6 ∧ Hid (Std Y w wq lo hi G ga gb k s2 r2 (i + 1))) (fun q _ => 6 - (intOf q).toNat)
                    case atStart => exact ⟨0, rfl, Nat.zero_le _, S11⟩
                    case round =>
                      obtain ⟨s, rfl, hs6, S⟩ := hrel
                      clear S11
                      by_cases hs : s < 6
                      · have hsI : (s : Int) ≤ 5 := by omega
                        have d3 : decide ((s : Int) ≤ 5) = true := decide_eq_true hsI
                        have hc := Lib.hid (C'.out.list S.out.y (s : Int))
                        obtain ⟨ns, hns⟩ : ∃ ns, nb (isS s2 (s : Int)) k = ns := ⟨_, rfl⟩
                        have hnk : ns ≤ k := by rw [← hns]; exact nb_le _ _
                        rw [hns] at hc
                        go_wp2_with (go_at_call 17; (with_reducible refine hc.out.mono ?_); clear hc; rintro e w12 ⟨LA, lc, g, rfl, hb, hsf, hg⟩; have S12 := Lib.hid (Std.below C'.out S.out hb); replace hsf := Lib.hid hsf; replace hg := Lib.hid hg; clear hb S)
                        go_loopw [22, 23] (fun q t wq => ∃ b : Nat, q = .int .i64 ((nb (isS s2 (s : Int)) b : Nat) : Int) ∧ t = .int .i64 (b : Int) ∧ b ≤ k ∧ w12 = wq) (fun _ t _ => k - (intOf t).toNat)
                        case atStart => exact ⟨0, rfl, rfl, Nat.zero_le _, rfl⟩
                        case round =>
                          obtain ⟨b, rfl, rfl, hbk', rfl⟩ := hrel
                          by_cases hbk : b < k
                          · have hbkI : (b : Int) < (k : Int) := by omega
                            have d2 : decide ((b : Int) < (k : Int)) = true := decide_eq_true hbkI
                            obtain ⟨V, hV⟩ : ∃ V, s2 b = V := ⟨_, rfl⟩
                            have cs := S12.out.ra.cell hbk
                            unfold We.iF at cs
                            rw [hV] at cs
                            obtain ⟨cc, hcc⟩ : ∃ cc, nb (isS s2 (s : Int)) b = cc := ⟨_, rfl⟩
                            have hccb : cc ≤ b := by rw [← hcc]; exact nb_le _ _
                            rw [hcc]
                            cases he : (V == (s : Int))
                            · have hsu := Lib.hid (show nb (isS s2 (s : Int)) (b + 1) = cc by rw [nb, hcc]; unfold isS; rw [hV]; have : decide (V = (s : Int)) = false := by simpa using he
                                                                                              rw [this]; rfl)
                              replace hV := Lib.hid hV
                              replace hcc := Lib.hid hcc
                              replace hns := Lib.hid hns
                              go_wp2_with fail
                              go_roundw
                              case rel => exact ⟨b + 1, by rw [hsu.out], by go_num, by omega, by first | rfl | trivial⟩
                              case measure => simp [intOf]; omega
                            · have hE : isS s2 (s : Int) b = true := by unfold isS; rw [hV]; simpa using he
                              have hsu := Lib.hid (show nb (isS s2 (s : Int)) (b + 1) = cc + 1 by rw [nb, hcc, hE]; rfl)
                              have hlt : cc < ns := by
                                rw [← hcc, ← hns]
                                have h1 := nb_mono (isS s2 (s : Int)) (b + 1) (k - (b + 1))
                                rw [show b + 1 + (k - (b + 1)) = k by omega, hsu.out, ← hcc] at h1
                                omega
                              have hgb2 := hg.out b hbk hE
                              rw [hcc] at hgb2
                              obtain ⟨aL, rfl, haL, cL⟩ := hsf.out.at_ hlt
                              unfold We.iF at cL
                              rw [hgb2] at cL
                              have hltI : (cc : Int) < (ns : Int) := by omega
                              have d4 : decide ((ns : Int) ≤ (cc : Int)) = false := decide_eq_false (by omega)
                              replace hE := Lib.hid hE
                              replace hgb2 := Lib.hid hgb2
                              replace hV := Lib.hid hV
                              replace hcc := Lib.hid hcc
                              replace hns := Lib.hid hns
                              go_wp2_with fail
                              go_roundw
                              case rel => exact ⟨b + 1, by rw [hsu.out] <;> first | rfl | go_num, by go_num, by omega, by first | rfl | trivial⟩
                              case measure => simp [intOf]; omega
                          · have hbe : b = k := by omega
                            have d2 : decide ((b : Int) < (k : Int)) = false := decide_eq_false (by omega)
                            have hnb : nb (isS s2 (s : Int)) b = ns := by rw [hbe]; exact hns
                            rw [hnb]
                            have hc := C'.out.count S12.out.y (s : Int)
                            rw [hns] at hc
                            replace hc := Lib.hid hc
                            replace hns := Lib.hid hns
                            replace hnb := Lib.hid hnb
                            replace hbe := Lib.hid hbe
                            go_wp2_with (go_at_call 18; (with_reducible refine hc.out.mono ?_); clear hc; rintro e w13 ⟨rfl, hb⟩; have S13 := Lib.hid (Std.below C'.out S12.out hb); clear hb)
                            go_roundw
                            case rel => exact ⟨s + 1, by go_num, by omega, S13⟩
                            case measure => simp [intOf]; omega
                      · have hse : s = 6 := by omega
                        have d3 : decide ((s : Int) ≤ 5) = false := decide_eq_false (by omega)
                        replace hse := Lib.hid hse
                        go_wp2_with fail
                        go_roundw
                        case rel => exact ⟨i + 1, s2, r2, by go_num, by omega, S⟩
                        case measure => simp [intOf]; omega
          · obtain rfl : i = n := by omega
            have d1 : decide ((i : Int) < (i : Int)) = false := decide_eq_false (by omega)
            go_wp2_with fail
            go_ret
            exact ⟨rfl, S.out.b⟩
end Go.Proofs.Ytnhkagkgmgpjeaa.Yd
