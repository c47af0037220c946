/- ValidPlays walked. -/
import Derived.Test.YtommmppcncgnfaaDoorVlj
import Derived.Test.YtommmppcncgnfaaDoorVlo
import Derived.Deep.Cut
namespace Go.Proofs.YtommmppcncgnfaaDoor.Vl
open Go.RowKit Go.Bw
set_option linter.unusedVariables false
set_option linter.unusedSimpArgs false
attribute [local go_sem ↓] Cl.quiet_since
theorem infoF : (Tryd.prog.info? 4).map (fun i => (i.zero, i.size, i.bytes)) = some (some (.bool false), 1, 1) := by kernel_rfl
/-- n times false -/
def zB (n : Nat) : Array Value := madeCells #[.bool false] n
theorem zB_size (n : Nat) : (zB n).size = n := size_madeCells _ _
theorem zB_at {n i : Nat} (h : i < n) : (zB n)[i]? = some (.bool false) := by
  unfold zB madeCells
  simp [h, Nat.mod_one]
theorem run_makeB (w : World) (n : Nat) (hn : n ≤ 65536) : (Instr.makeSlice 27 (.int .i64 (n : Int)) (.int .i64 (n : Int))).run Tryd.prog w = .ok (.slice (some ⟨w.heap.size, 0, none⟩) n n) (w.alloc (.cells (zB n) 4)) := by
  have hi0 := infoF
  obtain ⟨i, hi, hrest⟩ := Option.map_eq_some_iff.1 hi0
  simp only [Prod.mk.injEq] at hrest
  obtain ⟨i1, i2, i3⟩ := hrest
  have h := run_make (P := Tryd.prog) w 27 4 i _ Tryd.underlying27 hi i1 .i64 .i64 (n : Int) (n : Int) (by omega) (Int.le_refl _) (by rw [i3]; omega) (by omega)
  rw [i2, Int.toNat_natCast, Nat.mul_one] at h
  exact h
/-- a deed's four cells -/
def dF (D A B : Int) (on : Bool) (i : Nat) : Value := if i = 0 then .int .i64 D else if i = 1 then .int .i64 A else if i = 2 then .int .i64 B else .bool on
theorem PV.keeps {w w' : World} {T : TypeId} {g n q : Nat} {f : Nat → Value} (h : PV w T g n f) (k : Cl.Keeps (fun i => i ≠ q) w w') (hg : g ≠ q) : PV w' T g n f := h.keep (k.block g h.lt hg)
/-- the least place from J on, below k, or -1 -/
def atI (o : Option Nat) : Int := match o with
  | none => -1
  | some t => (t : Int)
def Dn (f : Nat → Bool) (k J : Nat) (o : Option Nat) : Prop := match o with
  | none => ∀ t, J ≤ t → t < k → f t = false
  | some t => J ≤ t ∧ t < k ∧ f t = true ∧ ∀ s, J ≤ s → s < t → f s = false
theorem Dn.no {f : Nat → Bool} {k J : Nat} {o : Option Nat} (h : Dn f k (J + 1) o) (hf : f J = false) : Dn f k J o := by
  cases o with
  | none => intro t h1 h2; by_cases e : t = J; · rw [e]; exact hf
            · exact h t (by omega) h2
  | some t =>
    obtain ⟨h1, h2, h3, h4⟩ := h
    refine ⟨by omega, h2, h3, fun s s1 s2 => ?_⟩
    by_cases e : s = J
    · rw [e]; exact hf
    · exact h4 s (by omega) s2
theorem Dn.yes {f : Nat → Bool} {k J : Nat} (hf : f J = true) (hJ : J < k) : Dn f k J (some J) := ⟨Nat.le_refl _, hJ, hf, fun s s1 s2 => by omega⟩
theorem Dn.nx {f : Nat → Bool} {k : Nat} {o : Option Nat} (h : Dn f k 0 o) : nx f k = o := by
  cases o with
  | none => exact nx_none.2 fun j hj => h j (Nat.zero_le _) hj
  | some t => obtain ⟨_, h2, h3, h4⟩ := h; exact nx_some.2 ⟨h2, h3, fun j hj => h4 j (Nat.zero_le _) hj⟩
theorem i64_range {a : Int} (h : (Lit.int .i64 a).wf = true) : -9223372036854775808 ≤ a ∧ a ≤ 9223372036854775807 := by
  simp [Lit.wf, IntKind.min, IntKind.max, IntKind.signed, IntKind.bits] at h; omega
set_option maxHeartbeats 16000000 in
set_option maxRecDepth 20000 in
theorem plays_law (N : Nat) (hN : N < 65536) (L : Option Addr) (n c : Nat) (qd : Nat → Int × Int × Int × Bool) (w : World) (hTb : Tb w) (hs : DF w w.heap.size L n qd) :
    Calls Tryd.prog 3 #[.int .u16 (N : Int), .slice L n c] w (We.Ans w (.bool true)) := by
  have ha := Lib.hid (awake_any w hTb)
  replace hTb := Lib.hid hTb
  have H := Lib.hid hs
  clear hs
  by_cases h300 : (300 : Int) < (n : Int)
  · go_enter Tryd.func3, Tryd.ntmps3
    go_wp2_with (go_at_call 7; (with_reducible refine ha.out.mono ?_); rintro e w1 ⟨rfl, hB1⟩; replace hB1 := Lib.hid hB1)
    go_ret
    exact ⟨rfl, hB1.out⟩
  obtain ⟨k, hk⟩ : ∃ k, N % 400 = k := ⟨_, rfl⟩
  have f1 : (N : Int) % 400 = (k : Int) := by omega
  have hkl : k < 400 := by omega
  clear hk
  have hnew := Lib.hid fun w => new_any (k : Int) k (by omega) w
  have hmk := fun w => run_makeB w k (by omega)
  go_enter Tryd.func3, Tryd.ntmps3
  go_wp2_with (first
    | (go_at_call 7; (with_reducible refine ha.out.mono ?_); rintro e w1 ⟨rfl, hB1⟩; replace hB1 := Lib.hid hB1)
    | (go_at_call 8; (with_reducible refine (hnew.out w1).mono ?_); rintro e w2 ⟨g, h, rfl, hB2, hg, hh, b2⟩; replace hh := Lib.hid (Nat.le_trans hB1.out.size hh); replace hg := Lib.hid (Nat.le_trans hB1.out.size hg); replace b2 := Lib.hid b2; replace hB2 := Lib.hid (We.below_trans hB1.out hB2)))
  clear ha hB1 hnew hmk
  have m3 := Lib.hid (PV.new w2 4 (zB k) k (We.bF fun _ => false) fun i hi => zB_at hi)
  have b3 := Lib.hid (b2.out.below (We.below_alloc w2 (.cells (zB k) 4)))
  have hB3 := Lib.hid (We.below_trans hB2.out (We.below_alloc w2 (.cells (zB k) 4)))
  have hmh := Lib.hid (show w2.heap.size ≠ h from fun e => by have := b2.out.row.lt; omega)
  have hmg := Lib.hid (show w2.heap.size ≠ g from fun e => by have := b2.out.box.lt; omega)
  have hmw := Lib.hid (show w.heap.size ≤ w2.heap.size from hB2.out.size)
  clear b2 hB2
  generalize w2.alloc (.cells (zB k) 4) = w3 at *
  generalize w2.heap.size = gm at *
  go_loopw [8] (fun p wr => ∃ (i : Nat) (β : Nat → Bool), p = .int .i64 (i : Int) ∧ i ≤ n ∧ Hid (Bt wr g h k β) ∧ Hid (PV wr 4 gm k (We.bF β)) ∧ Hid (Below w.heap.size w wr)) (fun p _ => n - (intOf p).toNat)
  case atStart => exact ⟨0, _, rfl, Nat.zero_le _, b3, m3, hB3⟩
  case round =>
    obtain ⟨i, β, rfl, hi, b, m, hB⟩ := hrel
    clear b3 m3 hB3
    by_cases hin : i < n
    · obtain ⟨a, rfl, hab, c0, c1, c2, c3⟩ := (H.out.below hB.out).at_ hin
      have hwf := H.out.1 i
      have hinI : (i : Int) < (n : Int) := by omega
      have d1 : decide ((i : Int) < (n : Int)) = true := decide_eq_true hinI
      obtain ⟨⟨D, A, B, on⟩, hq⟩ : ∃ q, qd i = q := ⟨_, rfl⟩
      rw [hq] at c0 c1 c2 c3 hwf
      simp only at c0 c1 c2 c3 hwf
      clear hq
      go_upto_region 14 with fail
      have pd := Lib.hid (PV.new wr 29 #[.int .i64 D, .int .i64 A, .int .i64 B, .bool on] 4 (dF D A B on) fun i hi => by
        match i, hi with
        | 0, _ => rfl
        | 1, _ => rfl
        | 2, _ => rfl
        | 3, _ => rfl)
      have b4 := Lib.hid (b.out.below (We.below_alloc wr (.cells #[.int .i64 D, .int .i64 A, .int .i64 B, .bool on] 29)))
      have m4 := Lib.hid (m.out.below (We.below_alloc wr (.cells #[.int .i64 D, .int .i64 A, .int .i64 B, .bool on] 29)))
      have hB4 := Lib.hid (We.below_trans hB.out (We.below_alloc wr (.cells #[.int .i64 D, .int .i64 A, .int .i64 B, .bool on] 29)))
      have hdh := Lib.hid (show wr.heap.size ≠ h from fun e => by have := b.out.row.lt; omega)
      have hdm := Lib.hid (show wr.heap.size ≠ gm from fun e => by have := m.out.lt; omega)
      clear b m hB c0 c1 c2 c3
      generalize wr.alloc (.cells #[.int .i64 D, .int .i64 A, .int .i64 B, .bool on] 29) = w4 at *
      generalize wr.heap.size = gd at *
      have e0 : w4.cell? ⟨gd, 0, none⟩ = some (.int .i64 D) := pd.out.cell (i := 0) (by decide)
      have e1 : w4.cell? ⟨gd, 1, none⟩ = some (.int .i64 A) := pd.out.cell (i := 1) (by decide)
      have e2 : w4.cell? ⟨gd, 2, none⟩ = some (.int .i64 B) := pd.out.cell (i := 2) (by decide)
      have e3 : w4.cell? ⟨gd, 3, none⟩ = some (.bool on) := pd.out.cell (i := 3) (by decide)
      have hA64 : A ≤ 9223372036854775807 := (i64_range hwf.2.1).2
      have hD : D = 0 ∨ D = 1 ∨ D = 2 ∨ D = 3 ∨ D = 4 ∨ D = 5 ∨ D = 6 ∨ ((D == 0) = false ∧ (D == 1) = false ∧ (D == 2) = false ∧ (D == 3) = false ∧ (D == 4) = false ∧ (D == 5) = false ∧ (D == 6) = false) := by
        simp only [beq_eq_false_iff_ne]; omega
      have hA : (decide (0 ≤ A) = false ∧ inB k A = false) ∨ (decide (0 ≤ A) = true ∧ decide (A < (k : Int)) = false ∧ inB k A = false) ∨ ∃ p : Nat, A = (p : Int) ∧ p < k := by
        by_cases h1 : 0 ≤ A
        · by_cases h2 : A < (k : Int)
          · exact Or.inr (Or.inr ⟨A.toNat, by omega, by omega⟩)
          · exact Or.inr (Or.inl ⟨decide_eq_true h1, decide_eq_false h2, by unfold inB; rw [decide_eq_false h2]; simp⟩)
        · exact Or.inl ⟨decide_eq_false h1, by unfold inB; rw [decide_eq_false h1]; rfl⟩
      clear hwf
      rcases hA with ⟨hA0, hAn⟩ | ⟨hA0, hA1, hAn⟩ | ⟨p, rfl, hp⟩
      · have pd4 := pd
        clear pd
        rcases hD with rfl | rfl | rfl | rfl | rfl | rfl | rfl | ⟨D0, D1, D2, D3, D4, D5, D6⟩
        · as_aux_lemma =>
            go_wp2_with fail
            refine Cl.region_way0 (fun q => q ≠ h) 18 [(0, .r), (1, .r), (2, .r), (3, .r), (4, .r), (6, .r), (5, .c), (7, .r), (8, .r), (9, .r), (10, .r), (11, .r), (12, .r), (13, .r), (14, .r), (15, .r), (16, .r), (17, .r)] (by kernel_rfl) (by kernel_rfl) ?_
            intro w5 hk5
            have b5 := Lib.hid (b4.out.below hk5.below)
            have m5 := Lib.hid (m4.out.below hk5.below)
            have hB5 := Lib.hid (We.below_trans hB4.out hk5.below)
            have pd5 := Lib.hid (pd4.out.below hk5.below)
            have q1 : ∀ y : Cl.Since (fun q => q ≠ h) w5, y.w.cell? ⟨gd, 1, none⟩ = some (.int .i64 A) := fun y => (pd5.out.keeps y.keeps hdh.out).cell (i := 1) (by decide)
            have q3 : ∀ y : Cl.Since (fun q => q ≠ h) w5, y.w.cell? ⟨gd, 3, none⟩ = some (.bool on) := fun y => (pd5.out.keeps y.keeps hdh.out).cell (i := 3) (by decide)
            have hset := Lib.hid (set_no w5 hB5.out hh.out b5.out A on (by unfold chg; rw [hAn]; rfl))
            clear e0 e1 e2 e3 b4 m4 hB4 hk5 pd4
            iterate 6 (with_reducible refine (no_implicit_lambda% (Cl.way_r rfl ?_)); go_big_quiet_step (fail); with_reducible refine (no_implicit_lambda% (wpQuiet_nil ?_)))
            refine Cl.way_c rfl ?_
            go_wp2_with (go_at_call 9; (with_reducible refine hset.out.mono ?_); clear hset; rintro e w6 ⟨rfl, hB6, hK, b6⟩; replace hB6 := Lib.hid hB6; replace b6 := Lib.hid b6; have m6 := Lib.hid (m5.out.keeps hK hmh.out); have pd6 := Lib.hid (pd5.out.keeps hK hdh.out); replace hK := Lib.hid hK)
            refine Cl.way_on hK.out ?_
            clear q1 q3 b5 m5 hB5 pd5 hK
            have q1 : ∀ y : Cl.Since (fun q => q ≠ h) w6, y.w.cell? ⟨gd, 1, none⟩ = some (.int .i64 A) := fun y => (pd6.out.keeps y.keeps hdh.out).cell (i := 1) (by decide)
            have q3 : ∀ y : Cl.Since (fun q => q ≠ h) w6, y.w.cell? ⟨gd, 3, none⟩ = some (.bool on) := fun y => (pd6.out.keeps y.keeps hdh.out).cell (i := 3) (by decide)

            iterate 11 (with_reducible refine (no_implicit_lambda% (Cl.way_r rfl ?_)); go_big_quiet_step (fail); with_reducible refine (no_implicit_lambda% (wpQuiet_nil ?_)))
            refine Cl.way_end ?_
            clear q1 q3
            have hln := Lib.hid (len_any w6 b6.out)
            go_wp2_with (go_at_call 13; (with_reducible refine hln.out.mono ?_); clear hln; rintro e w20 ⟨rfl, rfl⟩)
            go_roundw
            case rel => exact ⟨i + 1, β, by go_num, by omega, b6, m6, hB6⟩
            case measure => simp [intOf] <;> omega
        · as_aux_lemma =>
            go_wp2_with fail
            refine Cl.region_way0 (fun q => q ≠ h) 18 [(0, .r), (1, .r), (2, .r), (3, .r), (4, .r), (6, .r), (5, .c), (7, .r), (8, .r), (9, .r), (10, .r), (11, .r), (12, .r), (13, .r), (14, .r), (15, .r), (16, .r), (17, .r)] (by kernel_rfl) (by kernel_rfl) ?_
            intro w5 hk5
            have b5 := Lib.hid (b4.out.below hk5.below)
            have m5 := Lib.hid (m4.out.below hk5.below)
            have hB5 := Lib.hid (We.below_trans hB4.out hk5.below)
            have pd5 := Lib.hid (pd4.out.below hk5.below)
            have q1 : ∀ y : Cl.Since (fun q => q ≠ h) w5, y.w.cell? ⟨gd, 1, none⟩ = some (.int .i64 A) := fun y => (pd5.out.keeps y.keeps hdh.out).cell (i := 1) (by decide)
            have q3 : ∀ y : Cl.Since (fun q => q ≠ h) w5, y.w.cell? ⟨gd, 3, none⟩ = some (.bool on) := fun y => (pd5.out.keeps y.keeps hdh.out).cell (i := 3) (by decide)
            have hset := Lib.hid (set_no w5 hB5.out hh.out b5.out A on (by unfold chg; rw [hAn]; rfl))
            clear e0 e1 e2 e3 b4 m4 hB4 hk5 pd4
            iterate 6 (with_reducible refine (no_implicit_lambda% (Cl.way_r rfl ?_)); go_big_quiet_step (fail); with_reducible refine (no_implicit_lambda% (wpQuiet_nil ?_)))
            refine Cl.way_c rfl ?_
            go_wp2_with (go_at_call 9; (with_reducible refine hset.out.mono ?_); clear hset; rintro e w6 ⟨rfl, hB6, hK, b6⟩; replace hB6 := Lib.hid hB6; replace b6 := Lib.hid b6; have m6 := Lib.hid (m5.out.keeps hK hmh.out); have pd6 := Lib.hid (pd5.out.keeps hK hdh.out); replace hK := Lib.hid hK)
            refine Cl.way_on hK.out ?_
            clear q1 q3 b5 m5 hB5 pd5 hK
            have q1 : ∀ y : Cl.Since (fun q => q ≠ h) w6, y.w.cell? ⟨gd, 1, none⟩ = some (.int .i64 A) := fun y => (pd6.out.keeps y.keeps hdh.out).cell (i := 1) (by decide)
            have q3 : ∀ y : Cl.Since (fun q => q ≠ h) w6, y.w.cell? ⟨gd, 3, none⟩ = some (.bool on) := fun y => (pd6.out.keeps y.keeps hdh.out).cell (i := 3) (by decide)

            iterate 11 (with_reducible refine (no_implicit_lambda% (Cl.way_r rfl ?_)); go_big_quiet_step (fail); with_reducible refine (no_implicit_lambda% (wpQuiet_nil ?_)))
            refine Cl.way_end ?_
            clear q1 q3
            have hln := Lib.hid (len_any w6 b6.out)
            go_wp2_with (go_at_call 13; (with_reducible refine hln.out.mono ?_); clear hln; rintro e w20 ⟨rfl, rfl⟩)
            go_roundw
            case rel => exact ⟨i + 1, β, by go_num, by omega, b6, m6, hB6⟩
            case measure => simp [intOf] <;> omega
        · as_aux_lemma =>
            go_wp2_with fail
            refine Cl.region_way0 (fun q => q ≠ h) 18 [(0, .r), (1, .r), (2, .r), (3, .r), (4, .r), (6, .r), (5, .c), (7, .r), (8, .r), (9, .r), (10, .r), (11, .r), (12, .r), (13, .r), (14, .r), (15, .r), (16, .r), (17, .r)] (by kernel_rfl) (by kernel_rfl) ?_
            intro w5 hk5
            have b5 := Lib.hid (b4.out.below hk5.below)
            have m5 := Lib.hid (m4.out.below hk5.below)
            have hB5 := Lib.hid (We.below_trans hB4.out hk5.below)
            have pd5 := Lib.hid (pd4.out.below hk5.below)
            have q1 : ∀ y : Cl.Since (fun q => q ≠ h) w5, y.w.cell? ⟨gd, 1, none⟩ = some (.int .i64 A) := fun y => (pd5.out.keeps y.keeps hdh.out).cell (i := 1) (by decide)
            have q3 : ∀ y : Cl.Since (fun q => q ≠ h) w5, y.w.cell? ⟨gd, 3, none⟩ = some (.bool on) := fun y => (pd5.out.keeps y.keeps hdh.out).cell (i := 3) (by decide)
            have hset := Lib.hid (set_no w5 hB5.out hh.out b5.out A on (by unfold chg; rw [hAn]; rfl))
            clear e0 e1 e2 e3 b4 m4 hB4 hk5 pd4
            iterate 6 (with_reducible refine (no_implicit_lambda% (Cl.way_r rfl ?_)); go_big_quiet_step (fail); with_reducible refine (no_implicit_lambda% (wpQuiet_nil ?_)))
            refine Cl.way_c rfl ?_
            go_wp2_with (go_at_call 9; (with_reducible refine hset.out.mono ?_); clear hset; rintro e w6 ⟨rfl, hB6, hK, b6⟩; replace hB6 := Lib.hid hB6; replace b6 := Lib.hid b6; have m6 := Lib.hid (m5.out.keeps hK hmh.out); have pd6 := Lib.hid (pd5.out.keeps hK hdh.out); replace hK := Lib.hid hK)
            refine Cl.way_on hK.out ?_
            clear q1 q3 b5 m5 hB5 pd5 hK
            have q1 : ∀ y : Cl.Since (fun q => q ≠ h) w6, y.w.cell? ⟨gd, 1, none⟩ = some (.int .i64 A) := fun y => (pd6.out.keeps y.keeps hdh.out).cell (i := 1) (by decide)
            have q3 : ∀ y : Cl.Since (fun q => q ≠ h) w6, y.w.cell? ⟨gd, 3, none⟩ = some (.bool on) := fun y => (pd6.out.keeps y.keeps hdh.out).cell (i := 3) (by decide)

            iterate 11 (with_reducible refine (no_implicit_lambda% (Cl.way_r rfl ?_)); go_big_quiet_step (fail); with_reducible refine (no_implicit_lambda% (wpQuiet_nil ?_)))
            refine Cl.way_end ?_
            clear q1 q3
            have hln := Lib.hid (len_any w6 b6.out)
            go_wp2_with (go_at_call 13; (with_reducible refine hln.out.mono ?_); clear hln; rintro e w20 ⟨rfl, rfl⟩)
            go_roundw
            case rel => exact ⟨i + 1, β, by go_num, by omega, b6, m6, hB6⟩
            case measure => simp [intOf] <;> omega
        · as_aux_lemma =>
            go_wp2_with fail
            refine Cl.region_way0 (fun q => q ≠ h) 18 [(0, .r), (1, .r), (2, .r), (3, .r), (4, .r), (6, .r), (5, .c), (7, .r), (8, .r), (9, .r), (10, .r), (11, .r), (12, .r), (13, .r), (14, .r), (15, .r), (16, .r), (17, .r)] (by kernel_rfl) (by kernel_rfl) ?_
            intro w5 hk5
            have b5 := Lib.hid (b4.out.below hk5.below)
            have m5 := Lib.hid (m4.out.below hk5.below)
            have hB5 := Lib.hid (We.below_trans hB4.out hk5.below)
            have pd5 := Lib.hid (pd4.out.below hk5.below)
            have q1 : ∀ y : Cl.Since (fun q => q ≠ h) w5, y.w.cell? ⟨gd, 1, none⟩ = some (.int .i64 A) := fun y => (pd5.out.keeps y.keeps hdh.out).cell (i := 1) (by decide)
            have q3 : ∀ y : Cl.Since (fun q => q ≠ h) w5, y.w.cell? ⟨gd, 3, none⟩ = some (.bool on) := fun y => (pd5.out.keeps y.keeps hdh.out).cell (i := 3) (by decide)
            have hset := Lib.hid (set_no w5 hB5.out hh.out b5.out A on (by unfold chg; rw [hAn]; rfl))
            clear e0 e1 e2 e3 b4 m4 hB4 hk5 pd4
            iterate 6 (with_reducible refine (no_implicit_lambda% (Cl.way_r rfl ?_)); go_big_quiet_step (fail); with_reducible refine (no_implicit_lambda% (wpQuiet_nil ?_)))
            refine Cl.way_c rfl ?_
            go_wp2_with (go_at_call 9; (with_reducible refine hset.out.mono ?_); clear hset; rintro e w6 ⟨rfl, hB6, hK, b6⟩; replace hB6 := Lib.hid hB6; replace b6 := Lib.hid b6; have m6 := Lib.hid (m5.out.keeps hK hmh.out); have pd6 := Lib.hid (pd5.out.keeps hK hdh.out); replace hK := Lib.hid hK)
            refine Cl.way_on hK.out ?_
            clear q1 q3 b5 m5 hB5 pd5 hK
            have q1 : ∀ y : Cl.Since (fun q => q ≠ h) w6, y.w.cell? ⟨gd, 1, none⟩ = some (.int .i64 A) := fun y => (pd6.out.keeps y.keeps hdh.out).cell (i := 1) (by decide)
            have q3 : ∀ y : Cl.Since (fun q => q ≠ h) w6, y.w.cell? ⟨gd, 3, none⟩ = some (.bool on) := fun y => (pd6.out.keeps y.keeps hdh.out).cell (i := 3) (by decide)

            iterate 11 (with_reducible refine (no_implicit_lambda% (Cl.way_r rfl ?_)); go_big_quiet_step (fail); with_reducible refine (no_implicit_lambda% (wpQuiet_nil ?_)))
            refine Cl.way_end ?_
            clear q1 q3
            have hln := Lib.hid (len_any w6 b6.out)
            go_wp2_with (go_at_call 13; (with_reducible refine hln.out.mono ?_); clear hln; rintro e w20 ⟨rfl, rfl⟩)
            go_roundw
            case rel => exact ⟨i + 1, β, by go_num, by omega, b6, m6, hB6⟩
            case measure => simp [intOf] <;> omega
        · as_aux_lemma =>
            have hhs := Lib.hid (has_lit w4 b4.out A false (by unfold hasB; rw [hAn]; rfl))
            go_wp2_with (go_at_call 10; (with_reducible refine hhs.out.mono ?_); clear hhs; rintro e w5 ⟨rfl, hb⟩; have b5 := Lib.hid (b4.out.below hb); have m5 := Lib.hid (m4.out.below hb); have hB5 := Lib.hid (We.below_trans hB4.out hb); have pd5 := Lib.hid (pd4.out.below hb); clear e0 e1 e2 e3 b4 m4 hB4 hb pd4; have e1 : w5.cell? ⟨gd, 1, none⟩ = some (.int .i64 A) := pd5.out.cell (i := 1) (by decide))
            have hln := Lib.hid (len_any w5 b5.out)
            go_wp2_with (go_at_call 13; (with_reducible refine hln.out.mono ?_); clear hln; rintro e w20 ⟨rfl, rfl⟩)
            go_roundw
            case rel => exact ⟨i + 1, β, by go_num, by omega, b5, m5, hB5⟩
            case measure => simp [intOf] <;> omega
        · as_aux_lemma =>
            go_wp2_with fail
            go_loopw [11, 12] (fun p1 q1 wq => ∃ j : Nat, p1 = .int .i64 ((pc (sel β A B) j : Nat) : Int) ∧ q1 = .int .i64 (j : Int) ∧ j ≤ k ∧ w4 = wq) (fun _ q1 _ => k - (intOf q1).toNat)
            case atStart => exact ⟨0, rfl, rfl, Nat.zero_le _, rfl⟩
            case round =>
              obtain ⟨j, rfl, rfl, hj, rfl⟩ := hrel
              obtain ⟨S, hS⟩ : ∃ S, pc (sel β A B) j = S := ⟨_, rfl⟩
              have hSk : S ≤ k := by rw [← hS]; exact Nat.le_trans (pc_le _ _) hj
              rw [hS]
              by_cases hjk : j < k
              · have d2 : decide ((j : Int) < (k : Int)) = true := decide_eq_true (by omega)
                have hjI : (j : Int) < (k : Int) := by omega
                have cm := m4.out.cell hjk
                unfold We.bF at cm
                have hp1 : pc (sel β A B) (j + 1) = S + (if sel β A B j then 1 else 0) := by rw [pc, hS]
                unfold sel at hp1
                cases hβ : β j
                · rw [hβ] at cm hp1
                  replace hp1 := Lib.hid hp1
                  replace hS := Lib.hid hS
                  replace hβ := Lib.hid hβ
                  go_wp2_with fail
                  go_roundw
                  case rel => exact ⟨j + 1, by have := hp1.out; unfold sel; rw [this]; simp, by go_num, by omega, by first | rfl | trivial⟩
                  case measure => simp [intOf] <;> omega
                · rw [hβ] at cm hp1
                  by_cases h1 : A ≤ (j : Int)
                  · have d3 : decide (A ≤ (j : Int)) = true := decide_eq_true h1
                    by_cases h2 : (j : Int) < B
                    · have d4 : decide ((j : Int) < B) = true := decide_eq_true h2
                      rw [d3, d4] at hp1
                      replace hp1 := Lib.hid hp1
                      replace hS := Lib.hid hS
                      replace hβ := Lib.hid hβ
                      go_wp2_with fail
                      go_roundw
                      case rel => exact ⟨j + 1, by have := hp1.out; unfold sel; rw [this]; simp, by go_num, by omega, by first | rfl | trivial⟩
                      case measure => simp [intOf] <;> omega
                    · have d4 : decide ((j : Int) < B) = false := decide_eq_false h2
                      rw [d3, d4] at hp1
                      replace hp1 := Lib.hid hp1
                      replace hS := Lib.hid hS
                      replace hβ := Lib.hid hβ
                      go_wp2_with fail
                      go_roundw
                      case rel => exact ⟨j + 1, by have := hp1.out; unfold sel; rw [this]; simp, by go_num, by omega, by first | rfl | trivial⟩
                      case measure => simp [intOf] <;> omega
                  · have d3 : decide (A ≤ (j : Int)) = false := decide_eq_false h1
                    rw [d3] at hp1
                    replace hp1 := Lib.hid hp1
                    replace hS := Lib.hid hS
                    replace hβ := Lib.hid hβ
                    go_wp2_with fail
                    go_roundw
                    case rel => exact ⟨j + 1, by have := hp1.out; unfold sel; rw [this]; simp, by go_num, by omega, by first | rfl | trivial⟩
                    case measure => simp [intOf] <;> omega
              · obtain rfl : j = k := by omega
                have d2 : decide ((j : Int) < (j : Int)) = false := decide_eq_false (by omega)
                have hct := Lib.hid (count_lit w4 b4.out A B hA64 (S : Int) (by rw [hS]))
                replace hS := Lib.hid hS
                go_wp2_with (go_at_call 11; (with_reducible refine hct.out.mono ?_); clear hct; rintro e w5 ⟨rfl, rfl⟩)
                have hln := Lib.hid (len_any w4 b4.out)
                go_wp2_with (go_at_call 13; (with_reducible refine hln.out.mono ?_); clear hln; rintro e w20 ⟨rfl, rfl⟩)
                go_roundw
                case rel => exact ⟨i + 1, β, by go_num, by omega, b4, m4, hB4⟩
                case measure => simp [intOf] <;> omega
        · as_aux_lemma =>
            go_wp2_with fail
            go_loopw [13, 14] (fun p1 q1 wq => ∃ (J : Nat) (o : Option Nat) (z : Int), p1 = .int .i64 (atI o) ∧ q1 = .int .i64 z ∧ z + 1 = (J : Int) ∧ J ≤ k ∧ Hid (Dn (frm β A) k J o) ∧ w4 = wq) (fun _ q1 _ => (intOf q1 + 1).toNat)
            case atStart => exact ⟨k, none, (k : Int) - 1, rfl, rfl, by omega, Nat.le_refl _, Lib.hid (fun t h1 h2 => absurd h2 (by omega)), rfl⟩
            case round =>
              obtain ⟨J, o, z, rfl, rfl, hz, hJ, hDn, rfl⟩ := hrel
              cases J with
              | zero =>
                obtain rfl : z = -1 := by omega
                clear hz
                cases o with
                | none =>
                  have hat : atI none = -1 := rfl
                  rw [hat]
                  have hnx := Lib.hid (next_lit w4 b4.out A hA64 (hTb.out.below hB4.out) 0 false (by rw [hDn.out.nx]; rfl))
                  go_wp2_with (go_at_call 12; (with_reducible refine hnx.out.mono ?_); clear hnx; rintro e w5 ⟨rfl, hb⟩; have b5 := Lib.hid (b4.out.below hb); have m5 := Lib.hid (m4.out.below hb); have hB5 := Lib.hid (We.below_trans hB4.out hb); clear e0 e1 e2 e3 b4 m4 hB4 hb pd4)
                  have hln := Lib.hid (len_any w5 b5.out)
                  go_wp2_with (go_at_call 13; (with_reducible refine hln.out.mono ?_); clear hln; rintro e w20 ⟨rfl, rfl⟩)
                  go_roundw
                  case rel => exact ⟨i + 1, β, by go_num, by omega, b5, m5, hB5⟩
                  case measure => simp [intOf] <;> omega
                | some t =>
                  have hat : atI (some t) = (t : Int) := rfl
                  rw [hat]
                  have d5 : decide (0 ≤ (t : Int)) = true := decide_eq_true (by omega)
                  have hnx := Lib.hid (next_lit w4 b4.out A hA64 (hTb.out.below hB4.out) (t : Int) true (by rw [hDn.out.nx]; rfl))
                  go_wp2_with (go_at_call 12; (with_reducible refine hnx.out.mono ?_); clear hnx; rintro e w5 ⟨rfl, hb⟩; have b5 := Lib.hid (b4.out.below hb); have m5 := Lib.hid (m4.out.below hb); have hB5 := Lib.hid (We.below_trans hB4.out hb); clear e0 e1 e2 e3 b4 m4 hB4 hb pd4)
                  have hln := Lib.hid (len_any w5 b5.out)
                  go_wp2_with (go_at_call 13; (with_reducible refine hln.out.mono ?_); clear hln; rintro e w20 ⟨rfl, rfl⟩)
                  go_roundw
                  case rel => exact ⟨i + 1, β, by go_num, by omega, b5, m5, hB5⟩
                  case measure => simp [intOf] <;> omega
              | succ s =>
                obtain rfl : z = (s : Int) := by omega
                clear hz
                have hsk : s < k := by omega
                have d2 : decide (0 ≤ (s : Int)) = true := decide_eq_true (by omega)
                have hsI : (s : Int) < (k : Int) := by omega
                have cm := m4.out.cell hsk
                unfold We.bF at cm
                obtain ⟨V, hV⟩ : ∃ V, atI o = V := ⟨_, rfl⟩
                rw [hV]
                cases hβ : β s
                · rw [hβ] at cm
                  have hf : frm β A s = false := by unfold frm; rw [hβ]; rfl
                  have hD2 := Lib.hid (hDn.out.no hf)
                  replace hV := Lib.hid hV
                  replace hβ := Lib.hid hβ
                  clear hf
                  go_wp2_with fail
                  go_roundw
                  case rel => exact ⟨s, o, (s : Int) - 1, by rw [hV.out], rfl, by omega, by omega, hD2, by first | rfl | trivial⟩
                  case measure => simp [intOf] <;> omega
                · rw [hβ] at cm
                  by_cases h1 : A ≤ (s : Int)
                  · have d3 : decide (A ≤ (s : Int)) = true := decide_eq_true h1
                    have hf : frm β A s = true := by unfold frm; rw [hβ, d3]; rfl
                    have hD2 := Lib.hid (Dn.yes hf hsk)
                    replace hV := Lib.hid hV
                    replace hβ := Lib.hid hβ
                    clear hf
                    go_wp2_with fail
                    go_roundw
                    case rel => exact ⟨s, some s, (s : Int) - 1, rfl, rfl, by omega, by omega, hD2, by first | rfl | trivial⟩
                    case measure => simp [intOf] <;> omega
                  · have d3 : decide (A ≤ (s : Int)) = false := decide_eq_false h1
                    have hf : frm β A s = false := by unfold frm; rw [hβ, d3]; rfl
                    have hD2 := Lib.hid (hDn.out.no hf)
                    replace hV := Lib.hid hV
                    replace hβ := Lib.hid hβ
                    clear hf
                    go_wp2_with fail
                    go_roundw
                    case rel => exact ⟨s, o, (s : Int) - 1, by rw [hV.out], rfl, by omega, by omega, hD2, by first | rfl | trivial⟩
                    case measure => simp [intOf] <;> omega
        · as_aux_lemma =>
            have hln := Lib.hid (len_any w4 b4.out)
            go_wp2_with (go_at_call 13; (with_reducible refine hln.out.mono ?_); clear hln; rintro e w20 ⟨rfl, rfl⟩)
            go_roundw
            case rel => exact ⟨i + 1, β, by go_num, by omega, b4, m4, hB4⟩
            case measure => simp [intOf] <;> omega
      · have pd4 := pd
        clear pd
        rcases hD with rfl | rfl | rfl | rfl | rfl | rfl | rfl | ⟨D0, D1, D2, D3, D4, D5, D6⟩
        · as_aux_lemma =>
            go_wp2_with fail
            refine Cl.region_way0 (fun q => q ≠ h) 18 [(0, .r), (1, .r), (2, .r), (3, .r), (4, .r), (6, .r), (5, .c), (7, .r), (8, .r), (9, .r), (10, .r), (11, .r), (12, .r), (13, .r), (14, .r), (15, .r), (16, .r), (17, .r)] (by kernel_rfl) (by kernel_rfl) ?_
            intro w5 hk5
            have b5 := Lib.hid (b4.out.below hk5.below)
            have m5 := Lib.hid (m4.out.below hk5.below)
            have hB5 := Lib.hid (We.below_trans hB4.out hk5.below)
            have pd5 := Lib.hid (pd4.out.below hk5.below)
            have q1 : ∀ y : Cl.Since (fun q => q ≠ h) w5, y.w.cell? ⟨gd, 1, none⟩ = some (.int .i64 A) := fun y => (pd5.out.keeps y.keeps hdh.out).cell (i := 1) (by decide)
            have q3 : ∀ y : Cl.Since (fun q => q ≠ h) w5, y.w.cell? ⟨gd, 3, none⟩ = some (.bool on) := fun y => (pd5.out.keeps y.keeps hdh.out).cell (i := 3) (by decide)
            have hset := Lib.hid (set_no w5 hB5.out hh.out b5.out A on (by unfold chg; rw [hAn]; rfl))
            clear e0 e1 e2 e3 b4 m4 hB4 hk5 pd4
            iterate 6 (with_reducible refine (no_implicit_lambda% (Cl.way_r rfl ?_)); go_big_quiet_step (fail); with_reducible refine (no_implicit_lambda% (wpQuiet_nil ?_)))
            refine Cl.way_c rfl ?_
            go_wp2_with (go_at_call 9; (with_reducible refine hset.out.mono ?_); clear hset; rintro e w6 ⟨rfl, hB6, hK, b6⟩; replace hB6 := Lib.hid hB6; replace b6 := Lib.hid b6; have m6 := Lib.hid (m5.out.keeps hK hmh.out); have pd6 := Lib.hid (pd5.out.keeps hK hdh.out); replace hK := Lib.hid hK)
            refine Cl.way_on hK.out ?_
            clear q1 q3 b5 m5 hB5 pd5 hK
            have q1 : ∀ y : Cl.Since (fun q => q ≠ h) w6, y.w.cell? ⟨gd, 1, none⟩ = some (.int .i64 A) := fun y => (pd6.out.keeps y.keeps hdh.out).cell (i := 1) (by decide)
            have q3 : ∀ y : Cl.Since (fun q => q ≠ h) w6, y.w.cell? ⟨gd, 3, none⟩ = some (.bool on) := fun y => (pd6.out.keeps y.keeps hdh.out).cell (i := 3) (by decide)

            iterate 11 (with_reducible refine (no_implicit_lambda% (Cl.way_r rfl ?_)); go_big_quiet_step (fail); with_reducible refine (no_implicit_lambda% (wpQuiet_nil ?_)))
            refine Cl.way_end ?_
            clear q1 q3
            have hln := Lib.hid (len_any w6 b6.out)
            go_wp2_with (go_at_call 13; (with_reducible refine hln.out.mono ?_); clear hln; rintro e w20 ⟨rfl, rfl⟩)
            go_roundw
            case rel => exact ⟨i + 1, β, by go_num, by omega, b6, m6, hB6⟩
            case measure => simp [intOf] <;> omega
        · as_aux_lemma =>
            go_wp2_with fail
            refine Cl.region_way0 (fun q => q ≠ h) 18 [(0, .r), (1, .r), (2, .r), (3, .r), (4, .r), (6, .r), (5, .c), (7, .r), (8, .r), (9, .r), (10, .r), (11, .r), (12, .r), (13, .r), (14, .r), (15, .r), (16, .r), (17, .r)] (by kernel_rfl) (by kernel_rfl) ?_
            intro w5 hk5
            have b5 := Lib.hid (b4.out.below hk5.below)
            have m5 := Lib.hid (m4.out.below hk5.below)
            have hB5 := Lib.hid (We.below_trans hB4.out hk5.below)
            have pd5 := Lib.hid (pd4.out.below hk5.below)
            have q1 : ∀ y : Cl.Since (fun q => q ≠ h) w5, y.w.cell? ⟨gd, 1, none⟩ = some (.int .i64 A) := fun y => (pd5.out.keeps y.keeps hdh.out).cell (i := 1) (by decide)
            have q3 : ∀ y : Cl.Since (fun q => q ≠ h) w5, y.w.cell? ⟨gd, 3, none⟩ = some (.bool on) := fun y => (pd5.out.keeps y.keeps hdh.out).cell (i := 3) (by decide)
            have hset := Lib.hid (set_no w5 hB5.out hh.out b5.out A on (by unfold chg; rw [hAn]; rfl))
            clear e0 e1 e2 e3 b4 m4 hB4 hk5 pd4
            iterate 6 (with_reducible refine (no_implicit_lambda% (Cl.way_r rfl ?_)); go_big_quiet_step (fail); with_reducible refine (no_implicit_lambda% (wpQuiet_nil ?_)))
            refine Cl.way_c rfl ?_
            go_wp2_with (go_at_call 9; (with_reducible refine hset.out.mono ?_); clear hset; rintro e w6 ⟨rfl, hB6, hK, b6⟩; replace hB6 := Lib.hid hB6; replace b6 := Lib.hid b6; have m6 := Lib.hid (m5.out.keeps hK hmh.out); have pd6 := Lib.hid (pd5.out.keeps hK hdh.out); replace hK := Lib.hid hK)
            refine Cl.way_on hK.out ?_
            clear q1 q3 b5 m5 hB5 pd5 hK
            have q1 : ∀ y : Cl.Since (fun q => q ≠ h) w6, y.w.cell? ⟨gd, 1, none⟩ = some (.int .i64 A) := fun y => (pd6.out.keeps y.keeps hdh.out).cell (i := 1) (by decide)
            have q3 : ∀ y : Cl.Since (fun q => q ≠ h) w6, y.w.cell? ⟨gd, 3, none⟩ = some (.bool on) := fun y => (pd6.out.keeps y.keeps hdh.out).cell (i := 3) (by decide)

            iterate 11 (with_reducible refine (no_implicit_lambda% (Cl.way_r rfl ?_)); go_big_quiet_step (fail); with_reducible refine (no_implicit_lambda% (wpQuiet_nil ?_)))
            refine Cl.way_end ?_
            clear q1 q3
            have hln := Lib.hid (len_any w6 b6.out)
            go_wp2_with (go_at_call 13; (with_reducible refine hln.out.mono ?_); clear hln; rintro e w20 ⟨rfl, rfl⟩)
            go_roundw
            case rel => exact ⟨i + 1, β, by go_num, by omega, b6, m6, hB6⟩
            case measure => simp [intOf] <;> omega
        · as_aux_lemma =>
            go_wp2_with fail
            refine Cl.region_way0 (fun q => q ≠ h) 18 [(0, .r), (1, .r), (2, .r), (3, .r), (4, .r), (6, .r), (5, .c), (7, .r), (8, .r), (9, .r), (10, .r), (11, .r), (12, .r), (13, .r), (14, .r), (15, .r), (16, .r), (17, .r)] (by kernel_rfl) (by kernel_rfl) ?_
            intro w5 hk5
            have b5 := Lib.hid (b4.out.below hk5.below)
            have m5 := Lib.hid (m4.out.below hk5.below)
            have hB5 := Lib.hid (We.below_trans hB4.out hk5.below)
            have pd5 := Lib.hid (pd4.out.below hk5.below)
            have q1 : ∀ y : Cl.Since (fun q => q ≠ h) w5, y.w.cell? ⟨gd, 1, none⟩ = some (.int .i64 A) := fun y => (pd5.out.keeps y.keeps hdh.out).cell (i := 1) (by decide)
            have q3 : ∀ y : Cl.Since (fun q => q ≠ h) w5, y.w.cell? ⟨gd, 3, none⟩ = some (.bool on) := fun y => (pd5.out.keeps y.keeps hdh.out).cell (i := 3) (by decide)
            have hset := Lib.hid (set_no w5 hB5.out hh.out b5.out A on (by unfold chg; rw [hAn]; rfl))
            clear e0 e1 e2 e3 b4 m4 hB4 hk5 pd4
            iterate 6 (with_reducible refine (no_implicit_lambda% (Cl.way_r rfl ?_)); go_big_quiet_step (fail); with_reducible refine (no_implicit_lambda% (wpQuiet_nil ?_)))
            refine Cl.way_c rfl ?_
            go_wp2_with (go_at_call 9; (with_reducible refine hset.out.mono ?_); clear hset; rintro e w6 ⟨rfl, hB6, hK, b6⟩; replace hB6 := Lib.hid hB6; replace b6 := Lib.hid b6; have m6 := Lib.hid (m5.out.keeps hK hmh.out); have pd6 := Lib.hid (pd5.out.keeps hK hdh.out); replace hK := Lib.hid hK)
            refine Cl.way_on hK.out ?_
            clear q1 q3 b5 m5 hB5 pd5 hK
            have q1 : ∀ y : Cl.Since (fun q => q ≠ h) w6, y.w.cell? ⟨gd, 1, none⟩ = some (.int .i64 A) := fun y => (pd6.out.keeps y.keeps hdh.out).cell (i := 1) (by decide)
            have q3 : ∀ y : Cl.Since (fun q => q ≠ h) w6, y.w.cell? ⟨gd, 3, none⟩ = some (.bool on) := fun y => (pd6.out.keeps y.keeps hdh.out).cell (i := 3) (by decide)

            iterate 11 (with_reducible refine (no_implicit_lambda% (Cl.way_r rfl ?_)); go_big_quiet_step (fail); with_reducible refine (no_implicit_lambda% (wpQuiet_nil ?_)))
            refine Cl.way_end ?_
            clear q1 q3
            have hln := Lib.hid (len_any w6 b6.out)
            go_wp2_with (go_at_call 13; (with_reducible refine hln.out.mono ?_); clear hln; rintro e w20 ⟨rfl, rfl⟩)
            go_roundw
            case rel => exact ⟨i + 1, β, by go_num, by omega, b6, m6, hB6⟩
            case measure => simp [intOf] <;> omega
        · as_aux_lemma =>
            go_wp2_with fail
            refine Cl.region_way0 (fun q => q ≠ h) 18 [(0, .r), (1, .r), (2, .r), (3, .r), (4, .r), (6, .r), (5, .c), (7, .r), (8, .r), (9, .r), (10, .r), (11, .r), (12, .r), (13, .r), (14, .r), (15, .r), (16, .r), (17, .r)] (by kernel_rfl) (by kernel_rfl) ?_
            intro w5 hk5
            have b5 := Lib.hid (b4.out.below hk5.below)
            have m5 := Lib.hid (m4.out.below hk5.below)
            have hB5 := Lib.hid (We.below_trans hB4.out hk5.below)
            have pd5 := Lib.hid (pd4.out.below hk5.below)
            have q1 : ∀ y : Cl.Since (fun q => q ≠ h) w5, y.w.cell? ⟨gd, 1, none⟩ = some (.int .i64 A) := fun y => (pd5.out.keeps y.keeps hdh.out).cell (i := 1) (by decide)
            have q3 : ∀ y : Cl.Since (fun q => q ≠ h) w5, y.w.cell? ⟨gd, 3, none⟩ = some (.bool on) := fun y => (pd5.out.keeps y.keeps hdh.out).cell (i := 3) (by decide)
            have hset := Lib.hid (set_no w5 hB5.out hh.out b5.out A on (by unfold chg; rw [hAn]; rfl))
            clear e0 e1 e2 e3 b4 m4 hB4 hk5 pd4
            iterate 6 (with_reducible refine (no_implicit_lambda% (Cl.way_r rfl ?_)); go_big_quiet_step (fail); with_reducible refine (no_implicit_lambda% (wpQuiet_nil ?_)))
            refine Cl.way_c rfl ?_
            go_wp2_with (go_at_call 9; (with_reducible refine hset.out.mono ?_); clear hset; rintro e w6 ⟨rfl, hB6, hK, b6⟩; replace hB6 := Lib.hid hB6; replace b6 := Lib.hid b6; have m6 := Lib.hid (m5.out.keeps hK hmh.out); have pd6 := Lib.hid (pd5.out.keeps hK hdh.out); replace hK := Lib.hid hK)
            refine Cl.way_on hK.out ?_
            clear q1 q3 b5 m5 hB5 pd5 hK
            have q1 : ∀ y : Cl.Since (fun q => q ≠ h) w6, y.w.cell? ⟨gd, 1, none⟩ = some (.int .i64 A) := fun y => (pd6.out.keeps y.keeps hdh.out).cell (i := 1) (by decide)
            have q3 : ∀ y : Cl.Since (fun q => q ≠ h) w6, y.w.cell? ⟨gd, 3, none⟩ = some (.bool on) := fun y => (pd6.out.keeps y.keeps hdh.out).cell (i := 3) (by decide)

            iterate 11 (with_reducible refine (no_implicit_lambda% (Cl.way_r rfl ?_)); go_big_quiet_step (fail); with_reducible refine (no_implicit_lambda% (wpQuiet_nil ?_)))
            refine Cl.way_end ?_
            clear q1 q3
            have hln := Lib.hid (len_any w6 b6.out)
            go_wp2_with (go_at_call 13; (with_reducible refine hln.out.mono ?_); clear hln; rintro e w20 ⟨rfl, rfl⟩)
            go_roundw
            case rel => exact ⟨i + 1, β, by go_num, by omega, b6, m6, hB6⟩
            case measure => simp [intOf] <;> omega
        · as_aux_lemma =>
            have hhs := Lib.hid (has_lit w4 b4.out A false (by unfold hasB; rw [hAn]; rfl))
            go_wp2_with (go_at_call 10; (with_reducible refine hhs.out.mono ?_); clear hhs; rintro e w5 ⟨rfl, hb⟩; have b5 := Lib.hid (b4.out.below hb); have m5 := Lib.hid (m4.out.below hb); have hB5 := Lib.hid (We.below_trans hB4.out hb); have pd5 := Lib.hid (pd4.out.below hb); clear e0 e1 e2 e3 b4 m4 hB4 hb pd4; have e1 : w5.cell? ⟨gd, 1, none⟩ = some (.int .i64 A) := pd5.out.cell (i := 1) (by decide))
            have hln := Lib.hid (len_any w5 b5.out)
            go_wp2_with (go_at_call 13; (with_reducible refine hln.out.mono ?_); clear hln; rintro e w20 ⟨rfl, rfl⟩)
            go_roundw
            case rel => exact ⟨i + 1, β, by go_num, by omega, b5, m5, hB5⟩
            case measure => simp [intOf] <;> omega
        · as_aux_lemma =>
            go_wp2_with fail
            go_loopw [11, 12] (fun p1 q1 wq => ∃ j : Nat, p1 = .int .i64 ((pc (sel β A B) j : Nat) : Int) ∧ q1 = .int .i64 (j : Int) ∧ j ≤ k ∧ w4 = wq) (fun _ q1 _ => k - (intOf q1).toNat)
            case atStart => exact ⟨0, rfl, rfl, Nat.zero_le _, rfl⟩
            case round =>
              obtain ⟨j, rfl, rfl, hj, rfl⟩ := hrel
              obtain ⟨S, hS⟩ : ∃ S, pc (sel β A B) j = S := ⟨_, rfl⟩
              have hSk : S ≤ k := by rw [← hS]; exact Nat.le_trans (pc_le _ _) hj
              rw [hS]
              by_cases hjk : j < k
              · have d2 : decide ((j : Int) < (k : Int)) = true := decide_eq_true (by omega)
                have hjI : (j : Int) < (k : Int) := by omega
                have cm := m4.out.cell hjk
                unfold We.bF at cm
                have hp1 : pc (sel β A B) (j + 1) = S + (if sel β A B j then 1 else 0) := by rw [pc, hS]
                unfold sel at hp1
                cases hβ : β j
                · rw [hβ] at cm hp1
                  replace hp1 := Lib.hid hp1
                  replace hS := Lib.hid hS
                  replace hβ := Lib.hid hβ
                  go_wp2_with fail
                  go_roundw
                  case rel => exact ⟨j + 1, by have := hp1.out; unfold sel; rw [this]; simp, by go_num, by omega, by first | rfl | trivial⟩
                  case measure => simp [intOf] <;> omega
                · rw [hβ] at cm hp1
                  by_cases h1 : A ≤ (j : Int)
                  · have d3 : decide (A ≤ (j : Int)) = true := decide_eq_true h1
                    by_cases h2 : (j : Int) < B
                    · have d4 : decide ((j : Int) < B) = true := decide_eq_true h2
                      rw [d3, d4] at hp1
                      replace hp1 := Lib.hid hp1
                      replace hS := Lib.hid hS
                      replace hβ := Lib.hid hβ
                      go_wp2_with fail
                      go_roundw
                      case rel => exact ⟨j + 1, by have := hp1.out; unfold sel; rw [this]; simp, by go_num, by omega, by first | rfl | trivial⟩
                      case measure => simp [intOf] <;> omega
                    · have d4 : decide ((j : Int) < B) = false := decide_eq_false h2
                      rw [d3, d4] at hp1
                      replace hp1 := Lib.hid hp1
                      replace hS := Lib.hid hS
                      replace hβ := Lib.hid hβ
                      go_wp2_with fail
                      go_roundw
                      case rel => exact ⟨j + 1, by have := hp1.out; unfold sel; rw [this]; simp, by go_num, by omega, by first | rfl | trivial⟩
                      case measure => simp [intOf] <;> omega
                  · have d3 : decide (A ≤ (j : Int)) = false := decide_eq_false h1
                    rw [d3] at hp1
                    replace hp1 := Lib.hid hp1
                    replace hS := Lib.hid hS
                    replace hβ := Lib.hid hβ
                    go_wp2_with fail
                    go_roundw
                    case rel => exact ⟨j + 1, by have := hp1.out; unfold sel; rw [this]; simp, by go_num, by omega, by first | rfl | trivial⟩
                    case measure => simp [intOf] <;> omega
              · obtain rfl : j = k := by omega
                have d2 : decide ((j : Int) < (j : Int)) = false := decide_eq_false (by omega)
                have hct := Lib.hid (count_lit w4 b4.out A B hA64 (S : Int) (by rw [hS]))
                replace hS := Lib.hid hS
                go_wp2_with (go_at_call 11; (with_reducible refine hct.out.mono ?_); clear hct; rintro e w5 ⟨rfl, rfl⟩)
                have hln := Lib.hid (len_any w4 b4.out)
                go_wp2_with (go_at_call 13; (with_reducible refine hln.out.mono ?_); clear hln; rintro e w20 ⟨rfl, rfl⟩)
                go_roundw
                case rel => exact ⟨i + 1, β, by go_num, by omega, b4, m4, hB4⟩
                case measure => simp [intOf] <;> omega
        · as_aux_lemma =>
            go_wp2_with fail
            go_loopw [13, 14] (fun p1 q1 wq => ∃ (J : Nat) (o : Option Nat) (z : Int), p1 = .int .i64 (atI o) ∧ q1 = .int .i64 z ∧ z + 1 = (J : Int) ∧ J ≤ k ∧ Hid (Dn (frm β A) k J o) ∧ w4 = wq) (fun _ q1 _ => (intOf q1 + 1).toNat)
            case atStart => exact ⟨k, none, (k : Int) - 1, rfl, rfl, by omega, Nat.le_refl _, Lib.hid (fun t h1 h2 => absurd h2 (by omega)), rfl⟩
            case round =>
              obtain ⟨J, o, z, rfl, rfl, hz, hJ, hDn, rfl⟩ := hrel
              cases J with
              | zero =>
                obtain rfl : z = -1 := by omega
                clear hz
                cases o with
                | none =>
                  have hat : atI none = -1 := rfl
                  rw [hat]
                  have hnx := Lib.hid (next_lit w4 b4.out A hA64 (hTb.out.below hB4.out) 0 false (by rw [hDn.out.nx]; rfl))
                  go_wp2_with (go_at_call 12; (with_reducible refine hnx.out.mono ?_); clear hnx; rintro e w5 ⟨rfl, hb⟩; have b5 := Lib.hid (b4.out.below hb); have m5 := Lib.hid (m4.out.below hb); have hB5 := Lib.hid (We.below_trans hB4.out hb); clear e0 e1 e2 e3 b4 m4 hB4 hb pd4)
                  have hln := Lib.hid (len_any w5 b5.out)
                  go_wp2_with (go_at_call 13; (with_reducible refine hln.out.mono ?_); clear hln; rintro e w20 ⟨rfl, rfl⟩)
                  go_roundw
                  case rel => exact ⟨i + 1, β, by go_num, by omega, b5, m5, hB5⟩
                  case measure => simp [intOf] <;> omega
                | some t =>
                  have hat : atI (some t) = (t : Int) := rfl
                  rw [hat]
                  have d5 : decide (0 ≤ (t : Int)) = true := decide_eq_true (by omega)
                  have hnx := Lib.hid (next_lit w4 b4.out A hA64 (hTb.out.below hB4.out) (t : Int) true (by rw [hDn.out.nx]; rfl))
                  go_wp2_with (go_at_call 12; (with_reducible refine hnx.out.mono ?_); clear hnx; rintro e w5 ⟨rfl, hb⟩; have b5 := Lib.hid (b4.out.below hb); have m5 := Lib.hid (m4.out.below hb); have hB5 := Lib.hid (We.below_trans hB4.out hb); clear e0 e1 e2 e3 b4 m4 hB4 hb pd4)
                  have hln := Lib.hid (len_any w5 b5.out)
                  go_wp2_with (go_at_call 13; (with_reducible refine hln.out.mono ?_); clear hln; rintro e w20 ⟨rfl, rfl⟩)
                  go_roundw
                  case rel => exact ⟨i + 1, β, by go_num, by omega, b5, m5, hB5⟩
                  case measure => simp [intOf] <;> omega
              | succ s =>
                obtain rfl : z = (s : Int) := by omega
                clear hz
                have hsk : s < k := by omega
                have d2 : decide (0 ≤ (s : Int)) = true := decide_eq_true (by omega)
                have hsI : (s : Int) < (k : Int) := by omega
                have cm := m4.out.cell hsk
                unfold We.bF at cm
                obtain ⟨V, hV⟩ : ∃ V, atI o = V := ⟨_, rfl⟩
                rw [hV]
                cases hβ : β s
                · rw [hβ] at cm
                  have hf : frm β A s = false := by unfold frm; rw [hβ]; rfl
                  have hD2 := Lib.hid (hDn.out.no hf)
                  replace hV := Lib.hid hV
                  replace hβ := Lib.hid hβ
                  clear hf
                  go_wp2_with fail
                  go_roundw
                  case rel => exact ⟨s, o, (s : Int) - 1, by rw [hV.out], rfl, by omega, by omega, hD2, by first | rfl | trivial⟩
                  case measure => simp [intOf] <;> omega
                · rw [hβ] at cm
                  by_cases h1 : A ≤ (s : Int)
                  · have d3 : decide (A ≤ (s : Int)) = true := decide_eq_true h1
                    have hf : frm β A s = true := by unfold frm; rw [hβ, d3]; rfl
                    have hD2 := Lib.hid (Dn.yes hf hsk)
                    replace hV := Lib.hid hV
                    replace hβ := Lib.hid hβ
                    clear hf
                    go_wp2_with fail
                    go_roundw
                    case rel => exact ⟨s, some s, (s : Int) - 1, rfl, rfl, by omega, by omega, hD2, by first | rfl | trivial⟩
                    case measure => simp [intOf] <;> omega
                  · have d3 : decide (A ≤ (s : Int)) = false := decide_eq_false h1
                    have hf : frm β A s = false := by unfold frm; rw [hβ, d3]; rfl
                    have hD2 := Lib.hid (hDn.out.no hf)
                    replace hV := Lib.hid hV
                    replace hβ := Lib.hid hβ
                    clear hf
                    go_wp2_with fail
                    go_roundw
                    case rel => exact ⟨s, o, (s : Int) - 1, by rw [hV.out], rfl, by omega, by omega, hD2, by first | rfl | trivial⟩
                    case measure => simp [intOf] <;> omega
        · as_aux_lemma =>
            have hln := Lib.hid (len_any w4 b4.out)
            go_wp2_with (go_at_call 13; (with_reducible refine hln.out.mono ?_); clear hln; rintro e w20 ⟨rfl, rfl⟩)
            go_roundw
            case rel => exact ⟨i + 1, β, by go_num, by omega, b4, m4, hB4⟩
            case measure => simp [intOf] <;> omega
      · have hA0 : decide (0 ≤ (p : Int)) = true := decide_eq_true (by omega)
        have hA1 : decide ((p : Int) < (k : Int)) = true := decide_eq_true (by omega)
        have hpk : (p : Int) < (k : Int) := by omega
        have pd4 := pd
        clear pd
        rcases hD with rfl | rfl | rfl | rfl | rfl | rfl | rfl | ⟨D0, D1, D2, D3, D4, D5, D6⟩
        · as_aux_lemma =>
            go_wp2_with fail
            refine Cl.region_way0 (fun q => q ≠ h) 18 [(0, .r), (1, .r), (2, .r), (3, .r), (4, .r), (6, .r), (5, .c), (7, .r), (8, .r), (9, .r), (10, .r), (11, .r), (12, .r), (13, .r), (14, .r), (15, .r), (16, .r), (17, .r)] (by kernel_rfl) (by kernel_rfl) ?_
            intro w5 hk5
            have b5 := Lib.hid (b4.out.below hk5.below)
            have m5 := Lib.hid (m4.out.below hk5.below)
            have hB5 := Lib.hid (We.below_trans hB4.out hk5.below)
            have pd5 := Lib.hid (pd4.out.below hk5.below)
            have q1 : ∀ y : Cl.Since (fun q => q ≠ h) w5, y.w.cell? ⟨gd, 1, none⟩ = some (.int .i64 (p : Int)) := fun y => (pd5.out.keeps y.keeps hdh.out).cell (i := 1) (by decide)
            have q3 : ∀ y : Cl.Since (fun q => q ≠ h) w5, y.w.cell? ⟨gd, 3, none⟩ = some (.bool on) := fun y => (pd5.out.keeps y.keeps hdh.out).cell (i := 3) (by decide)
            obtain ⟨v, hv⟩ : ∃ v, (β p == on) = v := ⟨_, rfl⟩
            have hset := Lib.hid (set_p w5 hB5.out hh.out b5.out hp (p : Int) rfl on (!v) (by rw [← hv]; rfl))
            have r5 : ∀ y : Cl.Since (fun q => q ≠ h) w5, y.w.cell? ⟨gm, p, none⟩ = some (.bool (β p)) := fun y => (m5.out.keeps y.keeps hmh.out).cell hp
            clear e0 e1 e2 e3 b4 m4 hB4 hk5 pd4
            iterate 6 (with_reducible refine (no_implicit_lambda% (Cl.way_r rfl ?_)); go_big_quiet_step (fail); with_reducible refine (no_implicit_lambda% (wpQuiet_nil ?_)))
            refine Cl.way_c rfl ?_
            go_wp2_with (go_at_call 9; (with_reducible refine hset.out.mono ?_); clear hset; rintro e w6 ⟨rfl, hB6, hK, b6⟩; replace hB6 := Lib.hid hB6; replace b6 := Lib.hid b6; have m6 := Lib.hid (m5.out.keeps hK hmh.out); have pd6 := Lib.hid (pd5.out.keeps hK hdh.out); replace hK := Lib.hid hK)
            refine Cl.way_on hK.out ?_
            clear q1 q3 b5 m5 hB5 pd5 hK
            have q1 : ∀ y : Cl.Since (fun q => q ≠ h) w6, y.w.cell? ⟨gd, 1, none⟩ = some (.int .i64 (p : Int)) := fun y => (pd6.out.keeps y.keeps hdh.out).cell (i := 1) (by decide)
            have q3 : ∀ y : Cl.Since (fun q => q ≠ h) w6, y.w.cell? ⟨gd, 3, none⟩ = some (.bool on) := fun y => (pd6.out.keeps y.keeps hdh.out).cell (i := 3) (by decide)
            have r6 : ∀ y : Cl.Since (fun q => q ≠ h) w6, y.w.cell? ⟨gm, p, none⟩ = some (.bool (β p)) := fun y => (m6.out.keeps y.keeps hmh.out).cell hp
            iterate 11 (with_reducible refine (no_implicit_lambda% (Cl.way_r rfl ?_)); go_big_quiet_step (fail); with_reducible refine (no_implicit_lambda% (wpQuiet_nil ?_)))
            refine Cl.way_end ?_
            clear q1 q3
            have b7 := b6
            have e1 : w6.cell? ⟨gd, 1, none⟩ = some (.int .i64 (p : Int)) := pd6.out.cell (i := 1) (by decide)
            have e3 : w6.cell? ⟨gd, 3, none⟩ = some (.bool on) := pd6.out.cell (i := 3) (by decide)
            have cm := m6.out.cell hp
            have fm := m6.out.frozen p
            unfold We.bF at cm
            go_upto_region 46 with fail
            have m7 := Lib.hid ((m6.out.set_ p (.bool on)).congr (f' := We.bF (put β p on)) fun j hj => by
              show (if j = p then Value.bool on else We.bF β j) = .bool (put β p on j)
              unfold put We.bF
              by_cases e : j = p
              · rw [if_pos e, if_pos e]
              · rw [if_neg e, if_neg e])
            have b8 := Lib.hid (b6.out.keep (w' := w6.setCell ⟨gm, p, none⟩ (.bool on)) (setCell_block w6 _ (fun e => hmg.out e.symm)) (setCell_block w6 _ (fun e => hmh.out e.symm)))
            have hB8 := Lib.hid (below_set (i := p) hB6.out hmw.out (.bool on))
            clear b7 b6 m6 hB6 cm fm e1 e3 pd6
            generalize w6.setCell ⟨gm, p, none⟩ (.bool on) = w8 at *
            have hln := Lib.hid (len_any w8 b8.out)
            go_wp2_with (go_at_call 13; (with_reducible refine hln.out.mono ?_); clear hln; rintro e w20 ⟨rfl, rfl⟩)
            go_roundw
            case rel => exact ⟨i + 1, put β p on, by go_num, by omega, b8, m7, hB8⟩
            case measure => simp [intOf] <;> omega
        · as_aux_lemma =>
            go_wp2_with fail
            refine Cl.region_way0 (fun q => q ≠ h) 18 [(0, .r), (1, .r), (2, .r), (3, .r), (4, .r), (6, .r), (5, .c), (7, .r), (8, .r), (9, .r), (10, .r), (11, .r), (12, .r), (13, .r), (14, .r), (15, .r), (16, .r), (17, .r)] (by kernel_rfl) (by kernel_rfl) ?_
            intro w5 hk5
            have b5 := Lib.hid (b4.out.below hk5.below)
            have m5 := Lib.hid (m4.out.below hk5.below)
            have hB5 := Lib.hid (We.below_trans hB4.out hk5.below)
            have pd5 := Lib.hid (pd4.out.below hk5.below)
            have q1 : ∀ y : Cl.Since (fun q => q ≠ h) w5, y.w.cell? ⟨gd, 1, none⟩ = some (.int .i64 (p : Int)) := fun y => (pd5.out.keeps y.keeps hdh.out).cell (i := 1) (by decide)
            have q3 : ∀ y : Cl.Since (fun q => q ≠ h) w5, y.w.cell? ⟨gd, 3, none⟩ = some (.bool on) := fun y => (pd5.out.keeps y.keeps hdh.out).cell (i := 3) (by decide)
            obtain ⟨v, hv⟩ : ∃ v, (β p == on) = v := ⟨_, rfl⟩
            have hset := Lib.hid (set_p w5 hB5.out hh.out b5.out hp (p : Int) rfl on (!v) (by rw [← hv]; rfl))
            have r5 : ∀ y : Cl.Since (fun q => q ≠ h) w5, y.w.cell? ⟨gm, p, none⟩ = some (.bool (β p)) := fun y => (m5.out.keeps y.keeps hmh.out).cell hp
            clear e0 e1 e2 e3 b4 m4 hB4 hk5 pd4
            iterate 6 (with_reducible refine (no_implicit_lambda% (Cl.way_r rfl ?_)); go_big_quiet_step (fail); with_reducible refine (no_implicit_lambda% (wpQuiet_nil ?_)))
            refine Cl.way_c rfl ?_
            go_wp2_with (go_at_call 9; (with_reducible refine hset.out.mono ?_); clear hset; rintro e w6 ⟨rfl, hB6, hK, b6⟩; replace hB6 := Lib.hid hB6; replace b6 := Lib.hid b6; have m6 := Lib.hid (m5.out.keeps hK hmh.out); have pd6 := Lib.hid (pd5.out.keeps hK hdh.out); replace hK := Lib.hid hK)
            refine Cl.way_on hK.out ?_
            clear q1 q3 b5 m5 hB5 pd5 hK
            have q1 : ∀ y : Cl.Since (fun q => q ≠ h) w6, y.w.cell? ⟨gd, 1, none⟩ = some (.int .i64 (p : Int)) := fun y => (pd6.out.keeps y.keeps hdh.out).cell (i := 1) (by decide)
            have q3 : ∀ y : Cl.Since (fun q => q ≠ h) w6, y.w.cell? ⟨gd, 3, none⟩ = some (.bool on) := fun y => (pd6.out.keeps y.keeps hdh.out).cell (i := 3) (by decide)
            have r6 : ∀ y : Cl.Since (fun q => q ≠ h) w6, y.w.cell? ⟨gm, p, none⟩ = some (.bool (β p)) := fun y => (m6.out.keeps y.keeps hmh.out).cell hp
            iterate 11 (with_reducible refine (no_implicit_lambda% (Cl.way_r rfl ?_)); go_big_quiet_step (fail); with_reducible refine (no_implicit_lambda% (wpQuiet_nil ?_)))
            refine Cl.way_end ?_
            clear q1 q3
            have b7 := b6
            have e1 : w6.cell? ⟨gd, 1, none⟩ = some (.int .i64 (p : Int)) := pd6.out.cell (i := 1) (by decide)
            have e3 : w6.cell? ⟨gd, 3, none⟩ = some (.bool on) := pd6.out.cell (i := 3) (by decide)
            have cm := m6.out.cell hp
            have fm := m6.out.frozen p
            unfold We.bF at cm
            go_upto_region 46 with fail
            have m7 := Lib.hid ((m6.out.set_ p (.bool on)).congr (f' := We.bF (put β p on)) fun j hj => by
              show (if j = p then Value.bool on else We.bF β j) = .bool (put β p on j)
              unfold put We.bF
              by_cases e : j = p
              · rw [if_pos e, if_pos e]
              · rw [if_neg e, if_neg e])
            have b8 := Lib.hid (b6.out.keep (w' := w6.setCell ⟨gm, p, none⟩ (.bool on)) (setCell_block w6 _ (fun e => hmg.out e.symm)) (setCell_block w6 _ (fun e => hmh.out e.symm)))
            have hB8 := Lib.hid (below_set (i := p) hB6.out hmw.out (.bool on))
            clear b7 b6 m6 hB6 cm fm e1 e3 pd6
            generalize w6.setCell ⟨gm, p, none⟩ (.bool on) = w8 at *
            have hln := Lib.hid (len_any w8 b8.out)
            go_wp2_with (go_at_call 13; (with_reducible refine hln.out.mono ?_); clear hln; rintro e w20 ⟨rfl, rfl⟩)
            go_roundw
            case rel => exact ⟨i + 1, put β p on, by go_num, by omega, b8, m7, hB8⟩
            case measure => simp [intOf] <;> omega
        · as_aux_lemma =>
            go_wp2_with fail
            refine Cl.region_way0 (fun q => q ≠ h) 18 [(0, .r), (1, .r), (2, .r), (3, .r), (4, .r), (6, .r), (5, .c), (7, .r), (8, .r), (9, .r), (10, .r), (11, .r), (12, .r), (13, .r), (14, .r), (15, .r), (16, .r), (17, .r)] (by kernel_rfl) (by kernel_rfl) ?_
            intro w5 hk5
            have b5 := Lib.hid (b4.out.below hk5.below)
            have m5 := Lib.hid (m4.out.below hk5.below)
            have hB5 := Lib.hid (We.below_trans hB4.out hk5.below)
            have pd5 := Lib.hid (pd4.out.below hk5.below)
            have q1 : ∀ y : Cl.Since (fun q => q ≠ h) w5, y.w.cell? ⟨gd, 1, none⟩ = some (.int .i64 (p : Int)) := fun y => (pd5.out.keeps y.keeps hdh.out).cell (i := 1) (by decide)
            have q3 : ∀ y : Cl.Since (fun q => q ≠ h) w5, y.w.cell? ⟨gd, 3, none⟩ = some (.bool on) := fun y => (pd5.out.keeps y.keeps hdh.out).cell (i := 3) (by decide)
            obtain ⟨v, hv⟩ : ∃ v, (β p == on) = v := ⟨_, rfl⟩
            have hset := Lib.hid (set_p w5 hB5.out hh.out b5.out hp (p : Int) rfl on (!v) (by rw [← hv]; rfl))
            have r5 : ∀ y : Cl.Since (fun q => q ≠ h) w5, y.w.cell? ⟨gm, p, none⟩ = some (.bool (β p)) := fun y => (m5.out.keeps y.keeps hmh.out).cell hp
            clear e0 e1 e2 e3 b4 m4 hB4 hk5 pd4
            iterate 6 (with_reducible refine (no_implicit_lambda% (Cl.way_r rfl ?_)); go_big_quiet_step (fail); with_reducible refine (no_implicit_lambda% (wpQuiet_nil ?_)))
            refine Cl.way_c rfl ?_
            go_wp2_with (go_at_call 9; (with_reducible refine hset.out.mono ?_); clear hset; rintro e w6 ⟨rfl, hB6, hK, b6⟩; replace hB6 := Lib.hid hB6; replace b6 := Lib.hid b6; have m6 := Lib.hid (m5.out.keeps hK hmh.out); have pd6 := Lib.hid (pd5.out.keeps hK hdh.out); replace hK := Lib.hid hK)
            refine Cl.way_on hK.out ?_
            clear q1 q3 b5 m5 hB5 pd5 hK
            have q1 : ∀ y : Cl.Since (fun q => q ≠ h) w6, y.w.cell? ⟨gd, 1, none⟩ = some (.int .i64 (p : Int)) := fun y => (pd6.out.keeps y.keeps hdh.out).cell (i := 1) (by decide)
            have q3 : ∀ y : Cl.Since (fun q => q ≠ h) w6, y.w.cell? ⟨gd, 3, none⟩ = some (.bool on) := fun y => (pd6.out.keeps y.keeps hdh.out).cell (i := 3) (by decide)
            have r6 : ∀ y : Cl.Since (fun q => q ≠ h) w6, y.w.cell? ⟨gm, p, none⟩ = some (.bool (β p)) := fun y => (m6.out.keeps y.keeps hmh.out).cell hp
            iterate 11 (with_reducible refine (no_implicit_lambda% (Cl.way_r rfl ?_)); go_big_quiet_step (fail); with_reducible refine (no_implicit_lambda% (wpQuiet_nil ?_)))
            refine Cl.way_end ?_
            clear q1 q3
            have b7 := b6
            have e1 : w6.cell? ⟨gd, 1, none⟩ = some (.int .i64 (p : Int)) := pd6.out.cell (i := 1) (by decide)
            have e3 : w6.cell? ⟨gd, 3, none⟩ = some (.bool on) := pd6.out.cell (i := 3) (by decide)
            have cm := m6.out.cell hp
            have fm := m6.out.frozen p
            unfold We.bF at cm
            go_upto_region 46 with fail
            have m7 := Lib.hid ((m6.out.set_ p (.bool on)).congr (f' := We.bF (put β p on)) fun j hj => by
              show (if j = p then Value.bool on else We.bF β j) = .bool (put β p on j)
              unfold put We.bF
              by_cases e : j = p
              · rw [if_pos e, if_pos e]
              · rw [if_neg e, if_neg e])
            have b8 := Lib.hid (b6.out.keep (w' := w6.setCell ⟨gm, p, none⟩ (.bool on)) (setCell_block w6 _ (fun e => hmg.out e.symm)) (setCell_block w6 _ (fun e => hmh.out e.symm)))
            have hB8 := Lib.hid (below_set (i := p) hB6.out hmw.out (.bool on))
            clear b7 b6 m6 hB6 cm fm e1 e3 pd6
            generalize w6.setCell ⟨gm, p, none⟩ (.bool on) = w8 at *
            have hln := Lib.hid (len_any w8 b8.out)
            go_wp2_with (go_at_call 13; (with_reducible refine hln.out.mono ?_); clear hln; rintro e w20 ⟨rfl, rfl⟩)
            go_roundw
            case rel => exact ⟨i + 1, put β p on, by go_num, by omega, b8, m7, hB8⟩
            case measure => simp [intOf] <;> omega
        · as_aux_lemma =>
            go_wp2_with fail
            refine Cl.region_way0 (fun q => q ≠ h) 18 [(0, .r), (1, .r), (2, .r), (3, .r), (4, .r), (6, .r), (5, .c), (7, .r), (8, .r), (9, .r), (10, .r), (11, .r), (12, .r), (13, .r), (14, .r), (15, .r), (16, .r), (17, .r)] (by kernel_rfl) (by kernel_rfl) ?_
            intro w5 hk5
            have b5 := Lib.hid (b4.out.below hk5.below)
            have m5 := Lib.hid (m4.out.below hk5.below)
            have hB5 := Lib.hid (We.below_trans hB4.out hk5.below)
            have pd5 := Lib.hid (pd4.out.below hk5.below)
            have q1 : ∀ y : Cl.Since (fun q => q ≠ h) w5, y.w.cell? ⟨gd, 1, none⟩ = some (.int .i64 (p : Int)) := fun y => (pd5.out.keeps y.keeps hdh.out).cell (i := 1) (by decide)
            have q3 : ∀ y : Cl.Since (fun q => q ≠ h) w5, y.w.cell? ⟨gd, 3, none⟩ = some (.bool on) := fun y => (pd5.out.keeps y.keeps hdh.out).cell (i := 3) (by decide)
            obtain ⟨v, hv⟩ : ∃ v, (β p == on) = v := ⟨_, rfl⟩
            have hset := Lib.hid (set_p w5 hB5.out hh.out b5.out hp (p : Int) rfl on (!v) (by rw [← hv]; rfl))
            have r5 : ∀ y : Cl.Since (fun q => q ≠ h) w5, y.w.cell? ⟨gm, p, none⟩ = some (.bool (β p)) := fun y => (m5.out.keeps y.keeps hmh.out).cell hp
            clear e0 e1 e2 e3 b4 m4 hB4 hk5 pd4
            iterate 6 (with_reducible refine (no_implicit_lambda% (Cl.way_r rfl ?_)); go_big_quiet_step (fail); with_reducible refine (no_implicit_lambda% (wpQuiet_nil ?_)))
            refine Cl.way_c rfl ?_
            go_wp2_with (go_at_call 9; (with_reducible refine hset.out.mono ?_); clear hset; rintro e w6 ⟨rfl, hB6, hK, b6⟩; replace hB6 := Lib.hid hB6; replace b6 := Lib.hid b6; have m6 := Lib.hid (m5.out.keeps hK hmh.out); have pd6 := Lib.hid (pd5.out.keeps hK hdh.out); replace hK := Lib.hid hK)
            refine Cl.way_on hK.out ?_
            clear q1 q3 b5 m5 hB5 pd5 hK
            have q1 : ∀ y : Cl.Since (fun q => q ≠ h) w6, y.w.cell? ⟨gd, 1, none⟩ = some (.int .i64 (p : Int)) := fun y => (pd6.out.keeps y.keeps hdh.out).cell (i := 1) (by decide)
            have q3 : ∀ y : Cl.Since (fun q => q ≠ h) w6, y.w.cell? ⟨gd, 3, none⟩ = some (.bool on) := fun y => (pd6.out.keeps y.keeps hdh.out).cell (i := 3) (by decide)
            have r6 : ∀ y : Cl.Since (fun q => q ≠ h) w6, y.w.cell? ⟨gm, p, none⟩ = some (.bool (β p)) := fun y => (m6.out.keeps y.keeps hmh.out).cell hp
            iterate 11 (with_reducible refine (no_implicit_lambda% (Cl.way_r rfl ?_)); go_big_quiet_step (fail); with_reducible refine (no_implicit_lambda% (wpQuiet_nil ?_)))
            refine Cl.way_end ?_
            clear q1 q3
            have b7 := b6
            have e1 : w6.cell? ⟨gd, 1, none⟩ = some (.int .i64 (p : Int)) := pd6.out.cell (i := 1) (by decide)
            have e3 : w6.cell? ⟨gd, 3, none⟩ = some (.bool on) := pd6.out.cell (i := 3) (by decide)
            have cm := m6.out.cell hp
            have fm := m6.out.frozen p
            unfold We.bF at cm
            go_upto_region 46 with fail
            have m7 := Lib.hid ((m6.out.set_ p (.bool on)).congr (f' := We.bF (put β p on)) fun j hj => by
              show (if j = p then Value.bool on else We.bF β j) = .bool (put β p on j)
              unfold put We.bF
              by_cases e : j = p
              · rw [if_pos e, if_pos e]
              · rw [if_neg e, if_neg e])
            have b8 := Lib.hid (b6.out.keep (w' := w6.setCell ⟨gm, p, none⟩ (.bool on)) (setCell_block w6 _ (fun e => hmg.out e.symm)) (setCell_block w6 _ (fun e => hmh.out e.symm)))
            have hB8 := Lib.hid (below_set (i := p) hB6.out hmw.out (.bool on))
            clear b7 b6 m6 hB6 cm fm e1 e3 pd6
            generalize w6.setCell ⟨gm, p, none⟩ (.bool on) = w8 at *
            have hln := Lib.hid (len_any w8 b8.out)
            go_wp2_with (go_at_call 13; (with_reducible refine hln.out.mono ?_); clear hln; rintro e w20 ⟨rfl, rfl⟩)
            go_roundw
            case rel => exact ⟨i + 1, put β p on, by go_num, by omega, b8, m7, hB8⟩
            case measure => simp [intOf] <;> omega
        · as_aux_lemma =>
            obtain ⟨x, hx⟩ : ∃ x, β p = x := ⟨_, rfl⟩
            have hhs := Lib.hid (has_p w4 b4.out hp (p : Int) rfl x hx)
            go_wp2_with (go_at_call 10; (with_reducible refine hhs.out.mono ?_); clear hhs; rintro e w5 ⟨rfl, hb⟩; have b5 := Lib.hid (b4.out.below hb); have m5 := Lib.hid (m4.out.below hb); have hB5 := Lib.hid (We.below_trans hB4.out hb); have pd5 := Lib.hid (pd4.out.below hb); clear e0 e1 e2 e3 b4 m4 hB4 hb pd4; have e1 : w5.cell? ⟨gd, 1, none⟩ = some (.int .i64 (p : Int)) := pd5.out.cell (i := 1) (by decide); have cm : w5.cell? ⟨gm, p, none⟩ = some (.bool x) := by (have := m5.out.cell hp; unfold We.bF at this; rw [hx] at this; exact this))
            have hln := Lib.hid (len_any w5 b5.out)
            go_wp2_with (go_at_call 13; (with_reducible refine hln.out.mono ?_); clear hln; rintro e w20 ⟨rfl, rfl⟩)
            go_roundw
            case rel => exact ⟨i + 1, β, by go_num, by omega, b5, m5, hB5⟩
            case measure => simp [intOf] <;> omega
        · as_aux_lemma =>
            go_wp2_with fail
            go_loopw [11, 12] (fun p1 q1 wq => ∃ j : Nat, p1 = .int .i64 ((pc (sel β (p : Int) B) j : Nat) : Int) ∧ q1 = .int .i64 (j : Int) ∧ j ≤ k ∧ w4 = wq) (fun _ q1 _ => k - (intOf q1).toNat)
            case atStart => exact ⟨0, rfl, rfl, Nat.zero_le _, rfl⟩
            case round =>
              obtain ⟨j, rfl, rfl, hj, rfl⟩ := hrel
              obtain ⟨S, hS⟩ : ∃ S, pc (sel β (p : Int) B) j = S := ⟨_, rfl⟩
              have hSk : S ≤ k := by rw [← hS]; exact Nat.le_trans (pc_le _ _) hj
              rw [hS]
              by_cases hjk : j < k
              · have d2 : decide ((j : Int) < (k : Int)) = true := decide_eq_true (by omega)
                have hjI : (j : Int) < (k : Int) := by omega
                have cm := m4.out.cell hjk
                unfold We.bF at cm
                have hp1 : pc (sel β (p : Int) B) (j + 1) = S + (if sel β (p : Int) B j then 1 else 0) := by rw [pc, hS]
                unfold sel at hp1
                cases hβ : β j
                · rw [hβ] at cm hp1
                  replace hp1 := Lib.hid hp1
                  replace hS := Lib.hid hS
                  replace hβ := Lib.hid hβ
                  go_wp2_with fail
                  go_roundw
                  case rel => exact ⟨j + 1, by have := hp1.out; unfold sel; rw [this]; simp, by go_num, by omega, by first | rfl | trivial⟩
                  case measure => simp [intOf] <;> omega
                · rw [hβ] at cm hp1
                  by_cases h1 : (p : Int) ≤ (j : Int)
                  · have d3 : decide ((p : Int) ≤ (j : Int)) = true := decide_eq_true h1
                    by_cases h2 : (j : Int) < B
                    · have d4 : decide ((j : Int) < B) = true := decide_eq_true h2
                      rw [d3, d4] at hp1
                      replace hp1 := Lib.hid hp1
                      replace hS := Lib.hid hS
                      replace hβ := Lib.hid hβ
                      go_wp2_with fail
                      go_roundw
                      case rel => exact ⟨j + 1, by have := hp1.out; unfold sel; rw [this]; simp, by go_num, by omega, by first | rfl | trivial⟩
                      case measure => simp [intOf] <;> omega
                    · have d4 : decide ((j : Int) < B) = false := decide_eq_false h2
                      rw [d3, d4] at hp1
                      replace hp1 := Lib.hid hp1
                      replace hS := Lib.hid hS
                      replace hβ := Lib.hid hβ
                      go_wp2_with fail
                      go_roundw
                      case rel => exact ⟨j + 1, by have := hp1.out; unfold sel; rw [this]; simp, by go_num, by omega, by first | rfl | trivial⟩
                      case measure => simp [intOf] <;> omega
                  · have d3 : decide ((p : Int) ≤ (j : Int)) = false := decide_eq_false h1
                    rw [d3] at hp1
                    replace hp1 := Lib.hid hp1
                    replace hS := Lib.hid hS
                    replace hβ := Lib.hid hβ
                    go_wp2_with fail
                    go_roundw
                    case rel => exact ⟨j + 1, by have := hp1.out; unfold sel; rw [this]; simp, by go_num, by omega, by first | rfl | trivial⟩
                    case measure => simp [intOf] <;> omega
              · obtain rfl : j = k := by omega
                have d2 : decide ((j : Int) < (j : Int)) = false := decide_eq_false (by omega)
                have hct := Lib.hid (count_lit w4 b4.out (p : Int) B hA64 (S : Int) (by rw [hS]))
                replace hS := Lib.hid hS
                go_wp2_with (go_at_call 11; (with_reducible refine hct.out.mono ?_); clear hct; rintro e w5 ⟨rfl, rfl⟩)
                have hln := Lib.hid (len_any w4 b4.out)
                go_wp2_with (go_at_call 13; (with_reducible refine hln.out.mono ?_); clear hln; rintro e w20 ⟨rfl, rfl⟩)
                go_roundw
                case rel => exact ⟨i + 1, β, by go_num, by omega, b4, m4, hB4⟩
                case measure => simp [intOf] <;> omega
        · as_aux_lemma =>
            go_wp2_with fail
            go_loopw [13, 14] (fun p1 q1 wq => ∃ (J : Nat) (o : Option Nat) (z : Int), p1 = .int .i64 (atI o) ∧ q1 = .int .i64 z ∧ z + 1 = (J : Int) ∧ J ≤ k ∧ Hid (Dn (frm β (p : Int)) k J o) ∧ w4 = wq) (fun _ q1 _ => (intOf q1 + 1).toNat)
            case atStart => exact ⟨k, none, (k : Int) - 1, rfl, rfl, by omega, Nat.le_refl _, Lib.hid (fun t h1 h2 => absurd h2 (by omega)), rfl⟩
            case round =>
              obtain ⟨J, o, z, rfl, rfl, hz, hJ, hDn, rfl⟩ := hrel
              cases J with
              | zero =>
                obtain rfl : z = -1 := by omega
                clear hz
                cases o with
                | none =>
                  have hat : atI none = -1 := rfl
                  rw [hat]
                  have hnx := Lib.hid (next_lit w4 b4.out (p : Int) hA64 (hTb.out.below hB4.out) 0 false (by rw [hDn.out.nx]; rfl))
                  go_wp2_with (go_at_call 12; (with_reducible refine hnx.out.mono ?_); clear hnx; rintro e w5 ⟨rfl, hb⟩; have b5 := Lib.hid (b4.out.below hb); have m5 := Lib.hid (m4.out.below hb); have hB5 := Lib.hid (We.below_trans hB4.out hb); clear e0 e1 e2 e3 b4 m4 hB4 hb pd4)
                  have hln := Lib.hid (len_any w5 b5.out)
                  go_wp2_with (go_at_call 13; (with_reducible refine hln.out.mono ?_); clear hln; rintro e w20 ⟨rfl, rfl⟩)
                  go_roundw
                  case rel => exact ⟨i + 1, β, by go_num, by omega, b5, m5, hB5⟩
                  case measure => simp [intOf] <;> omega
                | some t =>
                  have hat : atI (some t) = (t : Int) := rfl
                  rw [hat]
                  have d5 : decide (0 ≤ (t : Int)) = true := decide_eq_true (by omega)
                  have hnx := Lib.hid (next_lit w4 b4.out (p : Int) hA64 (hTb.out.below hB4.out) (t : Int) true (by rw [hDn.out.nx]; rfl))
                  go_wp2_with (go_at_call 12; (with_reducible refine hnx.out.mono ?_); clear hnx; rintro e w5 ⟨rfl, hb⟩; have b5 := Lib.hid (b4.out.below hb); have m5 := Lib.hid (m4.out.below hb); have hB5 := Lib.hid (We.below_trans hB4.out hb); clear e0 e1 e2 e3 b4 m4 hB4 hb pd4)
                  have hln := Lib.hid (len_any w5 b5.out)
                  go_wp2_with (go_at_call 13; (with_reducible refine hln.out.mono ?_); clear hln; rintro e w20 ⟨rfl, rfl⟩)
                  go_roundw
                  case rel => exact ⟨i + 1, β, by go_num, by omega, b5, m5, hB5⟩
                  case measure => simp [intOf] <;> omega
              | succ s =>
                obtain rfl : z = (s : Int) := by omega
                clear hz
                have hsk : s < k := by omega
                have d2 : decide (0 ≤ (s : Int)) = true := decide_eq_true (by omega)
                have hsI : (s : Int) < (k : Int) := by omega
                have cm := m4.out.cell hsk
                unfold We.bF at cm
                obtain ⟨V, hV⟩ : ∃ V, atI o = V := ⟨_, rfl⟩
                rw [hV]
                cases hβ : β s
                · rw [hβ] at cm
                  have hf : frm β (p : Int) s = false := by unfold frm; rw [hβ]; rfl
                  have hD2 := Lib.hid (hDn.out.no hf)
                  replace hV := Lib.hid hV
                  replace hβ := Lib.hid hβ
                  clear hf
                  go_wp2_with fail
                  go_roundw
                  case rel => exact ⟨s, o, (s : Int) - 1, by rw [hV.out], rfl, by omega, by omega, hD2, by first | rfl | trivial⟩
                  case measure => simp [intOf] <;> omega
                · rw [hβ] at cm
                  by_cases h1 : (p : Int) ≤ (s : Int)
                  · have d3 : decide ((p : Int) ≤ (s : Int)) = true := decide_eq_true h1
                    have hf : frm β (p : Int) s = true := by unfold frm; rw [hβ, d3]; rfl
                    have hD2 := Lib.hid (Dn.yes hf hsk)
                    replace hV := Lib.hid hV
                    replace hβ := Lib.hid hβ
                    clear hf
                    go_wp2_with fail
                    go_roundw
                    case rel => exact ⟨s, some s, (s : Int) - 1, rfl, rfl, by omega, by omega, hD2, by first | rfl | trivial⟩
                    case measure => simp [intOf] <;> omega
                  · have d3 : decide ((p : Int) ≤ (s : Int)) = false := decide_eq_false h1
                    have hf : frm β (p : Int) s = false := by unfold frm; rw [hβ, d3]; rfl
                    have hD2 := Lib.hid (hDn.out.no hf)
                    replace hV := Lib.hid hV
                    replace hβ := Lib.hid hβ
                    clear hf
                    go_wp2_with fail
                    go_roundw
                    case rel => exact ⟨s, o, (s : Int) - 1, by rw [hV.out], rfl, by omega, by omega, hD2, by first | rfl | trivial⟩
                    case measure => simp [intOf] <;> omega
        · as_aux_lemma =>
            have hln := Lib.hid (len_any w4 b4.out)
            go_wp2_with (go_at_call 13; (with_reducible refine hln.out.mono ?_); clear hln; rintro e w20 ⟨rfl, rfl⟩)
            go_roundw
            case rel => exact ⟨i + 1, β, by go_num, by omega, b4, m4, hB4⟩
            case measure => simp [intOf] <;> omega
    · obtain rfl : i = n := by omega
      have d1 : decide ((i : Int) < (i : Int)) = false := decide_eq_false (by omega)
      go_wp2_with fail
      go_ret
      exact ⟨rfl, hB.out⟩
theorem plays_row (a0 : Int) (w0 : (Lit.int .u16 a0).wf = true) (A1 : Option Addr) (n1 : Nat) (x1 : Nat → Int × Int × Int × Bool) (c1 : Nat) (l1 : n1 ≤ c1) (m1 : c1 ≤ maxLen) (w : World) (hTb : Tb w) (s1 : DF w w.heap.size A1 n1 x1) :
    Calls Tryd.prog 3 #[.int .u16 a0, .slice A1 n1 c1] w (We.Ans w (.bool true)) := by
  obtain ⟨N, hN, rfl⟩ := u16_nat w0
  exact plays_law N hN A1 n1 c1 x1 w hTb s1
end Go.Proofs.YtommmppcncgnfaaDoor.Vl
