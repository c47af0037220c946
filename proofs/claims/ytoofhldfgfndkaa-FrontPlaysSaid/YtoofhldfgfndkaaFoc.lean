/- FrontTakes walked, for whatever is a frontier. -/
import Derived.Test.YtoofhldfgfndkaaFoa
import Derived.Test.YtoofhldfgfndkaaTr
namespace Go.Proofs.Ytoofhldfgfndkaa.Fo
open Go.RowKit Go.Proofs.Ytoofhldfgfndkaa.Ge
set_option linter.unusedVariables false
set_option linter.unusedSimpArgs false
attribute [local go_sem ↓] Cl.quiet_since
/-- block g is that geometry -/
def G4 (w : World) (g : Nat) (B P W K : Int) : Prop := w.heap[g]? = some (.cells #[.int .i64 B, .int .i64 P, .int .i64 W, .int .i64 K] 23 (0, 0))
section
variable {w w' : World} {g : Nat} {B P W K : Int}
theorem G4.lt (h : G4 w g B P W K) : g < w.heap.size := by
  rcases Nat.lt_or_ge g w.heap.size with hlt | hge
  · exact hlt
  · unfold G4 at h; rw [Array.getElem?_eq_none hge] at h; cases h
theorem G4.new (w : World) (B P W K : Int) : G4 (w.alloc (.cells #[.int .i64 B, .int .i64 P, .int .i64 W, .int .i64 K] 23)) w.heap.size B P W K := heap_alloc_new w _
theorem G4.cells (h : G4 w g B P W K) : w.cell? ⟨g, 0, none⟩ = some (.int .i64 B) ∧ w.cell? ⟨g, 1, none⟩ = some (.int .i64 P) ∧ w.cell? ⟨g, 2, none⟩ = some (.int .i64 W) ∧ w.cell? ⟨g, 3, none⟩ = some (.int .i64 K) :=
  ⟨cell_of_row w g 0 _ _ _ h, cell_of_row w g 1 _ _ _ h, cell_of_row w g 2 _ _ _ h, cell_of_row w g 3 _ _ _ h⟩
theorem G4.keep (h : G4 w g B P W K) (hb : w'.heap[g]? = w.heap[g]?) : G4 w' g B P W K := hb.trans h
theorem G4.below (h : G4 w g B P W K) (hb : Below w.heap.size w w') : G4 w' g B P W K := h.keep (hb.block g h.lt)
theorem G4.out {lo hi : Nat} (h : G4 w g B P W K) (k : Cl.Keeps (Out lo hi) w w') (hg : g < lo) : G4 w' g B P W K := h.keep (k.block g h.lt (by unfold Out; omega))
end
theorem may_nat {B P W K : Int} (h : mayG B P W K = true) : ∃ x y : Nat, B = (x : Int) ∧ P = (y : Int) ∧ 4 ≤ x ∧ x ≤ 64 ∧ 2 ≤ y ∧ y ≤ 32 := by
  unfold mayG at h
  obtain ⟨h1, h2, h3, h4, _⟩ := of_decide_eq_true h
  exact ⟨B.toNat, P.toNat, by omega, by omega, by omega, by omega, by omega, by omega⟩
/-- where it is open while page k is the next -/
def opn (b y k : Nat) : Option (Nat × Nat) := if k < y then some (b, k) else none
theorem opn_take {b y k : Nat} (h : k < y) : nxV (opn b y k) = .tuple #[.int .i64 (b : Int), .int .i64 (k : Int), .bool true] ∧ tkO (y : Int) (opn b y k) = opn b y (k + 1) := by
  unfold opn
  rw [if_pos h]
  refine ⟨rfl, ?_⟩
  unfold tkO
  by_cases h1 : k + 1 < y
  · rw [if_pos ⟨rfl, by show ((k : Nat) : Int) + 1 < _; omega⟩, if_pos h1]; rfl
  · rw [if_neg (fun e => by have e2 : ((k : Nat) : Int) + 1 < _ := e.2; omega), if_neg h1]
theorem opn_left {b y k : Nat} (h : k ≤ y) : lfI (y : Int) (opn b y k) = (y : Int) - (k : Int) := by
  unfold opn lfI
  by_cases h1 : k < y
  · rw [if_pos h1]; rfl
  · rw [if_neg h1, if_neg (by simp)]; omega
theorem opn_open {B P W K : Int} {x y a b : Nat} (hB : B = (x : Int)) (hP : P = (y : Int)) (hm : mayG B P W K = true) (ha : a < x) (hb : b < y) : opB B P W K none (a : Int) (b : Int) = true ∧ opO B P W K none (a : Int) (b : Int) = opn a y b := by
  have h1 : opB B P W K none (a : Int) (b : Int) = true := by
    unfold opB
    rw [hm]
    subst hB hP
    simp
    omega
  refine ⟨h1, ?_⟩
  unfold opO opn
  rw [if_pos h1, if_pos hb]
  simp
theorem opn_again {B P W K : Int} {a y b : Nat} (hb : b < y) (c d : Int) : opB B P W K (opn a y b) c d = false ∧ opO B P W K (opn a y b) c d = opn a y b := by
  have h1 : opB B P W K (opn a y b) c d = false := by
    unfold opB opn
    rw [if_pos hb]
    simp
  refine ⟨h1, ?_⟩
  unfold opO
  rw [if_neg (by rw [h1]; simp)]
set_option maxRecDepth 20000 in
set_option maxHeartbeats 8000000 in
theorem takes_law {F : World → Nat → Nat → Nat → Int → Int → Int → Int → Option (Nat × Nat) → Prop} (C : FC F) (B P W K : Int) (N M : Nat) (hN : N < 256) (hM : M < 256) (w : World) :
    Calls Try.prog 4 #[.agg #[.int .i64 B, .int .i64 P, .int .i64 W, .int .i64 K], .int .u8 (N : Int), .int .u8 (M : Int)] w (We.Ans w (.bool true)) := by
  have bx := Lib.hid (G4.new w B P W K)
  have hb := Lib.hid (We.below_alloc w (.cells #[.int .i64 B, .int .i64 P, .int .i64 W, .int .i64 K] 23))
  have ha := Lib.hid (awake_any C (w.alloc (.cells #[.int .i64 B, .int .i64 P, .int .i64 W, .int .i64 K] 23)))
  have hr := fun w => refmay_any B P W K w
  have hn := Lib.hid (fun w => new_lit C w B P W K)
  have C' := Lib.hid C
  clear C
  cases hm : mayG B P W K
  · rw [hm] at hr
    replace hr := Lib.hid hr
    go_enter Try.func4, Try.ntmps4
    go_wp2_with (go_at_call 7; (with_reducible refine ha.out.mono ?_); clear ha; rintro e w1 ⟨rfl, hb1⟩; have b1 := Lib.hid (bx.out.below hb1); obtain ⟨c0, c1, c2, c3⟩ := b1.out.cells; replace hb1 := Lib.hid (We.below_trans hb.out hb1))
    go_wp2_with (go_at_call 9; (with_reducible refine (hr.out _).mono ?_); clear hr; rintro e w2 ⟨rfl, hb2⟩; replace hb2 := Lib.hid (We.below_trans hb1.out hb2); clear c0 c1 c2 c3)
    go_ret
    exact ⟨rfl, hb2.out⟩
  · rw [hm] at hr
    replace hr := Lib.hid hr
    obtain ⟨x, y, rfl, rfl, hx1, hx2, hy1, hy2⟩ := may_nat hm
    have hax : N % x < x := Nat.mod_lt _ (by omega)
    have hpy : M % y < y := Nat.mod_lt _ (by omega)
    have f1 : (N : Int).tmod (x : Int) = ((N % x : Nat) : Int) := rfl
    have f2 : (M : Int).tmod (y : Int) = ((M % y : Nat) : Int) := rfl
    have f3 : (N : Int) % (x : Int) = ((N % x : Nat) : Int) := (Int.natCast_emod _ _).symm
    have f4 : (M : Int) % (y : Int) = ((M % y : Nat) : Int) := (Int.natCast_emod _ _).symm
    have n1 : ¬ x = 0 := by omega
    have n2 : ¬ y = 0 := by omega
    have n3 : ((x : Int) == 0) = false := by simp; omega
    have n4 : ((y : Int) == 0) = false := by simp; omega
    obtain ⟨a, ha'⟩ : ∃ a, N % x = a := ⟨_, rfl⟩
    obtain ⟨p, hp'⟩ : ∃ p, M % y = p := ⟨_, rfl⟩
    rw [ha'] at hax f1 f3
    rw [hp'] at hpy f2 f4
    clear ha' hp'
    have hm' := Lib.hid hm
    clear hm
    replace hx1 := Lib.hid hx1
    replace hx2 := Lib.hid hx2
    replace hy1 := Lib.hid hy1
    replace hy2 := Lib.hid hy2
    replace hax := Lib.hid hax
    replace hpy := Lib.hid hpy
    go_enter Try.func4, Try.ntmps4
    go_wp2_with (go_at_call 7; (with_reducible refine ha.out.mono ?_); clear ha; rintro e w1 ⟨rfl, hb1⟩; have b1 := Lib.hid (bx.out.below hb1); obtain ⟨c0, c1, c2, c3⟩ := b1.out.cells; replace hb1 := Lib.hid (We.below_trans hb.out hb1); clear bx hb)
    go_wp2_with (go_at_call 9; (with_reducible refine (hr.out _).mono ?_); clear hr; rintro e w2 ⟨rfl, hb2⟩; have b2 := Lib.hid (b1.out.below hb2); clear c0 c1 c2 c3; obtain ⟨c0, c1, c2, c3⟩ := b2.out.cells; replace hb2 := Lib.hid (We.below_trans hb1.out hb2); clear b1 hb1)
    go_wp2_with (go_at_call 8; (with_reducible refine (hn.out _).mono ?_); clear hn; rintro e w3 ⟨G, rfl, hb3, f3⟩; have b3 := Lib.hid (b2.out.below hb3); have hgl := Lib.hid b2.out.lt; have hlo := Lib.hid hb2.out.size; have hsz := Lib.hid hb3.size; replace hb3 := Lib.hid (We.below_trans hb2.out hb3); replace f3 := Lib.hid f3; clear c0 c1 c2 c3 b2 hb2)
    refine Cl.region_way (fun _ => True) 11 [(0, .r), (1, .r), (2, .r), (3, .r), (4, .r), (5, .r), (6, .r), (7, .r), (8, .r), (9, .r), (10, .r), (11, .z)] (by kernel_rfl) (by kernel_rfl) ?_
    intro w4 hk4
    have b4 := Lib.hid (b3.out.below hk4.below)
    have B4 := Lib.hid (We.below_trans hb3.out hk4.below)
    have F4 := Lib.hid (FC.below C'.out f3.out hk4.below)
    clear hk4 b3 hb3 f3
    have t0 : ∀ z : Cl.Since (fun _ => True) w4, z.w.cell? ⟨w.heap.size, 0, none⟩ = some (.int .i64 (x : Int)) := fun z => (b4.out.below z.keeps.below).cells.1
    have t1 : ∀ z : Cl.Since (fun _ => True) w4, z.w.cell? ⟨w.heap.size, 1, none⟩ = some (.int .i64 (y : Int)) := fun z => (b4.out.below z.keeps.below).cells.2.1
    iterate 11 (refine Cl.way_r rfl ?_; go_big_quiet_step (fail); refine wpQuiet_nil ?_)
    refine Cl.way_z rfl ?_
    clear t0 t1
    go_wp2_with fail
    refine Cl.Calm.normal ?_
    clear f1 f2 f3 f4 n1 n2 n3 n4
    have hlo2 := Lib.hid (show w.heap.size ≤ w2.heap.size from hlo.out)
    generalize w2.heap.size = lo at *
    generalize w3.heap.size = hi at *
    have hc := Lib.hid (open_lit C'.out B4.out hlo.out F4.out (a : Int) (p : Int) true (opn a y p) (opn_open rfl rfl hm'.out hax.out hpy.out))
    go_wp2_with (go_at_call 10; (with_reducible refine hc.out.mono ?_); clear hc; rintro e w5 ⟨rfl, B5, F5, k5⟩; have b5 := Lib.hid (b4.out.out k5 hgl.out); replace B5 := Lib.hid B5; replace F5 := Lib.hid F5; clear b4 B4 F4 k5)
    have hc := Lib.hid (open_lit C'.out B5.out hlo.out F5.out (a : Int) (p : Int) false (opn a y p) (opn_again hpy.out _ _))
    go_wp2_with (go_at_call 10; (with_reducible refine hc.out.mono ?_); clear hc; rintro e w6 ⟨rfl, B6, F6, k6⟩; have b6 := Lib.hid (b5.out.out k6 hgl.out); replace B6 := Lib.hid B6; replace F6 := Lib.hid F6; clear b5 B5 F5 k6)
    go_loopw [10] (fun q wr => ∃ k : Nat, q = .int .i64 (k : Int) ∧ k ≤ y ∧ Hid (F wr lo hi G (x : Int) (y : Int) W K (opn a y k)) ∧ Hid (G4 wr w.heap.size (x : Int) (y : Int) W K) ∧ Hid (Below w.heap.size w wr)) (fun q _ => y - (intOf q).toNat)
    case atStart => exact ⟨p, rfl, Nat.le_of_lt hpy.out, F6, b6, B6⟩
    case round =>
      obtain ⟨k, rfl, hky, fr, br, Br⟩ := hrel
      clear F6 b6 B6
      obtain ⟨c0, c1, c2, c3⟩ := br.out.cells
      by_cases hk : k < y
      · have d1 : decide ((k : Int) < (y : Int)) = true := decide_eq_true (by omega)
        have hkI : (k : Int) < (y : Int) := by omega
        have hk1 : wrap64 ((k : Int) + 1) = ((k + 1 : Nat) : Int) := by have := hy2.out; rw [IntWalk.wrap64_in _ (by omega)]; omega
        have hs1 : wrap64 ((y : Int) - (k : Int)) = (y : Int) - (k : Int) := by have := hy2.out; rw [IntWalk.wrap64_in _ (by omega)]
        have hs2 : wrap64 ((y : Int) - (k : Int) - 1) = (y : Int) - ((k + 1 : Nat) : Int) := by have := hy2.out; rw [IntWalk.wrap64_in _ (by omega)]; omega
        have hX := opn_left (b := a) (y := y) (k := k + 1) (by omega)
        generalize (y : Int) - ((k + 1 : Nat) : Int) = X at hs2 hX
        replace hX := Lib.hid hX
        have hc := Lib.hid (take_lit C'.out Br.out hlo.out fr.out (a : Int) (k : Int) true (opn a y (k + 1)) (opn_take hk))
        go_wp2_with (go_at_call 12; (with_reducible refine hc.out.mono ?_); clear hc; rintro e w7 ⟨rfl, B7, F7, k7⟩; have b7 := Lib.hid (br.out.out k7 hgl.out); replace B7 := Lib.hid B7; replace F7 := Lib.hid F7; clear c0 c1 c2 c3 fr br Br k7)
        refine Cl.region_way (fun _ => True) 21 [(0, .r), (1, .r), (2, .r), (3, .r), (4, .r), (5, .r), (6, .r), (7, .r), (8, .r), (9, .r), (10, .r), (11, .r), (12, .r), (13, .r), (15, .r), (16, .r), (17, .r), (18, .r), (19, .r), (14, .c), (20, .r), (21, .z)] (by kernel_rfl) (by kernel_rfl) ?_
        intro w8 hk8
        have b8 := Lib.hid (b7.out.below hk8.below)
        have B8 := Lib.hid (We.below_trans B7.out hk8.below)
        have F8 := Lib.hid (FC.below C'.out F7.out hk8.below)
        clear hk8 b7 B7 F7
        have t1 : ∀ z : Cl.Since (fun _ => True) w8, z.w.cell? ⟨w.heap.size, 1, none⟩ = some (.int .i64 (y : Int)) := fun z => (b8.out.below z.keeps.below).cells.2.1
        iterate 19 (refine Cl.way_r rfl ?_; go_big_quiet_step (fail); refine wpQuiet_nil ?_)
        clear t1 hs1
        have hs3 : (X != wrap64 ((y : Int) - (k : Int) - 1)) = false := by rw [hs2]; simp
        refine Cl.way_c rfl ?_
        have hc := Lib.hid (left_lit C'.out B8.out F8.out X hX.out)
        go_wp2_with (go_at_call 15; (with_reducible refine hc.out.mono ?_); clear hc; rintro e w9 ⟨rfl, B9, F9, k9⟩; have b9 := Lib.hid (b8.out.below k9); replace B9 := Lib.hid B9; replace F9 := Lib.hid F9; replace k9 := Lib.hid k9; clear b8 B8 F8)
        refine Cl.way_on (Cl.Keeps.of_below k9.out) ?_
        clear k9
        refine Cl.way_r rfl ?_
        go_big_quiet_step (fail)
        refine wpQuiet_nil ?_
        refine Cl.way_z rfl ?_
        go_wp2_with fail
        refine Cl.Calm.normal ?_
        go_wp2_with fail
        go_roundw
        case rel => exact ⟨k + 1, by rw [hk1], by omega, F9, b9, B9⟩
        case measure => rw [hk1]; simp only [intOf, Int.toNat_natCast]; omega
      · obtain rfl : k = y := by omega
        have d1 : decide ((k : Int) < (k : Int)) = false := decide_eq_false (by omega)
        have hq : opn a k k = none := by unfold opn; rw [if_neg (by omega)]
        rw [hq] at fr
        clear hq
        have hc := Lib.hid (take_lit C'.out Br.out hlo.out fr.out 0 0 false none ⟨rfl, by unfold tkO; rw [if_neg (by simp)]⟩)
        go_wp2_with (go_at_call 12; (with_reducible refine hc.out.mono ?_); clear hc; rintro e w7 ⟨rfl, B7, F7, k7⟩; replace B7 := Lib.hid B7; replace F7 := Lib.hid F7; clear c0 c1 c2 c3 fr br Br k7)
        have hc := Lib.hid (block_lit C'.out B7.out F7.out (-1) rfl)
        go_wp2_with (go_at_call 14; (with_reducible refine hc.out.mono ?_); clear hc; rintro e w8 ⟨rfl, B8, F8, k8⟩; replace B8 := Lib.hid B8; replace F8 := Lib.hid F8; clear F7 B7 k8)
        have hc := Lib.hid (shut_lit C'.out B8.out hlo.out F8.out (-1) rfl)
        go_wp2_with (go_at_call 13; (with_reducible refine hc.out.mono ?_); clear hc; rintro e w9 ⟨rfl, B9, F9, k9⟩; replace B9 := Lib.hid B9; replace F9 := Lib.hid F9; clear F8 B8 k9)
        have hc := Lib.hid (open_lit C'.out B9.out hlo.out F9.out (a : Int) 0 true (opn a k 0) (opn_open (b := 0) rfl rfl hm'.out hax.out (by have := hy1.out; omega)))
        go_wp2_with (go_at_call 10; (with_reducible refine hc.out.mono ?_); clear hc; rintro e w10 ⟨rfl, B10, F10, k10⟩; replace B10 := Lib.hid B10; clear F9 B9 k10)
        go_ret
        exact ⟨rfl, B10.out⟩
end Go.Proofs.Ytoofhldfgfndkaa.Fo
