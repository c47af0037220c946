/- FrontPlays walked, for whatever is a frontier. -/
import Derived.Test.YtoofhldfgfndkaaFod
import Derived.Test.YtoofhldfgfndkaaLmo
import Derived.Deep.Cut
import Derived.Deep.CutRange
import Derived.Deep.CutBlock
namespace Go.Proofs.Ytoofhldfgfndkaa.Fo
open Go.RowKit Go.Proofs.Ytoofhldfgfndkaa.Ge
set_option linter.unusedVariables false
set_option linter.unusedSimpArgs false
attribute [local go_sem ↓] Cl.quiet_since
/-- block g is a deed -/
def D3 (w : World) (g : Nat) (D A B : Int) : Prop := w.heap[g]? = some (.cells #[.int .i64 D, .int .i64 A, .int .i64 B] 30 (0, 0))
section
variable {w w' : World} {g : Nat} {D A B : Int}
theorem D3.lt (h : D3 w g D A B) : g < w.heap.size := by
  rcases Nat.lt_or_ge g w.heap.size with hlt | hge
  · exact hlt
  · unfold D3 at h; rw [Array.getElem?_eq_none hge] at h; cases h
theorem D3.new (w : World) (D A B : Int) : D3 (w.alloc (.cells #[.int .i64 D, .int .i64 A, .int .i64 B] 30)) w.heap.size D A B := heap_alloc_new w _
theorem D3.c0 (h : D3 w g D A B) : w.cell? ⟨g, 0, none⟩ = some (.int .i64 D) := cell_of_row w g 0 _ _ _ h
theorem D3.c1 (h : D3 w g D A B) : w.cell? ⟨g, 1, none⟩ = some (.int .i64 A) := cell_of_row w g 1 _ _ _ h
theorem D3.c2 (h : D3 w g D A B) : w.cell? ⟨g, 2, none⟩ = some (.int .i64 B) := cell_of_row w g 2 _ _ _ h
theorem D3.keep (h : D3 w g D A B) (hb : w'.heap[g]? = w.heap[g]?) : D3 w' g D A B := hb.trans h
theorem D3.below (h : D3 w g D A B) (hb : Below w.heap.size w w') : D3 w' g D A B := h.keep (hb.block g h.lt)
theorem D3.out {lo hi : Nat} (h : D3 w g D A B) (k : Cl.Keeps (Out lo hi) w w') (hg : hi ≤ g) : D3 w' g D A B := h.keep (k.block g h.lt (by unfold Out; omega))
end
/-- what the law holds of the frontier: it lies on pg, if it is open -/
structure Std (F : World → Nat → Nat → Nat → Int → Int → Int → Int → Option (Nat × Nat) → Prop) (w0 w : World) (lo hi G : Nat) (B P W K : Int) (o : Option (Nat × Nat)) (pg : Int) : Prop where
  f : F w lo hi G B P W K o
  g : G4 w w0.heap.size B P W K
  b : Below w0.heap.size w0 w
  p : o.isSome = true → pg = (pgN o : Int)
section
variable {F : World → Nat → Nat → Nat → Int → Int → Int → Int → Option (Nat × Nat) → Prop} {w0 w w' : World} {lo hi G : Nat} {B P W K : Int} {o : Option (Nat × Nat)} {pg : Int}
theorem Std.below (C : FC F) (h : Std F w0 w lo hi G B P W K o pg) (hb : Below w.heap.size w w') : Std F w0 w' lo hi G B P W K o pg := ⟨FC.below C h.f hb, h.g.below hb, We.below_trans h.b hb, h.p⟩
theorem Std.out (C : FC F) (h : Std F w0 w lo hi G B P W K o pg) (k : Cl.Keeps (Out lo hi) w w') (hlo : w0.heap.size < lo) {o' : Option (Nat × Nat)} {pg' : Int} (f : F w' lo hi G B P W K o') (p : o'.isSome = true → pg' = (pgN o' : Int)) : Std F w0 w' lo hi G B P W K o' pg' :=
  ⟨f, h.g.out k hlo, below_out h.b (Nat.le_of_lt hlo) k, p⟩
end
theorem opn_no {B P W K : Int} {o : Option (Nat × Nat)} {a b : Int} (h : opB B P W K o a b = false) : opB B P W K o a b = false ∧ opO B P W K o a b = o := ⟨h, by unfold opO; rw [if_neg (by rw [h]; simp)]⟩
theorem opn_yes {B P W K a b : Int} (hm : mayG B P W K = true) (t1 : decide (0 ≤ a) = true) (t2 : decide (a < B) = true) (t3 : decide (0 ≤ b) = true) (t4 : decide (b < P) = true) : opB B P W K none a b = true ∧ opO B P W K none a b = some (a.toNat, b.toNat) := by
  have h : opB B P W K none a b = true := by unfold opB; rw [hm, t1, t2, t3, t4]; rfl
  exact ⟨h, by unfold opO; rw [if_pos h]⟩
theorem opn_at {a b : Int} (t1 : decide (0 ≤ a) = true) (t3 : decide (0 ≤ b) = true) : blI (some (a.toNat, b.toNat)) = a ∧ ((pgN (some (a.toNat, b.toNat)) : Nat) : Int) = b := by
  have h1 := of_decide_eq_true t1
  have h3 := of_decide_eq_true t3
  exact ⟨by show ((a.toNat : Nat) : Int) = a; omega, by show ((b.toNat : Nat) : Int) = b; omega⟩
set_option maxRecDepth 20000 in
set_option maxHeartbeats 16000000 in
theorem plays_law {F : World → Nat → Nat → Nat → Int → Int → Int → Int → Option (Nat × Nat) → Prop} (C : FC F) (B P W K : Int) (L : Option Addr) (n c : Nat) (qd : Nat → Int × Int × Int) (w : World) (hs : Lm.DT w w.heap.size L n qd) :
    Calls Try.prog 3 #[.agg #[.int .i64 B, .int .i64 P, .int .i64 W, .int .i64 K], .slice L n c] w (We.Ans w (.bool true)) := by
  have bx := Lib.hid (G4.new w B P W K)
  have hb := Lib.hid (We.below_alloc w (.cells #[.int .i64 B, .int .i64 P, .int .i64 W, .int .i64 K] 23))
  have ha := Lib.hid (awake_any C (w.alloc (.cells #[.int .i64 B, .int .i64 P, .int .i64 W, .int .i64 K] 23)))
  have hr := Lib.hid (fun w => refmay_any B P W K w)
  have hn := Lib.hid (fun w => new_lit C w B P W K)
  have C' := Lib.hid C
  have H := Lib.hid hs
  clear C hs
  by_cases h300 : (300 : Int) < (n : Int)
  · go_enter Try.func3, Try.ntmps3
    go_wp2_with (go_at_call 7; (with_reducible refine ha.out.mono ?_); clear ha; rintro e w1 ⟨rfl, hb1⟩; replace hb1 := Lib.hid (We.below_trans hb.out hb1))
    go_ret
    exact ⟨rfl, hb1.out⟩
  obtain ⟨M, hM⟩ : ∃ M, mayG B P W K = M := ⟨_, rfl⟩
  rw [hM] at hr
  replace hM := Lib.hid hM
  go_enter Try.func3, Try.ntmps3
  go_wp2_with (go_at_call 7; (with_reducible refine ha.out.mono ?_); clear ha; rintro e w1 ⟨rfl, hb1⟩; have b1 := Lib.hid (bx.out.below hb1); obtain ⟨c0, c1, c2, c3⟩ := b1.out.cells; replace hb1 := Lib.hid (We.below_trans hb.out hb1); clear bx hb)
  go_wp2_with (go_at_call 8; (with_reducible refine (hn.out _).mono ?_); clear hn; rintro e w2 ⟨G, rfl, hb2, f2⟩; have S2 := Lib.hid (show Std F w w2 w1.heap.size w2.heap.size G B P W K none 0 from ⟨f2, b1.out.below hb2, We.below_trans hb1.out hb2, fun h => by cases h⟩); have hgl := Lib.hid b1.out.lt; have hlo := Lib.hid hb1.out.size; have hsz := Lib.hid hb2.size; clear c0 c1 c2 c3 b1 hb1 hb2 f2; obtain ⟨c0, c1, c2, c3⟩ := S2.out.g.cells)
  go_wp2_with (go_at_call 9; (with_reducible refine (hr.out _).mono ?_); clear hr; rintro e w3 ⟨rfl, hb3⟩; have hsz3 := Lib.hid hb3.size; have S3 := Lib.hid (Std.below C'.out S2.out hb3); clear c0 c1 c2 c3 S2 hb3)
  generalize w1.heap.size = lo at *
  generalize w2.heap.size = hi at *
  go_loopw [7, 8, 9] (fun p7 p8 q wr => ∃ (i : Nat) (o : Option (Nat × Nat)) (pg : Int), p7 = .int .i64 (blI o) ∧ p8 = .int .i64 pg ∧ q = .int .i64 (i : Int) ∧ i ≤ n ∧ Hid (hi ≤ wr.heap.size) ∧ Hid (Std F w wr lo hi G B P W K o pg)) (fun _ _ q _ => n - (intOf q).toNat)
  case atStart => exact ⟨0, none, 0, rfl, rfl, rfl, Nat.zero_le _, hsz3, S3⟩
  case round =>
    obtain ⟨i, o, pg, rfl, rfl, rfl, hi', hz, S⟩ := hrel
    clear S3 hsz3
    by_cases hin : i < n
    · obtain ⟨a, rfl, hab, c0, c1, c2⟩ := (H.out.below S.out.b).at_ hin
      have hinI : (i : Int) < (n : Int) := by omega
      have d1 : decide ((i : Int) < (n : Int)) = true := decide_eq_true hinI
      obtain ⟨⟨D, A, Q⟩, hq⟩ : ∃ q, qd i = q := ⟨_, rfl⟩
      rw [hq] at c0 c1 c2
      simp only at c0 c1 c2
      clear hq
      go_upto_region 14 with fail
      have S4 := Lib.hid (Std.below C'.out S.out (We.below_alloc wr (.cells #[.int .i64 D, .int .i64 A, .int .i64 Q] 30)))
      have d4 := Lib.hid (D3.new wr D A Q)
      have hdg := hz
      have hz4 := Lib.hid (show hi ≤ (wr.alloc (.cells #[.int .i64 D, .int .i64 A, .int .i64 Q] 30)).heap.size by rw [World.size_alloc]; have := hz.out; omega)
      clear S c0 c1 c2 hz
      generalize wr.alloc (.cells #[.int .i64 D, .int .i64 A, .int .i64 Q] 30) = w4 at *
      generalize wr.heap.size = gd at *
      have e0 := d4.out.c0
      go_upto_block 2 with fail
      go_cut [7, 8, 11, 12, 13, 14] from 27 to 166 (fun p7 p8 p11 p12 p13 p14 wx => ∃ (o : Option (Nat × Nat)) (pg : Int), p7 = .int .i64 (blI o) ∧ p8 = .int .i64 pg ∧ Hid (hi ≤ wx.heap.size) ∧ Hid (Std F w wx lo hi G B P W K o pg))
      case first =>
        have hD : D = 0 ∨ D = 1 ∨ D = 2 ∨ D = 3 ∨ D = 4 ∨ D = 5 ∨ D = 6 ∨ ((D == 0) = false ∧ (D == 1) = false ∧ (D == 2) = false ∧ (D == 3) = false ∧ (D == 4) = false ∧ (D == 5) = false ∧ (D == 6) = false) := by
          simp only [beq_eq_false_iff_ne]; omega
        rcases hD with rfl | rfl | rfl | rfl | rfl | rfl | rfl | ⟨D0, D1, D2, D3, D4, D5, D6⟩
        · as_aux_lemma =>
            obtain ⟨c0, c1, c2, c3⟩ := S4.out.g.cells
            have e1 := d4.out.c1
            have e2 := d4.out.c2
            cases M
            · have hno := Lib.hid (show opB B P W K o A Q = false by unfold opB; rw [hM.out]; rfl)
              have hc := Lib.hid (open_lit C'.out S4.out.b (Nat.le_of_lt hgl.out) S4.out.f A Q false o (opn_no hno.out))
              go_wp2_with (go_at_call 10; (with_reducible refine hc.out.mono ?_); clear hc; rintro e w5 ⟨rfl, _, f5, k5⟩; have S5 := Lib.hid (Std.out C'.out S4.out k5 hgl.out f5 S4.out.p); have hz5 := Lib.hid (Nat.le_trans hz4.out k5.size); clear k5 f5)
              go_meet
              exact ⟨o, pg, rfl, rfl, hz5, S5⟩
            · rcases o with _ | ⟨b, p⟩
              · rw [show blI none = -1 from rfl]
                cases t1 : decide (0 ≤ A)
                · have hno := Lib.hid (show opB B P W K none A Q = false by unfold opB; rw [t1]; simp)
                  have hc := Lib.hid (open_lit C'.out S4.out.b (Nat.le_of_lt hgl.out) S4.out.f A Q false none (opn_no hno.out))
                  go_wp2_with (go_at_call 10; (with_reducible refine hc.out.mono ?_); clear hc; rintro e w5 ⟨rfl, _, f5, k5⟩; have S5 := Lib.hid (Std.out C'.out S4.out k5 hgl.out f5 S4.out.p); have hz5 := Lib.hid (Nat.le_trans hz4.out k5.size); clear k5 f5)
                  go_meet
                  exact ⟨none, pg, rfl, rfl, hz5, S5⟩
                cases t2 : decide (A < B)
                · have hno := Lib.hid (show opB B P W K none A Q = false by unfold opB; rw [t2]; simp)
                  have hc := Lib.hid (open_lit C'.out S4.out.b (Nat.le_of_lt hgl.out) S4.out.f A Q false none (opn_no hno.out))
                  go_wp2_with (go_at_call 10; (with_reducible refine hc.out.mono ?_); clear hc; rintro e w5 ⟨rfl, _, f5, k5⟩; have S5 := Lib.hid (Std.out C'.out S4.out k5 hgl.out f5 S4.out.p); have hz5 := Lib.hid (Nat.le_trans hz4.out k5.size); clear k5 f5)
                  go_meet
                  exact ⟨none, pg, rfl, rfl, hz5, S5⟩
                cases t3 : decide (0 ≤ Q)
                · have hno := Lib.hid (show opB B P W K none A Q = false by unfold opB; rw [t3]; simp)
                  have hc := Lib.hid (open_lit C'.out S4.out.b (Nat.le_of_lt hgl.out) S4.out.f A Q false none (opn_no hno.out))
                  go_wp2_with (go_at_call 10; (with_reducible refine hc.out.mono ?_); clear hc; rintro e w5 ⟨rfl, _, f5, k5⟩; have S5 := Lib.hid (Std.out C'.out S4.out k5 hgl.out f5 S4.out.p); have hz5 := Lib.hid (Nat.le_trans hz4.out k5.size); clear k5 f5)
                  go_meet
                  exact ⟨none, pg, rfl, rfl, hz5, S5⟩
                cases t4 : decide (Q < P)
                · have hno := Lib.hid (show opB B P W K none A Q = false by unfold opB; rw [t4]; simp)
                  have hc := Lib.hid (open_lit C'.out S4.out.b (Nat.le_of_lt hgl.out) S4.out.f A Q false none (opn_no hno.out))
                  go_wp2_with (go_at_call 10; (with_reducible refine hc.out.mono ?_); clear hc; rintro e w5 ⟨rfl, _, f5, k5⟩; have S5 := Lib.hid (Std.out C'.out S4.out k5 hgl.out f5 S4.out.p); have hz5 := Lib.hid (Nat.le_trans hz4.out k5.size); clear k5 f5)
                  go_meet
                  exact ⟨none, pg, rfl, rfl, hz5, S5⟩
                have hy := Lib.hid (show opB B P W K none A Q = true ∧ opO B P W K none A Q = some (A.toNat, Q.toNat) from opn_yes hM.out t1 t2 t3 t4)
                have hA := Lib.hid (show blI (some (A.toNat, Q.toNat)) = A ∧ ((pgN (some (A.toNat, Q.toNat)) : Nat) : Int) = Q from opn_at t1 t3)
                have hc := Lib.hid (open_lit C'.out S4.out.b (Nat.le_of_lt hgl.out) S4.out.f A Q true (some (A.toNat, Q.toNat)) hy.out)
                go_wp2_with (go_at_call 10; (with_reducible refine hc.out.mono ?_); clear hc; rintro e w5 ⟨rfl, _, f5, k5⟩; have S5 := Lib.hid (Std.out C'.out S4.out k5 hgl.out (pg' := Q) f5 (fun _ => hA.out.2.symm)); have hz5 := Lib.hid (Nat.le_trans hz4.out k5.size); have d5 := Lib.hid (d4.out.out k5 hdg.out); clear k5 f5 e0 e1 e2 c0 c1 c2 c3 t1 t2 t3 t4)
                refine Cl.region_way (fun _ => True) 5 [(0, .r), (1, .r), (2, .r), (3, .r), (4, .r), (5, .z)] (by kernel_rfl) (by kernel_rfl) ?_
                intro w6 hk6
                have S6 := Lib.hid (Std.below C'.out S5.out hk6.below)
                have hz6 := Lib.hid (Nat.le_trans hz5.out hk6.size)
                have t1 : ∀ z : Cl.Since (fun _ => True) w6, z.w.cell? ⟨gd, 1, none⟩ = some (.int .i64 A) := fun z => ((d5.out.below hk6.below).below z.keeps.below).c1
                have t2 : ∀ z : Cl.Since (fun _ => True) w6, z.w.cell? ⟨gd, 2, none⟩ = some (.int .i64 Q) := fun z => ((d5.out.below hk6.below).below z.keeps.below).c2
                clear hk6
                iterate 5 (refine Cl.way_r rfl ?_; go_big_quiet_step (fail); refine wpQuiet_nil ?_)
                refine Cl.way_z rfl ?_
                clear t1 t2
                go_wp2_with fail
                refine Cl.Calm.normal ?_
                go_wp2_with fail
                go_meet
                exact ⟨some (A.toNat, Q.toNat), Q, by rw [hA.out.1], rfl, hz6, S6⟩
              · rw [show blI (some (b, p)) = (b : Int) from rfl]
                have hno := Lib.hid (show opB B P W K (some (b, p)) A Q = false by unfold opB; simp)
                have t0 : decide ((b : Int) < 0) = false := decide_eq_false (by omega)
                have hc := Lib.hid (open_lit C'.out S4.out.b (Nat.le_of_lt hgl.out) S4.out.f A Q false (some (b, p)) (opn_no hno.out))
                go_wp2_with (go_at_call 10; (with_reducible refine hc.out.mono ?_); clear hc; rintro e w5 ⟨rfl, _, f5, k5⟩; have S5 := Lib.hid (Std.out C'.out S4.out k5 hgl.out f5 S4.out.p); have hz5 := Lib.hid (Nat.le_trans hz4.out k5.size); clear k5 f5)
                go_meet
                exact ⟨(some (b, p)), pg, rfl, rfl, hz5, S5⟩
        · as_aux_lemma =>
            obtain ⟨c0, c1, c2, c3⟩ := S4.out.g.cells
            have e1 := d4.out.c1
            have e2 := d4.out.c2
            cases M
            · have hno := Lib.hid (show opB B P W K o A Q = false by unfold opB; rw [hM.out]; rfl)
              have hc := Lib.hid (open_lit C'.out S4.out.b (Nat.le_of_lt hgl.out) S4.out.f A Q false o (opn_no hno.out))
              go_wp2_with (go_at_call 10; (with_reducible refine hc.out.mono ?_); clear hc; rintro e w5 ⟨rfl, _, f5, k5⟩; have S5 := Lib.hid (Std.out C'.out S4.out k5 hgl.out f5 S4.out.p); have hz5 := Lib.hid (Nat.le_trans hz4.out k5.size); clear k5 f5)
              go_meet
              exact ⟨o, pg, rfl, rfl, hz5, S5⟩
            · rcases o with _ | ⟨b, p⟩
              · rw [show blI none = -1 from rfl]
                cases t1 : decide (0 ≤ A)
                · have hno := Lib.hid (show opB B P W K none A Q = false by unfold opB; rw [t1]; simp)
                  have hc := Lib.hid (open_lit C'.out S4.out.b (Nat.le_of_lt hgl.out) S4.out.f A Q false none (opn_no hno.out))
                  go_wp2_with (go_at_call 10; (with_reducible refine hc.out.mono ?_); clear hc; rintro e w5 ⟨rfl, _, f5, k5⟩; have S5 := Lib.hid (Std.out C'.out S4.out k5 hgl.out f5 S4.out.p); have hz5 := Lib.hid (Nat.le_trans hz4.out k5.size); clear k5 f5)
                  go_meet
                  exact ⟨none, pg, rfl, rfl, hz5, S5⟩
                cases t2 : decide (A < B)
                · have hno := Lib.hid (show opB B P W K none A Q = false by unfold opB; rw [t2]; simp)
                  have hc := Lib.hid (open_lit C'.out S4.out.b (Nat.le_of_lt hgl.out) S4.out.f A Q false none (opn_no hno.out))
                  go_wp2_with (go_at_call 10; (with_reducible refine hc.out.mono ?_); clear hc; rintro e w5 ⟨rfl, _, f5, k5⟩; have S5 := Lib.hid (Std.out C'.out S4.out k5 hgl.out f5 S4.out.p); have hz5 := Lib.hid (Nat.le_trans hz4.out k5.size); clear k5 f5)
                  go_meet
                  exact ⟨none, pg, rfl, rfl, hz5, S5⟩
                cases t3 : decide (0 ≤ Q)
                · have hno := Lib.hid (show opB B P W K none A Q = false by unfold opB; rw [t3]; simp)
                  have hc := Lib.hid (open_lit C'.out S4.out.b (Nat.le_of_lt hgl.out) S4.out.f A Q false none (opn_no hno.out))
                  go_wp2_with (go_at_call 10; (with_reducible refine hc.out.mono ?_); clear hc; rintro e w5 ⟨rfl, _, f5, k5⟩; have S5 := Lib.hid (Std.out C'.out S4.out k5 hgl.out f5 S4.out.p); have hz5 := Lib.hid (Nat.le_trans hz4.out k5.size); clear k5 f5)
                  go_meet
                  exact ⟨none, pg, rfl, rfl, hz5, S5⟩
                cases t4 : decide (Q < P)
                · have hno := Lib.hid (show opB B P W K none A Q = false by unfold opB; rw [t4]; simp)
                  have hc := Lib.hid (open_lit C'.out S4.out.b (Nat.le_of_lt hgl.out) S4.out.f A Q false none (opn_no hno.out))
                  go_wp2_with (go_at_call 10; (with_reducible refine hc.out.mono ?_); clear hc; rintro e w5 ⟨rfl, _, f5, k5⟩; have S5 := Lib.hid (Std.out C'.out S4.out k5 hgl.out f5 S4.out.p); have hz5 := Lib.hid (Nat.le_trans hz4.out k5.size); clear k5 f5)
                  go_meet
                  exact ⟨none, pg, rfl, rfl, hz5, S5⟩
                have hy := Lib.hid (show opB B P W K none A Q = true ∧ opO B P W K none A Q = some (A.toNat, Q.toNat) from opn_yes hM.out t1 t2 t3 t4)
                have hA := Lib.hid (show blI (some (A.toNat, Q.toNat)) = A ∧ ((pgN (some (A.toNat, Q.toNat)) : Nat) : Int) = Q from opn_at t1 t3)
                have hc := Lib.hid (open_lit C'.out S4.out.b (Nat.le_of_lt hgl.out) S4.out.f A Q true (some (A.toNat, Q.toNat)) hy.out)
                go_wp2_with (go_at_call 10; (with_reducible refine hc.out.mono ?_); clear hc; rintro e w5 ⟨rfl, _, f5, k5⟩; have S5 := Lib.hid (Std.out C'.out S4.out k5 hgl.out (pg' := Q) f5 (fun _ => hA.out.2.symm)); have hz5 := Lib.hid (Nat.le_trans hz4.out k5.size); have d5 := Lib.hid (d4.out.out k5 hdg.out); clear k5 f5 e0 e1 e2 c0 c1 c2 c3 t1 t2 t3 t4)
                refine Cl.region_way (fun _ => True) 5 [(0, .r), (1, .r), (2, .r), (3, .r), (4, .r), (5, .z)] (by kernel_rfl) (by kernel_rfl) ?_
                intro w6 hk6
                have S6 := Lib.hid (Std.below C'.out S5.out hk6.below)
                have hz6 := Lib.hid (Nat.le_trans hz5.out hk6.size)
                have t1 : ∀ z : Cl.Since (fun _ => True) w6, z.w.cell? ⟨gd, 1, none⟩ = some (.int .i64 A) := fun z => ((d5.out.below hk6.below).below z.keeps.below).c1
                have t2 : ∀ z : Cl.Since (fun _ => True) w6, z.w.cell? ⟨gd, 2, none⟩ = some (.int .i64 Q) := fun z => ((d5.out.below hk6.below).below z.keeps.below).c2
                clear hk6
                iterate 5 (refine Cl.way_r rfl ?_; go_big_quiet_step (fail); refine wpQuiet_nil ?_)
                refine Cl.way_z rfl ?_
                clear t1 t2
                go_wp2_with fail
                refine Cl.Calm.normal ?_
                go_wp2_with fail
                go_meet
                exact ⟨some (A.toNat, Q.toNat), Q, by rw [hA.out.1], rfl, hz6, S6⟩
              · rw [show blI (some (b, p)) = (b : Int) from rfl]
                have hno := Lib.hid (show opB B P W K (some (b, p)) A Q = false by unfold opB; simp)
                have t0 : decide ((b : Int) < 0) = false := decide_eq_false (by omega)
                have hc := Lib.hid (open_lit C'.out S4.out.b (Nat.le_of_lt hgl.out) S4.out.f A Q false (some (b, p)) (opn_no hno.out))
                go_wp2_with (go_at_call 10; (with_reducible refine hc.out.mono ?_); clear hc; rintro e w5 ⟨rfl, _, f5, k5⟩; have S5 := Lib.hid (Std.out C'.out S4.out k5 hgl.out f5 S4.out.p); have hz5 := Lib.hid (Nat.le_trans hz4.out k5.size); clear k5 f5)
                go_meet
                exact ⟨(some (b, p)), pg, rfl, rfl, hz5, S5⟩
        · as_aux_lemma =>
            rcases o with _ | ⟨b, p⟩
            · rw [show blI none = -1 from rfl]
              have hc := Lib.hid (next_lit C'.out S4.out.b S4.out.f 0 0 false rfl)
              go_wp2_with (go_at_call 11; (with_reducible refine hc.out.mono ?_); clear hc; rintro e w5 ⟨rfl, _, _, k5⟩; have S5 := Lib.hid (Std.below C'.out S4.out k5); have hz5 := Lib.hid (Nat.le_trans hz4.out k5.size); have d5 := Lib.hid (d4.out.below k5); clear k5 e0; have e0 := d5.out.c0)
              go_meet
              exact ⟨none, pg, rfl, rfl, hz5, S5⟩
            · rw [show blI (some (b, p)) = (b : Int) from rfl]
              obtain rfl : pg = (p : Int) := S4.out.p rfl
              have hc := Lib.hid (next_lit C'.out S4.out.b S4.out.f (b : Int) (p : Int) true rfl)
              have t0 : decide (0 ≤ (b : Int)) = true := decide_eq_true (by omega)
              go_wp2_with (go_at_call 11; (with_reducible refine hc.out.mono ?_); clear hc; rintro e w5 ⟨rfl, _, _, k5⟩; have S5 := Lib.hid (Std.below C'.out S4.out k5); have hz5 := Lib.hid (Nat.le_trans hz4.out k5.size); have d5 := Lib.hid (d4.out.below k5); clear k5 e0; have e0 := d5.out.c0)
              go_meet
              exact ⟨some (b, p), (p : Int), rfl, rfl, hz5, S5⟩
        · as_aux_lemma =>
            rcases o with _ | ⟨b, p⟩
            · rw [show blI none = -1 from rfl]
              have hc := Lib.hid (next_lit C'.out S4.out.b S4.out.f 0 0 false rfl)
              go_wp2_with (go_at_call 11; (with_reducible refine hc.out.mono ?_); clear hc; rintro e w5 ⟨rfl, _, _, k5⟩; have S5 := Lib.hid (Std.below C'.out S4.out k5); have hz5 := Lib.hid (Nat.le_trans hz4.out k5.size); have d5 := Lib.hid (d4.out.below k5); clear k5 e0; have e0 := d5.out.c0)
              have hc := Lib.hid (take_lit C'.out S5.out.b (Nat.le_of_lt hgl.out) S5.out.f 0 0 false none ⟨rfl, by unfold tkO; rw [if_neg (by simp)]⟩)
              go_wp2_with (go_at_call 12; (with_reducible refine hc.out.mono ?_); clear hc; rintro e w6 ⟨rfl, _, f6, k6⟩; have S6 := Lib.hid (Std.out C'.out S5.out k6 hgl.out (pg' := pg) f6 (fun h => by cases h)); have hz6 := Lib.hid (Nat.le_trans hz5.out k6.size); clear k6 f6)
              go_meet
              exact ⟨none, pg, rfl, rfl, hz6, S6⟩
            · rw [show blI (some (b, p)) = (b : Int) from rfl]
              obtain rfl : pg = (p : Int) := S4.out.p rfl
              have hF := C'.out.fine S4.out.f b p rfl
              have hP32 : P ≤ 32 := by have := hF.1; unfold mayG at this; have := of_decide_eq_true this; omega
              have hpP := hF.2.2
              clear hF
              have hp1 : wrap64 ((p : Int) + 1) = ((p + 1 : Nat) : Int) := by rw [IntWalk.wrap64_in _ (by omega)]; omega
              have hc := Lib.hid (next_lit C'.out S4.out.b S4.out.f (b : Int) (p : Int) true rfl)
              have t0 : decide (0 ≤ (b : Int)) = true := decide_eq_true (by omega)
              go_wp2_with (go_at_call 11; (with_reducible refine hc.out.mono ?_); clear hc; rintro e w5 ⟨rfl, _, _, k5⟩; have S5 := Lib.hid (Std.below C'.out S4.out k5); have hz5 := Lib.hid (Nat.le_trans hz4.out k5.size); have d5 := Lib.hid (d4.out.below k5); clear k5 e0; have e0 := d5.out.c0)
              by_cases hl : (p : Int) + 1 < P
              · have hc := Lib.hid (take_lit C'.out S5.out.b (Nat.le_of_lt hgl.out) S5.out.f (b : Int) (p : Int) true (some (b, p + 1)) ⟨rfl, by unfold tkO; rw [if_pos ⟨rfl, hl⟩]; rfl⟩)
                have hq : ((p : Int) + 1 == P) = false := by simp; omega
                have hq2 : (wrap64 ((p : Int) + 1) == P) = false := by rw [hp1]; simp; omega
                replace hl := Lib.hid hl
                replace hpP := Lib.hid hpP
                replace hP32 := Lib.hid hP32
                go_wp2_with (go_at_call 12; (with_reducible refine hc.out.mono ?_); clear hc; rintro e w6 ⟨rfl, _, f6, k6⟩; have S6 := Lib.hid (Std.out C'.out S5.out k6 hgl.out (pg' := ((p + 1 : Nat) : Int)) f6 (fun h => rfl)); have hz6 := Lib.hid (Nat.le_trans hz5.out k6.size); have d6 := Lib.hid (d5.out.out k6 hdg.out); clear k6 f6 e0; have e0 := d6.out.c0; obtain ⟨c0, c1, c2, c3⟩ := S6.out.g.cells)
                go_meet
                exact ⟨(some (b, p + 1)), ((p + 1 : Nat) : Int), rfl, by first | rw [hp1] | go_num, hz6, S6⟩
              · have hc := Lib.hid (take_lit C'.out S5.out.b (Nat.le_of_lt hgl.out) S5.out.f (b : Int) (p : Int) true none ⟨rfl, by unfold tkO; rw [if_neg (fun h => hl h.2)]⟩)
                have hq : ((p : Int) + 1 == P) = true := by simp; omega
                have hq2 : (wrap64 ((p : Int) + 1) == P) = true := by rw [hp1]; simp; omega
                replace hl := Lib.hid hl
                replace hpP := Lib.hid hpP
                replace hP32 := Lib.hid hP32
                go_wp2_with (go_at_call 12; (with_reducible refine hc.out.mono ?_); clear hc; rintro e w6 ⟨rfl, _, f6, k6⟩; have S6 := Lib.hid (Std.out C'.out S5.out k6 hgl.out (pg' := ((p + 1 : Nat) : Int)) f6 (fun h => by cases h)); have hz6 := Lib.hid (Nat.le_trans hz5.out k6.size); have d6 := Lib.hid (d5.out.out k6 hdg.out); clear k6 f6 e0; have e0 := d6.out.c0; obtain ⟨c0, c1, c2, c3⟩ := S6.out.g.cells)
                go_meet
                exact ⟨none, ((p + 1 : Nat) : Int), rfl, by first | rw [hp1] | go_num, hz6, S6⟩
        · as_aux_lemma =>
            rcases o with _ | ⟨b, p⟩
            · rw [show blI none = -1 from rfl]
              have hc := Lib.hid (next_lit C'.out S4.out.b S4.out.f 0 0 false rfl)
              go_wp2_with (go_at_call 11; (with_reducible refine hc.out.mono ?_); clear hc; rintro e w5 ⟨rfl, _, _, k5⟩; have S5 := Lib.hid (Std.below C'.out S4.out k5); have hz5 := Lib.hid (Nat.le_trans hz4.out k5.size); have d5 := Lib.hid (d4.out.below k5); clear k5 e0; have e0 := d5.out.c0)
              have hc := Lib.hid (take_lit C'.out S5.out.b (Nat.le_of_lt hgl.out) S5.out.f 0 0 false none ⟨rfl, by unfold tkO; rw [if_neg (by simp)]⟩)
              go_wp2_with (go_at_call 12; (with_reducible refine hc.out.mono ?_); clear hc; rintro e w6 ⟨rfl, _, f6, k6⟩; have S6 := Lib.hid (Std.out C'.out S5.out k6 hgl.out (pg' := pg) f6 (fun h => by cases h)); have hz6 := Lib.hid (Nat.le_trans hz5.out k6.size); clear k6 f6)
              go_meet
              exact ⟨none, pg, rfl, rfl, hz6, S6⟩
            · rw [show blI (some (b, p)) = (b : Int) from rfl]
              obtain rfl : pg = (p : Int) := S4.out.p rfl
              have hF := C'.out.fine S4.out.f b p rfl
              have hP32 : P ≤ 32 := by have := hF.1; unfold mayG at this; have := of_decide_eq_true this; omega
              have hpP := hF.2.2
              clear hF
              have hp1 : wrap64 ((p : Int) + 1) = ((p + 1 : Nat) : Int) := by rw [IntWalk.wrap64_in _ (by omega)]; omega
              have hc := Lib.hid (next_lit C'.out S4.out.b S4.out.f (b : Int) (p : Int) true rfl)
              have t0 : decide (0 ≤ (b : Int)) = true := decide_eq_true (by omega)
              go_wp2_with (go_at_call 11; (with_reducible refine hc.out.mono ?_); clear hc; rintro e w5 ⟨rfl, _, _, k5⟩; have S5 := Lib.hid (Std.below C'.out S4.out k5); have hz5 := Lib.hid (Nat.le_trans hz4.out k5.size); have d5 := Lib.hid (d4.out.below k5); clear k5 e0; have e0 := d5.out.c0)
              by_cases hl : (p : Int) + 1 < P
              · have hc := Lib.hid (take_lit C'.out S5.out.b (Nat.le_of_lt hgl.out) S5.out.f (b : Int) (p : Int) true (some (b, p + 1)) ⟨rfl, by unfold tkO; rw [if_pos ⟨rfl, hl⟩]; rfl⟩)
                have hq : ((p : Int) + 1 == P) = false := by simp; omega
                have hq2 : (wrap64 ((p : Int) + 1) == P) = false := by rw [hp1]; simp; omega
                replace hl := Lib.hid hl
                replace hpP := Lib.hid hpP
                replace hP32 := Lib.hid hP32
                go_wp2_with (go_at_call 12; (with_reducible refine hc.out.mono ?_); clear hc; rintro e w6 ⟨rfl, _, f6, k6⟩; have S6 := Lib.hid (Std.out C'.out S5.out k6 hgl.out (pg' := ((p + 1 : Nat) : Int)) f6 (fun h => rfl)); have hz6 := Lib.hid (Nat.le_trans hz5.out k6.size); have d6 := Lib.hid (d5.out.out k6 hdg.out); clear k6 f6 e0; have e0 := d6.out.c0; obtain ⟨c0, c1, c2, c3⟩ := S6.out.g.cells)
                go_meet
                exact ⟨(some (b, p + 1)), ((p + 1 : Nat) : Int), rfl, by first | rw [hp1] | go_num, hz6, S6⟩
              · have hc := Lib.hid (take_lit C'.out S5.out.b (Nat.le_of_lt hgl.out) S5.out.f (b : Int) (p : Int) true none ⟨rfl, by unfold tkO; rw [if_neg (fun h => hl h.2)]⟩)
                have hq : ((p : Int) + 1 == P) = true := by simp; omega
                have hq2 : (wrap64 ((p : Int) + 1) == P) = true := by rw [hp1]; simp; omega
                replace hl := Lib.hid hl
                replace hpP := Lib.hid hpP
                replace hP32 := Lib.hid hP32
                go_wp2_with (go_at_call 12; (with_reducible refine hc.out.mono ?_); clear hc; rintro e w6 ⟨rfl, _, f6, k6⟩; have S6 := Lib.hid (Std.out C'.out S5.out k6 hgl.out (pg' := ((p + 1 : Nat) : Int)) f6 (fun h => by cases h)); have hz6 := Lib.hid (Nat.le_trans hz5.out k6.size); have d6 := Lib.hid (d5.out.out k6 hdg.out); clear k6 f6 e0; have e0 := d6.out.c0; obtain ⟨c0, c1, c2, c3⟩ := S6.out.g.cells)
                go_meet
                exact ⟨none, ((p + 1 : Nat) : Int), rfl, by first | rw [hp1] | go_num, hz6, S6⟩
        · as_aux_lemma =>
            rcases o with _ | ⟨b, p⟩
            · rw [show blI none = -1 from rfl]
              have hc := Lib.hid (next_lit C'.out S4.out.b S4.out.f 0 0 false rfl)
              go_wp2_with (go_at_call 11; (with_reducible refine hc.out.mono ?_); clear hc; rintro e w5 ⟨rfl, _, _, k5⟩; have S5 := Lib.hid (Std.below C'.out S4.out k5); have hz5 := Lib.hid (Nat.le_trans hz4.out k5.size); have d5 := Lib.hid (d4.out.below k5); clear k5 e0; have e0 := d5.out.c0)
              have hc := Lib.hid (take_lit C'.out S5.out.b (Nat.le_of_lt hgl.out) S5.out.f 0 0 false none ⟨rfl, by unfold tkO; rw [if_neg (by simp)]⟩)
              go_wp2_with (go_at_call 12; (with_reducible refine hc.out.mono ?_); clear hc; rintro e w6 ⟨rfl, _, f6, k6⟩; have S6 := Lib.hid (Std.out C'.out S5.out k6 hgl.out (pg' := pg) f6 (fun h => by cases h)); have hz6 := Lib.hid (Nat.le_trans hz5.out k6.size); clear k6 f6)
              go_meet
              exact ⟨none, pg, rfl, rfl, hz6, S6⟩
            · rw [show blI (some (b, p)) = (b : Int) from rfl]
              obtain rfl : pg = (p : Int) := S4.out.p rfl
              have hF := C'.out.fine S4.out.f b p rfl
              have hP32 : P ≤ 32 := by have := hF.1; unfold mayG at this; have := of_decide_eq_true this; omega
              have hpP := hF.2.2
              clear hF
              have hp1 : wrap64 ((p : Int) + 1) = ((p + 1 : Nat) : Int) := by rw [IntWalk.wrap64_in _ (by omega)]; omega
              have hc := Lib.hid (next_lit C'.out S4.out.b S4.out.f (b : Int) (p : Int) true rfl)
              have t0 : decide (0 ≤ (b : Int)) = true := decide_eq_true (by omega)
              go_wp2_with (go_at_call 11; (with_reducible refine hc.out.mono ?_); clear hc; rintro e w5 ⟨rfl, _, _, k5⟩; have S5 := Lib.hid (Std.below C'.out S4.out k5); have hz5 := Lib.hid (Nat.le_trans hz4.out k5.size); have d5 := Lib.hid (d4.out.below k5); clear k5 e0; have e0 := d5.out.c0)
              by_cases hl : (p : Int) + 1 < P
              · have hc := Lib.hid (take_lit C'.out S5.out.b (Nat.le_of_lt hgl.out) S5.out.f (b : Int) (p : Int) true (some (b, p + 1)) ⟨rfl, by unfold tkO; rw [if_pos ⟨rfl, hl⟩]; rfl⟩)
                have hq : ((p : Int) + 1 == P) = false := by simp; omega
                have hq2 : (wrap64 ((p : Int) + 1) == P) = false := by rw [hp1]; simp; omega
                replace hl := Lib.hid hl
                replace hpP := Lib.hid hpP
                replace hP32 := Lib.hid hP32
                go_wp2_with (go_at_call 12; (with_reducible refine hc.out.mono ?_); clear hc; rintro e w6 ⟨rfl, _, f6, k6⟩; have S6 := Lib.hid (Std.out C'.out S5.out k6 hgl.out (pg' := ((p + 1 : Nat) : Int)) f6 (fun h => rfl)); have hz6 := Lib.hid (Nat.le_trans hz5.out k6.size); have d6 := Lib.hid (d5.out.out k6 hdg.out); clear k6 f6 e0; have e0 := d6.out.c0; obtain ⟨c0, c1, c2, c3⟩ := S6.out.g.cells)
                go_meet
                exact ⟨(some (b, p + 1)), ((p + 1 : Nat) : Int), rfl, by first | rw [hp1] | go_num, hz6, S6⟩
              · have hc := Lib.hid (take_lit C'.out S5.out.b (Nat.le_of_lt hgl.out) S5.out.f (b : Int) (p : Int) true none ⟨rfl, by unfold tkO; rw [if_neg (fun h => hl h.2)]⟩)
                have hq : ((p : Int) + 1 == P) = true := by simp; omega
                have hq2 : (wrap64 ((p : Int) + 1) == P) = true := by rw [hp1]; simp; omega
                replace hl := Lib.hid hl
                replace hpP := Lib.hid hpP
                replace hP32 := Lib.hid hP32
                go_wp2_with (go_at_call 12; (with_reducible refine hc.out.mono ?_); clear hc; rintro e w6 ⟨rfl, _, f6, k6⟩; have S6 := Lib.hid (Std.out C'.out S5.out k6 hgl.out (pg' := ((p + 1 : Nat) : Int)) f6 (fun h => by cases h)); have hz6 := Lib.hid (Nat.le_trans hz5.out k6.size); have d6 := Lib.hid (d5.out.out k6 hdg.out); clear k6 f6 e0; have e0 := d6.out.c0; obtain ⟨c0, c1, c2, c3⟩ := S6.out.g.cells)
                go_meet
                exact ⟨none, ((p + 1 : Nat) : Int), rfl, by first | rw [hp1] | go_num, hz6, S6⟩
        · as_aux_lemma =>
            have hc := Lib.hid (shut_lit C'.out S4.out.b (Nat.le_of_lt hgl.out) S4.out.f (blI o) rfl)
            generalize blI o = bl at *
            go_wp2_with (go_at_call 13; (with_reducible refine hc.out.mono ?_); clear hc; rintro e w5 ⟨rfl, _, f5, k5⟩; have S5 := Lib.hid (Std.out C'.out S4.out k5 hgl.out (pg' := pg) f5 (fun h => by cases h)); have hz5 := Lib.hid (Nat.le_trans hz4.out k5.size); clear k5 f5)
            go_meet
            exact ⟨none, pg, rfl, rfl, hz5, S5⟩
        · as_aux_lemma =>
            go_wp2_with fail
            go_meet
            exact ⟨o, pg, rfl, rfl, hz4, S4⟩
      case rest =>
        obtain ⟨o2, pg2, rfl, rfl, hz5, S5⟩ := hcut
        clear S4 d4 hz4 e0
        obtain ⟨c0, c1, c2, c3⟩ := S5.out.g.cells
        rcases o2 with _ | ⟨b, p⟩
        · rw [show blI none = -1 from rfl]
          have hc := Lib.hid (block_lit C'.out S5.out.b S5.out.f (-1) rfl)
          go_wp2_with (go_at_call 14; (with_reducible refine hc.out.mono ?_); clear hc; rintro e w6 ⟨rfl, _, _, k6⟩; have S6 := Lib.hid (Std.below C'.out S5.out k6); have hz6 := Lib.hid (Nat.le_trans hz5.out k6.size); clear k6 c0 c1 c2 c3)
          have hc := Lib.hid (left_lit C'.out S6.out.b S6.out.f 0 rfl)
          go_wp2_with (go_at_call 15; (with_reducible refine hc.out.mono ?_); clear hc; rintro e w7 ⟨rfl, _, _, k7⟩; have S7 := Lib.hid (Std.below C'.out S6.out k7); have hz7 := Lib.hid (Nat.le_trans hz6.out k7.size); clear k7)
          go_roundw
          case rel => exact ⟨i + 1, none, pg2, rfl, rfl, by go_num, by omega, hz7, S7⟩
          case measure => simp [intOf] <;> omega
        · rw [show blI (some (b, p)) = (b : Int) from rfl]
          obtain rfl : pg2 = (p : Int) := S5.out.p rfl
          have hF := C'.out.fine S5.out.f b p rfl
          have hP32 : P ≤ 32 := by have := hF.1; unfold mayG at this; have := of_decide_eq_true this; omega
          have hpP := hF.2.2
          obtain ⟨X, hX0⟩ : ∃ X, P - (p : Int) = X := ⟨_, rfl⟩
          have hs1 : wrap64 (P - (p : Int)) = X := by rw [IntWalk.wrap64_in _ (by omega), hX0]
          have t0 : decide (0 ≤ (b : Int)) = true := decide_eq_true (by omega)
          clear hF
          replace hP32 := Lib.hid hP32
          replace hpP := Lib.hid hpP
          have hX := Lib.hid (show lfI P (some (b, p)) = X from hX0)
          clear hX0
          have hc := Lib.hid (block_lit C'.out S5.out.b S5.out.f (b : Int) rfl)
          go_wp2_with (go_at_call 14; (with_reducible refine hc.out.mono ?_); clear hc; rintro e w6 ⟨rfl, _, _, k6⟩; have S6 := Lib.hid (Std.below C'.out S5.out k6); have hz6 := Lib.hid (Nat.le_trans hz5.out k6.size); clear k6 c0 c1 c2 c3)
          have hc := Lib.hid (left_lit C'.out S6.out.b S6.out.f X hX.out)
          go_wp2_with (go_at_call 15; (with_reducible refine hc.out.mono ?_); clear hc; rintro e w7 ⟨rfl, _, _, k7⟩; have S7 := Lib.hid (Std.below C'.out S6.out k7); have hz7 := Lib.hid (Nat.le_trans hz6.out k7.size); clear k7)
          go_roundw
          case rel => exact ⟨i + 1, some (b, p), (p : Int), rfl, rfl, by go_num, by omega, hz7, S7⟩
          case measure => simp [intOf] <;> omega
    · obtain rfl : i = n := by omega
      have d1 : decide ((i : Int) < (i : Int)) = false := decide_eq_false (by omega)
      go_wp2_with fail
      go_ret
      exact ⟨rfl, S.out.b⟩
end Go.Proofs.Ytoofhldfgfndkaa.Fo
