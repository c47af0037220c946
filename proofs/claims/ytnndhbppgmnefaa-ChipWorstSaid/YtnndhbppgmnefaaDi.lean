/- The device: an operation, from its number to its end. -/
import Derived.Test.YtnndhbppgmnefaaDg
import Derived.Test.YtnndhbppgmnefaaZc
import Derived.WalkMore
import Derived.ScopeJumps
namespace Go.Proofs.Ytnndhbppgmnefaa
open Go.RowKit Go.Gf Go.Fl
set_option linter.unusedVariables false
set_option linter.unusedSimpArgs false
attribute [local go_sem ↓] Cl.quiet_after Cl.quiet_since
/-- a scope with one jump, forward, to a label -/
theorem scope_fwd {P : Program} {a : Act} {w : World} {Q : Exit → Act → World → Prop} {c rest : Code} (l : Nat) (hf : findLabel c l = some rest)
    (first : c.wp P (Exit.jump l (fun a' w' => rest.wp P (Exit.jump l (fun _ _ => False) Q) a' w') Q) a w) : (Code.scope c).wp P Q a w :=
  wp_scope_jumps l (fun a' w' => rest.wp P (Exit.jump l (fun _ _ => False) Q) a' w') (fun _ _ => 0) hf first
    (fun a' w' h => Code.wp_mono (fun e a'' w'' hq => by
      cases e with
      | goto l' => exact hq.2.elim
      | normal => exact hq
      | exit id => exact hq
      | ret => exact hq
      | panic ch => exact hq
      | outgrown => exact hq) h)
theorem jump_go {l : Nat} {J : Act → World → Prop} {Q : Exit → Act → World → Prop} {K : Act → World → Prop} {a : Act} {w : World} (h : J a w) : Exit.then K (Exit.jump l J Q) (.goto l) a w := ⟨rfl, h⟩
theorem jump_ret {l : Nat} {J : Act → World → Prop} {Q : Exit → Act → World → Prop} {a : Act} {w : World} : Exit.jump l J Q .ret a w = Q .ret a w := rfl
theorem FtIn.fts {w : World} {G : Nat → Prop} {p : Addr} {ts : List (Int × Int × Int)} (h : FtIn w G p ts) : Ft.Fts w p ts := by
  obtain ⟨g, A, c, ss, e, h1, h2, h3, h4, h5, h6⟩ := h
  exact ⟨g, A, c, ss, e, h1, h3, h4, h6⟩
section
variable {w : World} {F : Nat → Prop} {o : Nat → Nat} {L : Lay} {M : Dev}
theorem RepO.setOps (h : RepO w F o L M) (v : Nat) : RepO (w.setCell ⟨L.g, 6, none⟩ (.int .i64 (v : Int))) F o L { M with ops := v } := by
  refine h.own 6 (.int .i64 (v : Int)) { M with ops := v } rfl rfl rfl rfl rfl rfl rfl rfl rfl ?_ ?_ ?_ (by decide)
  · exact World.cell?_setCell_same _ _ _ h.g6
  · exact (World.cell?_setCell_other _ _ _ _ (by intro e; injection e; omega)).trans h.g7
  · exact (World.cell?_setCell_other _ _ _ _ (by intro e; injection e; omega)).trans h.g8
theorem RepO.setRf (h : RepO w F o L M) (v : Nat) : RepO (w.setCell ⟨L.g, 7, none⟩ (.int .i64 (v : Int))) F o L { M with rf := v } := by
  refine h.own 7 (.int .i64 (v : Int)) { M with rf := v } rfl rfl rfl rfl rfl rfl rfl rfl rfl ?_ ?_ ?_ (by decide)
  · exact (World.cell?_setCell_other _ _ _ _ (by intro e; injection e; omega)).trans h.g6
  · exact World.cell?_setCell_same _ _ _ h.g7
  · exact (World.cell?_setCell_other _ _ _ _ (by intro e; injection e; omega)).trans h.g8
theorem RepO.setDark (h : RepO w F o L M) (v : Bool) : RepO (w.setCell ⟨L.g, 8, none⟩ (.bool v)) F o L { M with dark := v } := by
  refine h.own 8 (.bool v) { M with dark := v } rfl rfl rfl rfl rfl rfl rfl rfl rfl ?_ ?_ ?_ (by decide)
  · exact (World.cell?_setCell_other _ _ _ _ (by intro e; injection e; omega)).trans h.g6
  · exact (World.cell?_setCell_other _ _ _ _ (by intro e; injection e; omega)).trans h.g7
  · exact World.cell?_setCell_same _ _ _ h.g8
end
set_option maxRecDepth 20000 in
set_option maxHeartbeats 4000000 in
theorem op_dark {w : World} {F : Nat → Prop} {o : Nat → Nat} {L : Lay} {M : Dev} (h : RepO w F o L M) (hd : M.dark = true) (k b p : Int) (A : Option Addr) (n c : Nat) :
    Calls Try.prog 29 #[.pointer (some ⟨L.g, 0, none⟩), .agg #[.int .i64 k, .int .i64 b, .int .i64 p, .slice A n c]] w fun e w' => e = .returned (.int .i64 8) ∧ Cl.Keeps (fun b' => ¬ F b') w w' ∧ Rep w' F L M := by
  have hA := below_alloc' w (.cells #[.int .i64 k, .int .i64 b, .int .i64 p, .slice A n c] 73)
  generalize hw1 : w.alloc (.cells #[.int .i64 k, .int .i64 b, .int .i64 p, .slice A n c] 73) = w1 at *
  have hA2 := hA.trans ((below_alloc' w1 (.cells #[.int .i64 0, .int .i64 0, .int .i64 0] 26)).mono hA.size)
  generalize hw2 : w1.alloc (.cells #[.int .i64 0, .int .i64 0, .int .i64 0] 26) = w2 at *
  have hr := h.below hA2
  have g8 := hr.g8
  rw [hd] at g8
  have gf := hr.gf 8
  have hend : Hid (Rep (w2.setCell ⟨L.g, 8, none⟩ (.bool true)) F L M) := Lib.hid ⟨o, by
    have := hr.setDark true
    have e : { M with dark := true } = M := by rw [← hd]
    rw [e] at this
    exact this⟩
  have hke : Hid (Cl.Keeps (fun b' => ¬ F b') w (w2.setCell ⟨L.g, 8, none⟩ (.bool true))) := keeps_put (Cl.Keeps.of_below hA2) (fun e => e hr.gt.1)
  clear hA h hr
  go_enter Try.func29, Try.ntmps29
  go_wp2_with fail
  refine scope_fwd 0 rfl ?_
  go_wp2_with fail
  go_step3
  refine jump_go ?_
  go_wp2_with fail
  rw [jump_ret]
  go_ret
  exact ⟨rfl, hke.out, hend.out⟩
/-- what befalls the next operation -/
def fateOf (M : Dev) : Int × Int × Int := Ft.atF M.ft M.ops M.ft.length
/-- an operation's error, and what it makes: E its own error, R what is carried out where there is none -/
def opR (M : Dev) (E : Int) (R : Int × Dev) : Int × Dev :=
  if E = 0 then (if (fateOf M).2.1 = 2 then (8, { R.2 with dark := true }) else R)
  else (E, if refB E = true then { M with ops := M.ops + 1, rf := M.rf + 1 } else { M with ops := M.ops + 1 })
theorem fate_bounds {w : World} {F : Nat → Prop} {o : Nat → Nat} {L : Lay} {M : Dev} (h : RepO w F o L M) : 0 ≤ (fateOf M).2.2 ∧ (fateOf M).2.2 ≤ 9223372036854775807 := by
  unfold fateOf
  by_cases he : ∃ y ∈ M.ft, y.1 = (M.ops : Int)
  · obtain ⟨y, hy, he⟩ := he
    rw [(Ft.at_some h.fm hy he).1]
    refine ⟨?_, h.fk y hy⟩
    have h1 := (Ft.mayF_iff.1 h.fm).2.1
    unfold Ft.badT at h1
    rw [List.any_eq_false] at h1
    obtain ⟨t, ht, rfl⟩ := Ft.mem_tAt hy
    have h2 := h1 t (List.mem_range.2 ht)
    have h3 : Ft.okT (Ft.tAt M.ft t) = true := by simpa using h2
    unfold Ft.okT at h3
    rw [decide_eq_true_eq] at h3
    exact h3.2.2.2
  · have hno : ∀ y ∈ M.ft, y.1 ≠ (M.ops : Int) := fun y hy e => he ⟨y, hy, e⟩
    rw [(Ft.at_none hno M.ft.length (Nat.le_refl _)).1]
    exact ⟨by decide, by decide⟩
set_option maxRecDepth 20000 in
set_option maxHeartbeats 8000000 in
theorem op_any {w : World} {F : Nat → Prop} {o : Nat → Nat} {L : Lay} {M : Dev} (h : RepO w F o L M) (hF : ∀ b, w.heap.size ≤ b → F b) (hd : M.dark = false) (hop : M.ops < 1000000000) (hrf : M.rf < 1000000000) (k b p : Int) (A : Option Addr) (n c : Nat) (E : Int) (R : Int × Dev)
    (hfa : ∀ w', Cl.Keeps (fun b => ¬ F b) w w' → RepO w' F o L { M with ops := M.ops + 1 } → Calls Try.prog 45 #[.pointer (some ⟨L.g, 0, none⟩), .agg #[.int .i64 k, .int .i64 b, .int .i64 p, .slice A n c]] w' (Ans w' (.int .i64 E)))
    (hca : E = 0 → ∀ w' F', Cl.Keeps (fun b => ¬ F b) w w' → (∀ b, F' b → F b) → (∀ b, w'.heap.size ≤ b → F' b) → RepO w' F' o L { M with ops := M.ops + 1 } → Calls Try.prog 47 #[.pointer (some ⟨L.g, 0, none⟩), .agg #[.int .i64 k, .int .i64 b, .int .i64 p, .slice A n c], .agg #[.int .i64 (fateOf M).1, .int .i64 (fateOf M).2.1, .int .i64 (fateOf M).2.2]] w' fun e w'' => e = .returned (.int .i64 R.1) ∧ Cl.Keeps (fun b' => ¬ F' b') w' w'' ∧ Rep w'' F' L R.2) :
    Calls Try.prog 29 #[.pointer (some ⟨L.g, 0, none⟩), .agg #[.int .i64 k, .int .i64 b, .int .i64 p, .slice A n c]] w fun e w' => e = .returned (.int .i64 (opR M E R).1) ∧ Cl.Keeps (fun b' => ¬ F b') w w' ∧ Rep w' F L (opR M E R).2 := by
  obtain ⟨Z, hZ⟩ : ∃ Z, Hid (opR M E R = Z) := ⟨_, Lib.hid rfl⟩
  rw [hZ.out]
  have og : o w.heap.size = 9 := h.new _ (Nat.le_refl _)
  have hA := below_alloc' w (.cells #[.int .i64 k, .int .i64 b, .int .i64 p, .slice A n c] 73)
  have hx := OBox.new w k b p A n c
  have hsz1 := World.size_alloc w (.cells #[.int .i64 k, .int .i64 b, .int .i64 p, .slice A n c] 73)
  generalize hw1 : w.alloc (.cells #[.int .i64 k, .int .i64 b, .int .i64 p, .slice A n c] 73) = w1 at *
  have hA1 := below_alloc' w1 (.cells #[.int .i64 0, .int .i64 0, .int .i64 0] 26)
  have og1 : o w1.heap.size = 9 := h.new _ hA.size
  have hA2 := hA.trans (hA1.mono hA.size)
  have hgf := heap_alloc_new w1 (.cells #[.int .i64 0, .int .i64 0, .int .i64 0] 26)
  have hgl : w1.heap.size < (w1.alloc (.cells #[.int .i64 0, .int .i64 0, .int .i64 0] 26)).heap.size := by rw [World.size_alloc]; omega
  generalize hw2 : w1.alloc (.cells #[.int .i64 0, .int .i64 0, .int .i64 0] 26) = w2 at *
  have hr := h.below hA2
  have hx2 := hx.keep hA1
  have g8 := hr.g8
  rw [hd] at g8
  have hne : w.heap.size ≠ w1.heap.size := by omega
  have hwl : w.heap.size ≤ w1.heap.size := by omega
  replace hA2 := Lib.hid hA2
  replace hr := Lib.hid hr
  replace hx2 := Lib.hid hx2
  replace hgf := Lib.hid hgf
  replace hfa := Lib.hid hfa
  replace hca := Lib.hid hca
  clear hA hA1 hx h hd hsz1
  go_enter Try.func29, Try.ntmps29
  go_wp2_with fail
  refine scope_fwd 0 rfl ?_
  go_wp2_with fail
  refine Cl.region_way0 (fun b => b ≠ w1.heap.size) 13 [(0, .r), (1, .r), (2, .r), (3, .r), (4, .r), (5, .r), (6, .r), (7, .r), (8, .c), (9, .r), (10, .r), (11, .r), (12, .c)] (by kernel_rfl) (by kernel_rfl) ?_
  intro w3 hk3
  have hb3 := hk3.below
  have hr3 := Lib.hid (hr.out.below hb3)
  have hx3 := Lib.hid (hx2.out.keep hb3)
  have hA3 := Lib.hid (hA2.out.trans (hb3.mono hA2.out.size))
  have hgf3 := Lib.hid ((hb3.block _ hgl).trans hgf.out)
  have hgl3 : w1.heap.size < w3.heap.size := Nat.lt_of_lt_of_le hgl hb3.size
  clear hr hx2 hA2 hgf hk3 hb3 g8
  have hLg : L.g ≠ w1.heap.size := fun e => by have := hr3.out.gt.2; rw [e, og1] at this; cases this
  have g5 := fun y : Cl.Since (fun b => b ≠ w1.heap.size) w3 => (World.cell?_of_block (a := ⟨L.g, 5, none⟩) (y.keeps.block _ hr3.out.gl hLg)).trans hr3.out.g5
  have g6 := fun y : Cl.Since (fun b => b ≠ w1.heap.size) w3 => (World.cell?_of_block (a := ⟨L.g, 6, none⟩) (y.keeps.block _ hr3.out.gl hLg)).trans hr3.out.g6
  have hat := Lib.hid (Ft.c_at (w := w3) hr3.out.ft.fts hr3.out.fm (M.ops : Int) (x := fateOf M) rfl (b := Ft.isF M.ft M.ops M.ft.length) rfl)
  generalize Ft.isF M.ft M.ops M.ft.length = isb at *
  iterate 8 (refine Cl.way_r rfl ?_; go_big_quiet_step (fail); refine wpQuiet_nil ?_)
  clear g5 g6
  refine Cl.way_c rfl ?_
  go_wp2_with (go_at_call 44; (with_reducible refine hat.out.mono ?_); rintro e w4 ⟨rfl, hb4⟩)
  refine Cl.way_on (Cl.Keeps.of_below hb4) ?_
  have hr4 := Lib.hid (hr3.out.below hb4)
  have hx4 := Lib.hid (hx3.out.keep hb4)
  have hA4 := Lib.hid (hA3.out.trans (hb4.mono hA3.out.size))
  have hgf4 := (hb4.block _ hgl3).trans hgf3.out
  have hgl4 : w1.heap.size < w4.heap.size := Nat.lt_of_lt_of_le hgl3 hb4.size
  clear hr3 hx3 hA3 hgf3 hat hb4
  have hbox : ∀ i, w4.cell? ⟨w1.heap.size, i, none⟩ = (#[.int .i64 0, .int .i64 0, .int .i64 0] : Array Value)[i]? := cell_of hgf4
  have hbf : ∀ i, w4.frozen? ⟨w1.heap.size, i, none⟩ = false := fun i => by simp [World.frozen?, hgf4]
  have b0 := hbox 0
  have b1 := hbox 1
  have b2 := hbox 2
  have f0 := hbf 0
  have f1 := hbf 1
  have f2 := hbf 2
  clear hbox hbf
  iterate 3 (refine Cl.way_r rfl ?_; go_big_quiet_step (fail); refine wpQuiet_nil ?_)
  refine Cl.way_c rfl ?_
  go_wp2_with fail
  refine Cl.way_on (keeps_put (keeps_put (keeps_put (Cl.Keeps.refl _ _) (by simp)) (by simp)) (by simp)) ?_
  refine Cl.way_end ?_
  have h5 := Ft.heap3 hgf4 (.int .i64 (fateOf M).1) (.int .i64 (fateOf M).2.1) (.int .i64 (fateOf M).2.2)
  have hk5 : Cl.Keeps (fun b => b ≠ w1.heap.size) w4 (((w4.setCell ⟨w1.heap.size, 0, none⟩ (.int .i64 (fateOf M).1)).setCell ⟨w1.heap.size, 1, none⟩ (.int .i64 (fateOf M).2.1)).setCell ⟨w1.heap.size, 2, none⟩ (.int .i64 (fateOf M).2.2)) := keeps_put (keeps_put (keeps_put (Cl.Keeps.refl _ _) (by simp)) (by simp)) (by simp)
  have hl5 : Below w.heap.size w4 (((w4.setCell ⟨w1.heap.size, 0, none⟩ (.int .i64 (fateOf M).1)).setCell ⟨w1.heap.size, 1, none⟩ (.int .i64 (fateOf M).2.1)).setCell ⟨w1.heap.size, 2, none⟩ (.int .i64 (fateOf M).2.2)) := (Ft.below3 _ _ _).mono hwl
  generalize (((w4.setCell ⟨w1.heap.size, 0, none⟩ (.int .i64 (fateOf M).1)).setCell ⟨w1.heap.size, 1, none⟩ (.int .i64 (fateOf M).2.1)).setCell ⟨w1.heap.size, 2, none⟩ (.int .i64 (fateOf M).2.2)) = w5 at *
  have c5 := cell_of h5
  have hf5 : Hid (FBox w5 w1.heap.size (fateOf M)) := ⟨Nat.lt_of_lt_of_le hgl4 hk5.size, c5 0, c5 1, c5 2⟩
  have hx5 := Lib.hid (hx4.out.block hk5.size (hk5.block _ hx4.out.lt hne))
  have hr5 := hr4.out.blockt hk5.size fun b hb _ h9 => hk5.block b hb fun e => h9 (by rw [e]; exact og1)
  have hA5 := hA4.out.trans hl5
  clear hr4 hx4 hA4 h5 hk5 hl5 c5 b0 b1 b2 f0 f1 f2 hgf4 hgl4 hgl3 hgl
  have g6 := hr5.g6
  have gf := hr5.gf 6
  have hw6 : wrap64 ((M.ops : Int) + 1) = (M.ops : Int) + 1 := IntWalk.wrap64_in _ (by omega)
  have hr6 := hr5.setOps (M.ops + 1)
  rw [show ((M.ops + 1 : Nat) : Int) = (M.ops : Int) + 1 from by simp] at hr6
  have hk6 : Cl.Keeps (fun b => ¬ F b) w (w5.setCell ⟨L.g, 6, none⟩ (.int .i64 ((M.ops : Int) + 1))) := keeps_put (Cl.Keeps.of_below hA5) (fun e => e hr5.gt.1)
  have hf6 := hf5.out.block (w' := w5.setCell ⟨L.g, 6, none⟩ (.int .i64 ((M.ops : Int) + 1))) (by simp [World.setCell]) (Below.heap_setCell _ _ _ _ (by show w1.heap.size ≠ L.g; omega))
  have hx6 := hx5.out.block (w' := w5.setCell ⟨L.g, 6, none⟩ (.int .i64 ((M.ops : Int) + 1))) (by simp [World.setCell]) (Below.heap_setCell _ _ _ _ (by show w.heap.size ≠ L.g; intro e; have := hr5.gt.2; rw [← e, og] at this; cases this))
  have hfa6 := hfa.out _ hk6 hr6
  have hfa6 := Lib.hid hfa6
  have hr6 := Lib.hid hr6
  have hk6 := Lib.hid hk6
  have hf6 := Lib.hid hf6
  obtain ⟨x6l, x60, x61, x62, x63⟩ := hx6
  have hx6 := Lib.hid (OBox.mk x6l x60 x61 x62 x63)
  clear hfa hr5 hf5 hx5 hA5
  go_wp2_with (go_at_call 45; (with_reducible refine hfa6.out.mono ?_))
  rintro e w7 ⟨rfl, hb7⟩
  clear hfa6 g6 gf hw6 x60 x61 x62 x63 x6l
  generalize hw6 : w5.setCell ⟨L.g, 6, none⟩ (.int .i64 ((M.ops : Int) + 1)) = w6 at *
  have hr7 := Lib.hid (hr6.out.below hb7)
  have hf7 := Lib.hid (hf6.out.keep hb7)
  have hx7 := Lib.hid (hx6.out.keep hb7)
  have hk7 := Lib.hid (hk6.out.trans (Cl.Keeps.of_below hb7))
  clear hr6 hf6 hx6 hk6 hb7 hw6 hw1 hw2
  have hrE := Lib.hid (refusal_any E w7)
  have hF7 : Hid (∀ b, w7.heap.size ≤ b → F b) := fun b hb => hF b (Nat.le_trans hk7.out.size hb)
  by_cases hE : E = 0
  · subst hE
    have hcc := hca.out rfl w7 (fun b => F b ∧ b ≠ w1.heap.size) hk7.out (fun b h => h.1) (fun b hb => ⟨hF7.out b hb, by have := hf7.out.lt; omega⟩) (hr7.out.only fun b hb h1 h2 => ⟨h1, fun e => h2 (by rw [e]; exact og1)⟩)
    obtain ⟨_, f0, f1, f2⟩ := hf7.out
    obtain ⟨_, c0, c1, c2, c3⟩ := hx7.out
    replace hcc := Lib.hid hcc
    have hrf0 : refB 0 = false := rfl
    rw [hrf0] at hrE
    clear hca hx7 hrf0
    go_wp2_with (first
      | (go_at_call 46; (with_reducible refine hrE.out.mono ?_); rintro e w8 ⟨rfl, rfl⟩)
      | (go_at_call 47; (with_reducible refine hcc.out.mono ?_)))
    rintro e w8 ⟨rfl, hk8, hr8⟩
    have hf8 := hf7.out.block hk8.size (hk8.block _ hf7.out.lt (fun e => e.2 rfl))
    have hk9 : Cl.Keeps (fun b => ¬ F b) w w8 := hk7.out.trans (Cl.keeps_of hk8 fun b hb e => hb e.1)
    have hr9 : Rep w8 F L R.2 := by
      obtain ⟨o', hr8⟩ := hr8
      exact ⟨o', hr8.only fun b _ hh _ => hh.1⟩
    obtain ⟨_, f0, f1, f2⟩ := hf8
    replace hk9 := Lib.hid hk9
    clear hcc hk8 hr8 hf7 hr7 hk7 c0 c1 c2 c3
    by_cases h2 : (fateOf M).2.1 = 2
    · obtain rfl : (8, { R.2 with dark := true }) = Z := by rw [← hZ.out]; unfold opR; rw [if_pos rfl, if_pos h2]
      rw [h2] at f1
      obtain ⟨o', hr9⟩ := hr9
      have g8 := hr9.g8
      have gf := hr9.gf 8
      have hend : Hid (Rep (w8.setCell ⟨L.g, 8, none⟩ (.bool true)) F L { R.2 with dark := true }) := Lib.hid ⟨o', hr9.setDark true⟩
      have hke : Hid (Cl.Keeps (fun b' => ¬ F b') w (w8.setCell ⟨L.g, 8, none⟩ (.bool true))) := keeps_put hk9.out (fun e => e hr9.gt.1)
      clear hr9 hZ
      go_wp2_with fail
      go_step3
      refine jump_go ?_
      go_wp2_with fail
      rw [jump_ret]
      go_ret
      exact ⟨rfl, hke.out, hend.out⟩
    · obtain rfl : R = Z := by rw [← hZ.out]; unfold opR; rw [if_pos rfl, if_neg h2]
      have e2 : ((fateOf M).2.1 == 2) = false := by simpa using h2
      replace hr9 := Lib.hid hr9
      clear hZ
      go_wp2_with fail
      rw [jump_ret]
      go_ret
      exact ⟨rfl, hk9.out, hr9.out⟩
  · have e1 : (E != 0) = true := by simpa using hE
    cases hB : refB E
    · obtain rfl : (E, { M with ops := M.ops + 1 }) = Z := by rw [← hZ.out]; unfold opR; rw [if_neg hE, hB]; rfl
      rw [hB] at hrE
      have hrr : Hid (Rep w7 F L { M with ops := M.ops + 1 }) := Lib.hid ⟨o, hr7.out⟩
      clear hZ hca hx7 hf7 hr7
      go_wp2_with (first
        | (go_at_call 46; (with_reducible refine hrE.out.mono ?_); rintro e w8 ⟨rfl, rfl⟩))
      rw [jump_ret]
      go_ret
      exact ⟨rfl, hk7.out, hrr.out⟩
    · obtain rfl : (E, { M with ops := M.ops + 1, rf := M.rf + 1 }) = Z := by rw [← hZ.out]; unfold opR; rw [if_neg hE, hB]; rfl
      rw [hB] at hrE
      have g7 := hr7.out.g7
      have gf := hr7.out.gf 7
      have hw7 : wrap64 ((M.rf : Int) + 1) = (M.rf : Int) + 1 := IntWalk.wrap64_in _ (by omega)
      have hend : Hid (Rep (w7.setCell ⟨L.g, 7, none⟩ (.int .i64 ((M.rf : Int) + 1))) F L { M with ops := M.ops + 1, rf := M.rf + 1 }) := Lib.hid ⟨o, by
        have := hr7.out.setRf (M.rf + 1)
        rw [show ((M.rf + 1 : Nat) : Int) = (M.rf : Int) + 1 from by simp] at this
        exact this⟩
      have hke : Hid (Cl.Keeps (fun b' => ¬ F b') w (w7.setCell ⟨L.g, 7, none⟩ (.int .i64 ((M.rf : Int) + 1)))) := keeps_put hk7.out (fun e => e hr7.out.gt.1)
      clear hZ hca hx7 hf7 hr7
      go_wp2_with (first
        | (go_at_call 46; (with_reducible refine hrE.out.mono ?_); rintro e w8 ⟨rfl, rfl⟩))
      rw [jump_ret]
      go_ret
      exact ⟨rfl, hke.out, hend.out⟩
end Go.Proofs.Ytnndhbppgmnefaa
/- The device: its operations, by their names: Program, Erase, Mark. -/
namespace Go.Proofs.Ytnndhbppgmnefaa
open Go.RowKit Go.Gf Go.Fl
set_option linter.unusedVariables false
set_option linter.unusedSimpArgs false
/-- an operation on a page that there is: its answer, and what it makes -/
def stepD (M : Dev) (k : Int) (b p : Nat) (xs : List Nat) : Int × Dev :=
  if M.dark = true then (8, M) else opR M (faultE M k b p) (carryR { M with ops := M.ops + 1 } k b p xs (fateOf M))
/-- an operation on a page that there is not -/
def stepN (M : Dev) : Int × Dev := if M.dark = true then (8, M) else (1, { M with ops := M.ops + 1, rf := M.rf + 1 })
theorem progE_zero {M : Dev} {b p : Nat} (hp : p < M.P) (h : progE M b p = 0) : (M.pg b p).st = 0 := by
  unfold progE at h
  split at h
  · cases h
  · split at h
    · cases h
    · rename_i h1
      have h2 : nextB M b p = true := by simpa using h1
      unfold nextB at h2
      rw [Bool.and_eq_true] at h2
      have := List.all_eq_true.1 h2.1 p (List.mem_range.2 hp)
      exact of_decide_eq_true this (Nat.le_refl _)
theorem keeps_sl {w w' : World} {F : Nat → Prop} {A : Option Addr} {xs : List Nat} (h : Sl w w.heap.size A xs) (hA : ∀ a, A = some a → a.block < w.heap.size ∧ ¬ F a.block) (hk : Cl.Keeps (fun b => ¬ F b) w w') : Sl w' w'.heap.size A xs :=
  h.block hk.size fun a e hl => hk.block _ hl (hA a e).2
/-- how great a device's numbers may be -/
structure Fine (M : Dev) : Prop where
  ops : M.ops < 1000000000
  rf : M.rf < 1000000000
  er : ∀ b, M.er b < 1000000
/-- symbols that are handed in: as many as a page has cells -/
structure Given (w : World) (F : Nat → Prop) (A : Option Addr) (n c : Nat) (xs : List Nat) (M : Dev) : Prop where
  sl : Sl w w.heap.size A xs
  out : ∀ a, A = some a → a.block < w.heap.size ∧ ¬ F a.block
  len : xs.length = n
  all : n = M.n
  cap : n ≤ c
  sym : ∀ x ∈ xs, x < 1024
theorem operate_any {w : World} {F : Nat → Prop} {L : Lay} {M : Dev} (h : Rep w F L M) (hF : ∀ b, w.heap.size ≤ b → F b) (hf : Fine M) (k : Int) {b p : Nat} (hb : b < M.B) (hp : p < M.P) (A : Option Addr) (n c : Nat) {xs : List Nat} (hs : k = 2 → Given w F A n c xs M) :
    Calls Try.prog 29 #[.pointer (some ⟨L.g, 0, none⟩), .agg #[.int .i64 k, .int .i64 (b : Int), .int .i64 (p : Int), .slice A n c]] w fun e w' => e = .returned (.int .i64 (stepD M k b p xs).1) ∧ Cl.Keeps (fun b' => ¬ F b') w w' ∧ Rep w' F L (stepD M k b p xs).2 := by
  obtain ⟨o, h⟩ := h
  unfold stepD
  by_cases hd : M.dark = true
  · rw [if_pos hd]
    exact op_dark h hd k b p A n c
  · rw [if_neg hd]
    refine op_any h hF (by simpa using hd) hf.ops hf.rf k b p A n c (faultE M k b p) (carryR { M with ops := M.ops + 1 } k b p xs (fateOf M)) (fun w' hk hr => ?_) (fun hE w' F' hk hFF hF' hr => ?_)
    · exact fault_yes hr k (M := { M with ops := M.ops + 1 }) hb hp A n c (xs := xs) fun e => ⟨keeps_sl (hs e).sl (hs e).out hk, (hs e).len, (hs e).all, (hs e).sym⟩
    · refine carry_any hr hF' k (M := { M with ops := M.ops + 1 }) hb hp (hf.er b) A n c (xs := xs) (fun e => ?_) (fateOf M) (fate_bounds h)
      have he := hs e
      subst e
      refine ⟨progE_zero hp hE, keeps_sl he.sl he.out hk, fun a ea => ⟨Nat.lt_of_lt_of_le (he.out a ea).1 hk.size, fun hh => (he.out a ea).2 (hFF _ hh)⟩, he.len, he.all, he.cap, he.sym⟩
theorem operate_no {w : World} {F : Nat → Prop} {L : Lay} {M : Dev} (h : Rep w F L M) (hF : ∀ b, w.heap.size ≤ b → F b) (hf : Fine M) (k b p : Int) (hn : ¬ (0 ≤ b ∧ b < (M.B : Int) ∧ 0 ≤ p ∧ p < (M.P : Int))) (A : Option Addr) (n c : Nat) :
    Calls Try.prog 29 #[.pointer (some ⟨L.g, 0, none⟩), .agg #[.int .i64 k, .int .i64 b, .int .i64 p, .slice A n c]] w fun e w' => e = .returned (.int .i64 (stepN M).1) ∧ Cl.Keeps (fun b' => ¬ F b') w w' ∧ Rep w' F L (stepN M).2 := by
  obtain ⟨o, h⟩ := h
  unfold stepN
  by_cases hd : M.dark = true
  · rw [if_pos hd]
    exact op_dark h hd k b p A n c
  · rw [if_neg hd]
    exact op_any h hF (by simpa using hd) hf.ops hf.rf k b p A n c 1 (0, M) (fun w' hk hr => fault_no hr k b p A n c (isN_no (M := M) hn)) (fun hE => absurd hE (by decide))
/-- what an operation of the device leaves -/
def Did (w : World) (F : Nat → Prop) (c : Addr) (r : Int × Dev) (e : Ending) (w' : World) : Prop := e = .returned (.int .i64 r.1) ∧ Cl.Keeps (fun b => ¬ F b) w w' ∧ Chip w' F c r.2
section
variable {w : World} {F : Nat → Prop} {a : Addr} {M : Dev}
set_option maxHeartbeats 1000000 in
theorem d_program (h : Chip w F a M) (hF : ∀ b, w.heap.size ≤ b → F b) (hf : Fine M) {b p : Nat} (hb : b < M.B) (hp : p < M.P) {A : Option Addr} {n c : Nat} {xs : List Nat} (hs : Given w F A n c xs M) :
    Calls Try.prog 10 #[.pointer (some a), .int .i64 (b : Int), .int .i64 (p : Int), .slice A n c] w (Did w F a (stepD M 2 b p xs)) := by
  obtain ⟨L, rfl, h⟩ := h
  have ho := Lib.hid (operate_any h hF hf 2 hb hp A n c (xs := xs) fun _ => hs)
  clear h hF hf hs hb hp
  generalize stepD M 2 b p xs = R at *
  go_enter Try.func10, Try.ntmps10
  go_wp2_with (go_at_call 29; (with_reducible refine ho.out.mono ?_); rintro e w2 ⟨rfl, hk2, hr2⟩)
  go_ret
  exact ⟨rfl, hk2, L, rfl, hr2⟩
theorem d_erase (h : Chip w F a M) (hF : ∀ b, w.heap.size ≤ b → F b) (hf : Fine M) {b : Nat} (hb : b < M.B) (hp : 0 < M.P) :
    Calls Try.prog 11 #[.pointer (some a), .int .i64 (b : Int)] w (Did w F a (stepD M 3 b 0 [])) := by
  obtain ⟨L, rfl, h⟩ := h
  have ho := operate_any h hF hf 3 hb hp none 0 0 (xs := []) fun e => absurd e (by decide)
  rw [Int.natCast_zero] at ho
  replace ho := Lib.hid ho
  clear h hF hf hb hp
  generalize stepD M 3 b 0 [] = R at *
  go_enter Try.func11, Try.ntmps11
  go_wp2_with (go_at_call 29; (with_reducible refine ho.out.mono ?_); rintro e w2 ⟨rfl, hk2, hr2⟩)
  go_ret
  exact ⟨rfl, hk2, L, rfl, hr2⟩
theorem d_erase_no (h : Chip w F a M) (hF : ∀ b, w.heap.size ≤ b → F b) (hf : Fine M) {b : Int} (hn : ¬ (0 ≤ b ∧ b < (M.B : Int))) :
    Calls Try.prog 11 #[.pointer (some a), .int .i64 b] w (Did w F a (stepN M)) := by
  obtain ⟨L, rfl, h⟩ := h
  have ho := Lib.hid (operate_no h hF hf 3 b 0 (fun e => hn ⟨e.1, e.2.1⟩) none 0 0)
  clear h hF hf hn
  generalize stepN M = R at *
  go_enter Try.func11, Try.ntmps11
  go_wp2_with (go_at_call 29; (with_reducible refine ho.out.mono ?_); rintro e w2 ⟨rfl, hk2, hr2⟩)
  go_ret
  exact ⟨rfl, hk2, L, rfl, hr2⟩
theorem d_mark (h : Chip w F a M) (hF : ∀ b, w.heap.size ≤ b → F b) (hf : Fine M) {b : Nat} (hb : b < M.B) (hp : 0 < M.P) :
    Calls Try.prog 15 #[.pointer (some a), .int .i64 (b : Int)] w (Did w F a (stepD M 4 b 0 [])) := by
  obtain ⟨L, rfl, h⟩ := h
  have ho := operate_any h hF hf 4 hb hp none 0 0 (xs := []) fun e => absurd e (by decide)
  rw [Int.natCast_zero] at ho
  replace ho := Lib.hid ho
  clear h hF hf hb hp
  generalize stepD M 4 b 0 [] = R at *
  go_enter Try.func15, Try.ntmps15
  go_wp2_with (go_at_call 29; (with_reducible refine ho.out.mono ?_); rintro e w2 ⟨rfl, hk2, hr2⟩)
  go_ret
  exact ⟨rfl, hk2, L, rfl, hr2⟩
end
end Go.Proofs.Ytnndhbppgmnefaa
