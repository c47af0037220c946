/- ScanTies walked, for whatever has scan's contracts. · A law of chapter 18, as its shell asks for it, for whatever has scan's contracts: mkT.sh's THM is '(Sc.ties_row Sc.the_scan)'. -/
import Derived.Test.YtjhoecfhmndcgaaGreatV45
import Derived.Laws.Rows
namespace Go.Proofs.YtjhoecfhmndcgaaGreat.Sc
open Go.RowKit Go.Gf Go.Fl
set_option linter.unusedVariables false
set_option linter.unusedSimpArgs false
set_option maxRecDepth 20000
attribute [local go_sem ↓] Cl.quiet_since
theorem sizeFd : (Tryz.prog.info? 29).map (·.size) = some 5 := by kernel_rfl
/-- block g is what was found, once -/
def B5 (w : World) (g : Nat) (x : Fnd) : Prop := w.heap[g]? = some (.cells #[.int .i64 x.pg, .int .i64 x.kd, .int .i64 x.lp, .int .i64 x.sq, .int .i64 x.wr] 29 (0, 0))
theorem results_fd {fn : Func} {t g : Nat} {w : World} {x : Fnd} {tmps : Array Value} (h : fn.results = #[.cell t 29]) (hp : tmps.getD t undef = .pointer (some ⟨g, 0, none⟩)) (hm : B5 w g x) :
    (results fn tmps).run Tryz.prog w = .ok (fV x) w := results_cell_row h tmps w g _ _ _ _ hp hm Tryz.underlying29 rfl sizeFd
set_option maxHeartbeats 1000000 in
theorem at_fd (p l s : Int) (w : World) : Calls Tryz.prog 21 #[.int .i64 p, .int .i64 l, .int .i64 s] w (We.Ans w (fV ⟨p, 1, l, s, 0⟩)) := by
  have hb := We.below_alloc w (.cells #[.int .i64 p, .int .i64 1, .int .i64 l, .int .i64 s, .int .i64 0] 29)
  have hm : B5 (w.alloc (.cells #[.int .i64 p, .int .i64 1, .int .i64 l, .int .i64 s, .int .i64 0] 29)) w.heap.size ⟨p, 1, l, s, 0⟩ := heap_alloc_new w _
  go_enter Tryz.func21, Tryz.ntmps21
  go_wp2_with fail
  exact bodyPost_ret (results_fd rfl rfl hm) rfl ⟨rfl, hb⟩
def tiL : List Fnd := [⟨9, 1, 2, 5, 0⟩, ⟨3, 1, 2, 5, 0⟩, ⟨4, 1, 2, 4, 0⟩, ⟨1, 1, 0, 7, 0⟩, ⟨7, 1, 0, 8, 0⟩]
def tiM : List Fnd := [⟨7, 1, 0, 8, 0⟩, ⟨3, 1, 2, 5, 0⟩]
theorem ti_is : LatIs tiL tiM := by
  refine ⟨fun x hx => ?_, fun x hx => ?_, ?_⟩
  · simp only [tiM, tiL, List.mem_cons, List.not_mem_nil, or_false] at hx ⊢
    rcases hx with rfl | rfl <;> simp
  · simp only [tiL, List.mem_cons, List.not_mem_nil, or_false] at hx
    rcases hx with rfl | rfl | rfl | rfl | rfl
    · exact ⟨_, List.mem_cons_of_mem _ List.mem_cons_self, rfl, by unfold better; simp⟩
    · exact ⟨_, List.mem_cons_of_mem _ List.mem_cons_self, rfl, by unfold better; simp⟩
    · exact ⟨_, List.mem_cons_of_mem _ List.mem_cons_self, rfl, by unfold better; simp⟩
    · exact ⟨_, List.mem_cons_self, rfl, by unfold better; simp⟩
    · exact ⟨_, List.mem_cons_self, rfl, by unfold better; simp⟩
  · unfold tiM; simp
theorem ti_tie : ∀ x ∈ tiL, ∀ y ∈ tiL, x.lp = y.lp → x.sq = y.sq → x.pg = y.pg → x = y := by
  intro x hx y hy
  simp only [tiL, List.mem_cons, List.not_mem_nil, or_false] at hx hy
  rcases hx with rfl | rfl | rfl | rfl | rfl <;> rcases hy with rfl | rfl | rfl | rfl | rfl <;> simp
theorem lat_nil {m : List Fnd} (h : LatIs [] m) : m = [] := by
  cases m with
  | nil => rfl
  | cons x xs => have := h.mem x List.mem_cons_self; cases this
theorem ti_great (C : SC) {w : World} {A : Option Addr} {c : Nat} (h : FS w w.heap.size A tiM) : Calls Tryz.prog 10 #[.slice A 2 c] w (We.Ans w (.int .i64 8)) := C.greatest h rfl (by decide) (by decide)
theorem no_great (C : SC) (w : World) : Calls Tryz.prog 10 #[.slice none 0 0] w (We.Ans w (.int .i64 (-1))) := C.greatest (l := []) (FS.nil _ _ _) rfl (by decide) (by simp)
set_option maxHeartbeats 8000000 in
theorem ties_law (C : SC) (w : World) : Calls Tryz.prog 5 #[] w (We.Ans w (.bool true)) := by
  have ha := Lib.hid (awake_any C w)
  have hat := Lib.hid at_fd
  unfold fV at hat
  have C' := Lib.hid C
  clear C
  go_enter Tryz.func5, Tryz.ntmps5
  go_wp2_with (go_at_call 8; (with_reducible refine ha.out.mono ?_); clear ha; rintro e w1 ⟨rfl, hB⟩; replace hB := Lib.hid hB)
  go_wp2_with (go_at_call 21; (with_reducible refine (hat.out _ _ _ _).mono ?_); rintro e w2 ⟨rfl, hb⟩; replace hB := Lib.hid (We.below_trans hB.out hb); clear hb)
  have hb3 := We.below_alloc w2 (.cells #[.int .i64 9, .int .i64 1, .int .i64 2, .int .i64 5, .int .i64 0, .int .i64 3, .int .i64 1, .int .i64 2, .int .i64 5, .int .i64 0, .int .i64 4, .int .i64 1, .int .i64 2, .int .i64 4, .int .i64 0, .int .i64 1, .int .i64 1, .int .i64 0, .int .i64 7, .int .i64 0, .int .i64 7, .int .i64 1, .int .i64 0, .int .i64 8, .int .i64 0] 29)
  have f3 : FS (w2.alloc (.cells #[.int .i64 9, .int .i64 1, .int .i64 2, .int .i64 5, .int .i64 0, .int .i64 3, .int .i64 1, .int .i64 2, .int .i64 5, .int .i64 0, .int .i64 4, .int .i64 1, .int .i64 2, .int .i64 4, .int .i64 0, .int .i64 1, .int .i64 1, .int .i64 0, .int .i64 7, .int .i64 0, .int .i64 7, .int .i64 1, .int .i64 0, .int .i64 8, .int .i64 0] 29)) (w2.alloc (.cells #[.int .i64 9, .int .i64 1, .int .i64 2, .int .i64 5, .int .i64 0, .int .i64 3, .int .i64 1, .int .i64 2, .int .i64 5, .int .i64 0, .int .i64 4, .int .i64 1, .int .i64 2, .int .i64 4, .int .i64 0, .int .i64 1, .int .i64 1, .int .i64 0, .int .i64 7, .int .i64 0, .int .i64 7, .int .i64 1, .int .i64 0, .int .i64 8, .int .i64 0] 29)).heap.size (some ⟨w2.heap.size, 0, none⟩) tiL := FS.made w2 tiL 29
  replace hB := Lib.hid (We.below_trans hB.out hb3)
  have hc := Lib.hid (C'.out.latest (n := 5) (c := 5) f3 rfl (by decide))
  clear hb3 f3
  generalize w2.alloc (.cells #[.int .i64 9, .int .i64 1, .int .i64 2, .int .i64 5, .int .i64 0, .int .i64 3, .int .i64 1, .int .i64 2, .int .i64 5, .int .i64 0, .int .i64 4, .int .i64 1, .int .i64 2, .int .i64 4, .int .i64 0, .int .i64 1, .int .i64 1, .int .i64 0, .int .i64 7, .int .i64 0, .int .i64 7, .int .i64 1, .int .i64 0, .int .i64 8, .int .i64 0] 29) = w3 at *
  go_wp2_with (go_at_call 9; (with_reducible refine hc.out.mono ?_); clear hc; rintro e w4 ⟨A, c4, m, rfl, hb4, hm, f4, _⟩; replace hB := Lib.hid (We.below_trans hB.out hb4); clear hb4)
  obtain rfl : m = tiM := hm.uniq ti_is (fun _ => Iff.rfl) ti_tie
  clear hm
  rw [show tiM.length = 2 from rfl]
  refine Cl.region_way (fun _ => True) 33 [(0, .r), (1, .r), (2, .r), (3, .r), (4, .r), (5, .r), (6, .r), (7, .r), (8, .c), (9, .r), (10, .r), (11, .r), (12, .r), (13, .r), (14, .r), (15, .r), (16, .c), (17, .r), (18, .r), (19, .r), (20, .r), (21, .c), (22, .r), (23, .r), (24, .r), (25, .c), (26, .r), (27, .r), (28, .r), (29, .c), (30, .r), (31, .r), (32, .r), (33, .z)] (by kernel_rfl) (by kernel_rfl) ?_
  intro w5 hk5
  have B5 := Lib.hid (We.below_trans hB.out hk5.below)
  have f5 := Lib.hid (FS.far f4 hk5.below)
  clear hk5 f4 hB
  obtain ⟨a, rfl, hal, _⟩ := f5.out.head
  have q5 := Lib.hid (fun z : Cl.Since (fun _ => True) w5 => FS.far f5.out z.keeps.below)
  have t0 : ∀ z : Cl.Since (fun _ => True) w5, z.w.cell? a = some (.int .i64 7) := fun z => by obtain ⟨a', e, _, q0, q1, q2, q3, q4⟩ := (q5.out z).head; cases e; exact q0
  have t1 : ∀ z : Cl.Since (fun _ => True) w5, z.w.cell? ⟨a.block, a.off + 1, none⟩ = some (.int .i64 1) := fun z => by obtain ⟨a', e, _, q0, q1, q2, q3, q4⟩ := (q5.out z).head; cases e; exact q1
  have t2 : ∀ z : Cl.Since (fun _ => True) w5, z.w.cell? ⟨a.block, a.off + 2, none⟩ = some (.int .i64 0) := fun z => by obtain ⟨a', e, _, q0, q1, q2, q3, q4⟩ := (q5.out z).head; cases e; exact q2
  have t3 : ∀ z : Cl.Since (fun _ => True) w5, z.w.cell? ⟨a.block, a.off + 3, none⟩ = some (.int .i64 8) := fun z => by obtain ⟨a', e, _, q0, q1, q2, q3, q4⟩ := (q5.out z).head; cases e; exact q3
  have t4 : ∀ z : Cl.Since (fun _ => True) w5, z.w.cell? ⟨a.block, a.off + 4, none⟩ = some (.int .i64 0) := fun z => by obtain ⟨a', e, _, q0, q1, q2, q3, q4⟩ := (q5.out z).head; cases e; exact q4
  clear q5
  iterate 8 (refine Cl.way_r rfl ?_; go_big_quiet_step (fail); refine wpQuiet_nil ?_)
  clear t0 t1 t2 t3 t4
  refine Cl.way_c rfl ?_
  go_wp2_with (go_at_call 21; (with_reducible refine (hat.out _ _ _ _).mono ?_); rintro e w6 ⟨rfl, hb6⟩)
  refine Cl.way_on (Cl.Keeps.of_below hb6) ?_
  have B6 := Lib.hid (We.below_trans B5.out hb6)
  have f6 := Lib.hid (FS.far f5.out hb6)
  clear hb6 f5 B5
  have q6 := Lib.hid (fun z : Cl.Since (fun _ => True) w6 => FS.far f6.out z.keeps.below)
  have t0 : ∀ z : Cl.Since (fun _ => True) w6, z.w.cell? ⟨a.block, a.off + 5, none⟩ = some (.int .i64 3) := fun z => by obtain ⟨a', e, _, q0, q1, q2, q3, q4⟩ := (q6.out z).at_ (i := 1) (by decide); cases e; (rw [show 1 * 5 = 5 from rfl, We.add_pos a 5 (by decide)] at q0 q1 q2 q3 q4); exact q0
  have t1 : ∀ z : Cl.Since (fun _ => True) w6, z.w.cell? ⟨a.block, a.off + 5 + 1, none⟩ = some (.int .i64 1) := fun z => by obtain ⟨a', e, _, q0, q1, q2, q3, q4⟩ := (q6.out z).at_ (i := 1) (by decide); cases e; (rw [show 1 * 5 = 5 from rfl, We.add_pos a 5 (by decide)] at q0 q1 q2 q3 q4); exact q1
  have t2 : ∀ z : Cl.Since (fun _ => True) w6, z.w.cell? ⟨a.block, a.off + 5 + 2, none⟩ = some (.int .i64 2) := fun z => by obtain ⟨a', e, _, q0, q1, q2, q3, q4⟩ := (q6.out z).at_ (i := 1) (by decide); cases e; (rw [show 1 * 5 = 5 from rfl, We.add_pos a 5 (by decide)] at q0 q1 q2 q3 q4); exact q2
  have t3 : ∀ z : Cl.Since (fun _ => True) w6, z.w.cell? ⟨a.block, a.off + 5 + 3, none⟩ = some (.int .i64 5) := fun z => by obtain ⟨a', e, _, q0, q1, q2, q3, q4⟩ := (q6.out z).at_ (i := 1) (by decide); cases e; (rw [show 1 * 5 = 5 from rfl, We.add_pos a 5 (by decide)] at q0 q1 q2 q3 q4); exact q3
  have t4 : ∀ z : Cl.Since (fun _ => True) w6, z.w.cell? ⟨a.block, a.off + 5 + 4, none⟩ = some (.int .i64 0) := fun z => by obtain ⟨a', e, _, q0, q1, q2, q3, q4⟩ := (q6.out z).at_ (i := 1) (by decide); cases e; (rw [show 1 * 5 = 5 from rfl, We.add_pos a 5 (by decide)] at q0 q1 q2 q3 q4); exact q4
  clear q6
  iterate 7 (refine Cl.way_r rfl ?_; go_big_quiet_step (fail); refine wpQuiet_nil ?_)
  clear t0 t1 t2 t3 t4
  refine Cl.way_c rfl ?_
  go_wp2_with (go_at_call 21; (with_reducible refine (hat.out _ _ _ _).mono ?_); rintro e w7 ⟨rfl, hb7⟩)
  refine Cl.way_on (Cl.Keeps.of_below hb7) ?_
  have B7 := Lib.hid (We.below_trans B6.out hb7)
  have f7 := Lib.hid (FS.far f6.out hb7)
  clear hb7 f6 B6
  iterate 4 (refine Cl.way_r rfl ?_; go_big_quiet_step (fail); refine wpQuiet_nil ?_)
  refine Cl.way_c rfl ?_
  have hg := Lib.hid (ti_great C'.out (c := c4) f7.out)
  go_wp2_with (go_at_call 10; (with_reducible refine hg.out.mono ?_); clear hg; rintro e w8 ⟨rfl, hb8⟩)
  refine Cl.way_on (Cl.Keeps.of_below hb8) ?_
  have B8 := Lib.hid (We.below_trans B7.out hb8)
  clear hb8 f7 B7
  iterate 3 (refine Cl.way_r rfl ?_; go_big_quiet_step (fail); refine wpQuiet_nil ?_)
  refine Cl.way_c rfl ?_
  have hg := Lib.hid (no_great C'.out w8)
  go_wp2_with (go_at_call 10; (with_reducible refine hg.out.mono ?_); clear hg; rintro e w9 ⟨rfl, hb9⟩)
  refine Cl.way_on (Cl.Keeps.of_below hb9) ?_
  have B9 := Lib.hid (We.below_trans B8.out hb9)
  clear hb9 B8
  iterate 3 (refine Cl.way_r rfl ?_; go_big_quiet_step (fail); refine wpQuiet_nil ?_)
  refine Cl.way_c rfl ?_
  have hg := Lib.hid (C'.out.latest (w := w9) (A := none) (l := []) (n := 0) (c := 0) (FS.nil _ _ _) rfl (by decide))
  go_wp2_with (go_at_call 9; (with_reducible refine hg.out.mono ?_); clear hg; rintro e w10 ⟨A', c', m', rfl, hb10, hm', _, _⟩; obtain rfl := lat_nil hm')
  refine Cl.way_on (Cl.Keeps.of_below hb10) ?_
  have B10 := Lib.hid (We.below_trans B9.out hb10)
  clear hb10 B9
  iterate 3 (refine Cl.way_r rfl ?_; go_big_quiet_step (fail); refine wpQuiet_nil ?_)
  refine Cl.way_z rfl ?_
  go_wp2_with fail
  refine Cl.Calm.normal ?_
  go_wp2_with fail
  go_ret
  exact ⟨rfl, B10.out⟩
end Go.Proofs.YtjhoecfhmndcgaaGreat.Sc
namespace Go.Proofs.YtjhoecfhmndcgaaGreat.Sc
open Go.RowKit
set_option linter.unusedVariables false
set_option linter.unusedSimpArgs false
theorem ties_row (C : SC) (w : World) : Calls Tryz.prog 5 #[] w (We.Ans w (.bool true)) := ties_law C w
end Go.Proofs.YtjhoecfhmndcgaaGreat.Sc
