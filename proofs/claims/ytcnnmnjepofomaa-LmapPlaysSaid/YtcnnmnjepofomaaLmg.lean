/- The program's ways: made. -/
import Derived.Test.YtcnnmnjepofomaaLmf
namespace Go.Proofs.Ytcnnmnjepofomaa.Lm
open Go.RowKit Go.Bw Go.Proofs.Ytcnnmnjepofomaa.Vl
set_option linter.unusedVariables false
set_option linter.unusedSimpArgs false
attribute [local go_sem ↓] Cl.quiet_since
/-- block g is two cells -/
def B2 (w : World) (T : TypeId) (g : Nat) (x y : Value) : Prop := w.heap[g]? = some (.cells #[x, y] T (0, 0))
section
variable {w w' : World} {T : TypeId} {g : Nat} {x y : Value}
theorem B2.pv (h : B2 w T g x y) : PV w T g 2 (fun i => if i = 0 then x else y) := ⟨_, h, fun i hi => by
  match i, hi with
  | 0, _ => rfl
  | 1, _ => rfl⟩
theorem B2.lt (h : B2 w T g x y) : g < w.heap.size := h.pv.lt
theorem B2.frozen (h : B2 w T g x y) (i : Nat) : w.frozen? ⟨g, i, none⟩ = false := h.pv.frozen i
theorem B2.c0 (h : B2 w T g x y) : w.cell? ⟨g, 0, none⟩ = some x := h.pv.cell (i := 0) (by decide)
theorem B2.c1 (h : B2 w T g x y) : w.cell? ⟨g, 1, none⟩ = some y := h.pv.cell (i := 1) (by decide)
theorem B2.keep (h : B2 w T g x y) (hb : w'.heap[g]? = w.heap[g]?) : B2 w' T g x y := hb.trans h
theorem B2.below (h : B2 w T g x y) (hb : Below w.heap.size w w') : B2 w' T g x y := h.keep (hb.block g h.lt)
theorem B2.new (w : World) (T : TypeId) (x y : Value) : B2 (w.alloc (.cells #[x, y] T)) T w.heap.size x y := heap_alloc_new w _
theorem B2.set_ (h : B2 w T g x y) (x' y' : Value) : B2 ((w.setCell ⟨g, 0, none⟩ x').setCell ⟨g, 1, none⟩ y') T g x' y' := by
  unfold B2 at h ⊢
  simp only [World.setCell]
  rw [Array.getElem?_modify, if_pos rfl, Array.getElem?_modify, if_pos rfl, h]
  rfl
end
theorem sizeWy : (Try.prog.info? 52).map (·.size) = some 2 := by kernel_rfl
theorem results_wy {fn : Func} {t g : Nat} {w : World} {x y : Value} {tmps : Array Value} (h : fn.results = #[.cell t 52]) (hp : tmps.getD t undef = .pointer (some ⟨g, 0, none⟩)) (hm : B2 w 52 g x y) :
    (results fn tmps).run Try.prog w = .ok (.agg #[x, y]) w := results_cell_row h tmps w g _ _ _ _ hp hm Try.underlying52 rfl sizeWy
/-- where valid.New's answer lies -/
theorem newB (n : Nat) (hn : n ≤ 1048576) (w : World) : Calls Try.prog 27 #[.int .i64 (n : Int)] w fun e w' => ∃ g h, e = .returned (.pointer (some ⟨g, 0, none⟩)) ∧ Below w.heap.size w w' ∧ w.heap.size ≤ g ∧ w.heap.size ≤ h ∧ Bt w' g h n (fun _ => false) := new_any (n : Int) n (by omega) w
theorem made_row (w : World) (n : Nat) : PV (w.alloc (.cells (zW n) 21)) 21 w.heap.size n (nwF fun _ => 0) := PV.new w 21 (zW n) n (nwF fun _ => 0) fun i hi => zW_at hi
set_option maxHeartbeats 1000000 in
theorem from_any (n : Nat) (hn : n ≤ 1048576) (w : World) :
    Calls Try.prog 21 #[.int .i64 (n : Int)] w fun e w' => ∃ g h r, e = .returned (wayV g r n) ∧ Below w.heap.size w w' ∧ Way w' w.heap.size w'.heap.size g h r n (fun _ => false) (fun _ => 0) := by
  have hB0 := We.below_alloc w (.cells #[.pointer none, .slice none 0 0] 52)
  have bx0 := B2.new w 52 (.pointer none) (.slice none 0 0)
  have hs0 : (w.alloc (.cells #[.pointer none, .slice none 0 0] 52)).heap.size = w.heap.size + 1 := World.size_alloc _ _
  replace hB0 := Lib.hid hB0
  replace bx0 := Lib.hid bx0
  replace hs0 := Lib.hid hs0
  have hnn := Lib.hid hn
  go_enter Try.func21, Try.ntmps21
  go_wp2_with fail
  refine Cl.region_tree (fun _ => True) 5 (.r 0 <| .r 2 <| .b 1 3 (.c 3 <| .r 4 <| .z 5) (.c 1 <| .r 4 <| .z 5)) (by kernel_rfl) (by kernel_rfl) ?_
  intro w1 hk1
  have B1 := Lib.hid ((Cl.Keeps.below hk1).mono (by rw [hs0.out]; omega) |> hB0.out.trans)
  have X1 := Lib.hid (bx0.out.below (Cl.Keeps.below hk1))
  have S1 := Lib.hid (show w.heap.size + 1 ≤ w1.heap.size by have := hk1.size; rw [hs0.out] at this; exact this)
  clear hk1 hB0 bx0 hs0
  iterate 2 (refine Cl.tree_r rfl ?_; go_big_quiet_step (fail); refine wpQuiet_nil ?_)
  refine Cl.tree_b rfl rfl ?_ ?_
  · have hc := Lib.hid (newB n hn w1)
    go_wp2_with (go_at_call 27; (with_reducible refine hc.out.mono ?_); rintro e w2 ⟨g, h, rfl, hB2, hg, hh, b2⟩)
    refine Cl.way_on (Cl.Keeps.of_below hB2) ?_
    have B2 := Lib.hid (B1.out.trans (hB2.mono B1.out.size))
    have X2 := Lib.hid (X1.out.below hB2)
    have hsz := Lib.hid hB2.size
    replace b2 := Lib.hid b2
    replace hg := Lib.hid hg
    replace hh := Lib.hid hh
    clear hB2 hc
    refine Cl.tree_c rfl ?_
    have mk := run_makeW w2 n hn
    go_wp2_with fail
    refine Cl.way_on (Cl.Keeps.of_below (We.below_alloc _ _)) ?_
    have Bz := Lib.hid (B2.out.trans ((We.below_alloc w2 (.cells (zW n) 21)).mono B2.out.size))
    have Xz := Lib.hid (X2.out.below (We.below_alloc w2 (.cells (zW n) 21)))
    have bz := Lib.hid (b2.out.below (We.below_alloc w2 (.cells (zW n) 21)))
    have rz := Lib.hid (made_row w2 n)
    have sz := Lib.hid (show (w2.alloc (.cells (zW n) 21)).heap.size = w2.heap.size + 1 from World.size_alloc _ _)
    have ng := Lib.hid (show w2.heap.size ≠ g ∧ w2.heap.size ≠ h by have := b2.out.box.lt; have := b2.out.row.lt; omega)
    have Wz := Lib.hid (show Way (w2.alloc (.cells (zW n) 21)) (w.heap.size + 1) (w2.alloc (.cells (zW n) 21)).heap.size g h w2.heap.size n (fun _ => false) (fun _ => 0) from ⟨bz.out, rz.out, ng.out, by have := S1.out; have := hg.out; omega, by have := bz.out.box.lt; omega, by have := S1.out; have := hh.out; omega, by have := bz.out.row.lt; omega, by have := S1.out; have := hsz.out; omega, by rw [sz.out]; omega⟩)
    clear mk X2 B2 b2 bz rz sz ng X1 B1 S1 hg hh hsz
    generalize w2.heap.size = r at *
    generalize w2.alloc (.cells (zW n) 21) = wz at *
    refine Cl.tree_r rfl ?_
    go_big_quiet_step (fail)
    refine wpQuiet_nil ?_
    refine Cl.tree_z rfl ?_
    have f0 := Xz.out.frozen 0
    have f1 := Xz.out.frozen 1
    have hl := Lib.hid Xz.out.lt
    have c0 := Xz.out.c0
    have c1 := Xz.out.c1
    go_wp2_with fail
    refine Cl.Calm.normal ?_
    have Xf := Lib.hid (Xz.out.set_ (.pointer (some ⟨g, 0, none⟩)) (.slice (some ⟨r, 0, none⟩) n n))
    have Bf := Lib.hid (below_set (below_set Bz.out (Nat.le_refl _) (i := 0) (.pointer (some ⟨g, 0, none⟩))) (Nat.le_refl _) (i := 1) (.slice (some ⟨r, 0, none⟩) n n))
    have Wf := Lib.hid (Wz.out.keep (w' := (wz.setCell ⟨w.heap.size, 0, none⟩ (.pointer (some ⟨g, 0, none⟩))).setCell ⟨w.heap.size, 1, none⟩ (.slice (some ⟨r, 0, none⟩) n n)) fun b h1 h2 h3 => (setCell_block _ _ (by omega)).trans (setCell_block _ _ (by omega)))
    have Sf := Lib.hid (show ((wz.setCell ⟨w.heap.size, 0, none⟩ (.pointer (some ⟨g, 0, none⟩))).setCell ⟨w.heap.size, 1, none⟩ (.slice (some ⟨r, 0, none⟩) n n)).heap.size = wz.heap.size by simp [World.setCell])
    clear Xz Wz Bz c0 c1 f0 f1 hl
    generalize (wz.setCell ⟨w.heap.size, 0, none⟩ (.pointer (some ⟨g, 0, none⟩))).setCell ⟨w.heap.size, 1, none⟩ (.slice (some ⟨r, 0, none⟩) n n) = wf at *
    go_wp2_with fail
    exact bodyPost_ret (results_wy rfl rfl Xf.out) rfl ⟨g, h, r, rfl, Bf.out, Wf.out.more (by omega) (by rw [Sf.out]; omega)⟩
  · have mk := run_makeW w1 n hn
    go_wp2_with fail
    refine Cl.way_on (Cl.Keeps.of_below (We.below_alloc _ _)) ?_
    have B2 := Lib.hid (B1.out.trans ((We.below_alloc w1 (.cells (zW n) 21)).mono B1.out.size))
    have X2 := Lib.hid (X1.out.below (We.below_alloc w1 (.cells (zW n) 21)))
    have r2 := Lib.hid (made_row w1 n)
    have s2 := Lib.hid (show (w1.alloc (.cells (zW n) 21)).heap.size = w1.heap.size + 1 from World.size_alloc _ _)
    clear mk X1 B1
    generalize hr : w1.heap.size = r at *
    replace hr := Lib.hid hr
    generalize w1.alloc (.cells (zW n) 21) = w2 at *
    refine Cl.tree_c rfl ?_
    have hc := Lib.hid (newB n hn w2)
    go_wp2_with (go_at_call 27; (with_reducible refine hc.out.mono ?_); rintro e wz ⟨g, h, rfl, hB2, hg, hh, b2⟩)
    refine Cl.way_on (Cl.Keeps.of_below hB2) ?_
    have Bz := Lib.hid (B2.out.trans (hB2.mono B2.out.size))
    have Xz := Lib.hid (X2.out.below hB2)
    have Wz := Lib.hid (show Way wz (w.heap.size + 1) wz.heap.size g h r n (fun _ => false) (fun _ => 0) from ⟨b2, r2.out.below hB2, by have := s2.out; omega, by have := S1.out; have := s2.out; omega, b2.box.lt, by have := S1.out; have := s2.out; omega, b2.row.lt, S1.out, by have := s2.out; have := hB2.size; omega⟩)
    clear X2 B2 b2 r2 s2 S1 hg hh hB2 hc
    refine Cl.tree_r rfl ?_
    go_big_quiet_step (fail)
    refine wpQuiet_nil ?_
    refine Cl.tree_z rfl ?_
    have f0 := Xz.out.frozen 0
    have f1 := Xz.out.frozen 1
    have hl := Lib.hid Xz.out.lt
    have c0 := Xz.out.c0
    have c1 := Xz.out.c1
    go_wp2_with fail
    refine Cl.Calm.normal ?_
    have Xf := Lib.hid (Xz.out.set_ (.pointer (some ⟨g, 0, none⟩)) (.slice (some ⟨r, 0, none⟩) n n))
    have Bf := Lib.hid (below_set (below_set Bz.out (Nat.le_refl _) (i := 0) (.pointer (some ⟨g, 0, none⟩))) (Nat.le_refl _) (i := 1) (.slice (some ⟨r, 0, none⟩) n n))
    have Wf := Lib.hid (Wz.out.keep (w' := (wz.setCell ⟨w.heap.size, 0, none⟩ (.pointer (some ⟨g, 0, none⟩))).setCell ⟨w.heap.size, 1, none⟩ (.slice (some ⟨r, 0, none⟩) n n)) fun b h1 h2 h3 => (setCell_block _ _ (by omega)).trans (setCell_block _ _ (by omega)))
    have Sf := Lib.hid (show ((wz.setCell ⟨w.heap.size, 0, none⟩ (.pointer (some ⟨g, 0, none⟩))).setCell ⟨w.heap.size, 1, none⟩ (.slice (some ⟨r, 0, none⟩) n n)).heap.size = wz.heap.size by simp [World.setCell])
    clear Xz Wz Bz c0 c1 f0 f1 hl
    generalize (wz.setCell ⟨w.heap.size, 0, none⟩ (.pointer (some ⟨g, 0, none⟩))).setCell ⟨w.heap.size, 1, none⟩ (.slice (some ⟨r, 0, none⟩) n n) = wf at *
    go_wp2_with fail
    exact bodyPost_ret (results_wy rfl rfl Xf.out) rfl ⟨g, h, r, rfl, Bf.out, Wf.out.more (by omega) (by rw [Sf.out]; omega)⟩
end Go.Proofs.Ytcnnmnjepofomaa.Lm
