/- Statement PolySums: for every four polynomials the law returns true. -/
import Derived.Test.YtfeikkohmgebbaaAw
import Derived.Test.YtfeikkohmgebbaaSqb
import Derived.Test.YtfeikkohmgebbaaX7
namespace Go.Proofs.Ytfeikkohmgebbaa
open Go.RowKit Go.Gf
attribute [local go_sem ↓] exec_load_tb Cl.quiet_since
attribute [local go_sem] tbAt_ptr tbIn_ptr

/-- block b is an array of two values -/
structure Two (w : World) (b : Nat) (u v : Value) : Prop where
  lt : b < w.heap.size
  at_ : w.heap[b]? = some (.cells #[u, v] 42 (0, 0))
theorem Two.far {w w' : World} {b : Nat} {u v : Value} (h : Two w b u v) (hb : Below w.heap.size w w') : Two w' b u v := ⟨Nat.lt_of_lt_of_le h.lt hb.size, (hb.block b h.lt).trans h.at_⟩
theorem Two.new (w : World) (u v : Value) : Two (w.alloc (.cells #[u, v] 42)) w.heap.size u v := ⟨by simp, heap_alloc_new w _⟩
theorem Two.c0 {w : World} {b : Nat} {u v : Value} (h : Two w b u v) : w.cell? ⟨b, 0, none⟩ = some u := by rw [cell_of_row w b 0 _ 42 (0, 0) h.at_]; rfl
theorem Two.c1 {w : World} {b : Nat} {u v : Value} (h : Two w b u v) : w.cell? ⟨b, 1, none⟩ = some v := by rw [cell_of_row w b 1 _ 42 (0, 0) h.at_]; rfl

set_option maxRecDepth 20000 in
set_option maxHeartbeats 16000000 in
theorem sums_core (A : Option Addr) (xs : List Nat) (ca : Nat) (hca : xs.length ≤ ca) (B : Option Addr) (ys : List Nat) (cb : Nat) (hcb : ys.length ≤ cb) (C : Option Addr) (zs : List Nat) (cc : Nat) (hcc : zs.length ≤ cc) (D : Option Addr) (vs : List Nat) (cd : Nat)
    (l1 : xs.length ≤ 60) (l2 : ys.length ≤ 60) (l3 : zs.length ≤ 60) (l4 : vs.length ≤ 60) (w : World) (X : Int) (hX : (xs.length : Int) + 7 = X) (X0 : 0 ≤ X) (X1 : X < 65536)
    (hA : Hid (Sl w w.heap.size A xs)) (hB : Hid (Sl w w.heap.size B ys)) (hC : Hid (Sl w w.heap.size C zs)) (hD : Hid (Sl w w.heap.size D vs))
    (q1 : Hid (pmul xs ys = pmul ys xs)) (q2 : Hid (pmul (padd xs ys) zs = padd (pmul xs zs) (pmul ys zs))) (q3 : Hid (slope (padd xs ys) = padd (slope xs) (slope ys))) (q4 : (((padd (padd xs ys) (padd xs ys)).length : Int) == 0) = true)
    (hev : ev (X.toNat % 1024) (padd xs ys) = ev (X.toNat % 1024) xs ^^^ ev (X.toNat % 1024) ys) :
    Calls Try.prog 7 #[.slice A xs.length ca, .slice B ys.length cb, .agg #[.slice C zs.length cc, .slice D vs.length cd]] w (Leaves w (.bool true)) := by
  have lx : xs.length ≤ 1000000 := by omega
  have ly : ys.length ≤ 1000000 := by omega
  have lz : zs.length ≤ 1000000 := by omega
  have d1 : decide ((60 : Int) < (xs.length : Int)) = false := by rw [decide_eq_false_iff_not]; omega
  have d2 : decide ((60 : Int) < (ys.length : Int)) = false := by rw [decide_eq_false_iff_not]; omega
  have d3 : decide ((60 : Int) < (zs.length : Int)) = false := by rw [decide_eq_false_iff_not]; omega
  have d4 : decide ((60 : Int) < (vs.length : Int)) = false := by rw [decide_eq_false_iff_not]; omega
  have b1 := Lib.hid (show (padd xs ys).length ≤ 1000000 from Nat.le_trans (padd_le xs ys) (by omega))
  have b2 := Lib.hid (show (pmul xs ys).length ≤ 1000000 from Nat.le_trans (pmul_le _ _) (by omega))
  have b3 := Lib.hid (show (pmul ys xs).length ≤ 1000000 from Nat.le_trans (pmul_le _ _) (by omega))
  have b4 := Lib.hid (show (pmul xs zs).length ≤ 1000000 from Nat.le_trans (pmul_le _ _) (by omega))
  have b5 := Lib.hid (show (pmul ys zs).length ≤ 1000000 from Nat.le_trans (pmul_le _ _) (by omega))
  have b6 := Lib.hid (show (pmul (padd xs ys) zs).length ≤ 1000000 from Nat.le_trans (pmul_le _ _) (by omega))
  have b7 := Lib.hid (show (padd (pmul xs zs) (pmul ys zs)).length ≤ 1000000 from Nat.le_trans (padd_le _ _) (by have := b4.out; have := b5.out; omega))
  have b8 := Lib.hid (show (slope xs).length ≤ 1000000 from Nat.le_trans (slope_le xs) (by omega))
  have b9 := Lib.hid (show (slope ys).length ≤ 1000000 from Nat.le_trans (slope_le ys) (by omega))
  have b10 := Lib.hid (show (slope (padd xs ys)).length ≤ 1000000 from Nat.le_trans (slope_le _) b1.out)
  have b11 := Lib.hid (show (padd (slope xs) (slope ys)).length ≤ 1000000 from Nat.le_trans (padd_le _ _) (by have := b8.out; have := b9.out; omega))
  have e1 := ev_lt (X.toNat % 1024) xs
  have e2 := ev_lt (X.toNat % 1024) ys
  obtain ⟨E1, hE1⟩ : ∃ E1, Hid (ev (X.toNat % 1024) xs = E1) := ⟨_, Lib.hid rfl⟩
  obtain ⟨E2, hE2⟩ : ∃ E2, Hid (ev (X.toNat % 1024) ys = E2) := ⟨_, Lib.hid rfl⟩
  obtain ⟨E3, hE3⟩ : ∃ E3, Hid (ev (X.toNat % 1024) (padd xs ys) = E3) := ⟨_, Lib.hid rfl⟩
  rw [hE1.out] at e1
  rw [hE2.out] at e2
  have hAdd : ∀ w, Calls Try.prog 25 #[.int .u16 (E1 : Int), .int .u16 (E2 : Int)] w (Leaves w (.int .u16 (E3 : Int))) := fun w =>
    ((addIs (a := E1) (b := E2) (c := E3) (by omega) (by omega) (by omega) (by omega) (by
      unfold addI
      rw [Int.toNat_natCast, Int.toNat_natCast, ← hE3.out, hev, hE1.out, hE2.out, Nat.mod_eq_of_lt (xor_lt e1 e2)])).at w).mono fun _ _ h => ⟨h.1, h.2 ▸ Below.refl _ _⟩
  clear hev
  have hz := zero27
  go_enter Try.func7, Try.ntmps7
  go_wp2_with fail
  have hW := Lib.hid (below_alloc w (Obj.cells #[.slice C zs.length cc, .slice D vs.length cd] 42))
  have hT := Lib.hid (Two.new w (.slice C zs.length cc) (.slice D vs.length cd))
  replace hA := Lib.hid (hA.out.far (below_alloc w (Obj.cells #[.slice C zs.length cc, .slice D vs.length cd] 42)))
  replace hB := Lib.hid (hB.out.far (below_alloc w (Obj.cells #[.slice C zs.length cc, .slice D vs.length cd] 42)))
  replace hC := Lib.hid (hC.out.far (below_alloc w (Obj.cells #[.slice C zs.length cc, .slice D vs.length cd] 42)))
  replace hD := Lib.hid (hD.out.far (below_alloc w (Obj.cells #[.slice C zs.length cc, .slice D vs.length cd] 42)))
  generalize w.alloc (Obj.cells #[.slice C zs.length cc, .slice D vs.length cd] 42) = w0 at *
  have hc := awake_any w0
  replace hc := Lib.hid hc
  refine hc.out.mono ?_
  rintro e w1 ⟨rfl, hb⟩
  clear hc
  have hW := Lib.hid (hW.out.trans (hb.mono hW.out.size))
  replace hA := Lib.hid (hA.out.far hb)
  replace hB := Lib.hid (hB.out.far hb)
  replace hC := Lib.hid (hC.out.far hb)
  replace hD := Lib.hid (hD.out.far hb)
  replace hT := Lib.hid (hT.out.far hb)
  clear hb
  have hx0 := hT.out.c0
  have hx1 := hT.out.c1
  go_wp2_with fail
  clear hx0 hx1
  refine (make_any _).mono ?_
  rintro e w2 ⟨cs, rfl, hl, hb⟩
  have hb0 := hW.out.trans (hb.mono hW.out.size)
  replace hA := Lib.hid (hA.out.far hb)
  replace hB := Lib.hid (hB.out.far hb)
  replace hC := Lib.hid (hC.out.far hb)
  replace hD := Lib.hid (hD.out.far hb)
  replace hT := Lib.hid (hT.out.far hb)
  clear hb hW
  go_wp2_with (refine wpList_store_row rfl 28 _ _ rfl w2.heap.size (cells cs) rfl rfl 28 (cells ZT) (heap_alloc_new w2 _) (rsize hl) (zsize hl) (cells_one cs) ?_)
  have hS := St.start (cs := cs) hb0 (cells ZT)
  have hb : Below w2.heap.size w2 ((w2.alloc (Obj.cells (cells ZT) 28)).setRow w2.heap.size (cells cs)) := below_setRow ((Below.refl _ _).alloc (Nat.le_refl _) _) (Nat.le_refl _) _
  replace hA := Lib.hid (hA.out.far hb)
  replace hB := Lib.hid (hB.out.far hb)
  replace hC := Lib.hid (hC.out.far hb)
  replace hD := Lib.hid (hD.out.far hb)
  replace hT := Lib.hid (hT.out.far hb)
  clear hb0 hb
  generalize hg : w2.heap.size = g at hS ⊢
  rw [hg] at hA hB hC hD hT
  generalize (w2.alloc (Obj.cells (cells ZT) 28)).setRow g (cells cs) = w3 at *
  clear hg hz
  have hi := hS.is hl.1
  have ho := hS.of
  go_wp2_with fail
  have hc := row_add (ca := ca) (cb := cb) hA.out hB.out lx ly
  replace hc := Lib.hid hc
  refine hc.out.mono ?_
  rintro e w4 ⟨As, rfl, hs, hb⟩
  clear hc
  have hS := hS.next hb
  have hi := hS.is hl.1
  have ho := hS.of
  replace hA := Lib.hid (hA.out.far hb)
  replace hB := Lib.hid (hB.out.far hb)
  replace hC := Lib.hid (hC.out.far hb)
  replace hD := Lib.hid (hD.out.far hb)
  replace hT := Lib.hid (hT.out.far hb)
  clear hb
  replace hs := Lib.hid hs
  go_wp2_with fail
  refine Cl.region_way_at (fun _ => True) 62 pi7 (by kernel_rfl) way7_8 (by kernel_rfl) ?_
  intro w5 hk
  have hb := Cl.Keeps.below hk
  clear hk
  have hS := hS.next hb
  have hi := hS.is hl.1
  have ho := hS.of
  replace hA := Lib.hid (hA.out.far hb)
  replace hB := Lib.hid (hB.out.far hb)
  replace hC := Lib.hid (hC.out.far hb)
  replace hD := Lib.hid (hD.out.far hb)
  replace hT := Lib.hid (hT.out.far hb)
  replace hs := Lib.hid (hs.out.far hb)
  clear hb
  unfold pi7
  have hiA : ∀ y : Cl.Since (fun _ => True) w5, isTb y.w g = true := fun y => (hS.next (Cl.Keeps.below y.keeps)).is hl.1
  have hoA : ∀ y : Cl.Since (fun _ => True) w5, tbOf y.w g = cells cs := fun y => (hS.next (Cl.Keeps.below y.keeps)).of
  iterate 9 (refine Cl.way_r rfl ?_; go_big_quiet_step (fail); refine wpQuiet_nil ?_)
  clear hiA hoA
  refine Cl.way_c rfl ?_
  go_wp2_with fail
  have hc := val_at (ca := (padd xs ys).length) (x := X) hl hs.out b1.out X0 X1
  rw [hE3.out] at hc
  replace hc := Lib.hid hc
  refine hc.out.mono ?_
  rintro e w6 ⟨rfl, hb⟩
  clear hc
  have hbk := Lib.hid hb
  have hS := hS.next hb
  have hi := hS.is hl.1
  have ho := hS.of
  replace hA := Lib.hid (hA.out.far hb)
  replace hB := Lib.hid (hB.out.far hb)
  replace hC := Lib.hid (hC.out.far hb)
  replace hD := Lib.hid (hD.out.far hb)
  replace hT := Lib.hid (hT.out.far hb)
  replace hs := Lib.hid (hs.out.far hb)
  clear hb
  go_wp2_with fail
  refine Cl.way_on (Cl.Keeps.of_below hbk.out) ?_
  clear hbk
  refine Cl.way_c rfl ?_
  go_wp2_with fail
  have hc := val_at (ca := ca) (x := X) hl hA.out lx X0 X1
  rw [hE1.out] at hc
  replace hc := Lib.hid hc
  refine hc.out.mono ?_
  rintro e w7 ⟨rfl, hb⟩
  clear hc
  have hbk := Lib.hid hb
  have hS := hS.next hb
  have hi := hS.is hl.1
  have ho := hS.of
  replace hA := Lib.hid (hA.out.far hb)
  replace hB := Lib.hid (hB.out.far hb)
  replace hC := Lib.hid (hC.out.far hb)
  replace hD := Lib.hid (hD.out.far hb)
  replace hT := Lib.hid (hT.out.far hb)
  replace hs := Lib.hid (hs.out.far hb)
  clear hb
  go_wp2_with fail
  refine Cl.way_on (Cl.Keeps.of_below hbk.out) ?_
  clear hbk
  refine Cl.way_c rfl ?_
  go_wp2_with fail
  have hc := val_at (ca := cb) (x := X) hl hB.out ly X0 X1
  rw [hE2.out] at hc
  replace hc := Lib.hid hc
  refine hc.out.mono ?_
  rintro e w8 ⟨rfl, hb⟩
  clear hc
  have hbk := Lib.hid hb
  have hS := hS.next hb
  have hi := hS.is hl.1
  have ho := hS.of
  replace hA := Lib.hid (hA.out.far hb)
  replace hB := Lib.hid (hB.out.far hb)
  replace hC := Lib.hid (hC.out.far hb)
  replace hD := Lib.hid (hD.out.far hb)
  replace hT := Lib.hid (hT.out.far hb)
  replace hs := Lib.hid (hs.out.far hb)
  clear hb
  go_wp2_with fail
  refine Cl.way_on (Cl.Keeps.of_below hbk.out) ?_
  clear hbk
  refine Cl.way_c rfl ?_
  go_wp2_with fail
  have hc := hAdd w8
  replace hc := Lib.hid hc
  refine hc.out.mono ?_
  rintro e w9 ⟨rfl, hb⟩
  clear hc
  have hbk := Lib.hid hb
  have hS := hS.next hb
  have hi := hS.is hl.1
  have ho := hS.of
  replace hA := Lib.hid (hA.out.far hb)
  replace hB := Lib.hid (hB.out.far hb)
  replace hC := Lib.hid (hC.out.far hb)
  replace hD := Lib.hid (hD.out.far hb)
  replace hT := Lib.hid (hT.out.far hb)
  replace hs := Lib.hid (hs.out.far hb)
  clear hb
  go_wp2_with fail
  refine Cl.way_on (Cl.Keeps.of_below hbk.out) ?_
  clear hbk
  iterate 2 (refine Cl.way_r rfl ?_; go_big_quiet_step (fail); refine wpQuiet_nil ?_)
  have hiA : ∀ y : Cl.Since (fun _ => True) w9, isTb y.w g = true := fun y => (hS.next (Cl.Keeps.below y.keeps)).is hl.1
  have hoA : ∀ y : Cl.Since (fun _ => True) w9, tbOf y.w g = cells cs := fun y => (hS.next (Cl.Keeps.below y.keeps)).of
  iterate 6 (refine Cl.way_r rfl ?_; go_big_quiet_step (fail); refine wpQuiet_nil ?_)
  clear hiA hoA
  refine Cl.way_c rfl ?_
  go_wp2_with fail
  have hc := row_mul hl hA.out hB.out lx ly hca hcb
  replace hc := Lib.hid hc
  refine hc.out.mono ?_
  rintro e w10 ⟨Am, rfl, hm, hb⟩
  clear hc
  have hbk := Lib.hid hb
  have hS := hS.next hb
  have hi := hS.is hl.1
  have ho := hS.of
  replace hA := Lib.hid (hA.out.far hb)
  replace hB := Lib.hid (hB.out.far hb)
  replace hC := Lib.hid (hC.out.far hb)
  replace hD := Lib.hid (hD.out.far hb)
  replace hT := Lib.hid (hT.out.far hb)
  replace hs := Lib.hid (hs.out.far hb)
  clear hb
  replace hm := Lib.hid hm
  go_wp2_with fail
  refine Cl.way_on (Cl.Keeps.of_below hbk.out) ?_
  clear hbk
  refine Cl.way_c rfl ?_
  go_wp2_with fail
  have hc := row_mul hl hB.out hA.out ly lx hcb hca
  replace hc := Lib.hid hc
  refine hc.out.mono ?_
  rintro e w11 ⟨An, rfl, hn, hb⟩
  clear hc
  have hbk := Lib.hid hb
  have hS := hS.next hb
  have hi := hS.is hl.1
  have ho := hS.of
  replace hA := Lib.hid (hA.out.far hb)
  replace hB := Lib.hid (hB.out.far hb)
  replace hC := Lib.hid (hC.out.far hb)
  replace hD := Lib.hid (hD.out.far hb)
  replace hT := Lib.hid (hT.out.far hb)
  replace hs := Lib.hid (hs.out.far hb)
  replace hm := Lib.hid (hm.out.far hb)
  clear hb
  replace hn := Lib.hid hn
  go_wp2_with fail
  refine Cl.way_on (Cl.Keeps.of_below hbk.out) ?_
  clear hbk
  refine Cl.way_c rfl ?_
  go_wp2_with fail
  have hc := val_same (ca := (pmul xs ys).length) (cb := (pmul ys xs).length) (b := true) hm.out hn.out b2.out b3.out (decide_eq_true q1.out)
  replace hc := Lib.hid hc
  clear hm
  clear hn
  refine hc.out.mono ?_
  rintro e w12 ⟨rfl, hb⟩
  clear hc
  have hbk := Lib.hid hb
  have hS := hS.next hb
  have hi := hS.is hl.1
  have ho := hS.of
  replace hA := Lib.hid (hA.out.far hb)
  replace hB := Lib.hid (hB.out.far hb)
  replace hC := Lib.hid (hC.out.far hb)
  replace hD := Lib.hid (hD.out.far hb)
  replace hT := Lib.hid (hT.out.far hb)
  replace hs := Lib.hid (hs.out.far hb)
  clear hb
  go_wp2_with fail
  refine Cl.way_on (Cl.Keeps.of_below hbk.out) ?_
  clear hbk
  iterate 2 (refine Cl.way_r rfl ?_; go_big_quiet_step (fail); refine wpQuiet_nil ?_)
  have hiA : ∀ y : Cl.Since (fun _ => True) w12, isTb y.w g = true := fun y => (hS.next (Cl.Keeps.below y.keeps)).is hl.1
  have hoA : ∀ y : Cl.Since (fun _ => True) w12, tbOf y.w g = cells cs := fun y => (hS.next (Cl.Keeps.below y.keeps)).of
  have hx0 : ∀ y : Cl.Since (fun _ => True) w12, y.w.cell? ⟨w.heap.size, 0, none⟩ = some (.slice C zs.length cc) := fun y => (hT.out.far (Cl.Keeps.below y.keeps)).c0
  iterate 12 (refine Cl.way_r rfl ?_; go_big_quiet_step (fail); refine wpQuiet_nil ?_)
  clear hiA hoA
  clear hx0
  refine Cl.way_c rfl ?_
  go_wp2_with fail
  have hc := row_mul (ca := (padd xs ys).length) hl hs.out hC.out b1.out lz (Nat.le_refl _) hcc
  replace hc := Lib.hid hc
  refine hc.out.mono ?_
  rintro e w13 ⟨Am, rfl, hm, hb⟩
  clear hc
  have hbk := Lib.hid hb
  have hS := hS.next hb
  have hi := hS.is hl.1
  have ho := hS.of
  replace hA := Lib.hid (hA.out.far hb)
  replace hB := Lib.hid (hB.out.far hb)
  replace hC := Lib.hid (hC.out.far hb)
  replace hD := Lib.hid (hD.out.far hb)
  replace hT := Lib.hid (hT.out.far hb)
  replace hs := Lib.hid (hs.out.far hb)
  clear hb
  replace hm := Lib.hid hm
  go_wp2_with fail
  refine Cl.way_on (Cl.Keeps.of_below hbk.out) ?_
  clear hbk
  refine Cl.way_c rfl ?_
  go_wp2_with fail
  have hc := row_mul hl hA.out hC.out lx lz hca hcc
  replace hc := Lib.hid hc
  refine hc.out.mono ?_
  rintro e w14 ⟨An, rfl, hn, hb⟩
  clear hc
  have hbk := Lib.hid hb
  have hS := hS.next hb
  have hi := hS.is hl.1
  have ho := hS.of
  replace hA := Lib.hid (hA.out.far hb)
  replace hB := Lib.hid (hB.out.far hb)
  replace hC := Lib.hid (hC.out.far hb)
  replace hD := Lib.hid (hD.out.far hb)
  replace hT := Lib.hid (hT.out.far hb)
  replace hs := Lib.hid (hs.out.far hb)
  replace hm := Lib.hid (hm.out.far hb)
  clear hb
  replace hn := Lib.hid hn
  go_wp2_with fail
  refine Cl.way_on (Cl.Keeps.of_below hbk.out) ?_
  clear hbk
  refine Cl.way_c rfl ?_
  go_wp2_with fail
  have hc := row_mul hl hB.out hC.out ly lz hcb hcc
  replace hc := Lib.hid hc
  refine hc.out.mono ?_
  rintro e w15 ⟨Ap, rfl, hp, hb⟩
  clear hc
  have hbk := Lib.hid hb
  have hS := hS.next hb
  have hi := hS.is hl.1
  have ho := hS.of
  replace hA := Lib.hid (hA.out.far hb)
  replace hB := Lib.hid (hB.out.far hb)
  replace hC := Lib.hid (hC.out.far hb)
  replace hD := Lib.hid (hD.out.far hb)
  replace hT := Lib.hid (hT.out.far hb)
  replace hs := Lib.hid (hs.out.far hb)
  replace hm := Lib.hid (hm.out.far hb)
  replace hn := Lib.hid (hn.out.far hb)
  clear hb
  replace hp := Lib.hid hp
  go_wp2_with fail
  refine Cl.way_on (Cl.Keeps.of_below hbk.out) ?_
  clear hbk
  refine Cl.way_c rfl ?_
  go_wp2_with fail
  have hc := row_add (ca := (pmul xs zs).length) (cb := (pmul ys zs).length) hn.out hp.out b4.out b5.out
  replace hc := Lib.hid hc
  clear hn
  clear hp
  refine hc.out.mono ?_
  rintro e w16 ⟨Ar, rfl, hr, hb⟩
  clear hc
  have hbk := Lib.hid hb
  have hS := hS.next hb
  have hi := hS.is hl.1
  have ho := hS.of
  replace hA := Lib.hid (hA.out.far hb)
  replace hB := Lib.hid (hB.out.far hb)
  replace hC := Lib.hid (hC.out.far hb)
  replace hD := Lib.hid (hD.out.far hb)
  replace hT := Lib.hid (hT.out.far hb)
  replace hs := Lib.hid (hs.out.far hb)
  replace hm := Lib.hid (hm.out.far hb)
  clear hb
  replace hr := Lib.hid hr
  go_wp2_with fail
  refine Cl.way_on (Cl.Keeps.of_below hbk.out) ?_
  clear hbk
  refine Cl.way_c rfl ?_
  go_wp2_with fail
  have hc := val_same (ca := (pmul (padd xs ys) zs).length) (cb := (padd (pmul xs zs) (pmul ys zs)).length) (b := true) hm.out hr.out b6.out b7.out (decide_eq_true q2.out)
  replace hc := Lib.hid hc
  clear hm
  clear hr
  refine hc.out.mono ?_
  rintro e w17 ⟨rfl, hb⟩
  clear hc
  have hbk := Lib.hid hb
  have hS := hS.next hb
  have hi := hS.is hl.1
  have ho := hS.of
  replace hA := Lib.hid (hA.out.far hb)
  replace hB := Lib.hid (hB.out.far hb)
  replace hC := Lib.hid (hC.out.far hb)
  replace hD := Lib.hid (hD.out.far hb)
  replace hT := Lib.hid (hT.out.far hb)
  replace hs := Lib.hid (hs.out.far hb)
  clear hb
  go_wp2_with fail
  refine Cl.way_on (Cl.Keeps.of_below hbk.out) ?_
  clear hbk
  iterate 4 (refine Cl.way_r rfl ?_; go_big_quiet_step (fail); refine wpQuiet_nil ?_)
  refine Cl.way_c rfl ?_
  go_wp2_with fail
  have hc := row_add (ca := (padd xs ys).length) (cb := (padd xs ys).length) hs.out hs.out b1.out b1.out
  replace hc := Lib.hid hc
  refine hc.out.mono ?_
  rintro e w18 ⟨Am, rfl, hm, hb⟩
  clear hc
  have hbk := Lib.hid hb
  have hS := hS.next hb
  have hi := hS.is hl.1
  have ho := hS.of
  replace hA := Lib.hid (hA.out.far hb)
  replace hB := Lib.hid (hB.out.far hb)
  replace hC := Lib.hid (hC.out.far hb)
  replace hD := Lib.hid (hD.out.far hb)
  replace hT := Lib.hid (hT.out.far hb)
  replace hs := Lib.hid (hs.out.far hb)
  clear hb
  replace hm := Lib.hid hm
  go_wp2_with fail
  refine Cl.way_on (Cl.Keeps.of_below hbk.out) ?_
  clear hbk
  clear hm
  iterate 4 (refine Cl.way_r rfl ?_; go_big_quiet_step (fail); refine wpQuiet_nil ?_)
  iterate 3 (refine Cl.way_r rfl ?_; go_big_quiet_step (fail); refine wpQuiet_nil ?_)
  refine Cl.way_c rfl ?_
  go_wp2_with fail
  have hc := row_slope (ca := (padd xs ys).length) hs.out b1.out
  replace hc := Lib.hid hc
  refine hc.out.mono ?_
  rintro e w19 ⟨Am, rfl, hm, hb⟩
  clear hc
  have hbk := Lib.hid hb
  have hS := hS.next hb
  have hi := hS.is hl.1
  have ho := hS.of
  replace hA := Lib.hid (hA.out.far hb)
  replace hB := Lib.hid (hB.out.far hb)
  replace hC := Lib.hid (hC.out.far hb)
  replace hD := Lib.hid (hD.out.far hb)
  replace hT := Lib.hid (hT.out.far hb)
  replace hs := Lib.hid (hs.out.far hb)
  clear hb
  replace hm := Lib.hid hm
  go_wp2_with fail
  refine Cl.way_on (Cl.Keeps.of_below hbk.out) ?_
  clear hbk
  refine Cl.way_c rfl ?_
  go_wp2_with fail
  have hc := row_slope (ca := ca) hA.out lx
  replace hc := Lib.hid hc
  refine hc.out.mono ?_
  rintro e w20 ⟨An, rfl, hn, hb⟩
  clear hc
  have hbk := Lib.hid hb
  have hS := hS.next hb
  have hi := hS.is hl.1
  have ho := hS.of
  replace hA := Lib.hid (hA.out.far hb)
  replace hB := Lib.hid (hB.out.far hb)
  replace hC := Lib.hid (hC.out.far hb)
  replace hD := Lib.hid (hD.out.far hb)
  replace hT := Lib.hid (hT.out.far hb)
  replace hs := Lib.hid (hs.out.far hb)
  replace hm := Lib.hid (hm.out.far hb)
  clear hb
  replace hn := Lib.hid hn
  go_wp2_with fail
  refine Cl.way_on (Cl.Keeps.of_below hbk.out) ?_
  clear hbk
  refine Cl.way_c rfl ?_
  go_wp2_with fail
  have hc := row_slope (ca := cb) hB.out ly
  replace hc := Lib.hid hc
  refine hc.out.mono ?_
  rintro e w21 ⟨Ap, rfl, hp, hb⟩
  clear hc
  have hbk := Lib.hid hb
  have hS := hS.next hb
  have hi := hS.is hl.1
  have ho := hS.of
  replace hA := Lib.hid (hA.out.far hb)
  replace hB := Lib.hid (hB.out.far hb)
  replace hC := Lib.hid (hC.out.far hb)
  replace hD := Lib.hid (hD.out.far hb)
  replace hT := Lib.hid (hT.out.far hb)
  replace hs := Lib.hid (hs.out.far hb)
  replace hm := Lib.hid (hm.out.far hb)
  replace hn := Lib.hid (hn.out.far hb)
  clear hb
  replace hp := Lib.hid hp
  go_wp2_with fail
  refine Cl.way_on (Cl.Keeps.of_below hbk.out) ?_
  clear hbk
  refine Cl.way_c rfl ?_
  go_wp2_with fail
  have hc := row_add (ca := (slope xs).length) (cb := (slope ys).length) hn.out hp.out b8.out b9.out
  replace hc := Lib.hid hc
  clear hn
  clear hp
  refine hc.out.mono ?_
  rintro e w22 ⟨Ar, rfl, hr, hb⟩
  clear hc
  have hbk := Lib.hid hb
  have hS := hS.next hb
  have hi := hS.is hl.1
  have ho := hS.of
  replace hA := Lib.hid (hA.out.far hb)
  replace hB := Lib.hid (hB.out.far hb)
  replace hC := Lib.hid (hC.out.far hb)
  replace hD := Lib.hid (hD.out.far hb)
  replace hT := Lib.hid (hT.out.far hb)
  replace hs := Lib.hid (hs.out.far hb)
  replace hm := Lib.hid (hm.out.far hb)
  clear hb
  replace hr := Lib.hid hr
  go_wp2_with fail
  refine Cl.way_on (Cl.Keeps.of_below hbk.out) ?_
  clear hbk
  refine Cl.way_c rfl ?_
  go_wp2_with fail
  have hc := val_same (ca := (slope (padd xs ys)).length) (cb := (padd (slope xs) (slope ys)).length) (b := true) hm.out hr.out b10.out b11.out (decide_eq_true q3.out)
  replace hc := Lib.hid hc
  clear hm
  clear hr
  refine hc.out.mono ?_
  rintro e w23 ⟨rfl, hb⟩
  clear hc
  have hbk := Lib.hid hb
  have hS := hS.next hb
  have hi := hS.is hl.1
  have ho := hS.of
  replace hA := Lib.hid (hA.out.far hb)
  replace hB := Lib.hid (hB.out.far hb)
  replace hC := Lib.hid (hC.out.far hb)
  replace hD := Lib.hid (hD.out.far hb)
  replace hT := Lib.hid (hT.out.far hb)
  replace hs := Lib.hid (hs.out.far hb)
  clear hb
  go_wp2_with fail
  refine Cl.way_on (Cl.Keeps.of_below hbk.out) ?_
  clear hbk
  iterate 2 (refine Cl.way_r rfl ?_; go_big_quiet_step (fail); refine wpQuiet_nil ?_)
  refine Cl.way_end ?_
  go_wp2_with fail
  go_ret
  exact ⟨rfl, hS.below⟩

set_option maxRecDepth 20000 in
set_option maxHeartbeats 4000000 in
theorem sums_law (A : Option Addr) (xs : List Nat) (ca : Nat) (hca : xs.length ≤ ca) (hx : ca ≤ maxLen) (B : Option Addr) (ys : List Nat) (cb : Nat) (hcb : ys.length ≤ cb) (hy : cb ≤ maxLen)
    (C D : Option Addr) (zs vs : List Nat) (cc cd : Nat) (hcc : zs.length ≤ cc) (hzm : cc ≤ maxLen) (hcd : vs.length ≤ cd) (hvm : cd ≤ maxLen) (w : World)
    (hA : Sl w w.heap.size A xs) (hB : Sl w w.heap.size B ys) (hC : Sl w w.heap.size C zs) (hD : Sl w w.heap.size D vs) :
    Calls Try.prog 7 #[.slice A xs.length ca, .slice B ys.length cb, .agg #[.slice C zs.length cc, .slice D vs.length cd]] w (Leaves w (.bool true)) := by
  have mx : (xs.length : Int) ≤ 9223372036854775807 := by unfold maxLen at hx; omega
  have my : (ys.length : Int) ≤ 9223372036854775807 := by unfold maxLen at hy; omega
  have mz : (zs.length : Int) ≤ 9223372036854775807 := by unfold maxLen at hzm; omega
  have mv : (vs.length : Int) ≤ 9223372036854775807 := by unfold maxLen at hvm; omega
  clear hx hy hzm hvm
  by_cases hl1 : xs.length ≤ 60 ∧ ys.length ≤ 60 ∧ zs.length ≤ 60 ∧ vs.length ≤ 60
  · obtain ⟨l1, l2, l3, l4⟩ := hl1
    have k1 := tr_len xs
    have k2 := tr_len ys
    have k3 := tr_len zs
    refine sums_core A xs ca hca B ys cb hcb C zs cc hcc D vs cd l1 l2 l3 l4 w ((xs.length : Int) + 7) rfl (by omega) (by omega) (Lib.hid hA) (Lib.hid hB) (Lib.hid hC) (Lib.hid hD)
      (Lib.hid (pmul_comm (by omega))) (Lib.hid (pmul_padd (by omega) (by omega))) (Lib.hid (slope_padd _ _)) (by rw [padd_self]; rfl) (ev_padd _ (by omega) _ _)
  · have e : Hid (¬ (xs.length ≤ 60 ∧ ys.length ≤ 60 ∧ zs.length ≤ 60 ∧ vs.length ≤ 60)) := Lib.hid hl1
    clear hl1
    have hcs : ∃ p q r s : Bool, decide ((60 : Int) < (xs.length : Int)) = p ∧ decide ((60 : Int) < (ys.length : Int)) = q ∧ decide ((60 : Int) < (zs.length : Int)) = r ∧ decide ((60 : Int) < (vs.length : Int)) = s ∧ (p || q || r || s) = true := by
      refine ⟨_, _, _, _, rfl, rfl, rfl, rfl, ?_⟩
      simp only [Bool.or_eq_true, decide_eq_true_eq]
      have := e.out
      omega
    obtain ⟨p, q, r, s, d1, d2, d3, d4, hor⟩ := hcs
    have hT := Lib.hid (Two.new w (.slice C zs.length cc) (.slice D vs.length cd))
    have hW := Lib.hid (below_alloc w (Obj.cells #[.slice C zs.length cc, .slice D vs.length cd] 42))
    replace hor := Lib.hid hor
    clear e
    go_enter Try.func7, Try.ntmps7
    go_wp2_with fail
    generalize w.alloc (Obj.cells #[.slice C zs.length cc, .slice D vs.length cd] 42) = w0 at *
    refine (awake_any w0).mono ?_
    rintro e w1 ⟨rfl, hb⟩
    replace hW := Lib.hid (hW.out.trans (hb.mono hW.out.size))
    replace hT := Lib.hid (hT.out.far hb)
    clear hb
    have hx0 := hT.out.c0
    have hx1 := hT.out.c1
    cases p
    · cases q
      · cases r
        · cases s
          · exact absurd hor.out (by decide)
          · go_wp2_with fail
            go_ret
            exact ⟨rfl, hW.out⟩
        · go_wp2_with fail
          go_ret
          exact ⟨rfl, hW.out⟩
      · go_wp2_with fail
        go_ret
        exact ⟨rfl, hW.out⟩
    · go_wp2_with fail
      go_ret
      exact ⟨rfl, hW.out⟩
end Go.Proofs.Ytfeikkohmgebbaa
namespace Go.Proofs.Ytfeikkohmgebbaa.polySums
open Go.ChangeShapes Go.WideShapes Go.ChangeAt Go.RowKit Go.Gf
set_option linter.unusedVariables false

theorem own : ownKnob Try.prog.godebug = none := by kernel_rfl

theorem walk (A0 : Option Addr) (x0 : List Nat) (c0 : Nat) (l0 : x0.length ≤ c0) (m0 : c0 ≤ maxLen) (A1 : Option Addr) (x1 : List Nat) (c1 : Nat) (l1 : x1.length ≤ c1) (m1 : c1 ≤ maxLen) (A2 B2 : Option Addr) (x2 y2 : List Nat) (c2 e2 : Nat) (l2 : x2.length ≤ c2) (m2 : c2 ≤ maxLen) (n2 : y2.length ≤ e2) (o2 : e2 ≤ maxLen) (w : World) (s0 : Sl w w.heap.size A0 x0) (s1 : Sl w w.heap.size A1 x1) (s2 : Sl w w.heap.size A2 x2) (r2' : Sl w w.heap.size B2 y2) :
    Calls Try.prog 7 #[.slice A0 x0.length c0, .slice A1 x1.length c1, .agg #[.slice A2 x2.length c2, .slice B2 y2.length e2]] w fun e w' => e = .returned (.bool true) ∧ Below w.heap.size w w' := sums_law A0 x0 c0 l0 m0 A1 x1 c1 l1 m1 A2 B2 x2 y2 c2 e2 l2 m2 n2 o2 w s0 s1 s2 r2'

set_option maxRecDepth 100000 in
theorem lifted (os : Os) (started : os.Started) (H : Type) (enc : TypeId × Value → H) :
    ReturnsInHanded {} Try.checked os 7 .any (Rows.polySumsSpec.pre6 enc Try.prog Try.f7 Rows.polySumsRow.domain false) (Rows.polySumsSpec.post enc Try.prog Try.f7 false true false false) := by
  refine returnsInHanded_of_change (C := Try.checked) own started (by kernel_rfl) Try.func7
    (ChangeSpec.witness6 (enc := enc) (C := Try.checked) false ⟨#[], #[.slice none 0 0, .slice none 0 0, .agg #[.slice none 0 0, .slice none 0 0]], []⟩ 8 (by kernel_rfl) (by kernel_rfl) (by kernel_rfl) (by kernel_rfl)) ?_
  intro W base args ds gs before hval0 hW hcnd _
  have hval : ∀ (j : Nat) t v, Try.f7.params[j]? = some t → args[j]? = some v → Value.okWide Try.prog W .any base t v := hval0
  have hW' := hW
  obtain ⟨p, q, hA0, hV, rfl, hfz, hnd⟩ := hW
  have hA : DataW.TrodAll enc Try.prog W 0 (fun _ => true) true Try.f7.params.toList args.toList ds p := hA0
  rw [Try.params7] at hA hval
  obtain ⟨v0, vs0, d0, ds0, p0, q0, hargs, rfl, rfl, h0, r0⟩ := trodAll_cons hA
  obtain ⟨v1, vs1, d1, ds1, p1, q1, rfl, rfl, rfl, h1, r1⟩ := trodAll_cons r0
  obtain ⟨v2, vs2, d2, ds2, p2, q2, rfl, rfl, rfl, h2, r2⟩ := trodAll_cons r1
  obtain ⟨rfl, rfl, rfl⟩ := trodAll_nil r2
  obtain rfl : args = #[v0, v1, v2] := by cases args; simp_all
  obtain ⟨rfl, rfl⟩ := trodVars_none hV
  obtain ⟨A0, x0, c0, rfl, l0, m0, s0, t0⟩ := open_sl Try.underlying22 Try.underlying23 (by kernel_rfl : Try.prog.cellsOf 23 = 1) (hval 0 22 v0 rfl rfl) h0
  obtain ⟨A1, x1, c1, rfl, l1, m1, s1, t1⟩ := open_sl Try.underlying22 Try.underlying23 (by kernel_rfl : Try.prog.cellsOf 23 = 1) (hval 1 22 v1 rfl rfl) h1
  obtain ⟨A2, B2, x2, y2, c2, e2, rfl, l2, m2, n2, o2, s2, r2', t2⟩ := open_sl2 Try.underlying42 (by kernel_rfl : Try.prog.cellsOf 42 = 2) (by kernel_rfl : Try.prog.cellsOf 22 = 1) Try.underlying22 Try.underlying23 (by kernel_rfl : Try.prog.cellsOf 23 = 1) (hval 2 42 v2 rfl rfl) h2
  clear hA0 hval0
  refine (walk A0 x0 c0 l0 m0 A1 x1 c1 l1 m1 A2 B2 x2 y2 c2 e2 l2 m2 n2 o2 W s0 s1 s2 r2').mono fun e W' ⟨he, hg⟩ => ?_
  subst he
  exact ⟨_, rfl, Cl.post_below (pv := []) hW' (fun _ _ _ => (trodAll_cons_mk (shut_bool Try.underlying4 _) trodAll_mk0)) (fun sp hsp => (trodAll_cons_mk (t0 W' hg sp (fun q hq => hsp q (by simp [hq]))) (trodAll_cons_mk (t1 W' hg sp (fun q hq => hsp q (by simp [hq]))) (trodAll_cons_mk (t2 W' hg sp (fun q hq => hsp q (by simp [hq]))) trodAll_mk0)))) (fun _ _ => rfl) rfl
    hg (ok_one (by kernel_rfl) rfl (okWide_bool_mk Try.underlying4 _))⟩

theorem over : Rows.polySumsRow.holds Try.pinned (OpenSpec.ofChange Rows.polySumsSpec) :=
  OpenClaim.holds_of_wide 7 Try.f7 rfl rfl rfl rfl rfl rfl rfl ⟨rfl, rfl, rfl, rfl, rfl⟩ rfl rfl rfl rfl rfl (by kernel_rfl) Try.func7 (by kernel_rfl)
    (of_decide_eq_true (by kernel_rfl)) (by unfold Func.isWrapper; first | (rw [if_pos (by decide +kernel)]; kernel_rfl) | (rw [if_neg (by decide +kernel)]; exact ⟨rfl, rfl⟩))
    (fun os started H enc _ => lifted os started H enc)

/-- THE STATEMENT -/
theorem proved : Rows.PolySumsSaid := over
end Go.Proofs.Ytfeikkohmgebbaa.polySums
