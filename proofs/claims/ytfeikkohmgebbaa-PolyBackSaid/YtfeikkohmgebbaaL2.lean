/- Statement PolyBack: for every two polynomials and every number the law returns true. -/
import Derived.Test.YtfeikkohmgebbaaAw
import Derived.Test.YtfeikkohmgebbaaSq
namespace Go.Proofs.Ytfeikkohmgebbaa
open Go.RowKit Go.Gf
attribute [local go_sem ↓] exec_load_tb Cl.quiet_since
attribute [local go_sem] tbAt_ptr tbIn_ptr

set_option maxRecDepth 20000 in
set_option maxHeartbeats 8000000 in
theorem back_core (A : Option Addr) (xs : List Nat) (ca : Nat) (hca : xs.length ≤ ca) (B : Option Addr) (ys : List Nat) (cb : Nat) (hcb : ys.length ≤ cb) (l1 : xs.length ≤ 100) (l2 : ys.length ≤ 100) (x : Int) (x0 : 0 ≤ x) (x1 : x < 65536) (w : World)
    (hA : Hid (Sl w w.heap.size A xs)) (hB : Hid (Sl w w.heap.size B ys)) (ok : Bool) (hok : Hid (decide (tr ys ≠ []) = ok))
    (hno : Hid (ok = false → (((tr ys).length : Int) == 0) = true)) (HQ : Hid (ok = true → padd (pmul (qq xs ys) ys) (rr xs ys) = tr xs ∧ decide ((rr xs ys).length < (tr ys).length) = true))
    (HE : Hid (slope (pmul xs ys) = padd (pmul (slope xs) ys) (pmul xs (slope ys)))) (hev : ev (x.toNat % 1024) (pmul xs ys) = gm (ev (x.toNat % 1024) xs) (ev (x.toNat % 1024) ys)) :
    Calls Try.prog 4 #[.slice A xs.length ca, .slice B ys.length cb, .int .u16 x] w (Leaves w (.bool true)) := by
  have lx : xs.length ≤ 1000000 := by omega
  have ly : ys.length ≤ 1000000 := by omega
  have d1 : decide ((100 : Int) < (xs.length : Int)) = false := by rw [decide_eq_false_iff_not]; omega
  have d2 : decide ((100 : Int) < (ys.length : Int)) = false := by rw [decide_eq_false_iff_not]; omega
  have b1 := Lib.hid (show (pmul xs ys).length ≤ 1000000 from Nat.le_trans (pmul_le xs ys) (by omega))
  have b2 := Lib.hid (show (slope xs).length ≤ 1000000 from Nat.le_trans (slope_le xs) (by omega))
  have b3 := Lib.hid (show (slope ys).length ≤ 1000000 from Nat.le_trans (slope_le ys) (by omega))
  have b4 := Lib.hid (show (pmul (slope xs) ys).length ≤ 1000000 from Nat.le_trans (pmul_le _ _) (by omega))
  have b5 := Lib.hid (show (pmul xs (slope ys)).length ≤ 1000000 from Nat.le_trans (pmul_le _ _) (by omega))
  have b6 := Lib.hid (show (slope (pmul xs ys)).length ≤ 1000000 from Nat.le_trans (slope_le _) b1.out)
  have b7 := Lib.hid (show (padd (pmul (slope xs) ys) (pmul xs (slope ys))).length ≤ 1000000 from Nat.le_trans (padd_le _ _) (by have := b4.out; have := b5.out; omega))
  have b8 := Lib.hid (show (qq xs ys).length ≤ 1000000 from Nat.le_trans (qq_le xs ys) (by omega))
  have b9 := Lib.hid (show (pmul (qq xs ys) ys).length ≤ 1000000 from Nat.le_trans (pmul_le _ _) (by omega))
  have b10 := Lib.hid (show (rr xs ys).length ≤ 1000000 from Nat.le_trans (rr_le xs ys) (by omega))
  have b11 := Lib.hid (show (padd (pmul (qq xs ys) ys) (rr xs ys)).length ≤ 1000000 from Nat.le_trans (padd_le _ _) (by have := b9.out; have := b10.out; omega))
  have b12 := Lib.hid (show (tr xs).length ≤ 1000000 from Nat.le_trans (tr_len xs) lx)
  have e1 := ev_lt (x.toNat % 1024) xs
  have e2 := ev_lt (x.toNat % 1024) ys
  obtain ⟨E1, hE1⟩ : ∃ E1, Hid (ev (x.toNat % 1024) xs = E1) := ⟨_, Lib.hid rfl⟩
  obtain ⟨E2, hE2⟩ : ∃ E2, Hid (ev (x.toNat % 1024) ys = E2) := ⟨_, Lib.hid rfl⟩
  obtain ⟨E3, hE3⟩ : ∃ E3, Hid (ev (x.toNat % 1024) (pmul xs ys) = E3) := ⟨_, Lib.hid rfl⟩
  rw [hE1.out] at e1
  rw [hE2.out] at e2
  have hMul : MulIs E1 E2 E3 := mulIs (by omega) (by omega) (by omega) (by omega) (by rw [mulI_nat e1 e2, ← hE3.out, hev, hE1.out, hE2.out])
  clear hev
  have hz := zero27
  go_enter Try.func4, Try.ntmps4
  go_wp2_with fail
  have hW : Hid (Below w.heap.size w w) := Lib.hid (Below.refl _ _)
  have hc := awake_any w
  replace hc := Lib.hid hc
  refine hc.out.mono ?_
  rintro e w1 ⟨rfl, hb⟩
  clear hc
  have hW := Lib.hid (hW.out.trans (hb.mono hW.out.size))
  replace hA := Lib.hid (hA.out.far hb)
  replace hB := Lib.hid (hB.out.far hb)
  clear hb
  go_wp2_with fail
  refine (make_any _).mono ?_
  rintro e w2 ⟨cs, rfl, hl, hb⟩
  have hb0 := hW.out.trans (hb.mono hW.out.size)
  replace hA := Lib.hid (hA.out.far hb)
  replace hB := Lib.hid (hB.out.far hb)
  clear hb hW
  go_wp2_with (refine wpList_store_row rfl 28 _ _ rfl w2.heap.size (cells cs) rfl rfl 28 (cells ZT) (heap_alloc_new w2 _) (rsize hl) (zsize hl) (cells_one cs) ?_)
  have hS := St.start (cs := cs) hb0 (cells ZT)
  have hb : Below w2.heap.size w2 ((w2.alloc (Obj.cells (cells ZT) 28)).setRow w2.heap.size (cells cs)) := below_setRow ((Below.refl _ _).alloc (Nat.le_refl _) _) (Nat.le_refl _) _
  replace hA := Lib.hid (hA.out.far hb)
  replace hB := Lib.hid (hB.out.far hb)
  clear hb0 hb
  generalize hg : w2.heap.size = g at hS ⊢
  rw [hg] at hA hB
  generalize (w2.alloc (Obj.cells (cells ZT) 28)).setRow g (cells cs) = w3 at *
  clear hg hz
  have hi := hS.is hl.1
  have ho := hS.of
  go_wp2_with fail
  have hc := row_mul hl hA.out hB.out lx ly hca hcb
  replace hc := Lib.hid hc
  refine hc.out.mono ?_
  rintro e w4 ⟨Am, rfl, hm, hb⟩
  clear hc
  have hS := hS.next hb
  have hi := hS.is hl.1
  have ho := hS.of
  replace hA := Lib.hid (hA.out.far hb)
  replace hB := Lib.hid (hB.out.far hb)
  clear hb
  replace hm := Lib.hid hm
  go_wp2_with fail
  have hc := row_slope (ca := (pmul xs ys).length) hm.out b1.out
  replace hc := Lib.hid hc
  refine hc.out.mono ?_
  rintro e w5 ⟨Ak, rfl, hk, hb⟩
  clear hc
  have hS := hS.next hb
  have hi := hS.is hl.1
  have ho := hS.of
  replace hA := Lib.hid (hA.out.far hb)
  replace hB := Lib.hid (hB.out.far hb)
  replace hm := Lib.hid (hm.out.far hb)
  clear hb
  replace hk := Lib.hid hk
  go_wp2_with fail
  refine Cl.region_way (fun _ => True) 12 [(0, .r), (1, .r), (3, .r), (5, .r), (6, .r), (7, .r), (2, .c), (4, .c), (8, .c), (9, .c), (10, .c), (11, .r)] (by kernel_rfl) (by kernel_rfl) ?_
  intro w6 hk
  have hb := Cl.Keeps.below hk
  clear hk
  have hS := hS.next hb
  have hi := hS.is hl.1
  have ho := hS.of
  replace hA := Lib.hid (hA.out.far hb)
  replace hB := Lib.hid (hB.out.far hb)
  replace hm := Lib.hid (hm.out.far hb)
  replace hk := Lib.hid (hk.out.far hb)
  clear hb
  have hiA : ∀ y : Cl.Since (fun _ => True) w6, isTb y.w g = true := fun y => (hS.next (Cl.Keeps.below y.keeps)).is hl.1
  have hoA : ∀ y : Cl.Since (fun _ => True) w6, tbOf y.w g = cells cs := fun y => (hS.next (Cl.Keeps.below y.keeps)).of
  iterate 6 (refine Cl.way_r rfl ?_; go_big_quiet_step (fail); refine wpQuiet_nil ?_)
  clear hiA hoA
  refine Cl.way_c rfl ?_
  go_wp2_with fail
  have hc := row_slope (ca := ca) hA.out lx
  replace hc := Lib.hid hc
  refine hc.out.mono ?_
  rintro e w7 ⟨As, rfl, hs, hb⟩
  clear hc
  have hbk := Lib.hid hb
  have hS := hS.next hb
  have hi := hS.is hl.1
  have ho := hS.of
  replace hA := Lib.hid (hA.out.far hb)
  replace hB := Lib.hid (hB.out.far hb)
  replace hm := Lib.hid (hm.out.far hb)
  replace hk := Lib.hid (hk.out.far hb)
  clear hb
  replace hs := Lib.hid hs
  go_wp2_with fail
  refine Cl.way_on (Cl.Keeps.of_below hbk.out) ?_
  clear hbk
  refine Cl.way_c rfl ?_
  go_wp2_with fail
  have hc := row_mul (ca := (slope xs).length) hl hs.out hB.out b2.out ly (Nat.le_refl _) hcb
  replace hc := Lib.hid hc
  clear hs
  refine hc.out.mono ?_
  rintro e w8 ⟨At, rfl, ht, hb⟩
  clear hc
  have hbk := Lib.hid hb
  have hS := hS.next hb
  have hi := hS.is hl.1
  have ho := hS.of
  replace hA := Lib.hid (hA.out.far hb)
  replace hB := Lib.hid (hB.out.far hb)
  replace hm := Lib.hid (hm.out.far hb)
  replace hk := Lib.hid (hk.out.far hb)
  clear hb
  replace ht := Lib.hid ht
  go_wp2_with fail
  refine Cl.way_on (Cl.Keeps.of_below hbk.out) ?_
  clear hbk
  refine Cl.way_c rfl ?_
  go_wp2_with fail
  have hc := row_slope (ca := cb) hB.out ly
  replace hc := Lib.hid hc
  refine hc.out.mono ?_
  rintro e w9 ⟨As, rfl, hs, hb⟩
  clear hc
  have hbk := Lib.hid hb
  have hS := hS.next hb
  have hi := hS.is hl.1
  have ho := hS.of
  replace hA := Lib.hid (hA.out.far hb)
  replace hB := Lib.hid (hB.out.far hb)
  replace hm := Lib.hid (hm.out.far hb)
  replace hk := Lib.hid (hk.out.far hb)
  replace ht := Lib.hid (ht.out.far hb)
  clear hb
  replace hs := Lib.hid hs
  go_wp2_with fail
  refine Cl.way_on (Cl.Keeps.of_below hbk.out) ?_
  clear hbk
  refine Cl.way_c rfl ?_
  go_wp2_with fail
  have hc := row_mul (cb := (slope ys).length) hl hA.out hs.out lx b3.out hca (Nat.le_refl _)
  replace hc := Lib.hid hc
  clear hs
  refine hc.out.mono ?_
  rintro e w10 ⟨Au, rfl, hu, hb⟩
  clear hc
  have hbk := Lib.hid hb
  have hS := hS.next hb
  have hi := hS.is hl.1
  have ho := hS.of
  replace hA := Lib.hid (hA.out.far hb)
  replace hB := Lib.hid (hB.out.far hb)
  replace hm := Lib.hid (hm.out.far hb)
  replace hk := Lib.hid (hk.out.far hb)
  replace ht := Lib.hid (ht.out.far hb)
  clear hb
  replace hu := Lib.hid hu
  go_wp2_with fail
  refine Cl.way_on (Cl.Keeps.of_below hbk.out) ?_
  clear hbk
  refine Cl.way_c rfl ?_
  go_wp2_with fail
  have hc := row_add (ca := (pmul (slope xs) ys).length) (cb := (pmul xs (slope ys)).length) ht.out hu.out b4.out b5.out
  replace hc := Lib.hid hc
  clear ht
  clear hu
  refine hc.out.mono ?_
  rintro e w11 ⟨Ar, rfl, hr, hb⟩
  clear hc
  have hbk := Lib.hid hb
  have hS := hS.next hb
  have hi := hS.is hl.1
  have ho := hS.of
  replace hA := Lib.hid (hA.out.far hb)
  replace hB := Lib.hid (hB.out.far hb)
  replace hm := Lib.hid (hm.out.far hb)
  replace hk := Lib.hid (hk.out.far hb)
  clear hb
  replace hr := Lib.hid hr
  go_wp2_with fail
  refine Cl.way_on (Cl.Keeps.of_below hbk.out) ?_
  clear hbk
  iterate 1 (refine Cl.way_r rfl ?_; go_big_quiet_step (fail); refine wpQuiet_nil ?_)
  refine Cl.way_end ?_
  go_wp2_with fail
  refine Cl.region_way (fun _ => True) 21 [(0, .r), (1, .r), (2, .r), (4, .r), (5, .r), (6, .r), (7, .r), (9, .r), (10, .r), (11, .r), (3, .c), (8, .c), (12, .c), (13, .c), (14, .r), (15, .r), (16, .r), (17, .r), (18, .c), (19, .r), (20, .r)] (by kernel_rfl) (by kernel_rfl) ?_
  intro w12 hk
  have hb := Cl.Keeps.below hk
  clear hk
  have hS := hS.next hb
  have hi := hS.is hl.1
  have ho := hS.of
  replace hA := Lib.hid (hA.out.far hb)
  replace hB := Lib.hid (hB.out.far hb)
  replace hm := Lib.hid (hm.out.far hb)
  replace hk := Lib.hid (hk.out.far hb)
  replace hr := Lib.hid (hr.out.far hb)
  clear hb
  have hiA : ∀ y : Cl.Since (fun _ => True) w12, isTb y.w g = true := fun y => (hS.next (Cl.Keeps.below y.keeps)).is hl.1
  have hoA : ∀ y : Cl.Since (fun _ => True) w12, tbOf y.w g = cells cs := fun y => (hS.next (Cl.Keeps.below y.keeps)).of
  iterate 10 (refine Cl.way_r rfl ?_; go_big_quiet_step (fail); refine wpQuiet_nil ?_)
  clear hiA hoA
  refine Cl.way_c rfl ?_
  go_wp2_with fail
  have hc := val_at (ca := (pmul xs ys).length) (x := x) hl hm.out b1.out x0 x1
  rw [hE3.out] at hc
  replace hc := Lib.hid hc
  clear hm
  refine hc.out.mono ?_
  rintro e w13 ⟨rfl, hb⟩
  clear hc
  have hbk := Lib.hid hb
  have hS := hS.next hb
  have hi := hS.is hl.1
  have ho := hS.of
  replace hA := Lib.hid (hA.out.far hb)
  replace hB := Lib.hid (hB.out.far hb)
  replace hk := Lib.hid (hk.out.far hb)
  replace hr := Lib.hid (hr.out.far hb)
  clear hb
  go_wp2_with fail
  refine Cl.way_on (Cl.Keeps.of_below hbk.out) ?_
  clear hbk
  refine Cl.way_c rfl ?_
  go_wp2_with fail
  have hc := val_at (ca := ca) (x := x) hl hA.out lx x0 x1
  rw [hE1.out] at hc
  replace hc := Lib.hid hc
  refine hc.out.mono ?_
  rintro e w14 ⟨rfl, hb⟩
  clear hc
  have hbk := Lib.hid hb
  have hS := hS.next hb
  have hi := hS.is hl.1
  have ho := hS.of
  replace hA := Lib.hid (hA.out.far hb)
  replace hB := Lib.hid (hB.out.far hb)
  replace hk := Lib.hid (hk.out.far hb)
  replace hr := Lib.hid (hr.out.far hb)
  clear hb
  go_wp2_with fail
  refine Cl.way_on (Cl.Keeps.of_below hbk.out) ?_
  clear hbk
  refine Cl.way_c rfl ?_
  go_wp2_with fail
  have hc := val_at (ca := cb) (x := x) hl hB.out ly x0 x1
  rw [hE2.out] at hc
  replace hc := Lib.hid hc
  refine hc.out.mono ?_
  rintro e w15 ⟨rfl, hb⟩
  clear hc
  have hbk := Lib.hid hb
  have hS := hS.next hb
  have hi := hS.is hl.1
  have ho := hS.of
  replace hA := Lib.hid (hA.out.far hb)
  replace hB := Lib.hid (hB.out.far hb)
  replace hk := Lib.hid (hk.out.far hb)
  replace hr := Lib.hid (hr.out.far hb)
  clear hb
  go_wp2_with fail
  refine Cl.way_on (Cl.Keeps.of_below hbk.out) ?_
  clear hbk
  refine Cl.way_c rfl ?_
  go_wp2_with fail
  have hc := hMul.at cs w15
  replace hc := Lib.hid hc
  refine hc.out.mono ?_
  rintro e w16 ⟨rfl, hb⟩
  clear hc
  have hbk := Lib.hid hb
  have hS := hS.next hb
  have hi := hS.is hl.1
  have ho := hS.of
  replace hA := Lib.hid (hA.out.far hb)
  replace hB := Lib.hid (hB.out.far hb)
  replace hk := Lib.hid (hk.out.far hb)
  replace hr := Lib.hid (hr.out.far hb)
  clear hb
  go_wp2_with fail
  refine Cl.way_on (Cl.Keeps.of_below hbk.out) ?_
  clear hbk
  iterate 4 (refine Cl.way_r rfl ?_; go_big_quiet_step (fail); refine wpQuiet_nil ?_)
  refine Cl.way_c rfl ?_
  go_wp2_with fail
  have hc := val_same (ca := (slope (pmul xs ys)).length) (cb := (padd (pmul (slope xs) ys) (pmul xs (slope ys))).length) (b := true) hk.out hr.out b6.out b7.out (decide_eq_true HE.out)
  replace hc := Lib.hid hc
  clear hk
  clear hr
  refine hc.out.mono ?_
  rintro e w17 ⟨rfl, hb⟩
  clear hc
  have hbk := Lib.hid hb
  have hS := hS.next hb
  have hi := hS.is hl.1
  have ho := hS.of
  replace hA := Lib.hid (hA.out.far hb)
  replace hB := Lib.hid (hB.out.far hb)
  clear hb
  go_wp2_with fail
  refine Cl.way_on (Cl.Keeps.of_below hbk.out) ?_
  clear hbk
  iterate 2 (refine Cl.way_r rfl ?_; go_big_quiet_step (fail); refine wpQuiet_nil ?_)
  refine Cl.way_end ?_
  go_wp2_with fail
  have hc := row_div (ok := ok) (ca := ca) hl hA.out hB.out lx ly hcb hok.out
  replace hc := Lib.hid hc
  refine hc.out.mono ?_
  rintro e w18 ⟨A1, c1, A2, c2, rfl, hc1, hc2, hq, hr, hb⟩
  clear hc
  have hS := hS.next hb
  have hi := hS.is hl.1
  have ho := hS.of
  replace hA := Lib.hid (hA.out.far hb)
  replace hB := Lib.hid (hB.out.far hb)
  clear hb
  replace hq := Lib.hid hq
  replace hr := Lib.hid hr
  cases ok
  · have hn0 := hno.out rfl
    clear hno
    go_wp2_with fail
    have hc := row_trim (ca := cb) hB.out ly
    replace hc := Lib.hid hc
    refine hc.out.mono ?_
    rintro e w19 ⟨An, rfl, hn, hb⟩
    clear hc
    have hS := hS.next hb
    have hi := hS.is hl.1
    have ho := hS.of
    replace hA := Lib.hid (hA.out.far hb)
    replace hB := Lib.hid (hB.out.far hb)
    replace hq := Lib.hid (hq.out.far hb)
    replace hr := Lib.hid (hr.out.far hb)
    clear hb
    replace hn := Lib.hid hn
    go_wp2_with fail
    go_ret
    exact ⟨rfl, hS.below⟩
  · obtain ⟨HQ1, hlt⟩ := HQ.out rfl
    replace HQ1 := Lib.hid HQ1
    clear HQ hno
    go_wp2_with fail
    have hc := row_mul (ca := c1) hl hq.out hB.out b8.out ly hc1 hcb
    replace hc := Lib.hid hc
    clear hq
    refine hc.out.mono ?_
    rintro e w19 ⟨Ap, rfl, hp, hb⟩
    clear hc
    have hS := hS.next hb
    have hi := hS.is hl.1
    have ho := hS.of
    replace hA := Lib.hid (hA.out.far hb)
    replace hB := Lib.hid (hB.out.far hb)
    replace hr := Lib.hid (hr.out.far hb)
    clear hb
    replace hp := Lib.hid hp
    go_wp2_with fail
    have hc := row_add (ca := (pmul (qq xs ys) ys).length) (cb := c2) hp.out hr.out b9.out b10.out
    replace hc := Lib.hid hc
    clear hp
    refine hc.out.mono ?_
    rintro e w20 ⟨As, rfl, hs, hb⟩
    clear hc
    have hS := hS.next hb
    have hi := hS.is hl.1
    have ho := hS.of
    replace hA := Lib.hid (hA.out.far hb)
    replace hB := Lib.hid (hB.out.far hb)
    replace hr := Lib.hid (hr.out.far hb)
    clear hb
    replace hs := Lib.hid hs
    go_wp2_with fail
    have hc := row_trim (ca := ca) hA.out lx
    replace hc := Lib.hid hc
    refine hc.out.mono ?_
    rintro e w21 ⟨An, rfl, hn, hb⟩
    clear hc
    have hS := hS.next hb
    have hi := hS.is hl.1
    have ho := hS.of
    replace hA := Lib.hid (hA.out.far hb)
    replace hB := Lib.hid (hB.out.far hb)
    replace hr := Lib.hid (hr.out.far hb)
    replace hs := Lib.hid (hs.out.far hb)
    clear hb
    replace hn := Lib.hid hn
    go_wp2_with fail
    have hc := val_same (ca := (padd (pmul (qq xs ys) ys) (rr xs ys)).length) (cb := (tr xs).length) (b := true) hs.out hn.out b11.out b12.out (decide_eq_true HQ1.out)
    replace hc := Lib.hid hc
    clear hs
    clear hn
    refine hc.out.mono ?_
    rintro e w22 ⟨rfl, hb⟩
    clear hc
    have hS := hS.next hb
    have hi := hS.is hl.1
    have ho := hS.of
    replace hA := Lib.hid (hA.out.far hb)
    replace hB := Lib.hid (hB.out.far hb)
    replace hr := Lib.hid (hr.out.far hb)
    clear hb
    go_wp2_with fail
    have hc := row_trim (ca := cb) hB.out ly
    replace hc := Lib.hid hc
    refine hc.out.mono ?_
    rintro e w23 ⟨An, rfl, hn, hb⟩
    clear hc
    have hS := hS.next hb
    have hi := hS.is hl.1
    have ho := hS.of
    replace hA := Lib.hid (hA.out.far hb)
    replace hB := Lib.hid (hB.out.far hb)
    replace hr := Lib.hid (hr.out.far hb)
    clear hb
    replace hn := Lib.hid hn
    go_wp2_with fail
    go_ret
    exact ⟨rfl, hS.below⟩

theorem back_law (A : Option Addr) (xs : List Nat) (ca : Nat) (hca : xs.length ≤ ca) (hx : ca ≤ maxLen) (B : Option Addr) (ys : List Nat) (cb : Nat) (hcb : ys.length ≤ cb) (hy : cb ≤ maxLen) (x : Int) (wx : (Lit.int .u16 x).wf = true) (w : World)
    (hA : Sl w w.heap.size A xs) (hB : Sl w w.heap.size B ys) :
    Calls Try.prog 4 #[.slice A xs.length ca, .slice B ys.length cb, .int .u16 x] w (Leaves w (.bool true)) := by
  obtain ⟨x0, x1⟩ := u16_bd wx
  have mx : (xs.length : Int) ≤ 9223372036854775807 := by unfold maxLen at hx; omega
  have my : (ys.length : Int) ≤ 9223372036854775807 := by unfold maxLen at hy; omega
  clear hx hy
  by_cases hl1 : xs.length ≤ 100 ∧ ys.length ≤ 100
  · obtain ⟨l1, l2⟩ := hl1
    have l3 := tr_len xs
    have l4 := tr_len ys
    refine back_core A xs ca hca B ys cb hcb l1 l2 x x0 x1 w (Lib.hid hA) (Lib.hid hB) _ (Lib.hid rfl) ?_ ?_ (Lib.hid (slope_pmul (by omega))) (ev_pmul _ (by omega) (by omega))
    · intro h
      have h0 : tr ys = [] := by simpa using h
      rw [h0]; rfl
    · intro h
      have h0 : tr ys ≠ [] := by simpa using h
      unfold qq rr
      rw [if_neg h0, if_neg h0, decide_eq_true_eq]
      exact ⟨quo_rem h0 (by omega), prem_len h0⟩
  · have e : Hid (100 < xs.length ∨ 100 < ys.length) := by unfold Hid; omega
    cases d1 : decide ((100 : Int) < (xs.length : Int)) <;> cases d2 : decide ((100 : Int) < (ys.length : Int))
    · rw [decide_eq_false_iff_not] at d1 d2
      have := e.out
      omega
    all_goals
      clear hl1
      go_enter Try.func4, Try.ntmps4
      go_wp2_with fail
      refine (awake_any w).mono ?_
      rintro e w1 ⟨rfl, hb⟩
      go_wp2_with fail
      go_ret
      exact ⟨rfl, hb⟩
end Go.Proofs.Ytfeikkohmgebbaa
namespace Go.Proofs.Ytfeikkohmgebbaa.polyBack
open Go.ChangeShapes Go.WideShapes Go.ChangeAt Go.RowKit Go.Gf
set_option linter.unusedVariables false

theorem own : ownKnob Try.prog.godebug = none := by kernel_rfl

theorem walk (A0 : Option Addr) (x0 : List Nat) (c0 : Nat) (l0 : x0.length ≤ c0) (m0 : c0 ≤ maxLen) (A1 : Option Addr) (x1 : List Nat) (c1 : Nat) (l1 : x1.length ≤ c1) (m1 : c1 ≤ maxLen) (a2 : Int) (w2 : (Lit.int .u16 a2).wf = true) (w : World) (s0 : Sl w w.heap.size A0 x0) (s1 : Sl w w.heap.size A1 x1) :
    Calls Try.prog 4 #[.slice A0 x0.length c0, .slice A1 x1.length c1, .int .u16 a2] w fun e w' => e = .returned (.bool true) ∧ Below w.heap.size w w' := back_law A0 x0 c0 l0 m0 A1 x1 c1 l1 m1 a2 w2 w s0 s1

set_option maxRecDepth 100000 in
theorem lifted (os : Os) (started : os.Started) (H : Type) (enc : TypeId × Value → H) :
    ReturnsInHanded {} Try.checked os 4 .any (Rows.polyBackSpec.pre6 enc Try.prog Try.f4 Rows.polyBackRow.domain false) (Rows.polyBackSpec.post enc Try.prog Try.f4 false true false false) := by
  refine returnsInHanded_of_change (C := Try.checked) own started (by kernel_rfl) Try.func4
    (ChangeSpec.witness6 (enc := enc) (C := Try.checked) false ⟨#[], #[.slice none 0 0, .slice none 0 0, .int .u16 0], []⟩ 8 (by kernel_rfl) (by kernel_rfl) (by kernel_rfl) (by kernel_rfl)) ?_
  intro W base args ds gs before hval0 hW hcnd _
  have hval : ∀ (j : Nat) t v, Try.f4.params[j]? = some t → args[j]? = some v → Value.okWide Try.prog W .any base t v := hval0
  have hW' := hW
  obtain ⟨p, q, hA0, hV, rfl, hfz, hnd⟩ := hW
  have hA : DataW.TrodAll enc Try.prog W 0 (fun _ => true) true Try.f4.params.toList args.toList ds p := hA0
  rw [Try.params4] at hA hval
  obtain ⟨v0, vs0, d0, ds0, p0, q0, hargs, rfl, rfl, h0, r0⟩ := trodAll_cons hA
  obtain ⟨v1, vs1, d1, ds1, p1, q1, rfl, rfl, rfl, h1, r1⟩ := trodAll_cons r0
  obtain ⟨v2, vs2, d2, ds2, p2, q2, rfl, rfl, rfl, h2, r2⟩ := trodAll_cons r1
  obtain ⟨rfl, rfl, rfl⟩ := trodAll_nil r2
  obtain rfl : args = #[v0, v1, v2] := by cases args; simp_all
  obtain ⟨rfl, rfl⟩ := trodVars_none hV
  obtain ⟨A0, x0, c0, rfl, l0, m0, s0, t0⟩ := open_sl Try.underlying22 Try.underlying23 (by kernel_rfl : Try.prog.cellsOf 23 = 1) (hval 0 22 v0 rfl rfl) h0
  obtain ⟨A1, x1, c1, rfl, l1, m1, s1, t1⟩ := open_sl Try.underlying22 Try.underlying23 (by kernel_rfl : Try.prog.cellsOf 23 = 1) (hval 1 22 v1 rfl rfl) h1
  obtain ⟨a2, rfl, rfl, rfl, w2⟩ := open_int Try.underlying23 (hval 2 23 v2 rfl rfl) h2
  clear hA0 hval0
  refine (walk A0 x0 c0 l0 m0 A1 x1 c1 l1 m1 a2 w2 W s0 s1).mono fun e W' ⟨he, hg⟩ => ?_
  subst he
  exact ⟨_, rfl, Cl.post_below (pv := []) hW' (fun _ _ _ => (trodAll_cons_mk (shut_bool Try.underlying4 _) trodAll_mk0)) (fun sp hsp => (trodAll_cons_mk (t0 W' hg sp (fun q hq => hsp q (by simp [hq]))) (trodAll_cons_mk (t1 W' hg sp (fun q hq => hsp q (by simp [hq]))) (trodAll_cons_mk (shut_int Try.underlying23 w2) trodAll_mk0)))) (fun _ _ => rfl) rfl
    hg (ok_one (by kernel_rfl) rfl (okWide_bool_mk Try.underlying4 _))⟩

theorem over : Rows.polyBackRow.holds Try.pinned (OpenSpec.ofChange Rows.polyBackSpec) :=
  OpenClaim.holds_of_wide 4 Try.f4 rfl rfl rfl rfl rfl rfl rfl ⟨rfl, rfl, rfl, rfl, rfl⟩ rfl rfl rfl rfl rfl (by kernel_rfl) Try.func4 (by kernel_rfl)
    (of_decide_eq_true (by kernel_rfl)) (by unfold Func.isWrapper; first | (rw [if_pos (by decide +kernel)]; kernel_rfl) | (rw [if_neg (by decide +kernel)]; exact ⟨rfl, rfl⟩))
    (fun os started H enc _ => lifted os started H enc)

/-- THE STATEMENT -/
theorem proved : Rows.PolyBackSaid := over
end Go.Proofs.Ytfeikkohmgebbaa.polyBack
