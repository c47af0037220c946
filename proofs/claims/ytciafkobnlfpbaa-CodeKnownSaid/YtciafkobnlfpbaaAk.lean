/- The document's example of chapter 4. -/
import Derived.Test.YtciafkobnlfpbaaCg
namespace Go.Proofs.Ytciafkobnlfpbaa
open Go.RowKit Go.Gf
attribute [local go_sem ↓] exec_load_tb Cl.quiet_since
attribute [local go_sem] tbAt_ptr tbIn_ptr

/-- the word of one symbol 5, and with its fourth symbol turned -/
def aw5 : List Nat := [5, 413, 674, 610, 342, 557, 164, 115, 1013, 533, 280, 51, 343, 762, 87, 464, 243]
def ab5 : List Nat := [5, 413, 674, 613, 342, 557, 164, 115, 1013, 533, 280, 51, 343, 762, 87, 464, 243]
theorem aw5_enc : encW [5] = aw5 ∧ encE [5] = 0 := by decide +kernel
theorem aw5_cw : isCw aw5 := by
  have : enc [5] = aw5 := by decide +kernel
  rw [← this]
  exact enc_cw (by decide)
theorem ab5_dl : dl aw5 ab5 = 1 := by decide +kernel
theorem ab5_dec : Dec ab5 aw5 (dl aw5 ab5) 0 := Dec.ok (by decide) (by decide) aw5 ⟨rfl, by decide, aw5_cw, by decide +kernel⟩
set_option maxHeartbeats 4000000 in
set_option maxRecDepth 20000 in
theorem awake_any (w : World) : Calls Try.prog 11 #[] w (Leaves w (.bool true)) := by
  have hz := zero27
  go_enter Try.func11, Try.ntmps11
  go_wp2_with fail
  have hW : Hid (Below w.heap.size w w) := Lib.hid (Below.refl _ _)
  refine (make_any _).mono ?_
  rintro e w1 ⟨cs, rfl, hl, hb⟩
  have hb0 := hW.out.trans (hb.mono hW.out.size)
  clear hb hW
  go_wp2_with (refine wpList_store_row rfl 28 _ _ rfl w1.heap.size (cells cs) rfl rfl 28 (cells ZT) (heap_alloc_new w1 _) (rsize hl) (zsize hl) (cells_one cs) ?_)
  have hS := St.start (cs := cs) hb0 (cells ZT)
  have hb : Below w1.heap.size w1 ((w1.alloc (Obj.cells (cells ZT) 28)).setRow w1.heap.size (cells cs)) := below_setRow ((Below.refl _ _).alloc (Nat.le_refl _) _) (Nat.le_refl _) _
  clear hb0 hb
  generalize hg : w1.heap.size = g at hS ⊢
  skip
  generalize (w1.alloc (Obj.cells (cells ZT) 28)).setRow g (cells cs) = w2 at *
  clear hg hz
  have hi := hS.is hl.1
  have ho := hS.of
  go_wp2_with fail
  have hq := sl_new w2 (.cells #[.int .u16 5] 23) [5] (w2.heap.size) rfl rfl (by decide)
  have hb := below_alloc w2 (.cells #[.int .u16 5] 23)
  have hS := hS.next hb
  have hi := hS.is hl.1
  have ho := hS.of
  clear hb
  replace hq := Lib.hid hq
  generalize (w2.alloc (.cells #[.int .u16 5] 23)) = w3 at *
  have hc := cod_encode (ca := 1) hl hq.out (by decide) (by decide)
  rw [aw5_enc.1, aw5_enc.2] at hc
  replace hc := Lib.hid hc
  clear hq hi ho
  refine hc.out.mono ?_
  rintro e wE ⟨A1, c1, he, hc1, -, hpre, hb⟩
  obtain ⟨g1, rfl, hg1, hp⟩ := hpre (by decide)
  rw [show aw5.length = 17 from rfl] at he hc1 hp
  subst he
  clear hc hpre
  have hcell := hp.cell (i := 3) (by decide)
  rw [show at_ aw5 3 = 610 from rfl] at hcell
  have hfz := hp.frozen 3
  have hb2 : Below w3.heap.size w3 (wE.setCell ⟨g1, 3, none⟩ (.int .u16 613)) := hb.setCell (p := ⟨g1, 3, none⟩) hg1 _
  have hp2 : Pre (wE.setCell ⟨g1, 3, none⟩ (.int .u16 613)) g1 17 (at_ ab5) := (hp.set_ 3 613).congr (by decide +kernel)
  have hi := (hS.next hb2).is hl.1
  have ho := (hS.next hb2).of
  replace hp := Lib.hid hp
  replace hb := Lib.hid hb
  replace hb2 := Lib.hid hb2
  replace hp2 := Lib.hid hp2
  replace hS := Lib.hid hS
  have hx1 : bits .xor .u16 610 7 = 613 := by decide
  go_wp2_with fail
  generalize wE.setCell ⟨g1, 3, none⟩ (.int .u16 613) = w7 at hb2 hp2 hi ho ⊢
  have hs2 : Sl w7 w7.heap.size (some ⟨g1, 0, none⟩) ab5 := by
    have := hp2.out.sl (by decide +kernel)
    rwa [show rm 17 (at_ ab5) = ab5 from rm_at ab5] at this
  have hc := cod_decode (ca := c1) hl hs2 (by decide) hc1
  rw [show ab5.length = 17 from rfl] at hc
  replace hc := Lib.hid hc
  clear hs2 hcell hfz hi ho hb hp
  refine hc.out.mono ?_
  rintro e w8 ⟨ys, n, f, D1, c2, hD, he, hc2, hy, hb3⟩
  obtain ⟨rfl, rfl, rfl⟩ := hD.unique ab5_dec
  rw [ab5_dl, show aw5.length = 17 from rfl] at he
  subst he
  have hp3 := hp2.out.below hb3 hp2.out.lt
  have hglo := hp2.out.lt
  have hL := ((DecL.start hp3).set_ 3 610).congr (f' := at_ aw5) (by decide +kernel)
  have hsf := hL.slf hy hglo
  have hsw := hL.2.sl (by decide +kernel)
  rw [show rm 17 (at_ aw5) = aw5 from rm_at aw5] at hsw
  have hcell := hp3.cell (i := 3) (by decide)
  rw [show at_ ab5 3 = 613 from rfl] at hcell
  have hfz := hp3.frozen 3
  have hb4 := (hb2.out.trans (hb3.mono hb2.out.size)).setCell (p := ⟨g1, 3, none⟩) hg1 (.int .u16 610)
  replace hsf := Lib.hid hsf
  replace hsw := Lib.hid hsw
  replace hb4 := Lib.hid hb4
  replace hp3 := Lib.hid hp3
  have hx2 : bits .xor .u16 613 7 = 610 := by decide
  clear hc hD hy hb3 hL hp2 hb2
  go_wp2_with fail
  rw [show ((610 : Nat) : Int) = 610 from rfl] at hsf hsw
  generalize w8.setCell ⟨g1, 3, none⟩ (.int .u16 610) = w9 at hsf hsw hb4 ⊢
  clear hp3 hcell hfz
  have hc := Lib.hid (val_same (ca := c2) (cb := c1) (b := true) hsf.out hsw.out (by decide) (by decide) (decide_eq_true rfl))
  refine hc.out.mono ?_
  rintro e w10 ⟨rfl, hb5⟩
  replace hsf := Lib.hid (hsf.out.far hb5)
  replace hsw := Lib.hid (hsw.out.far hb5)
  replace hb4 := Lib.hid (hb4.out.trans (hb5.mono hb4.out.size))
  clear hb5 hc
  go_wp2_with fail
  have hc := cod_dist (ca := c2) (cb := c1) hsf.out hsw.out (by decide) (by decide)
  rw [show dl aw5 aw5 = 0 from rfl] at hc
  replace hc := Lib.hid hc
  refine hc.out.mono ?_
  rintro e w11 ⟨rfl, hb5⟩
  replace hb4 := Lib.hid (hb4.out.trans (hb5.mono hb4.out.size))
  clear hb5 hc hsf hsw
  have hS2 := hS.out.next hb4.out
  have hi := hS2.is hl.1
  have ho := hS2.of
  replace hS2 := Lib.hid hS2
  go_wp2_with fail
  have hc := cod_gen (w := w11) hl
  refine hc.mono ?_
  rintro e w12 ⟨A5, c5, he, hc5, hs5, hb6⟩
  rw [gens_len] at he
  subst he
  clear hc hs5
  replace hb6 := Lib.hid hb6
  go_wp2_with fail
  go_ret
  exact ⟨rfl, (hS2.out.next hb6.out).below⟩
end Go.Proofs.Ytciafkobnlfpbaa
