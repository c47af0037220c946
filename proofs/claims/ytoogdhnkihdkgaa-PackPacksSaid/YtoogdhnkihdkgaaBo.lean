/- The awake of chapter 5. -/
import Derived.Test.YtoogdhnkihdkgaaKv
namespace Go.Proofs.Ytoogdhnkihdkgaa
open Go.RowKit Go.Gf

set_option maxHeartbeats 2000000 in
theorem pawake_any (w : World) : Calls Try.prog 8 #[] w (Ans w (.bool true)) := by
  have hs0 := sb_new w (.cells #[.int .u8 255] 5) [255] w.heap.size rfl rfl (by decide)
  have hb0 := below_alloc w (.cells #[.int .u8 255] 5)
  have hc := Lib.hid (pak_pack (c := 1) hs0 (by decide))
  have e1 : pk [255] = [1020] := by decide +kernel
  have e2 : upkW [1020] 1 = [255] := by decide +kernel
  have e3 : upkE [1020] 1 = 0 := by decide +kernel
  rw [e1] at hc
  clear hs0
  go_enter Try.func8, Try.ntmps8
  go_wp2_with fail
  refine hc.out.mono ?_
  rintro e w1 ⟨v, rfl, ho, hb1⟩
  obtain ⟨B, d, rfl, hd, hs⟩ := ho.sl
  have hcu := pak_unpack (n := 1) (c := d) hs (by decide)
  rw [e2, e3] at hcu
  replace hcu := Lib.hid hcu
  have hb01 := hb0.trans (hb1.mono hb0.size)
  replace hs := Lib.hid hs
  clear hc ho hb1 hb0 e1 e2 e3
  go_wp2_with fail
  refine hcu.out.mono ?_
  rintro e w2 ⟨C, d2, rfl, hd2, hs2, hb2⟩
  have hs12 := hs.out.far hb2
  obtain ⟨a, rfl, _, hc1⟩ := hs12.at_ (i := 0) (by decide)
  obtain ⟨a2, rfl, _, hc2⟩ := hs2.at_ (i := 0) (by decide)
  rw [add_zero'] at hc1 hc2
  have hb02 := hb01.trans (hb2.mono hb01.size)
  clear hs hs2 hs12 hb2 hb01 hcu
  have hcs := Lib.hid (pak_symbols (n := 5) (w := w2))
  rw [show symN (clampN 5) = 4 by decide] at hcs
  go_wp2_with (first
    | (go_at_call 14; refine hcs.out.mono ?_; rintro e w3 ⟨rfl, hb3⟩; have hcb := Lib.hid (pak_bytes (n := 4) (w := w3)); rw [show bytN (clampN 4) = 5 by decide] at hcb)
    | (go_at_call 16; refine hcb.out.mono ?_; rintro e w4 ⟨rfl, hb4⟩))
  go_ret
  have hb03 := hb02.trans (hb3.mono hb02.size)
  exact ⟨rfl, hb03.trans (hb4.mono hb03.size)⟩
end Go.Proofs.Ytoogdhnkihdkgaa
