/- The document's example of chapter 3. -/
import Derived.Test.YtfeikkohmgebbaaRw
namespace Go.Proofs.Ytfeikkohmgebbaa
open Go.RowKit Go.Gf
attribute [local go_sem ↓] exec_load_tb Cl.quiet_since
attribute [local go_sem] tbAt_ptr tbIn_ptr

set_option maxHeartbeats 400000 in
set_option maxRecDepth 20000 in
theorem awake_any (w : World) : Calls Try.prog 9 #[] w (Leaves w (.bool true)) := by
  have e1 : pmul [1, 1] [1, 1] = [1, 0, 1] := by decide +kernel
  have e2 : ev ((3 : Int).toNat % 1024) [5, 1] = 6 := by decide +kernel
  replace e1 := Lib.hid e1
  replace e2 := Lib.hid e2
  go_enter Try.func9, Try.ntmps9
  go_wp2_with fail
  refine (make_any _).mono ?_
  rintro e w1 ⟨cs, rfl, hl, hb1⟩
  go_wp2_with fail
  have hb2 : Below w.heap.size w (w1.alloc (.cells #[.int .u16 1, .int .u16 1] 23)) := hb1.alloc hb1.size _
  have hb3 := hb2.alloc (B := w.heap.size) hb2.size (.cells #[.int .u16 1, .int .u16 1] 23)
  have h1 := (sl_new w1 (.cells #[.int .u16 1, .int .u16 1] 23) [1, 1] w1.heap.size rfl rfl (by decide)).far (below_alloc _ (.cells #[.int .u16 1, .int .u16 1] 23))
  have h2 := sl_new (w1.alloc (.cells #[.int .u16 1, .int .u16 1] 23)) (.cells #[.int .u16 1, .int .u16 1] 23) [1, 1] (w1.heap.size + 1) (by simp) rfl (by decide)
  generalize (w1.alloc (.cells #[.int .u16 1, .int .u16 1] 23)).alloc (.cells #[.int .u16 1, .int .u16 1] 23) = w2 at hb3 h1 h2 ⊢
  have hc := row_mul (ca := 2) (cb := 2) hl h1 h2 (by decide) (by decide) (by decide) (by decide)
  rw [e1.out] at hc
  replace hc := Lib.hid hc
  replace hb3 := Lib.hid hb3
  clear h1 h2 hb1 hb2
  refine hc.out.mono ?_
  rintro e w3 ⟨A3, rfl, h3, hb4⟩
  have hb5 := hb3.out.trans (hb4.mono hb3.out.size)
  clear hb4 hb3 hc
  replace h3 := Lib.hid h3
  replace hb5 := Lib.hid hb5
  go_wp2_with fail
  have h4 := h3.out.far (below_alloc _ (.cells #[.int .u16 1, .int .u16 0, .int .u16 1] 23))
  have h5 := sl_new w3 (.cells #[.int .u16 1, .int .u16 0, .int .u16 1] 23) [1, 0, 1] w3.heap.size rfl rfl (by decide)
  have hb6 := hb5.out.alloc (B := w.heap.size) hb5.out.size (.cells #[.int .u16 1, .int .u16 0, .int .u16 1] 23)
  generalize hw : w3.alloc (.cells #[.int .u16 1, .int .u16 0, .int .u16 1] 23) = w4 at h4 h5 hb6 ⊢
  generalize w3.heap.size = g3 at h5 ⊢
  clear hw
  have hc := Lib.hid (val_same (ca := 3) (cb := 3) (b := true) h4 h5 (by decide) (by decide) (by decide))
  replace hb6 := Lib.hid hb6
  clear h4 h5 h3 hb5
  refine hc.out.mono ?_
  rintro e w5 ⟨rfl, hb7⟩
  have hb8 := Lib.hid (hb6.out.trans (hb7.mono hb6.out.size))
  clear hb6 hb7 hc
  go_wp2_with fail
  refine (make_any _).mono ?_
  rintro e w6 ⟨ds, rfl, hl6, hb9⟩
  have hb10 := Lib.hid (hb8.out.trans (hb9.mono hb8.out.size))
  clear hb8 hb9
  go_wp2_with fail
  have h6 := sl_new w6 (.cells #[.int .u16 5, .int .u16 1] 23) [5, 1] w6.heap.size rfl rfl (by decide)
  have hb11 := hb10.out.alloc (B := w.heap.size) hb10.out.size (.cells #[.int .u16 5, .int .u16 1] 23)
  generalize hw : w6.alloc (.cells #[.int .u16 5, .int .u16 1] 23) = w7 at h6 hb11 ⊢
  generalize w6.heap.size = g6 at h6 ⊢
  have hc := val_at (x := 3) (ca := 2) hl6 h6 (by decide) (by decide) (by decide)
  rw [e2.out] at hc
  replace hc := Lib.hid hc
  replace hb11 := Lib.hid hb11
  clear h6 hw
  refine hc.out.mono ?_
  rintro e w8 ⟨rfl, hb12⟩
  have hb13 := Lib.hid (hb11.out.trans (hb12.mono hb11.out.size))
  clear hb12 hb11 hc
  go_wp2_with fail
  go_ret
  exact ⟨rfl, hb13.out⟩
end Go.Proofs.Ytfeikkohmgebbaa
