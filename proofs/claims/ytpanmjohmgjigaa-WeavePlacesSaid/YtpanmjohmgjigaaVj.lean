/- The awake of chapter 6. -/
import Derived.Test.YtpanmjohmgjigaaVi
import Derived.Test.YtpanmjohmgjigaaRows
import Derived.Test.YtpanmjohmgjigaaCl
namespace Go.Proofs.Ytpanmjohmgjigaa
open Go.RowKit Go.Gf

/-- Out of rows of which all is known -/
theorem out_lit {W : Int} {n : Nat} {A : Option Addr} {c : Nat} {ws : List (List Nat)} {ys : List Nat} {e : Nat} {w : World} (h : Sw w w.heap.size A ws) (hn : ws.length = n) (hl : n ≤ 1000000) (hx : ∀ x ∈ ws, x.length ≤ 100000) (h1 : outW W ws = ys) (h2 : outE W ws = e) :
    Calls Try.prog 9 #[.int .i64 W, .slice A n c] w (RowV w ys e) := by
  subst hn h1 h2
  exact out_any W A c ws w h hl hx
theorem in_lit {W : Int} {n : Nat} {A : Option Addr} {c : Nat} {xs : List Nat} {ys : List (List Nat)} {e : Nat} {w : World} (h : Sl w w.heap.size A xs) (hn : xs.length = n) (hl : n ≤ 1000000) (h1 : inW W xs = ys) (h2 : inE W xs = e) :
    Calls Try.prog 11 #[.int .i64 W, .slice A n c] w (RowsV w ys e) := by
  subst hn h1 h2
  exact in_any W A c xs w h hl
theorem burst_lit {W f n r : Int} {w : World} (hn : n ≤ 1000000) (h : burstI W f n = r) : Calls Try.prog 16 #[.int .i64 W, .int .i64 f, .int .i64 n] w fun e w' => e = .returned (.int .i64 r) ∧ w = w' := by
  subst h
  exact burst_any W f n w hn
theorem same_lit {A B : Option Addr} {n m ca cb : Nat} {xs ys : List Nat} {w : World} {b : Bool} (ha : Sl w w.heap.size A xs) (hb : Sl w w.heap.size B ys) (hn : xs.length = n) (hm : ys.length = m) (hla : n ≤ 1000000) (hlb : m ≤ 1000000) (h : decide (xs = ys) = b) :
    Calls Try.prog 13 #[.slice A n ca, .slice B m cb] w (Tells w (.bool b)) := by
  subst hn hm
  exact tell_same ha hb hla hlb h
set_option maxHeartbeats 2000000 in
theorem wawake_any (w : World) : Calls Try.prog 8 #[] w (Tells w (.bool true)) := by
  have s1 := sl_new w (.cells #[.int .u16 1, .int .u16 2] 37) [1, 2] w.heap.size rfl rfl (by decide)
  have b1 := below_alloc w (.cells #[.int .u16 1, .int .u16 2] 37)
  have g1 : (w.alloc (.cells #[.int .u16 1, .int .u16 2] 37)).heap.size = w.heap.size + 1 := World.size_alloc _ _
  have s2 := sl_new (w.alloc (.cells #[.int .u16 1, .int .u16 2] 37)) (.cells #[.int .u16 3, .int .u16 4] 37) [3, 4] (w.heap.size + 1) g1 rfl (by decide)
  have b2 := below_alloc (w.alloc (.cells #[.int .u16 1, .int .u16 2] 37)) (.cells #[.int .u16 3, .int .u16 4] 37)
  have g2 : ((w.alloc (.cells #[.int .u16 1, .int .u16 2] 37)).alloc (.cells #[.int .u16 3, .int .u16 4] 37)).heap.size = w.heap.size + 1 + 1 := by rw [World.size_alloc, g1]
  replace s1 := s1.far b2
  replace b2 := b1.trans (b2.mono b1.size)
  have b3 := below_alloc ((w.alloc (.cells #[.int .u16 1, .int .u16 2] 37)).alloc (.cells #[.int .u16 3, .int .u16 4] 37)) (.cells #[.slice (some ⟨w.heap.size, 0, none⟩) 2 2, .slice (some ⟨w.heap.size + 1, 0, none⟩) 2 2] 23)
  have s3 := sw_new _ (.cells #[.slice (some ⟨w.heap.size, 0, none⟩) 2 2, .slice (some ⟨w.heap.size + 1, 0, none⟩) 2 2] 23) (w.heap.size + 1 + 1) [(some ⟨w.heap.size, 0, none⟩, 2, [1, 2]), (some ⟨w.heap.size + 1, 0, none⟩, 2, [3, 4])] g2 rfl (by
    intro v hv
    simp only [List.mem_cons, List.not_mem_nil, or_false] at hv
    rcases hv with rfl | rfl
    · exact ⟨Nat.le_refl _, s1⟩
    · exact ⟨Nat.le_refl _, s2⟩)
  have b4 := Lib.hid (b2.trans (b3.mono b2.size))
  have hc := Lib.hid (out_lit (W := 2) (n := 2) (c := 2) (ws := [[1, 2], [3, 4]]) (ys := [1, 3, 2, 4]) (e := 0) s3 rfl (by decide) (by decide) (by decide +kernel) (by decide +kernel))
  clear s1 s2 s3 b1 b2 b3 g1 g2
  go_enter Try.func8, Try.ntmps8
  go_wp2_with fail
  refine hc.out.mono ?_
  rintro e w1 ⟨v, rfl, ho, hb⟩
  obtain ⟨A, c, rfl, h1, hs⟩ := ho.sl
  have hb1 := b4.out.trans (hb.mono b4.out.size)
  have hn := sl_new w1 (.cells #[.int .u16 1, .int .u16 3, .int .u16 2, .int .u16 4] 37) [1, 3, 2, 4] w1.heap.size rfl rfl (by decide)
  have hbn := below_alloc w1 (.cells #[.int .u16 1, .int .u16 3, .int .u16 2, .int .u16 4] 37)
  have hcs := Lib.hid (same_lit (n := 4) (m := 4) (ca := c) (cb := 4) (b := true) (hs.far hbn) hn rfl rfl (by decide) (by decide) (by decide))
  have hb2 := Lib.hid (hb1.trans (hbn.mono hb1.size))
  have hcb := Lib.hid (fun w => burst_lit (W := 2) (f := 0) (n := 3) (r := 2) (w := w) (by decide) (by decide +kernel))
  clear hc ho hb hb1 hn hbn hs b4
  go_wp2_with (first
    | (go_at_call 13; (with_reducible refine hcs.out.mono ?_); rintro e w2 ⟨rfl, hb⟩; have hb3 := Lib.hid (hb2.out.trans (hb.mono hb2.out.size)); clear hb)
    | (go_at_call 16; (with_reducible refine (hcb.out _).mono ?_); rintro e w3 ⟨rfl, rfl⟩))
  go_ret
  exact ⟨rfl, hb3.out⟩
end Go.Proofs.Ytpanmjohmgjigaa
