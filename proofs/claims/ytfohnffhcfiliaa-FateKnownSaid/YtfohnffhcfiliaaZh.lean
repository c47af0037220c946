/- Statement FateKnown: the law returns true. -/
import Derived.Test.YtfohnffhcfiliaaZg
namespace Go.Proofs.Ytfohnffhcfiliaa
open Go.RowKit
set_option linter.unusedVariables false
set_option linter.unusedSimpArgs false

/-- as many noughts as 257 fates have numbers -/
def ZZ : Array Value := madeCells #[.int .i64 0, .int .i64 0, .int .i64 0] 771
theorem ZZ_at (j : Nat) (h : j < 771) : ZZ[j]? = some (.int .i64 0) := by
  unfold ZZ madeCells
  have h3 : j % 3 = 0 ∨ j % 3 = 1 ∨ j % 3 = 2 := by omega
  rw [Array.getElem?_map, Array.getElem?_range, if_pos h]
  show some (#[Value.int .i64 0, .int .i64 0, .int .i64 0][j % 3]!) = _
  rcases h3 with h3 | h3 | h3 <;> rw [h3] <;> rfl
theorem rep_at {n i : Nat} (h : i < n) : tAt (List.replicate n (0, 0, 0)) i = (0, 0, 0) := by
  unfold tAt
  rw [List.getD_eq_getElem?_getD, List.getElem?_replicate, if_pos h]; rfl
theorem make257 (w : World) : (Instr.makeSlice 22 (.int .i64 257) (.int .i64 257)).run Try.prog w = .ok (.slice (some ⟨w.heap.size, 0, none⟩) 257 257) (w.alloc (.cells ZZ 30)) := by
  have hi0 := info30
  obtain ⟨i, hi, hrest⟩ := Option.map_eq_some_iff.1 hi0
  simp only [Prod.mk.injEq] at hrest
  obtain ⟨i1, i2, i3⟩ := hrest
  have := run_make (P := Try.prog) w 22 30 i (.agg #[.int .i64 0, .int .i64 0, .int .i64 0]) Try.underlying22 hi i1 .i64 .i64 257 257 (by decide) (by decide) (by rw [i3]; decide) (by decide)
  rw [i2] at this
  exact this
/-- the law's rows, and their slices -/
structure KnR (w : World) (g : Nat) : Prop where
  lt : g + 7 < w.heap.size
  b0 : w.heap[g + 0]? = some (.cells #[.int .i64 (-1), .int .i64 2, .int .i64 0] 30)
  b1 : w.heap[g + 1]? = some (.cells #[.int .i64 1099511627777, .int .i64 2, .int .i64 0] 30)
  b2 : w.heap[g + 2]? = some (.cells #[.int .i64 0, .int .i64 0, .int .i64 0] 30)
  b3 : w.heap[g + 3]? = some (.cells #[.int .i64 0, .int .i64 3, .int .i64 0] 30)
  b4 : w.heap[g + 4]? = some (.cells #[.int .i64 0, .int .i64 1, .int .i64 (-1)] 30)
  b5 : w.heap[g + 5]? = some (.cells #[.int .i64 5, .int .i64 2, .int .i64 0, .int .i64 5, .int .i64 1, .int .i64 0] 30)
  b6 : w.heap[g + 6]? = some (.cells ZZ 30)
  b7 : w.heap[g + 7]? = some (.cells #[.slice (some ⟨g, 0, none⟩) 1 1, .slice (some ⟨g + 1, 0, none⟩) 1 1, .slice (some ⟨g + 2, 0, none⟩) 1 1, .slice (some ⟨g + 3, 0, none⟩) 1 1, .slice (some ⟨g + 4, 0, none⟩) 1 1, .slice (some ⟨g + 5, 0, none⟩) 2 2, .slice (some ⟨g + 6, 0, none⟩) 257 257] 22)
theorem KnR.keep {w w' : World} {g : Nat} (h : KnR w g) (hb : Below w.heap.size w w') : KnR w' g := by
  have := h.lt
  exact ⟨Nat.lt_of_lt_of_le h.lt hb.size, (hb.block _ (by omega)).trans h.b0, (hb.block _ (by omega)).trans h.b1, (hb.block _ (by omega)).trans h.b2, (hb.block _ (by omega)).trans h.b3, (hb.block _ (by omega)).trans h.b4, (hb.block _ (by omega)).trans h.b5, (hb.block _ (by omega)).trans h.b6, (hb.block _ (by omega)).trans h.b7⟩
theorem S3.of_block {w : World} {g : Nat} {cs : Array Value} (ts : List (Int × Int × Int)) (h : w.heap[g]? = some (.cells cs 30)) (hc : ∀ i, i < ts.length → cs[i * 3]? = some (.int .i64 (tAt ts i).1) ∧ cs[i * 3 + 1]? = some (.int .i64 (tAt ts i).2.1) ∧ cs[i * 3 + 2]? = some (.int .i64 (tAt ts i).2.2)) :
    S3 w w.heap.size (some ⟨g, 0, none⟩) ts := by
  have hlt : g < w.heap.size := by
    rcases Nat.lt_or_ge g w.heap.size with hlt | hge
    · exact hlt
    · rw [Array.getElem?_eq_none hge] at h; cases h
  refine Or.inr ⟨_, rfl, hlt, fun i hi => ?_⟩
  have e : ∀ k, (⟨g, 0, none⟩ : Addr).add k = ⟨g, k, none⟩ := fun k => by unfold Addr.add; split <;> simp_all
  obtain ⟨h0, h1, h2⟩ := hc i hi
  rw [e, e, e, cell_of h, cell_of h, cell_of h]
  exact ⟨h0, h1, h2⟩
theorem KnR.new (w1 : World) : KnR ((((((((w1.alloc (.cells #[.int .i64 (-1), .int .i64 2, .int .i64 0] 30)).alloc (.cells #[.int .i64 1099511627777, .int .i64 2, .int .i64 0] 30)).alloc (.cells #[.int .i64 0, .int .i64 0, .int .i64 0] 30)).alloc (.cells #[.int .i64 0, .int .i64 3, .int .i64 0] 30)).alloc (.cells #[.int .i64 0, .int .i64 1, .int .i64 (-1)] 30)).alloc (.cells #[.int .i64 5, .int .i64 2, .int .i64 0, .int .i64 5, .int .i64 1, .int .i64 0] 30)).alloc (.cells ZZ 30)).alloc (.cells #[.slice (some ⟨w1.heap.size, 0, none⟩) 1 1, .slice (some ⟨w1.heap.size + 1, 0, none⟩) 1 1, .slice (some ⟨w1.heap.size + 2, 0, none⟩) 1 1, .slice (some ⟨w1.heap.size + 3, 0, none⟩) 1 1, .slice (some ⟨w1.heap.size + 4, 0, none⟩) 1 1, .slice (some ⟨w1.heap.size + 5, 0, none⟩) 2 2, .slice (some ⟨w1.heap.size + 6, 0, none⟩) 257 257] 22)) w1.heap.size := by
  refine ⟨by simp only [World.size_alloc]; omega, ?_, ?_, ?_, ?_, ?_, ?_, ?_, ?_⟩
  · show (((((((((w1.heap.push _).push _).push _).push _).push _).push _).push _).push _) : Array Obj)[w1.heap.size + 0]? = _
    rw [Array.getElem?_push, if_neg (by simp only [Array.size_push]; omega), Array.getElem?_push, if_neg (by simp only [Array.size_push]; omega), Array.getElem?_push, if_neg (by simp only [Array.size_push]; omega), Array.getElem?_push, if_neg (by simp only [Array.size_push]; omega), Array.getElem?_push, if_neg (by simp only [Array.size_push]; omega), Array.getElem?_push, if_neg (by simp only [Array.size_push]; omega), Array.getElem?_push, if_neg (by simp only [Array.size_push]; omega), Array.getElem?_push, if_pos (by first | rfl | (simp only [Array.size_push]; try omega))]
  · show (((((((((w1.heap.push _).push _).push _).push _).push _).push _).push _).push _) : Array Obj)[w1.heap.size + 1]? = _
    rw [Array.getElem?_push, if_neg (by simp only [Array.size_push]; omega), Array.getElem?_push, if_neg (by simp only [Array.size_push]; omega), Array.getElem?_push, if_neg (by simp only [Array.size_push]; omega), Array.getElem?_push, if_neg (by simp only [Array.size_push]; omega), Array.getElem?_push, if_neg (by simp only [Array.size_push]; omega), Array.getElem?_push, if_neg (by simp only [Array.size_push]; omega), Array.getElem?_push, if_pos (by first | rfl | (simp only [Array.size_push]; try omega))]
  · show (((((((((w1.heap.push _).push _).push _).push _).push _).push _).push _).push _) : Array Obj)[w1.heap.size + 2]? = _
    rw [Array.getElem?_push, if_neg (by simp only [Array.size_push]; omega), Array.getElem?_push, if_neg (by simp only [Array.size_push]; omega), Array.getElem?_push, if_neg (by simp only [Array.size_push]; omega), Array.getElem?_push, if_neg (by simp only [Array.size_push]; omega), Array.getElem?_push, if_neg (by simp only [Array.size_push]; omega), Array.getElem?_push, if_pos (by first | rfl | (simp only [Array.size_push]; try omega))]
  · show (((((((((w1.heap.push _).push _).push _).push _).push _).push _).push _).push _) : Array Obj)[w1.heap.size + 3]? = _
    rw [Array.getElem?_push, if_neg (by simp only [Array.size_push]; omega), Array.getElem?_push, if_neg (by simp only [Array.size_push]; omega), Array.getElem?_push, if_neg (by simp only [Array.size_push]; omega), Array.getElem?_push, if_neg (by simp only [Array.size_push]; omega), Array.getElem?_push, if_pos (by first | rfl | (simp only [Array.size_push]; try omega))]
  · show (((((((((w1.heap.push _).push _).push _).push _).push _).push _).push _).push _) : Array Obj)[w1.heap.size + 4]? = _
    rw [Array.getElem?_push, if_neg (by simp only [Array.size_push]; omega), Array.getElem?_push, if_neg (by simp only [Array.size_push]; omega), Array.getElem?_push, if_neg (by simp only [Array.size_push]; omega), Array.getElem?_push, if_pos (by first | rfl | (simp only [Array.size_push]; try omega))]
  · show (((((((((w1.heap.push _).push _).push _).push _).push _).push _).push _).push _) : Array Obj)[w1.heap.size + 5]? = _
    rw [Array.getElem?_push, if_neg (by simp only [Array.size_push]; omega), Array.getElem?_push, if_neg (by simp only [Array.size_push]; omega), Array.getElem?_push, if_pos (by first | rfl | (simp only [Array.size_push]; try omega))]
  · show (((((((((w1.heap.push _).push _).push _).push _).push _).push _).push _).push _) : Array Obj)[w1.heap.size + 6]? = _
    rw [Array.getElem?_push, if_neg (by simp only [Array.size_push]; omega), Array.getElem?_push, if_pos (by first | rfl | (simp only [Array.size_push]; try omega))]
  · show (((((((((w1.heap.push _).push _).push _).push _).push _).push _).push _).push _) : Array Obj)[w1.heap.size + 7]? = _
    rw [Array.getElem?_push, if_pos (by first | rfl | (simp only [Array.size_push]; try omega))]
def manyT (n : Nat) : List (Int × Int × Int) := (List.range n).map fun (j : Nat) => (3 * (256 - (j : Int)), 1, 0)
theorem manyT_len (n : Nat) : (manyT n).length = n := by unfold manyT; simp
theorem manyT_step (n : Nat) : manyT n ++ [(3 * (256 - (n : Int)), 1, 0)] = manyT (n + 1) := by unfold manyT; rw [List.range_succ, List.map_append]; rfl
theorem many_may : mayF (manyT 256) = true := by decide +kernel
set_option maxRecDepth 20000 in
set_option maxHeartbeats 8000000 in
theorem known_law (w : World) : Calls Try.prog 4 #[] w fun e w' => e = .returned (.bool true) ∧ Below w.heap.size w w' := by
  have ca := Lib.hid awake_any
  have hmk := make257
  go_enter Try.func4, Try.ntmps4
  go_wp2_with fail
  refine (ca.out _).mono ?_
  rintro e w1 ⟨rfl, hb1⟩
  have hb1 := Lib.hid hb1
  go_wp2_with (simp only [hmk])
  have hK := Lib.hid (KnR.new w1)
  have hbw : Below w1.heap.size w1 ((((((((w1.alloc (.cells #[.int .i64 (-1), .int .i64 2, .int .i64 0] 30)).alloc (.cells #[.int .i64 1099511627777, .int .i64 2, .int .i64 0] 30)).alloc (.cells #[.int .i64 0, .int .i64 0, .int .i64 0] 30)).alloc (.cells #[.int .i64 0, .int .i64 3, .int .i64 0] 30)).alloc (.cells #[.int .i64 0, .int .i64 1, .int .i64 (-1)] 30)).alloc (.cells #[.int .i64 5, .int .i64 2, .int .i64 0, .int .i64 5, .int .i64 1, .int .i64 0] 30)).alloc (.cells ZZ 30)).alloc (.cells #[.slice (some ⟨w1.heap.size, 0, none⟩) 1 1, .slice (some ⟨w1.heap.size + 1, 0, none⟩) 1 1, .slice (some ⟨w1.heap.size + 2, 0, none⟩) 1 1, .slice (some ⟨w1.heap.size + 3, 0, none⟩) 1 1, .slice (some ⟨w1.heap.size + 4, 0, none⟩) 1 1, .slice (some ⟨w1.heap.size + 5, 0, none⟩) 2 2, .slice (some ⟨w1.heap.size + 6, 0, none⟩) 257 257] 22)) := by
    have a0 := below_alloc w1 (.cells #[.int .i64 (-1), .int .i64 2, .int .i64 0] 30)
    have a1 := a0.trans ((below_alloc _ (.cells #[.int .i64 1099511627777, .int .i64 2, .int .i64 0] 30)).mono a0.size)
    have a2 := a1.trans ((below_alloc _ (.cells #[.int .i64 0, .int .i64 0, .int .i64 0] 30)).mono a1.size)
    have a3 := a2.trans ((below_alloc _ (.cells #[.int .i64 0, .int .i64 3, .int .i64 0] 30)).mono a2.size)
    have a4 := a3.trans ((below_alloc _ (.cells #[.int .i64 0, .int .i64 1, .int .i64 (-1)] 30)).mono a3.size)
    have a5 := a4.trans ((below_alloc _ (.cells #[.int .i64 5, .int .i64 2, .int .i64 0, .int .i64 5, .int .i64 1, .int .i64 0] 30)).mono a4.size)
    have a6 := a5.trans ((below_alloc _ (.cells ZZ 30)).mono a5.size)
    exact a6.trans ((below_alloc _ (.cells #[.slice (some ⟨w1.heap.size, 0, none⟩) 1 1, .slice (some ⟨w1.heap.size + 1, 0, none⟩) 1 1, .slice (some ⟨w1.heap.size + 2, 0, none⟩) 1 1, .slice (some ⟨w1.heap.size + 3, 0, none⟩) 1 1, .slice (some ⟨w1.heap.size + 4, 0, none⟩) 1 1, .slice (some ⟨w1.heap.size + 5, 0, none⟩) 2 2, .slice (some ⟨w1.heap.size + 6, 0, none⟩) 257 257] 22)).mono a6.size)
  have hb2 := Lib.hid (hb1.out.trans (hbw.mono hb1.out.size))
  clear hbw hmk
  generalize ((((((((w1.alloc (.cells #[.int .i64 (-1), .int .i64 2, .int .i64 0] 30)).alloc (.cells #[.int .i64 1099511627777, .int .i64 2, .int .i64 0] 30)).alloc (.cells #[.int .i64 0, .int .i64 0, .int .i64 0] 30)).alloc (.cells #[.int .i64 0, .int .i64 3, .int .i64 0] 30)).alloc (.cells #[.int .i64 0, .int .i64 1, .int .i64 (-1)] 30)).alloc (.cells #[.int .i64 5, .int .i64 2, .int .i64 0, .int .i64 5, .int .i64 1, .int .i64 0] 30)).alloc (.cells ZZ 30)).alloc (.cells #[.slice (some ⟨w1.heap.size, 0, none⟩) 1 1, .slice (some ⟨w1.heap.size + 1, 0, none⟩) 1 1, .slice (some ⟨w1.heap.size + 2, 0, none⟩) 1 1, .slice (some ⟨w1.heap.size + 3, 0, none⟩) 1 1, .slice (some ⟨w1.heap.size + 4, 0, none⟩) 1 1, .slice (some ⟨w1.heap.size + 5, 0, none⟩) 2 2, .slice (some ⟨w1.heap.size + 6, 0, none⟩) 257 257] 22)) = w2 at hK hb2 ⊢
  go_loopw [2] (fun q wr => ∃ k : Int, 0 ≤ k ∧ k ≤ 7 ∧ q = .int .i64 k ∧ Below w2.heap.size w2 wr) (fun q _ => (7 - intOf q).toNat)
  case atStart => exact ⟨0, by omega, by omega, rfl, Below.refl _ _⟩
  case round =>
    obtain ⟨k, hk0, hk7, rfl, hB⟩ := hrel
    have hK2 := Lib.hid (hK.out.keep hB)
    have hb3 := Lib.hid (hb2.out.trans (hB.mono hb2.out.size))
    replace hB := Lib.hid hB
    have hk : k = 0 ∨ k = 1 ∨ k = 2 ∨ k = 3 ∨ k = 4 ∨ k = 5 ∨ k = 6 ∨ k = 7 := by omega
    clear hk0 hk7
    rcases hk with rfl | rfl | rfl | rfl | rfl | rfl | rfl | rfl
    · have hc := cell_of hK2.out.b7 0
      replace hc : wr.cell? ⟨w1.heap.size + 7, 0, none⟩ = some (.slice (some ⟨w1.heap.size, 0, none⟩) 1 1) := hc
      have hs := Lib.hid (S3.of_block [(-1, 2, 0)] hK2.out.b0 (fun i hi => by
        have hi : i < 1 := by simpa using hi
        obtain rfl : i = 0 := by omega
        exact ⟨rfl, rfl, rfl⟩))
      have hmf : mayF [(-1, 2, 0)] = false := by decide +kernel
      go_wp2_with fail
      refine (c_no hs.out (n := 1) (rfl) (by decide) hmf).mono ?_
      rintro e w4 ⟨rfl, hb⟩
      have hB4 := Lib.hid (hB.out.trans (hb.mono hB.out.size))
      clear hb hc hs
      dsimp only
      go_wp2_with fail
      go_roundw
      case rel => exact ⟨1, by omega, by omega, rfl, hB4.out⟩
      case measure => simp [intOf]
    · have hc := cell_of hK2.out.b7 1
      replace hc : wr.cell? ⟨w1.heap.size + 7, 1, none⟩ = some (.slice (some ⟨w1.heap.size + 1, 0, none⟩) 1 1) := hc
      have hs := Lib.hid (S3.of_block [(1099511627777, 2, 0)] hK2.out.b1 (fun i hi => by
        have hi : i < 1 := by simpa using hi
        obtain rfl : i = 0 := by omega
        exact ⟨rfl, rfl, rfl⟩))
      have hmf : mayF [(1099511627777, 2, 0)] = false := by decide +kernel
      go_wp2_with fail
      refine (c_no hs.out (n := 1) (rfl) (by decide) hmf).mono ?_
      rintro e w4 ⟨rfl, hb⟩
      have hB4 := Lib.hid (hB.out.trans (hb.mono hB.out.size))
      clear hb hc hs
      dsimp only
      go_wp2_with fail
      go_roundw
      case rel => exact ⟨2, by omega, by omega, rfl, hB4.out⟩
      case measure => simp [intOf]
    · have hc := cell_of hK2.out.b7 2
      replace hc : wr.cell? ⟨w1.heap.size + 7, 2, none⟩ = some (.slice (some ⟨w1.heap.size + 2, 0, none⟩) 1 1) := hc
      have hs := Lib.hid (S3.of_block [(0, 0, 0)] hK2.out.b2 (fun i hi => by
        have hi : i < 1 := by simpa using hi
        obtain rfl : i = 0 := by omega
        exact ⟨rfl, rfl, rfl⟩))
      have hmf : mayF [(0, 0, 0)] = false := by decide +kernel
      go_wp2_with fail
      refine (c_no hs.out (n := 1) (rfl) (by decide) hmf).mono ?_
      rintro e w4 ⟨rfl, hb⟩
      have hB4 := Lib.hid (hB.out.trans (hb.mono hB.out.size))
      clear hb hc hs
      dsimp only
      go_wp2_with fail
      go_roundw
      case rel => exact ⟨3, by omega, by omega, rfl, hB4.out⟩
      case measure => simp [intOf]
    · have hc := cell_of hK2.out.b7 3
      replace hc : wr.cell? ⟨w1.heap.size + 7, 3, none⟩ = some (.slice (some ⟨w1.heap.size + 3, 0, none⟩) 1 1) := hc
      have hs := Lib.hid (S3.of_block [(0, 3, 0)] hK2.out.b3 (fun i hi => by
        have hi : i < 1 := by simpa using hi
        obtain rfl : i = 0 := by omega
        exact ⟨rfl, rfl, rfl⟩))
      have hmf : mayF [(0, 3, 0)] = false := by decide +kernel
      go_wp2_with fail
      refine (c_no hs.out (n := 1) (rfl) (by decide) hmf).mono ?_
      rintro e w4 ⟨rfl, hb⟩
      have hB4 := Lib.hid (hB.out.trans (hb.mono hB.out.size))
      clear hb hc hs
      dsimp only
      go_wp2_with fail
      go_roundw
      case rel => exact ⟨4, by omega, by omega, rfl, hB4.out⟩
      case measure => simp [intOf]
    · have hc := cell_of hK2.out.b7 4
      replace hc : wr.cell? ⟨w1.heap.size + 7, 4, none⟩ = some (.slice (some ⟨w1.heap.size + 4, 0, none⟩) 1 1) := hc
      have hs := Lib.hid (S3.of_block [(0, 1, -1)] hK2.out.b4 (fun i hi => by
        have hi : i < 1 := by simpa using hi
        obtain rfl : i = 0 := by omega
        exact ⟨rfl, rfl, rfl⟩))
      have hmf : mayF [(0, 1, -1)] = false := by decide +kernel
      go_wp2_with fail
      refine (c_no hs.out (n := 1) (rfl) (by decide) hmf).mono ?_
      rintro e w4 ⟨rfl, hb⟩
      have hB4 := Lib.hid (hB.out.trans (hb.mono hB.out.size))
      clear hb hc hs
      dsimp only
      go_wp2_with fail
      go_roundw
      case rel => exact ⟨5, by omega, by omega, rfl, hB4.out⟩
      case measure => simp [intOf]
    · have hc := cell_of hK2.out.b7 5
      replace hc : wr.cell? ⟨w1.heap.size + 7, 5, none⟩ = some (.slice (some ⟨w1.heap.size + 5, 0, none⟩) 2 2) := hc
      have hs := Lib.hid (S3.of_block [(5, 2, 0), (5, 1, 0)] hK2.out.b5 (fun i hi => by
        have hi : i < 2 := by simpa using hi
        rcases (by omega : i = 0 ∨ i = 1) with rfl | rfl <;> exact ⟨rfl, rfl, rfl⟩))
      have hmf : mayF [(5, 2, 0), (5, 1, 0)] = false := by decide +kernel
      go_wp2_with fail
      refine (c_no hs.out (n := 2) (rfl) (by decide) hmf).mono ?_
      rintro e w4 ⟨rfl, hb⟩
      have hB4 := Lib.hid (hB.out.trans (hb.mono hB.out.size))
      clear hb hc hs
      dsimp only
      go_wp2_with fail
      go_roundw
      case rel => exact ⟨6, by omega, by omega, rfl, hB4.out⟩
      case measure => simp [intOf]
    · have hc := cell_of hK2.out.b7 6
      replace hc : wr.cell? ⟨w1.heap.size + 7, 6, none⟩ = some (.slice (some ⟨w1.heap.size + 6, 0, none⟩) 257 257) := hc
      have hs := Lib.hid (S3.of_block (List.replicate 257 (0, 0, 0)) hK2.out.b6 (fun i hi => by
        have hi : i < 257 := by rwa [List.length_replicate] at hi
        have e : tAt (List.replicate 257 (0, 0, 0)) i = (0, 0, 0) := rep_at hi
        rw [e]
        exact ⟨ZZ_at _ (by omega), ZZ_at _ (by omega), ZZ_at _ (by omega)⟩))
      have hmf : mayF (List.replicate 257 (0, 0, 0)) = false := by decide +kernel
      go_wp2_with fail
      refine (c_no hs.out (n := 257) (List.length_replicate) (by decide) hmf).mono ?_
      rintro e w4 ⟨rfl, hb⟩
      have hB4 := Lib.hid (hB.out.trans (hb.mono hB.out.size))
      clear hb hc hs
      dsimp only
      go_wp2_with fail
      go_roundw
      case rel => exact ⟨7, by omega, by omega, rfl, hB4.out⟩
      case measure => simp [intOf]
    · clear hK hK2 hb2 hB
      go_wp2_with fail
      go_loopw [5, 6] (fun v q wr => ∃ i : Nat, i ≤ 256 ∧ q = .int .i64 i ∧ OwnT w wr v (manyT i) ∧ Below w.heap.size w wr) (fun _ q _ => 256 - (intOf q).toNat)
      case atStart => exact ⟨0, Nat.zero_le _, rfl, OwnT.nil _ _, hb3.out⟩
      case round =>
        clear hb3
        obtain ⟨i, hi, rfl, hO, hB⟩ := hrel
        by_cases hi2 : i < 256
        · have hiI : (i : Int) < 256 := by omega
          obtain ⟨A, hA⟩ : ∃ A : Int, 3 * (256 - (i : Int)) = A := ⟨_, rfl⟩
          have hst := manyT_step i
          rw [hA] at hst
          have hlen : (manyT i).length ≤ 1000000 := by rw [manyT_len]; omega
          have hO' := Lib.hid (hO.alloc (.cells #[.int .i64 A, .int .i64 1, .int .i64 0] 30))
          have hA1 := below_alloc wr (.cells #[.int .i64 A, .int .i64 1, .int .i64 0] 30)
          have hBA := Lib.hid (hB.trans (hA1.mono hB.size))
          have hy := Lib.hid (show ∀ j u, (flat3 [(A, 1, 0)])[j]? = some u → (wr.alloc (.cells #[.int .i64 A, .int .i64 1, .int .i64 0] 30)).cell? ⟨wr.heap.size, j, none⟩ = some u from fun j u hu => by
            rw [cell_new]
            simpa [flat3] using hu)
          replace hst := Lib.hid hst
          replace hlen := Lib.hid hlen
          clear hO hA1 hB
          go_wp2_with (first
            | (rw [hA]; refine app_one (w0 := w) rfl (.tmp 56) (.tmp 61) rfl _ _ rfl hO'.out hBA.out.size wr.heap.size rfl (A, 1, 0) hy.out hlen.out ?_)
            | (refine app_one (w0 := w) rfl (.tmp 56) (.tmp 61) rfl _ _ rfl hO'.out hBA.out.size wr.heap.size rfl (A, 1, 0) hy.out hlen.out ?_))
          intro v' w' ho hg
          rw [hst.out] at ho
          have hO2 := Lib.hid ho
          have hB2 := Lib.hid (hBA.out.grown hg hBA.out.size (OwnT.block hO'.out))
          clear ho hg hO' hBA hy hst hA
          go_wp2_with fail
          go_roundw
          case rel => exact ⟨i + 1, by omega, by go_num, hO2.out, hB2.out⟩
          case measure => simp [intOf]; omega
        · obtain rfl : i = 256 := by omega
          obtain ⟨B, cb, rfl, hcb, hS⟩ := hO.s3
          rw [manyT_len] at hcb ⊢
          have hS := Lib.hid hS
          have hB := Lib.hid hB
          clear hO
          go_wp2_with fail
          refine (c_yes hS.out (n := 256) (manyT_len 256) many_may).mono ?_
          rintro e w5 ⟨p, rfl, hb, hp⟩
          have hb5 := Lib.hid (hB.out.trans (hb.mono hB.out.size))
          have hp5 := Lib.hid hp
          clear hb hp hS hB
          dsimp only
          go_wp2_with fail
          refine (c_at hp5.out many_may 3 (x := (3, 1, 0)) (by decide +kernel) (b := true) (by decide +kernel)).mono ?_
          rintro e w6 ⟨rfl, hb⟩
          dsimp only
          have hA := below_alloc w6 (.cells #[.int .i64 3, .int .i64 1, .int .i64 0] 30)
          have hb6 := Lib.hid ((hb5.out.trans (hb.mono hb5.out.size)).trans (hA.mono (hb5.out.trans (hb.mono hb5.out.size)).size))
          have hp6 := Lib.hid ((hp5.out.below hb).below hA)
          clear hb hA hb5 hp5
          go_wp2_with fail
          refine (c_at hp6.out many_may 4 (x := (0, 0, 0)) (by decide +kernel) (b := false) (by decide +kernel)).mono ?_
          rintro e w7 ⟨rfl, hb⟩
          dsimp only
          have hA := below_alloc w7 (.cells #[.int .i64 0, .int .i64 0, .int .i64 0] 30)
          have hb7 := Lib.hid ((hb6.out.trans (hb.mono hb6.out.size)).trans (hA.mono (hb6.out.trans (hb.mono hb6.out.size)).size))
          have hp7 := Lib.hid ((hp6.out.below hb).below hA)
          clear hb hA hb6 hp6
          go_wp2_with fail
          refine (c_at hp7.out many_may (-3) (x := (0, 0, 0)) (by decide +kernel) (b := false) (by decide +kernel)).mono ?_
          rintro e w8 ⟨rfl, hb⟩
          dsimp only
          have hA := below_alloc w8 (.cells #[.int .i64 0, .int .i64 0, .int .i64 0] 30)
          have hb8 := Lib.hid ((hb7.out.trans (hb.mono hb7.out.size)).trans (hA.mono (hb7.out.trans (hb.mono hb7.out.size)).size))
          have hp8 := Lib.hid ((hp7.out.below hb).below hA)
          clear hb hA hb7 hp7
          go_wp2_with fail
          refine (c_left hp8.out many_may (-5) (m := 256) (M := 256) (by decide +kernel) rfl).mono ?_
          rintro e w9 ⟨rfl, hb⟩
          have hb9 := Lib.hid (hb8.out.trans (hb.mono hb8.out.size))
          have hp9 := Lib.hid (hp8.out.below hb)
          clear hb hb8 hp8
          go_wp2_with fail
          refine (c_left hp9.out many_may 4 (m := 255) (M := 255) (by decide +kernel) rfl).mono ?_
          rintro e w10 ⟨rfl, hb⟩
          have hb10 := Lib.hid (hb9.out.trans (hb.mono hb9.out.size))
          have hp10 := Lib.hid (hp9.out.below hb)
          clear hb hb9 hp9
          go_wp2_with fail
          refine (c_left hp10.out many_may 1099511627776 (m := 0) (M := 0) (by decide +kernel) rfl).mono ?_
          rintro e w11 ⟨rfl, hb⟩
          have hb11 := Lib.hid (hb10.out.trans (hb.mono hb10.out.size))
          have hp11 := Lib.hid (hp10.out.below hb)
          clear hb hb10 hp10
          go_wp2_with fail
          go_ret
          exact ⟨rfl, hb11.out⟩
end Go.Proofs.Ytfohnffhcfiliaa
