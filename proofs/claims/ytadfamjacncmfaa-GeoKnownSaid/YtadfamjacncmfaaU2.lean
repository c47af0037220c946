/- Statement GeoKnown: the law returns true. -/
import Derived.Test.YtadfamjacncmfaaGd
import Derived.Test.YtadfamjacncmfaaGs
namespace Go.Proofs.Ytadfamjacncmfaa
open Go.RowKit
attribute [local go_sem ↓] Cl.quiet_after

/-- the law's two rows of geometries -/
structure Two (w : World) (g h : Nat) : Prop where
  lt1 : g < w.heap.size
  lt2 : h < w.heap.size
  c1 : w.heap[g]? = some (.cells #[.int .i64 4, .int .i64 2, .int .i64 1, .int .i64 9, .int .i64 64, .int .i64 32, .int .i64 4, .int .i64 64, .int .i64 4, .int .i64 2, .int .i64 3, .int .i64 3] 23)
  c2 : w.heap[h]? = some (.cells #[.int .i64 0, .int .i64 0, .int .i64 0, .int .i64 0, .int .i64 3, .int .i64 2, .int .i64 1, .int .i64 9, .int .i64 65, .int .i64 2, .int .i64 1, .int .i64 9, .int .i64 4, .int .i64 1, .int .i64 1, .int .i64 9, .int .i64 4, .int .i64 33, .int .i64 1, .int .i64 9, .int .i64 4, .int .i64 2, .int .i64 0, .int .i64 9, .int .i64 4, .int .i64 2, .int .i64 5, .int .i64 9, .int .i64 4, .int .i64 2, .int .i64 1, .int .i64 8, .int .i64 4, .int .i64 2, .int .i64 2, .int .i64 4, .int .i64 4, .int .i64 2, .int .i64 1, .int .i64 65, .int .i64 4, .int .i64 2, .int .i64 (-1), .int .i64 (-9)] 23)
theorem Two.keep {w w' : World} {g h : Nat} (t : Two w g h) (hb : Below w.heap.size w w') : Two w' g h :=
  ⟨Nat.lt_of_lt_of_le t.lt1 hb.size, Nat.lt_of_lt_of_le t.lt2 hb.size, (hb.block g t.lt1).trans t.c1, (hb.block h t.lt2).trans t.c2⟩
theorem Two.new (w1 : World) : Two ((w1.alloc (.cells #[.int .i64 4, .int .i64 2, .int .i64 1, .int .i64 9, .int .i64 64, .int .i64 32, .int .i64 4, .int .i64 64, .int .i64 4, .int .i64 2, .int .i64 3, .int .i64 3] 23)).alloc (.cells #[.int .i64 0, .int .i64 0, .int .i64 0, .int .i64 0, .int .i64 3, .int .i64 2, .int .i64 1, .int .i64 9, .int .i64 65, .int .i64 2, .int .i64 1, .int .i64 9, .int .i64 4, .int .i64 1, .int .i64 1, .int .i64 9, .int .i64 4, .int .i64 33, .int .i64 1, .int .i64 9, .int .i64 4, .int .i64 2, .int .i64 0, .int .i64 9, .int .i64 4, .int .i64 2, .int .i64 5, .int .i64 9, .int .i64 4, .int .i64 2, .int .i64 1, .int .i64 8, .int .i64 4, .int .i64 2, .int .i64 2, .int .i64 4, .int .i64 4, .int .i64 2, .int .i64 1, .int .i64 65, .int .i64 4, .int .i64 2, .int .i64 (-1), .int .i64 (-9)] 23)) w1.heap.size (w1.heap.size + 1) := by
  refine ⟨by rw [World.size_alloc, World.size_alloc]; omega, by rw [World.size_alloc, World.size_alloc]; omega, ?_, ?_⟩
  · show ((w1.heap.push _).push _)[w1.heap.size]? = _
    rw [Array.getElem?_push, Array.size_push, if_neg (by omega), Array.getElem?_push, if_pos rfl]
  · show ((w1.heap.push _).push _)[w1.heap.size + 1]? = _
    rw [Array.getElem?_push, Array.size_push, if_pos rfl]
set_option maxRecDepth 20000 in
set_option maxHeartbeats 8000000 in
theorem known_law (w : World) : Calls Try.prog 4 #[] w fun e w' => e = .returned (.bool true) ∧ Below w.heap.size w w' := by
  have ca := Lib.hid awake_any
  go_enter Try.func4, Try.ntmps4
  go_wp2_with (go_at_call 8; (with_reducible refine (ca.out _).mono ?_); rintro e w1 ⟨rfl, hb1⟩)
  have hb := Lib.hid (hb1.trans (Below.mono ((below_alloc w1 (.cells #[.int .i64 4, .int .i64 2, .int .i64 1, .int .i64 9, .int .i64 64, .int .i64 32, .int .i64 4, .int .i64 64, .int .i64 4, .int .i64 2, .int .i64 3, .int .i64 3] 23)).trans (Below.mono (below_alloc (w1.alloc (.cells #[.int .i64 4, .int .i64 2, .int .i64 1, .int .i64 9, .int .i64 64, .int .i64 32, .int .i64 4, .int .i64 64, .int .i64 4, .int .i64 2, .int .i64 3, .int .i64 3] 23)) (.cells #[.int .i64 0, .int .i64 0, .int .i64 0, .int .i64 0, .int .i64 3, .int .i64 2, .int .i64 1, .int .i64 9, .int .i64 65, .int .i64 2, .int .i64 1, .int .i64 9, .int .i64 4, .int .i64 1, .int .i64 1, .int .i64 9, .int .i64 4, .int .i64 33, .int .i64 1, .int .i64 9, .int .i64 4, .int .i64 2, .int .i64 0, .int .i64 9, .int .i64 4, .int .i64 2, .int .i64 5, .int .i64 9, .int .i64 4, .int .i64 2, .int .i64 1, .int .i64 8, .int .i64 4, .int .i64 2, .int .i64 2, .int .i64 4, .int .i64 4, .int .i64 2, .int .i64 1, .int .i64 65, .int .i64 4, .int .i64 2, .int .i64 (-1), .int .i64 (-9)] 23)) (below_alloc w1 _).size)) hb1.size))
  have hT := Lib.hid (Two.new w1)
  clear hb1
  generalize ((w1.alloc (.cells #[.int .i64 4, .int .i64 2, .int .i64 1, .int .i64 9, .int .i64 64, .int .i64 32, .int .i64 4, .int .i64 64, .int .i64 4, .int .i64 2, .int .i64 3, .int .i64 3] 23)).alloc (.cells #[.int .i64 0, .int .i64 0, .int .i64 0, .int .i64 0, .int .i64 3, .int .i64 2, .int .i64 1, .int .i64 9, .int .i64 65, .int .i64 2, .int .i64 1, .int .i64 9, .int .i64 4, .int .i64 1, .int .i64 1, .int .i64 9, .int .i64 4, .int .i64 33, .int .i64 1, .int .i64 9, .int .i64 4, .int .i64 2, .int .i64 0, .int .i64 9, .int .i64 4, .int .i64 2, .int .i64 5, .int .i64 9, .int .i64 4, .int .i64 2, .int .i64 1, .int .i64 8, .int .i64 4, .int .i64 2, .int .i64 2, .int .i64 4, .int .i64 4, .int .i64 2, .int .i64 1, .int .i64 65, .int .i64 4, .int .i64 2, .int .i64 (-1), .int .i64 (-9)] 23)) = w2 at hb hT ⊢
  go_loopw [3] (fun q wr => ∃ k : Int, 0 ≤ k ∧ k ≤ 3 ∧ q = .int .i64 k ∧ Below w2.heap.size w2 wr) (fun q _ => (3 - intOf q).toNat)
  case atStart => exact ⟨0, by omega, by omega, rfl, Below.refl _ _⟩
  case round =>
    obtain ⟨k, hk0, hk3, rfl, hB⟩ := hrel
    have hT2 := Lib.hid (hT.out.keep hB)
    replace hB := Lib.hid hB
    have hk : k = 0 ∨ k = 1 ∨ k = 2 ∨ k = 3 := by omega
    clear hk0 hk3
    rcases hk with rfl | rfl | rfl | rfl
    · have d1 := Lib.hid (may_lit (B := 4) (P := 2) (W := 1) (K := 9) (b := true) (by decide +kernel))
      have d2 := Lib.hid (cells_lit (B := 4) (P := 2) (W := 1) (K := 9) (n := 25) (by decide +kernel))
      have d3 := Lib.hid (size_lit (B := 4) (P := 2) (W := 1) (K := 9) (n := 1) (by decide +kernel))
      have c0 : wr.cell? ⟨w1.heap.size, 0, none⟩ = some (.int .i64 4) := cell_of hT2.out.c1 0; have c1 : wr.cell? ⟨w1.heap.size, 1, none⟩ = some (.int .i64 2) := cell_of hT2.out.c1 1; have c2 : wr.cell? ⟨w1.heap.size, 2, none⟩ = some (.int .i64 1) := cell_of hT2.out.c1 2; have c3 : wr.cell? ⟨w1.heap.size, 3, none⟩ = some (.int .i64 9) := cell_of hT2.out.c1 3
      go_wp2_with fail
      have k0 := fun x : Cl.After wr.heap.size wr => (show x.w.cell? ⟨w1.heap.size, 0, none⟩ = some (.int .i64 4) from cell_of (hT2.out.keep x.below).c1 0)
      have k1 := fun x : Cl.After wr.heap.size wr => (show x.w.cell? ⟨w1.heap.size, 1, none⟩ = some (.int .i64 2) from cell_of (hT2.out.keep x.below).c1 1)
      have k2 := fun x : Cl.After wr.heap.size wr => (show x.w.cell? ⟨w1.heap.size, 2, none⟩ = some (.int .i64 1) from cell_of (hT2.out.keep x.below).c1 2)
      have k3 := fun x : Cl.After wr.heap.size wr => (show x.w.cell? ⟨w1.heap.size, 3, none⟩ = some (.int .i64 9) from cell_of (hT2.out.keep x.below).c1 3)
      refine Cl.region_after_at wr.heap.size (by kernel_rfl) lex4_8 (by kernel_rfl) ?_
      try simp only [List.append]
      repeat (go_big_quiet_step (first
        | (go_at_call 12; with_reducible exact ans_of (Nat.le_refl _) (d1.out _))
        | (go_at_call 13; with_reducible exact ans_of (Nat.le_refl _) (d2.out _))
        | (go_at_call 15; with_reducible exact ans_of (Nat.le_refl _) (d3.out _))))
      refine wpQuiet_nil ?_
      rintro _ ⟨x, rfl⟩
      clear k0 k1 k2 k3 c0 c1 c2 c3
      go_wp2_with fail
      go_roundw
      case rel => exact ⟨1, by omega, by omega, rfl, hB.out.trans (x.below.mono hB.out.size)⟩
      case measure => simp [intOf]
    · have d1 := Lib.hid (may_lit (B := 64) (P := 32) (W := 4) (K := 64) (b := true) (by decide +kernel))
      have d2 := Lib.hid (cells_lit (B := 64) (P := 32) (W := 4) (K := 64) (n := 320) (by decide +kernel))
      have d3 := Lib.hid (size_lit (B := 64) (P := 32) (W := 4) (K := 64) (n := 310) (by decide +kernel))
      have c0 : wr.cell? ⟨w1.heap.size, 4, none⟩ = some (.int .i64 64) := cell_of hT2.out.c1 4; have c1 : wr.cell? ⟨w1.heap.size, 5, none⟩ = some (.int .i64 32) := cell_of hT2.out.c1 5; have c2 : wr.cell? ⟨w1.heap.size, 6, none⟩ = some (.int .i64 4) := cell_of hT2.out.c1 6; have c3 : wr.cell? ⟨w1.heap.size, 7, none⟩ = some (.int .i64 64) := cell_of hT2.out.c1 7
      go_wp2_with fail
      have k0 := fun x : Cl.After wr.heap.size wr => (show x.w.cell? ⟨w1.heap.size, 4, none⟩ = some (.int .i64 64) from cell_of (hT2.out.keep x.below).c1 4)
      have k1 := fun x : Cl.After wr.heap.size wr => (show x.w.cell? ⟨w1.heap.size, 5, none⟩ = some (.int .i64 32) from cell_of (hT2.out.keep x.below).c1 5)
      have k2 := fun x : Cl.After wr.heap.size wr => (show x.w.cell? ⟨w1.heap.size, 6, none⟩ = some (.int .i64 4) from cell_of (hT2.out.keep x.below).c1 6)
      have k3 := fun x : Cl.After wr.heap.size wr => (show x.w.cell? ⟨w1.heap.size, 7, none⟩ = some (.int .i64 64) from cell_of (hT2.out.keep x.below).c1 7)
      refine Cl.region_after_at wr.heap.size (by kernel_rfl) lex4_8 (by kernel_rfl) ?_
      try simp only [List.append]
      repeat (go_big_quiet_step (first
        | (go_at_call 12; with_reducible exact ans_of (Nat.le_refl _) (d1.out _))
        | (go_at_call 13; with_reducible exact ans_of (Nat.le_refl _) (d2.out _))
        | (go_at_call 15; with_reducible exact ans_of (Nat.le_refl _) (d3.out _))))
      refine wpQuiet_nil ?_
      rintro _ ⟨x, rfl⟩
      clear k0 k1 k2 k3 c0 c1 c2 c3
      go_wp2_with fail
      go_roundw
      case rel => exact ⟨2, by omega, by omega, rfl, hB.out.trans (x.below.mono hB.out.size)⟩
      case measure => simp [intOf]
    · have d1 := Lib.hid (may_lit (B := 4) (P := 2) (W := 3) (K := 3) (b := true) (by decide +kernel))
      have d2 := Lib.hid (cells_lit (B := 4) (P := 2) (W := 3) (K := 3) (n := 57) (by decide +kernel))
      have d3 := Lib.hid (size_lit (B := 4) (P := 2) (W := 3) (K := 3) (n := 1) (by decide +kernel))
      have c0 : wr.cell? ⟨w1.heap.size, 8, none⟩ = some (.int .i64 4) := cell_of hT2.out.c1 8; have c1 : wr.cell? ⟨w1.heap.size, 9, none⟩ = some (.int .i64 2) := cell_of hT2.out.c1 9; have c2 : wr.cell? ⟨w1.heap.size, 10, none⟩ = some (.int .i64 3) := cell_of hT2.out.c1 10; have c3 : wr.cell? ⟨w1.heap.size, 11, none⟩ = some (.int .i64 3) := cell_of hT2.out.c1 11
      go_wp2_with fail
      have k0 := fun x : Cl.After wr.heap.size wr => (show x.w.cell? ⟨w1.heap.size, 8, none⟩ = some (.int .i64 4) from cell_of (hT2.out.keep x.below).c1 8)
      have k1 := fun x : Cl.After wr.heap.size wr => (show x.w.cell? ⟨w1.heap.size, 9, none⟩ = some (.int .i64 2) from cell_of (hT2.out.keep x.below).c1 9)
      have k2 := fun x : Cl.After wr.heap.size wr => (show x.w.cell? ⟨w1.heap.size, 10, none⟩ = some (.int .i64 3) from cell_of (hT2.out.keep x.below).c1 10)
      have k3 := fun x : Cl.After wr.heap.size wr => (show x.w.cell? ⟨w1.heap.size, 11, none⟩ = some (.int .i64 3) from cell_of (hT2.out.keep x.below).c1 11)
      refine Cl.region_after_at wr.heap.size (by kernel_rfl) lex4_8 (by kernel_rfl) ?_
      try simp only [List.append]
      repeat (go_big_quiet_step (first
        | (go_at_call 12; with_reducible exact ans_of (Nat.le_refl _) (d1.out _))
        | (go_at_call 13; with_reducible exact ans_of (Nat.le_refl _) (d2.out _))
        | (go_at_call 15; with_reducible exact ans_of (Nat.le_refl _) (d3.out _))))
      refine wpQuiet_nil ?_
      rintro _ ⟨x, rfl⟩
      clear k0 k1 k2 k3 c0 c1 c2 c3
      go_wp2_with fail
      go_roundw
      case rel => exact ⟨3, by omega, by omega, rfl, hB.out.trans (x.below.mono hB.out.size)⟩
      case measure => simp [intOf]
    · go_wp2_with fail
      clear hT
      have hbb := Lib.hid (hb.out.trans (hB.out.mono hb.out.size))
      clear hb hB
      go_loopw [4] (fun q ws => ∃ k : Int, 0 ≤ k ∧ k ≤ 11 ∧ q = .int .i64 k ∧ Below wr.heap.size wr ws) (fun q _ => (11 - intOf q).toNat)
      case atStart => exact ⟨0, by omega, by omega, rfl, Below.refl _ _⟩
      case round =>
        obtain ⟨k, hk0, hk3, rfl, hB⟩ := hrel
        have hT3 := Lib.hid (hT2.out.keep hB)
        replace hB := Lib.hid hB
        have hk : k = 0 ∨ k = 1 ∨ k = 2 ∨ k = 3 ∨ k = 4 ∨ k = 5 ∨ k = 6 ∨ k = 7 ∨ k = 8 ∨ k = 9 ∨ k = 10 ∨ k = 11 := by omega
        clear hk0 hk3
        rcases hk with rfl | rfl | rfl | rfl | rfl | rfl | rfl | rfl | rfl | rfl | rfl | rfl
        · have d1 := Lib.hid (may_lit (B := 0) (P := 0) (W := 0) (K := 0) (b := false) (by decide +kernel))
          have d2 := Lib.hid (cells_lit (B := 0) (P := 0) (W := 0) (K := 0) (n := 0) (by decide +kernel))
          have d3 := Lib.hid (size_lit (B := 0) (P := 0) (W := 0) (K := 0) (n := 0) (by decide +kernel))
          have d4 := Lib.hid (count_lit (B := 0) (P := 0) (W := 0) (K := 0) (n := 0) (by decide +kernel))
          have d5 := Lib.hid (lpns_lit (B := 0) (P := 0) (W := 0) (K := 0) (s := 0) (n := 0) (by decide) (by decide +kernel))
          have c0 : wr.cell? ⟨w1.heap.size + 1, 0, none⟩ = some (.int .i64 0) := cell_of hT3.out.c2 0; have c1 : wr.cell? ⟨w1.heap.size + 1, 1, none⟩ = some (.int .i64 0) := cell_of hT3.out.c2 1; have c2 : wr.cell? ⟨w1.heap.size + 1, 2, none⟩ = some (.int .i64 0) := cell_of hT3.out.c2 2; have c3 : wr.cell? ⟨w1.heap.size + 1, 3, none⟩ = some (.int .i64 0) := cell_of hT3.out.c2 3
          go_wp2_with (first
            | (go_at_call 12; (with_reducible refine (d1.out _).mono ?_); rintro e w3 ⟨rfl, hb1⟩; have hB := Lib.hid (hB.out.trans (hb1.mono hB.out.size)); have hT3 := Lib.hid (hT3.out.keep hb1); have c0 : w3.cell? ⟨w1.heap.size + 1, 0, none⟩ = some (.int .i64 0) := cell_of hT3.out.c2 0; have c1 : w3.cell? ⟨w1.heap.size + 1, 1, none⟩ = some (.int .i64 0) := cell_of hT3.out.c2 1; have c2 : w3.cell? ⟨w1.heap.size + 1, 2, none⟩ = some (.int .i64 0) := cell_of hT3.out.c2 2; have c3 : w3.cell? ⟨w1.heap.size + 1, 3, none⟩ = some (.int .i64 0) := cell_of hT3.out.c2 3; clear hb1)
            | (go_at_call 13; (with_reducible refine (d2.out _).mono ?_); rintro e w3 ⟨rfl, hb1⟩; have hB := Lib.hid (hB.out.trans (hb1.mono hB.out.size)); have hT3 := Lib.hid (hT3.out.keep hb1); have c0 : w3.cell? ⟨w1.heap.size + 1, 0, none⟩ = some (.int .i64 0) := cell_of hT3.out.c2 0; have c1 : w3.cell? ⟨w1.heap.size + 1, 1, none⟩ = some (.int .i64 0) := cell_of hT3.out.c2 1; have c2 : w3.cell? ⟨w1.heap.size + 1, 2, none⟩ = some (.int .i64 0) := cell_of hT3.out.c2 2; have c3 : w3.cell? ⟨w1.heap.size + 1, 3, none⟩ = some (.int .i64 0) := cell_of hT3.out.c2 3; clear hb1)
            | (go_at_call 15; (with_reducible refine (d3.out _).mono ?_); rintro e w3 ⟨rfl, hb1⟩; have hB := Lib.hid (hB.out.trans (hb1.mono hB.out.size)); have hT3 := Lib.hid (hT3.out.keep hb1); have c0 : w3.cell? ⟨w1.heap.size + 1, 0, none⟩ = some (.int .i64 0) := cell_of hT3.out.c2 0; have c1 : w3.cell? ⟨w1.heap.size + 1, 1, none⟩ = some (.int .i64 0) := cell_of hT3.out.c2 1; have c2 : w3.cell? ⟨w1.heap.size + 1, 2, none⟩ = some (.int .i64 0) := cell_of hT3.out.c2 2; have c3 : w3.cell? ⟨w1.heap.size + 1, 3, none⟩ = some (.int .i64 0) := cell_of hT3.out.c2 3; clear hb1)
            | (go_at_call 17; (with_reducible refine (d4.out _).mono ?_); rintro e w3 ⟨rfl, hb1⟩; have hB := Lib.hid (hB.out.trans (hb1.mono hB.out.size)); have hT3 := Lib.hid (hT3.out.keep hb1); have c0 : w3.cell? ⟨w1.heap.size + 1, 0, none⟩ = some (.int .i64 0) := cell_of hT3.out.c2 0; have c1 : w3.cell? ⟨w1.heap.size + 1, 1, none⟩ = some (.int .i64 0) := cell_of hT3.out.c2 1; have c2 : w3.cell? ⟨w1.heap.size + 1, 2, none⟩ = some (.int .i64 0) := cell_of hT3.out.c2 2; have c3 : w3.cell? ⟨w1.heap.size + 1, 3, none⟩ = some (.int .i64 0) := cell_of hT3.out.c2 3; clear hb1)
            | (go_at_call 18; (with_reducible refine (d5.out _).mono ?_); rintro e w3 ⟨rfl, hb1⟩; have hB := Lib.hid (hB.out.trans (hb1.mono hB.out.size)); have hT3 := Lib.hid (hT3.out.keep hb1); have c0 : w3.cell? ⟨w1.heap.size + 1, 0, none⟩ = some (.int .i64 0) := cell_of hT3.out.c2 0; have c1 : w3.cell? ⟨w1.heap.size + 1, 1, none⟩ = some (.int .i64 0) := cell_of hT3.out.c2 1; have c2 : w3.cell? ⟨w1.heap.size + 1, 2, none⟩ = some (.int .i64 0) := cell_of hT3.out.c2 2; have c3 : w3.cell? ⟨w1.heap.size + 1, 3, none⟩ = some (.int .i64 0) := cell_of hT3.out.c2 3; clear hb1))
          go_roundw
          case rel => exact ⟨1, by omega, by omega, rfl, hB.out⟩
          case measure => simp [intOf]
        · have d1 := Lib.hid (may_lit (B := 3) (P := 2) (W := 1) (K := 9) (b := false) (by decide +kernel))
          have d2 := Lib.hid (cells_lit (B := 3) (P := 2) (W := 1) (K := 9) (n := 0) (by decide +kernel))
          have d3 := Lib.hid (size_lit (B := 3) (P := 2) (W := 1) (K := 9) (n := 0) (by decide +kernel))
          have d4 := Lib.hid (count_lit (B := 3) (P := 2) (W := 1) (K := 9) (n := 0) (by decide +kernel))
          have d5 := Lib.hid (lpns_lit (B := 3) (P := 2) (W := 1) (K := 9) (s := 0) (n := 0) (by decide) (by decide +kernel))
          have c0 : wr.cell? ⟨w1.heap.size + 1, 4, none⟩ = some (.int .i64 3) := cell_of hT3.out.c2 4; have c1 : wr.cell? ⟨w1.heap.size + 1, 5, none⟩ = some (.int .i64 2) := cell_of hT3.out.c2 5; have c2 : wr.cell? ⟨w1.heap.size + 1, 6, none⟩ = some (.int .i64 1) := cell_of hT3.out.c2 6; have c3 : wr.cell? ⟨w1.heap.size + 1, 7, none⟩ = some (.int .i64 9) := cell_of hT3.out.c2 7
          go_wp2_with (first
            | (go_at_call 12; (with_reducible refine (d1.out _).mono ?_); rintro e w3 ⟨rfl, hb1⟩; have hB := Lib.hid (hB.out.trans (hb1.mono hB.out.size)); have hT3 := Lib.hid (hT3.out.keep hb1); have c0 : w3.cell? ⟨w1.heap.size + 1, 4, none⟩ = some (.int .i64 3) := cell_of hT3.out.c2 4; have c1 : w3.cell? ⟨w1.heap.size + 1, 5, none⟩ = some (.int .i64 2) := cell_of hT3.out.c2 5; have c2 : w3.cell? ⟨w1.heap.size + 1, 6, none⟩ = some (.int .i64 1) := cell_of hT3.out.c2 6; have c3 : w3.cell? ⟨w1.heap.size + 1, 7, none⟩ = some (.int .i64 9) := cell_of hT3.out.c2 7; clear hb1)
            | (go_at_call 13; (with_reducible refine (d2.out _).mono ?_); rintro e w3 ⟨rfl, hb1⟩; have hB := Lib.hid (hB.out.trans (hb1.mono hB.out.size)); have hT3 := Lib.hid (hT3.out.keep hb1); have c0 : w3.cell? ⟨w1.heap.size + 1, 4, none⟩ = some (.int .i64 3) := cell_of hT3.out.c2 4; have c1 : w3.cell? ⟨w1.heap.size + 1, 5, none⟩ = some (.int .i64 2) := cell_of hT3.out.c2 5; have c2 : w3.cell? ⟨w1.heap.size + 1, 6, none⟩ = some (.int .i64 1) := cell_of hT3.out.c2 6; have c3 : w3.cell? ⟨w1.heap.size + 1, 7, none⟩ = some (.int .i64 9) := cell_of hT3.out.c2 7; clear hb1)
            | (go_at_call 15; (with_reducible refine (d3.out _).mono ?_); rintro e w3 ⟨rfl, hb1⟩; have hB := Lib.hid (hB.out.trans (hb1.mono hB.out.size)); have hT3 := Lib.hid (hT3.out.keep hb1); have c0 : w3.cell? ⟨w1.heap.size + 1, 4, none⟩ = some (.int .i64 3) := cell_of hT3.out.c2 4; have c1 : w3.cell? ⟨w1.heap.size + 1, 5, none⟩ = some (.int .i64 2) := cell_of hT3.out.c2 5; have c2 : w3.cell? ⟨w1.heap.size + 1, 6, none⟩ = some (.int .i64 1) := cell_of hT3.out.c2 6; have c3 : w3.cell? ⟨w1.heap.size + 1, 7, none⟩ = some (.int .i64 9) := cell_of hT3.out.c2 7; clear hb1)
            | (go_at_call 17; (with_reducible refine (d4.out _).mono ?_); rintro e w3 ⟨rfl, hb1⟩; have hB := Lib.hid (hB.out.trans (hb1.mono hB.out.size)); have hT3 := Lib.hid (hT3.out.keep hb1); have c0 : w3.cell? ⟨w1.heap.size + 1, 4, none⟩ = some (.int .i64 3) := cell_of hT3.out.c2 4; have c1 : w3.cell? ⟨w1.heap.size + 1, 5, none⟩ = some (.int .i64 2) := cell_of hT3.out.c2 5; have c2 : w3.cell? ⟨w1.heap.size + 1, 6, none⟩ = some (.int .i64 1) := cell_of hT3.out.c2 6; have c3 : w3.cell? ⟨w1.heap.size + 1, 7, none⟩ = some (.int .i64 9) := cell_of hT3.out.c2 7; clear hb1)
            | (go_at_call 18; (with_reducible refine (d5.out _).mono ?_); rintro e w3 ⟨rfl, hb1⟩; have hB := Lib.hid (hB.out.trans (hb1.mono hB.out.size)); have hT3 := Lib.hid (hT3.out.keep hb1); have c0 : w3.cell? ⟨w1.heap.size + 1, 4, none⟩ = some (.int .i64 3) := cell_of hT3.out.c2 4; have c1 : w3.cell? ⟨w1.heap.size + 1, 5, none⟩ = some (.int .i64 2) := cell_of hT3.out.c2 5; have c2 : w3.cell? ⟨w1.heap.size + 1, 6, none⟩ = some (.int .i64 1) := cell_of hT3.out.c2 6; have c3 : w3.cell? ⟨w1.heap.size + 1, 7, none⟩ = some (.int .i64 9) := cell_of hT3.out.c2 7; clear hb1))
          go_roundw
          case rel => exact ⟨2, by omega, by omega, rfl, hB.out⟩
          case measure => simp [intOf]
        · have d1 := Lib.hid (may_lit (B := 65) (P := 2) (W := 1) (K := 9) (b := false) (by decide +kernel))
          have d2 := Lib.hid (cells_lit (B := 65) (P := 2) (W := 1) (K := 9) (n := 0) (by decide +kernel))
          have d3 := Lib.hid (size_lit (B := 65) (P := 2) (W := 1) (K := 9) (n := 0) (by decide +kernel))
          have d4 := Lib.hid (count_lit (B := 65) (P := 2) (W := 1) (K := 9) (n := 0) (by decide +kernel))
          have d5 := Lib.hid (lpns_lit (B := 65) (P := 2) (W := 1) (K := 9) (s := 0) (n := 0) (by decide) (by decide +kernel))
          have c0 : wr.cell? ⟨w1.heap.size + 1, 8, none⟩ = some (.int .i64 65) := cell_of hT3.out.c2 8; have c1 : wr.cell? ⟨w1.heap.size + 1, 9, none⟩ = some (.int .i64 2) := cell_of hT3.out.c2 9; have c2 : wr.cell? ⟨w1.heap.size + 1, 10, none⟩ = some (.int .i64 1) := cell_of hT3.out.c2 10; have c3 : wr.cell? ⟨w1.heap.size + 1, 11, none⟩ = some (.int .i64 9) := cell_of hT3.out.c2 11
          go_wp2_with (first
            | (go_at_call 12; (with_reducible refine (d1.out _).mono ?_); rintro e w3 ⟨rfl, hb1⟩; have hB := Lib.hid (hB.out.trans (hb1.mono hB.out.size)); have hT3 := Lib.hid (hT3.out.keep hb1); have c0 : w3.cell? ⟨w1.heap.size + 1, 8, none⟩ = some (.int .i64 65) := cell_of hT3.out.c2 8; have c1 : w3.cell? ⟨w1.heap.size + 1, 9, none⟩ = some (.int .i64 2) := cell_of hT3.out.c2 9; have c2 : w3.cell? ⟨w1.heap.size + 1, 10, none⟩ = some (.int .i64 1) := cell_of hT3.out.c2 10; have c3 : w3.cell? ⟨w1.heap.size + 1, 11, none⟩ = some (.int .i64 9) := cell_of hT3.out.c2 11; clear hb1)
            | (go_at_call 13; (with_reducible refine (d2.out _).mono ?_); rintro e w3 ⟨rfl, hb1⟩; have hB := Lib.hid (hB.out.trans (hb1.mono hB.out.size)); have hT3 := Lib.hid (hT3.out.keep hb1); have c0 : w3.cell? ⟨w1.heap.size + 1, 8, none⟩ = some (.int .i64 65) := cell_of hT3.out.c2 8; have c1 : w3.cell? ⟨w1.heap.size + 1, 9, none⟩ = some (.int .i64 2) := cell_of hT3.out.c2 9; have c2 : w3.cell? ⟨w1.heap.size + 1, 10, none⟩ = some (.int .i64 1) := cell_of hT3.out.c2 10; have c3 : w3.cell? ⟨w1.heap.size + 1, 11, none⟩ = some (.int .i64 9) := cell_of hT3.out.c2 11; clear hb1)
            | (go_at_call 15; (with_reducible refine (d3.out _).mono ?_); rintro e w3 ⟨rfl, hb1⟩; have hB := Lib.hid (hB.out.trans (hb1.mono hB.out.size)); have hT3 := Lib.hid (hT3.out.keep hb1); have c0 : w3.cell? ⟨w1.heap.size + 1, 8, none⟩ = some (.int .i64 65) := cell_of hT3.out.c2 8; have c1 : w3.cell? ⟨w1.heap.size + 1, 9, none⟩ = some (.int .i64 2) := cell_of hT3.out.c2 9; have c2 : w3.cell? ⟨w1.heap.size + 1, 10, none⟩ = some (.int .i64 1) := cell_of hT3.out.c2 10; have c3 : w3.cell? ⟨w1.heap.size + 1, 11, none⟩ = some (.int .i64 9) := cell_of hT3.out.c2 11; clear hb1)
            | (go_at_call 17; (with_reducible refine (d4.out _).mono ?_); rintro e w3 ⟨rfl, hb1⟩; have hB := Lib.hid (hB.out.trans (hb1.mono hB.out.size)); have hT3 := Lib.hid (hT3.out.keep hb1); have c0 : w3.cell? ⟨w1.heap.size + 1, 8, none⟩ = some (.int .i64 65) := cell_of hT3.out.c2 8; have c1 : w3.cell? ⟨w1.heap.size + 1, 9, none⟩ = some (.int .i64 2) := cell_of hT3.out.c2 9; have c2 : w3.cell? ⟨w1.heap.size + 1, 10, none⟩ = some (.int .i64 1) := cell_of hT3.out.c2 10; have c3 : w3.cell? ⟨w1.heap.size + 1, 11, none⟩ = some (.int .i64 9) := cell_of hT3.out.c2 11; clear hb1)
            | (go_at_call 18; (with_reducible refine (d5.out _).mono ?_); rintro e w3 ⟨rfl, hb1⟩; have hB := Lib.hid (hB.out.trans (hb1.mono hB.out.size)); have hT3 := Lib.hid (hT3.out.keep hb1); have c0 : w3.cell? ⟨w1.heap.size + 1, 8, none⟩ = some (.int .i64 65) := cell_of hT3.out.c2 8; have c1 : w3.cell? ⟨w1.heap.size + 1, 9, none⟩ = some (.int .i64 2) := cell_of hT3.out.c2 9; have c2 : w3.cell? ⟨w1.heap.size + 1, 10, none⟩ = some (.int .i64 1) := cell_of hT3.out.c2 10; have c3 : w3.cell? ⟨w1.heap.size + 1, 11, none⟩ = some (.int .i64 9) := cell_of hT3.out.c2 11; clear hb1))
          go_roundw
          case rel => exact ⟨3, by omega, by omega, rfl, hB.out⟩
          case measure => simp [intOf]
        · have d1 := Lib.hid (may_lit (B := 4) (P := 1) (W := 1) (K := 9) (b := false) (by decide +kernel))
          have d2 := Lib.hid (cells_lit (B := 4) (P := 1) (W := 1) (K := 9) (n := 0) (by decide +kernel))
          have d3 := Lib.hid (size_lit (B := 4) (P := 1) (W := 1) (K := 9) (n := 0) (by decide +kernel))
          have d4 := Lib.hid (count_lit (B := 4) (P := 1) (W := 1) (K := 9) (n := 0) (by decide +kernel))
          have d5 := Lib.hid (lpns_lit (B := 4) (P := 1) (W := 1) (K := 9) (s := 0) (n := 0) (by decide) (by decide +kernel))
          have c0 : wr.cell? ⟨w1.heap.size + 1, 12, none⟩ = some (.int .i64 4) := cell_of hT3.out.c2 12; have c1 : wr.cell? ⟨w1.heap.size + 1, 13, none⟩ = some (.int .i64 1) := cell_of hT3.out.c2 13; have c2 : wr.cell? ⟨w1.heap.size + 1, 14, none⟩ = some (.int .i64 1) := cell_of hT3.out.c2 14; have c3 : wr.cell? ⟨w1.heap.size + 1, 15, none⟩ = some (.int .i64 9) := cell_of hT3.out.c2 15
          go_wp2_with (first
            | (go_at_call 12; (with_reducible refine (d1.out _).mono ?_); rintro e w3 ⟨rfl, hb1⟩; have hB := Lib.hid (hB.out.trans (hb1.mono hB.out.size)); have hT3 := Lib.hid (hT3.out.keep hb1); have c0 : w3.cell? ⟨w1.heap.size + 1, 12, none⟩ = some (.int .i64 4) := cell_of hT3.out.c2 12; have c1 : w3.cell? ⟨w1.heap.size + 1, 13, none⟩ = some (.int .i64 1) := cell_of hT3.out.c2 13; have c2 : w3.cell? ⟨w1.heap.size + 1, 14, none⟩ = some (.int .i64 1) := cell_of hT3.out.c2 14; have c3 : w3.cell? ⟨w1.heap.size + 1, 15, none⟩ = some (.int .i64 9) := cell_of hT3.out.c2 15; clear hb1)
            | (go_at_call 13; (with_reducible refine (d2.out _).mono ?_); rintro e w3 ⟨rfl, hb1⟩; have hB := Lib.hid (hB.out.trans (hb1.mono hB.out.size)); have hT3 := Lib.hid (hT3.out.keep hb1); have c0 : w3.cell? ⟨w1.heap.size + 1, 12, none⟩ = some (.int .i64 4) := cell_of hT3.out.c2 12; have c1 : w3.cell? ⟨w1.heap.size + 1, 13, none⟩ = some (.int .i64 1) := cell_of hT3.out.c2 13; have c2 : w3.cell? ⟨w1.heap.size + 1, 14, none⟩ = some (.int .i64 1) := cell_of hT3.out.c2 14; have c3 : w3.cell? ⟨w1.heap.size + 1, 15, none⟩ = some (.int .i64 9) := cell_of hT3.out.c2 15; clear hb1)
            | (go_at_call 15; (with_reducible refine (d3.out _).mono ?_); rintro e w3 ⟨rfl, hb1⟩; have hB := Lib.hid (hB.out.trans (hb1.mono hB.out.size)); have hT3 := Lib.hid (hT3.out.keep hb1); have c0 : w3.cell? ⟨w1.heap.size + 1, 12, none⟩ = some (.int .i64 4) := cell_of hT3.out.c2 12; have c1 : w3.cell? ⟨w1.heap.size + 1, 13, none⟩ = some (.int .i64 1) := cell_of hT3.out.c2 13; have c2 : w3.cell? ⟨w1.heap.size + 1, 14, none⟩ = some (.int .i64 1) := cell_of hT3.out.c2 14; have c3 : w3.cell? ⟨w1.heap.size + 1, 15, none⟩ = some (.int .i64 9) := cell_of hT3.out.c2 15; clear hb1)
            | (go_at_call 17; (with_reducible refine (d4.out _).mono ?_); rintro e w3 ⟨rfl, hb1⟩; have hB := Lib.hid (hB.out.trans (hb1.mono hB.out.size)); have hT3 := Lib.hid (hT3.out.keep hb1); have c0 : w3.cell? ⟨w1.heap.size + 1, 12, none⟩ = some (.int .i64 4) := cell_of hT3.out.c2 12; have c1 : w3.cell? ⟨w1.heap.size + 1, 13, none⟩ = some (.int .i64 1) := cell_of hT3.out.c2 13; have c2 : w3.cell? ⟨w1.heap.size + 1, 14, none⟩ = some (.int .i64 1) := cell_of hT3.out.c2 14; have c3 : w3.cell? ⟨w1.heap.size + 1, 15, none⟩ = some (.int .i64 9) := cell_of hT3.out.c2 15; clear hb1)
            | (go_at_call 18; (with_reducible refine (d5.out _).mono ?_); rintro e w3 ⟨rfl, hb1⟩; have hB := Lib.hid (hB.out.trans (hb1.mono hB.out.size)); have hT3 := Lib.hid (hT3.out.keep hb1); have c0 : w3.cell? ⟨w1.heap.size + 1, 12, none⟩ = some (.int .i64 4) := cell_of hT3.out.c2 12; have c1 : w3.cell? ⟨w1.heap.size + 1, 13, none⟩ = some (.int .i64 1) := cell_of hT3.out.c2 13; have c2 : w3.cell? ⟨w1.heap.size + 1, 14, none⟩ = some (.int .i64 1) := cell_of hT3.out.c2 14; have c3 : w3.cell? ⟨w1.heap.size + 1, 15, none⟩ = some (.int .i64 9) := cell_of hT3.out.c2 15; clear hb1))
          go_roundw
          case rel => exact ⟨4, by omega, by omega, rfl, hB.out⟩
          case measure => simp [intOf]
        · have d1 := Lib.hid (may_lit (B := 4) (P := 33) (W := 1) (K := 9) (b := false) (by decide +kernel))
          have d2 := Lib.hid (cells_lit (B := 4) (P := 33) (W := 1) (K := 9) (n := 0) (by decide +kernel))
          have d3 := Lib.hid (size_lit (B := 4) (P := 33) (W := 1) (K := 9) (n := 0) (by decide +kernel))
          have d4 := Lib.hid (count_lit (B := 4) (P := 33) (W := 1) (K := 9) (n := 0) (by decide +kernel))
          have d5 := Lib.hid (lpns_lit (B := 4) (P := 33) (W := 1) (K := 9) (s := 0) (n := 0) (by decide) (by decide +kernel))
          have c0 : wr.cell? ⟨w1.heap.size + 1, 16, none⟩ = some (.int .i64 4) := cell_of hT3.out.c2 16; have c1 : wr.cell? ⟨w1.heap.size + 1, 17, none⟩ = some (.int .i64 33) := cell_of hT3.out.c2 17; have c2 : wr.cell? ⟨w1.heap.size + 1, 18, none⟩ = some (.int .i64 1) := cell_of hT3.out.c2 18; have c3 : wr.cell? ⟨w1.heap.size + 1, 19, none⟩ = some (.int .i64 9) := cell_of hT3.out.c2 19
          go_wp2_with (first
            | (go_at_call 12; (with_reducible refine (d1.out _).mono ?_); rintro e w3 ⟨rfl, hb1⟩; have hB := Lib.hid (hB.out.trans (hb1.mono hB.out.size)); have hT3 := Lib.hid (hT3.out.keep hb1); have c0 : w3.cell? ⟨w1.heap.size + 1, 16, none⟩ = some (.int .i64 4) := cell_of hT3.out.c2 16; have c1 : w3.cell? ⟨w1.heap.size + 1, 17, none⟩ = some (.int .i64 33) := cell_of hT3.out.c2 17; have c2 : w3.cell? ⟨w1.heap.size + 1, 18, none⟩ = some (.int .i64 1) := cell_of hT3.out.c2 18; have c3 : w3.cell? ⟨w1.heap.size + 1, 19, none⟩ = some (.int .i64 9) := cell_of hT3.out.c2 19; clear hb1)
            | (go_at_call 13; (with_reducible refine (d2.out _).mono ?_); rintro e w3 ⟨rfl, hb1⟩; have hB := Lib.hid (hB.out.trans (hb1.mono hB.out.size)); have hT3 := Lib.hid (hT3.out.keep hb1); have c0 : w3.cell? ⟨w1.heap.size + 1, 16, none⟩ = some (.int .i64 4) := cell_of hT3.out.c2 16; have c1 : w3.cell? ⟨w1.heap.size + 1, 17, none⟩ = some (.int .i64 33) := cell_of hT3.out.c2 17; have c2 : w3.cell? ⟨w1.heap.size + 1, 18, none⟩ = some (.int .i64 1) := cell_of hT3.out.c2 18; have c3 : w3.cell? ⟨w1.heap.size + 1, 19, none⟩ = some (.int .i64 9) := cell_of hT3.out.c2 19; clear hb1)
            | (go_at_call 15; (with_reducible refine (d3.out _).mono ?_); rintro e w3 ⟨rfl, hb1⟩; have hB := Lib.hid (hB.out.trans (hb1.mono hB.out.size)); have hT3 := Lib.hid (hT3.out.keep hb1); have c0 : w3.cell? ⟨w1.heap.size + 1, 16, none⟩ = some (.int .i64 4) := cell_of hT3.out.c2 16; have c1 : w3.cell? ⟨w1.heap.size + 1, 17, none⟩ = some (.int .i64 33) := cell_of hT3.out.c2 17; have c2 : w3.cell? ⟨w1.heap.size + 1, 18, none⟩ = some (.int .i64 1) := cell_of hT3.out.c2 18; have c3 : w3.cell? ⟨w1.heap.size + 1, 19, none⟩ = some (.int .i64 9) := cell_of hT3.out.c2 19; clear hb1)
            | (go_at_call 17; (with_reducible refine (d4.out _).mono ?_); rintro e w3 ⟨rfl, hb1⟩; have hB := Lib.hid (hB.out.trans (hb1.mono hB.out.size)); have hT3 := Lib.hid (hT3.out.keep hb1); have c0 : w3.cell? ⟨w1.heap.size + 1, 16, none⟩ = some (.int .i64 4) := cell_of hT3.out.c2 16; have c1 : w3.cell? ⟨w1.heap.size + 1, 17, none⟩ = some (.int .i64 33) := cell_of hT3.out.c2 17; have c2 : w3.cell? ⟨w1.heap.size + 1, 18, none⟩ = some (.int .i64 1) := cell_of hT3.out.c2 18; have c3 : w3.cell? ⟨w1.heap.size + 1, 19, none⟩ = some (.int .i64 9) := cell_of hT3.out.c2 19; clear hb1)
            | (go_at_call 18; (with_reducible refine (d5.out _).mono ?_); rintro e w3 ⟨rfl, hb1⟩; have hB := Lib.hid (hB.out.trans (hb1.mono hB.out.size)); have hT3 := Lib.hid (hT3.out.keep hb1); have c0 : w3.cell? ⟨w1.heap.size + 1, 16, none⟩ = some (.int .i64 4) := cell_of hT3.out.c2 16; have c1 : w3.cell? ⟨w1.heap.size + 1, 17, none⟩ = some (.int .i64 33) := cell_of hT3.out.c2 17; have c2 : w3.cell? ⟨w1.heap.size + 1, 18, none⟩ = some (.int .i64 1) := cell_of hT3.out.c2 18; have c3 : w3.cell? ⟨w1.heap.size + 1, 19, none⟩ = some (.int .i64 9) := cell_of hT3.out.c2 19; clear hb1))
          go_roundw
          case rel => exact ⟨5, by omega, by omega, rfl, hB.out⟩
          case measure => simp [intOf]
        · have d1 := Lib.hid (may_lit (B := 4) (P := 2) (W := 0) (K := 9) (b := false) (by decide +kernel))
          have d2 := Lib.hid (cells_lit (B := 4) (P := 2) (W := 0) (K := 9) (n := 0) (by decide +kernel))
          have d3 := Lib.hid (size_lit (B := 4) (P := 2) (W := 0) (K := 9) (n := 0) (by decide +kernel))
          have d4 := Lib.hid (count_lit (B := 4) (P := 2) (W := 0) (K := 9) (n := 0) (by decide +kernel))
          have d5 := Lib.hid (lpns_lit (B := 4) (P := 2) (W := 0) (K := 9) (s := 0) (n := 0) (by decide) (by decide +kernel))
          have c0 : wr.cell? ⟨w1.heap.size + 1, 20, none⟩ = some (.int .i64 4) := cell_of hT3.out.c2 20; have c1 : wr.cell? ⟨w1.heap.size + 1, 21, none⟩ = some (.int .i64 2) := cell_of hT3.out.c2 21; have c2 : wr.cell? ⟨w1.heap.size + 1, 22, none⟩ = some (.int .i64 0) := cell_of hT3.out.c2 22; have c3 : wr.cell? ⟨w1.heap.size + 1, 23, none⟩ = some (.int .i64 9) := cell_of hT3.out.c2 23
          go_wp2_with (first
            | (go_at_call 12; (with_reducible refine (d1.out _).mono ?_); rintro e w3 ⟨rfl, hb1⟩; have hB := Lib.hid (hB.out.trans (hb1.mono hB.out.size)); have hT3 := Lib.hid (hT3.out.keep hb1); have c0 : w3.cell? ⟨w1.heap.size + 1, 20, none⟩ = some (.int .i64 4) := cell_of hT3.out.c2 20; have c1 : w3.cell? ⟨w1.heap.size + 1, 21, none⟩ = some (.int .i64 2) := cell_of hT3.out.c2 21; have c2 : w3.cell? ⟨w1.heap.size + 1, 22, none⟩ = some (.int .i64 0) := cell_of hT3.out.c2 22; have c3 : w3.cell? ⟨w1.heap.size + 1, 23, none⟩ = some (.int .i64 9) := cell_of hT3.out.c2 23; clear hb1)
            | (go_at_call 13; (with_reducible refine (d2.out _).mono ?_); rintro e w3 ⟨rfl, hb1⟩; have hB := Lib.hid (hB.out.trans (hb1.mono hB.out.size)); have hT3 := Lib.hid (hT3.out.keep hb1); have c0 : w3.cell? ⟨w1.heap.size + 1, 20, none⟩ = some (.int .i64 4) := cell_of hT3.out.c2 20; have c1 : w3.cell? ⟨w1.heap.size + 1, 21, none⟩ = some (.int .i64 2) := cell_of hT3.out.c2 21; have c2 : w3.cell? ⟨w1.heap.size + 1, 22, none⟩ = some (.int .i64 0) := cell_of hT3.out.c2 22; have c3 : w3.cell? ⟨w1.heap.size + 1, 23, none⟩ = some (.int .i64 9) := cell_of hT3.out.c2 23; clear hb1)
            | (go_at_call 15; (with_reducible refine (d3.out _).mono ?_); rintro e w3 ⟨rfl, hb1⟩; have hB := Lib.hid (hB.out.trans (hb1.mono hB.out.size)); have hT3 := Lib.hid (hT3.out.keep hb1); have c0 : w3.cell? ⟨w1.heap.size + 1, 20, none⟩ = some (.int .i64 4) := cell_of hT3.out.c2 20; have c1 : w3.cell? ⟨w1.heap.size + 1, 21, none⟩ = some (.int .i64 2) := cell_of hT3.out.c2 21; have c2 : w3.cell? ⟨w1.heap.size + 1, 22, none⟩ = some (.int .i64 0) := cell_of hT3.out.c2 22; have c3 : w3.cell? ⟨w1.heap.size + 1, 23, none⟩ = some (.int .i64 9) := cell_of hT3.out.c2 23; clear hb1)
            | (go_at_call 17; (with_reducible refine (d4.out _).mono ?_); rintro e w3 ⟨rfl, hb1⟩; have hB := Lib.hid (hB.out.trans (hb1.mono hB.out.size)); have hT3 := Lib.hid (hT3.out.keep hb1); have c0 : w3.cell? ⟨w1.heap.size + 1, 20, none⟩ = some (.int .i64 4) := cell_of hT3.out.c2 20; have c1 : w3.cell? ⟨w1.heap.size + 1, 21, none⟩ = some (.int .i64 2) := cell_of hT3.out.c2 21; have c2 : w3.cell? ⟨w1.heap.size + 1, 22, none⟩ = some (.int .i64 0) := cell_of hT3.out.c2 22; have c3 : w3.cell? ⟨w1.heap.size + 1, 23, none⟩ = some (.int .i64 9) := cell_of hT3.out.c2 23; clear hb1)
            | (go_at_call 18; (with_reducible refine (d5.out _).mono ?_); rintro e w3 ⟨rfl, hb1⟩; have hB := Lib.hid (hB.out.trans (hb1.mono hB.out.size)); have hT3 := Lib.hid (hT3.out.keep hb1); have c0 : w3.cell? ⟨w1.heap.size + 1, 20, none⟩ = some (.int .i64 4) := cell_of hT3.out.c2 20; have c1 : w3.cell? ⟨w1.heap.size + 1, 21, none⟩ = some (.int .i64 2) := cell_of hT3.out.c2 21; have c2 : w3.cell? ⟨w1.heap.size + 1, 22, none⟩ = some (.int .i64 0) := cell_of hT3.out.c2 22; have c3 : w3.cell? ⟨w1.heap.size + 1, 23, none⟩ = some (.int .i64 9) := cell_of hT3.out.c2 23; clear hb1))
          go_roundw
          case rel => exact ⟨6, by omega, by omega, rfl, hB.out⟩
          case measure => simp [intOf]
        · have d1 := Lib.hid (may_lit (B := 4) (P := 2) (W := 5) (K := 9) (b := false) (by decide +kernel))
          have d2 := Lib.hid (cells_lit (B := 4) (P := 2) (W := 5) (K := 9) (n := 0) (by decide +kernel))
          have d3 := Lib.hid (size_lit (B := 4) (P := 2) (W := 5) (K := 9) (n := 0) (by decide +kernel))
          have d4 := Lib.hid (count_lit (B := 4) (P := 2) (W := 5) (K := 9) (n := 0) (by decide +kernel))
          have d5 := Lib.hid (lpns_lit (B := 4) (P := 2) (W := 5) (K := 9) (s := 0) (n := 0) (by decide) (by decide +kernel))
          have c0 : wr.cell? ⟨w1.heap.size + 1, 24, none⟩ = some (.int .i64 4) := cell_of hT3.out.c2 24; have c1 : wr.cell? ⟨w1.heap.size + 1, 25, none⟩ = some (.int .i64 2) := cell_of hT3.out.c2 25; have c2 : wr.cell? ⟨w1.heap.size + 1, 26, none⟩ = some (.int .i64 5) := cell_of hT3.out.c2 26; have c3 : wr.cell? ⟨w1.heap.size + 1, 27, none⟩ = some (.int .i64 9) := cell_of hT3.out.c2 27
          go_wp2_with (first
            | (go_at_call 12; (with_reducible refine (d1.out _).mono ?_); rintro e w3 ⟨rfl, hb1⟩; have hB := Lib.hid (hB.out.trans (hb1.mono hB.out.size)); have hT3 := Lib.hid (hT3.out.keep hb1); have c0 : w3.cell? ⟨w1.heap.size + 1, 24, none⟩ = some (.int .i64 4) := cell_of hT3.out.c2 24; have c1 : w3.cell? ⟨w1.heap.size + 1, 25, none⟩ = some (.int .i64 2) := cell_of hT3.out.c2 25; have c2 : w3.cell? ⟨w1.heap.size + 1, 26, none⟩ = some (.int .i64 5) := cell_of hT3.out.c2 26; have c3 : w3.cell? ⟨w1.heap.size + 1, 27, none⟩ = some (.int .i64 9) := cell_of hT3.out.c2 27; clear hb1)
            | (go_at_call 13; (with_reducible refine (d2.out _).mono ?_); rintro e w3 ⟨rfl, hb1⟩; have hB := Lib.hid (hB.out.trans (hb1.mono hB.out.size)); have hT3 := Lib.hid (hT3.out.keep hb1); have c0 : w3.cell? ⟨w1.heap.size + 1, 24, none⟩ = some (.int .i64 4) := cell_of hT3.out.c2 24; have c1 : w3.cell? ⟨w1.heap.size + 1, 25, none⟩ = some (.int .i64 2) := cell_of hT3.out.c2 25; have c2 : w3.cell? ⟨w1.heap.size + 1, 26, none⟩ = some (.int .i64 5) := cell_of hT3.out.c2 26; have c3 : w3.cell? ⟨w1.heap.size + 1, 27, none⟩ = some (.int .i64 9) := cell_of hT3.out.c2 27; clear hb1)
            | (go_at_call 15; (with_reducible refine (d3.out _).mono ?_); rintro e w3 ⟨rfl, hb1⟩; have hB := Lib.hid (hB.out.trans (hb1.mono hB.out.size)); have hT3 := Lib.hid (hT3.out.keep hb1); have c0 : w3.cell? ⟨w1.heap.size + 1, 24, none⟩ = some (.int .i64 4) := cell_of hT3.out.c2 24; have c1 : w3.cell? ⟨w1.heap.size + 1, 25, none⟩ = some (.int .i64 2) := cell_of hT3.out.c2 25; have c2 : w3.cell? ⟨w1.heap.size + 1, 26, none⟩ = some (.int .i64 5) := cell_of hT3.out.c2 26; have c3 : w3.cell? ⟨w1.heap.size + 1, 27, none⟩ = some (.int .i64 9) := cell_of hT3.out.c2 27; clear hb1)
            | (go_at_call 17; (with_reducible refine (d4.out _).mono ?_); rintro e w3 ⟨rfl, hb1⟩; have hB := Lib.hid (hB.out.trans (hb1.mono hB.out.size)); have hT3 := Lib.hid (hT3.out.keep hb1); have c0 : w3.cell? ⟨w1.heap.size + 1, 24, none⟩ = some (.int .i64 4) := cell_of hT3.out.c2 24; have c1 : w3.cell? ⟨w1.heap.size + 1, 25, none⟩ = some (.int .i64 2) := cell_of hT3.out.c2 25; have c2 : w3.cell? ⟨w1.heap.size + 1, 26, none⟩ = some (.int .i64 5) := cell_of hT3.out.c2 26; have c3 : w3.cell? ⟨w1.heap.size + 1, 27, none⟩ = some (.int .i64 9) := cell_of hT3.out.c2 27; clear hb1)
            | (go_at_call 18; (with_reducible refine (d5.out _).mono ?_); rintro e w3 ⟨rfl, hb1⟩; have hB := Lib.hid (hB.out.trans (hb1.mono hB.out.size)); have hT3 := Lib.hid (hT3.out.keep hb1); have c0 : w3.cell? ⟨w1.heap.size + 1, 24, none⟩ = some (.int .i64 4) := cell_of hT3.out.c2 24; have c1 : w3.cell? ⟨w1.heap.size + 1, 25, none⟩ = some (.int .i64 2) := cell_of hT3.out.c2 25; have c2 : w3.cell? ⟨w1.heap.size + 1, 26, none⟩ = some (.int .i64 5) := cell_of hT3.out.c2 26; have c3 : w3.cell? ⟨w1.heap.size + 1, 27, none⟩ = some (.int .i64 9) := cell_of hT3.out.c2 27; clear hb1))
          go_roundw
          case rel => exact ⟨7, by omega, by omega, rfl, hB.out⟩
          case measure => simp [intOf]
        · have d1 := Lib.hid (may_lit (B := 4) (P := 2) (W := 1) (K := 8) (b := false) (by decide +kernel))
          have d2 := Lib.hid (cells_lit (B := 4) (P := 2) (W := 1) (K := 8) (n := 0) (by decide +kernel))
          have d3 := Lib.hid (size_lit (B := 4) (P := 2) (W := 1) (K := 8) (n := 0) (by decide +kernel))
          have d4 := Lib.hid (count_lit (B := 4) (P := 2) (W := 1) (K := 8) (n := 0) (by decide +kernel))
          have d5 := Lib.hid (lpns_lit (B := 4) (P := 2) (W := 1) (K := 8) (s := 0) (n := 0) (by decide) (by decide +kernel))
          have c0 : wr.cell? ⟨w1.heap.size + 1, 28, none⟩ = some (.int .i64 4) := cell_of hT3.out.c2 28; have c1 : wr.cell? ⟨w1.heap.size + 1, 29, none⟩ = some (.int .i64 2) := cell_of hT3.out.c2 29; have c2 : wr.cell? ⟨w1.heap.size + 1, 30, none⟩ = some (.int .i64 1) := cell_of hT3.out.c2 30; have c3 : wr.cell? ⟨w1.heap.size + 1, 31, none⟩ = some (.int .i64 8) := cell_of hT3.out.c2 31
          go_wp2_with (first
            | (go_at_call 12; (with_reducible refine (d1.out _).mono ?_); rintro e w3 ⟨rfl, hb1⟩; have hB := Lib.hid (hB.out.trans (hb1.mono hB.out.size)); have hT3 := Lib.hid (hT3.out.keep hb1); have c0 : w3.cell? ⟨w1.heap.size + 1, 28, none⟩ = some (.int .i64 4) := cell_of hT3.out.c2 28; have c1 : w3.cell? ⟨w1.heap.size + 1, 29, none⟩ = some (.int .i64 2) := cell_of hT3.out.c2 29; have c2 : w3.cell? ⟨w1.heap.size + 1, 30, none⟩ = some (.int .i64 1) := cell_of hT3.out.c2 30; have c3 : w3.cell? ⟨w1.heap.size + 1, 31, none⟩ = some (.int .i64 8) := cell_of hT3.out.c2 31; clear hb1)
            | (go_at_call 13; (with_reducible refine (d2.out _).mono ?_); rintro e w3 ⟨rfl, hb1⟩; have hB := Lib.hid (hB.out.trans (hb1.mono hB.out.size)); have hT3 := Lib.hid (hT3.out.keep hb1); have c0 : w3.cell? ⟨w1.heap.size + 1, 28, none⟩ = some (.int .i64 4) := cell_of hT3.out.c2 28; have c1 : w3.cell? ⟨w1.heap.size + 1, 29, none⟩ = some (.int .i64 2) := cell_of hT3.out.c2 29; have c2 : w3.cell? ⟨w1.heap.size + 1, 30, none⟩ = some (.int .i64 1) := cell_of hT3.out.c2 30; have c3 : w3.cell? ⟨w1.heap.size + 1, 31, none⟩ = some (.int .i64 8) := cell_of hT3.out.c2 31; clear hb1)
            | (go_at_call 15; (with_reducible refine (d3.out _).mono ?_); rintro e w3 ⟨rfl, hb1⟩; have hB := Lib.hid (hB.out.trans (hb1.mono hB.out.size)); have hT3 := Lib.hid (hT3.out.keep hb1); have c0 : w3.cell? ⟨w1.heap.size + 1, 28, none⟩ = some (.int .i64 4) := cell_of hT3.out.c2 28; have c1 : w3.cell? ⟨w1.heap.size + 1, 29, none⟩ = some (.int .i64 2) := cell_of hT3.out.c2 29; have c2 : w3.cell? ⟨w1.heap.size + 1, 30, none⟩ = some (.int .i64 1) := cell_of hT3.out.c2 30; have c3 : w3.cell? ⟨w1.heap.size + 1, 31, none⟩ = some (.int .i64 8) := cell_of hT3.out.c2 31; clear hb1)
            | (go_at_call 17; (with_reducible refine (d4.out _).mono ?_); rintro e w3 ⟨rfl, hb1⟩; have hB := Lib.hid (hB.out.trans (hb1.mono hB.out.size)); have hT3 := Lib.hid (hT3.out.keep hb1); have c0 : w3.cell? ⟨w1.heap.size + 1, 28, none⟩ = some (.int .i64 4) := cell_of hT3.out.c2 28; have c1 : w3.cell? ⟨w1.heap.size + 1, 29, none⟩ = some (.int .i64 2) := cell_of hT3.out.c2 29; have c2 : w3.cell? ⟨w1.heap.size + 1, 30, none⟩ = some (.int .i64 1) := cell_of hT3.out.c2 30; have c3 : w3.cell? ⟨w1.heap.size + 1, 31, none⟩ = some (.int .i64 8) := cell_of hT3.out.c2 31; clear hb1)
            | (go_at_call 18; (with_reducible refine (d5.out _).mono ?_); rintro e w3 ⟨rfl, hb1⟩; have hB := Lib.hid (hB.out.trans (hb1.mono hB.out.size)); have hT3 := Lib.hid (hT3.out.keep hb1); have c0 : w3.cell? ⟨w1.heap.size + 1, 28, none⟩ = some (.int .i64 4) := cell_of hT3.out.c2 28; have c1 : w3.cell? ⟨w1.heap.size + 1, 29, none⟩ = some (.int .i64 2) := cell_of hT3.out.c2 29; have c2 : w3.cell? ⟨w1.heap.size + 1, 30, none⟩ = some (.int .i64 1) := cell_of hT3.out.c2 30; have c3 : w3.cell? ⟨w1.heap.size + 1, 31, none⟩ = some (.int .i64 8) := cell_of hT3.out.c2 31; clear hb1))
          go_roundw
          case rel => exact ⟨8, by omega, by omega, rfl, hB.out⟩
          case measure => simp [intOf]
        · have d1 := Lib.hid (may_lit (B := 4) (P := 2) (W := 2) (K := 4) (b := false) (by decide +kernel))
          have d2 := Lib.hid (cells_lit (B := 4) (P := 2) (W := 2) (K := 4) (n := 0) (by decide +kernel))
          have d3 := Lib.hid (size_lit (B := 4) (P := 2) (W := 2) (K := 4) (n := 0) (by decide +kernel))
          have d4 := Lib.hid (count_lit (B := 4) (P := 2) (W := 2) (K := 4) (n := 0) (by decide +kernel))
          have d5 := Lib.hid (lpns_lit (B := 4) (P := 2) (W := 2) (K := 4) (s := 0) (n := 0) (by decide) (by decide +kernel))
          have c0 : wr.cell? ⟨w1.heap.size + 1, 32, none⟩ = some (.int .i64 4) := cell_of hT3.out.c2 32; have c1 : wr.cell? ⟨w1.heap.size + 1, 33, none⟩ = some (.int .i64 2) := cell_of hT3.out.c2 33; have c2 : wr.cell? ⟨w1.heap.size + 1, 34, none⟩ = some (.int .i64 2) := cell_of hT3.out.c2 34; have c3 : wr.cell? ⟨w1.heap.size + 1, 35, none⟩ = some (.int .i64 4) := cell_of hT3.out.c2 35
          go_wp2_with (first
            | (go_at_call 12; (with_reducible refine (d1.out _).mono ?_); rintro e w3 ⟨rfl, hb1⟩; have hB := Lib.hid (hB.out.trans (hb1.mono hB.out.size)); have hT3 := Lib.hid (hT3.out.keep hb1); have c0 : w3.cell? ⟨w1.heap.size + 1, 32, none⟩ = some (.int .i64 4) := cell_of hT3.out.c2 32; have c1 : w3.cell? ⟨w1.heap.size + 1, 33, none⟩ = some (.int .i64 2) := cell_of hT3.out.c2 33; have c2 : w3.cell? ⟨w1.heap.size + 1, 34, none⟩ = some (.int .i64 2) := cell_of hT3.out.c2 34; have c3 : w3.cell? ⟨w1.heap.size + 1, 35, none⟩ = some (.int .i64 4) := cell_of hT3.out.c2 35; clear hb1)
            | (go_at_call 13; (with_reducible refine (d2.out _).mono ?_); rintro e w3 ⟨rfl, hb1⟩; have hB := Lib.hid (hB.out.trans (hb1.mono hB.out.size)); have hT3 := Lib.hid (hT3.out.keep hb1); have c0 : w3.cell? ⟨w1.heap.size + 1, 32, none⟩ = some (.int .i64 4) := cell_of hT3.out.c2 32; have c1 : w3.cell? ⟨w1.heap.size + 1, 33, none⟩ = some (.int .i64 2) := cell_of hT3.out.c2 33; have c2 : w3.cell? ⟨w1.heap.size + 1, 34, none⟩ = some (.int .i64 2) := cell_of hT3.out.c2 34; have c3 : w3.cell? ⟨w1.heap.size + 1, 35, none⟩ = some (.int .i64 4) := cell_of hT3.out.c2 35; clear hb1)
            | (go_at_call 15; (with_reducible refine (d3.out _).mono ?_); rintro e w3 ⟨rfl, hb1⟩; have hB := Lib.hid (hB.out.trans (hb1.mono hB.out.size)); have hT3 := Lib.hid (hT3.out.keep hb1); have c0 : w3.cell? ⟨w1.heap.size + 1, 32, none⟩ = some (.int .i64 4) := cell_of hT3.out.c2 32; have c1 : w3.cell? ⟨w1.heap.size + 1, 33, none⟩ = some (.int .i64 2) := cell_of hT3.out.c2 33; have c2 : w3.cell? ⟨w1.heap.size + 1, 34, none⟩ = some (.int .i64 2) := cell_of hT3.out.c2 34; have c3 : w3.cell? ⟨w1.heap.size + 1, 35, none⟩ = some (.int .i64 4) := cell_of hT3.out.c2 35; clear hb1)
            | (go_at_call 17; (with_reducible refine (d4.out _).mono ?_); rintro e w3 ⟨rfl, hb1⟩; have hB := Lib.hid (hB.out.trans (hb1.mono hB.out.size)); have hT3 := Lib.hid (hT3.out.keep hb1); have c0 : w3.cell? ⟨w1.heap.size + 1, 32, none⟩ = some (.int .i64 4) := cell_of hT3.out.c2 32; have c1 : w3.cell? ⟨w1.heap.size + 1, 33, none⟩ = some (.int .i64 2) := cell_of hT3.out.c2 33; have c2 : w3.cell? ⟨w1.heap.size + 1, 34, none⟩ = some (.int .i64 2) := cell_of hT3.out.c2 34; have c3 : w3.cell? ⟨w1.heap.size + 1, 35, none⟩ = some (.int .i64 4) := cell_of hT3.out.c2 35; clear hb1)
            | (go_at_call 18; (with_reducible refine (d5.out _).mono ?_); rintro e w3 ⟨rfl, hb1⟩; have hB := Lib.hid (hB.out.trans (hb1.mono hB.out.size)); have hT3 := Lib.hid (hT3.out.keep hb1); have c0 : w3.cell? ⟨w1.heap.size + 1, 32, none⟩ = some (.int .i64 4) := cell_of hT3.out.c2 32; have c1 : w3.cell? ⟨w1.heap.size + 1, 33, none⟩ = some (.int .i64 2) := cell_of hT3.out.c2 33; have c2 : w3.cell? ⟨w1.heap.size + 1, 34, none⟩ = some (.int .i64 2) := cell_of hT3.out.c2 34; have c3 : w3.cell? ⟨w1.heap.size + 1, 35, none⟩ = some (.int .i64 4) := cell_of hT3.out.c2 35; clear hb1))
          go_roundw
          case rel => exact ⟨9, by omega, by omega, rfl, hB.out⟩
          case measure => simp [intOf]
        · have d1 := Lib.hid (may_lit (B := 4) (P := 2) (W := 1) (K := 65) (b := false) (by decide +kernel))
          have d2 := Lib.hid (cells_lit (B := 4) (P := 2) (W := 1) (K := 65) (n := 0) (by decide +kernel))
          have d3 := Lib.hid (size_lit (B := 4) (P := 2) (W := 1) (K := 65) (n := 0) (by decide +kernel))
          have d4 := Lib.hid (count_lit (B := 4) (P := 2) (W := 1) (K := 65) (n := 0) (by decide +kernel))
          have d5 := Lib.hid (lpns_lit (B := 4) (P := 2) (W := 1) (K := 65) (s := 0) (n := 0) (by decide) (by decide +kernel))
          have c0 : wr.cell? ⟨w1.heap.size + 1, 36, none⟩ = some (.int .i64 4) := cell_of hT3.out.c2 36; have c1 : wr.cell? ⟨w1.heap.size + 1, 37, none⟩ = some (.int .i64 2) := cell_of hT3.out.c2 37; have c2 : wr.cell? ⟨w1.heap.size + 1, 38, none⟩ = some (.int .i64 1) := cell_of hT3.out.c2 38; have c3 : wr.cell? ⟨w1.heap.size + 1, 39, none⟩ = some (.int .i64 65) := cell_of hT3.out.c2 39
          go_wp2_with (first
            | (go_at_call 12; (with_reducible refine (d1.out _).mono ?_); rintro e w3 ⟨rfl, hb1⟩; have hB := Lib.hid (hB.out.trans (hb1.mono hB.out.size)); have hT3 := Lib.hid (hT3.out.keep hb1); have c0 : w3.cell? ⟨w1.heap.size + 1, 36, none⟩ = some (.int .i64 4) := cell_of hT3.out.c2 36; have c1 : w3.cell? ⟨w1.heap.size + 1, 37, none⟩ = some (.int .i64 2) := cell_of hT3.out.c2 37; have c2 : w3.cell? ⟨w1.heap.size + 1, 38, none⟩ = some (.int .i64 1) := cell_of hT3.out.c2 38; have c3 : w3.cell? ⟨w1.heap.size + 1, 39, none⟩ = some (.int .i64 65) := cell_of hT3.out.c2 39; clear hb1)
            | (go_at_call 13; (with_reducible refine (d2.out _).mono ?_); rintro e w3 ⟨rfl, hb1⟩; have hB := Lib.hid (hB.out.trans (hb1.mono hB.out.size)); have hT3 := Lib.hid (hT3.out.keep hb1); have c0 : w3.cell? ⟨w1.heap.size + 1, 36, none⟩ = some (.int .i64 4) := cell_of hT3.out.c2 36; have c1 : w3.cell? ⟨w1.heap.size + 1, 37, none⟩ = some (.int .i64 2) := cell_of hT3.out.c2 37; have c2 : w3.cell? ⟨w1.heap.size + 1, 38, none⟩ = some (.int .i64 1) := cell_of hT3.out.c2 38; have c3 : w3.cell? ⟨w1.heap.size + 1, 39, none⟩ = some (.int .i64 65) := cell_of hT3.out.c2 39; clear hb1)
            | (go_at_call 15; (with_reducible refine (d3.out _).mono ?_); rintro e w3 ⟨rfl, hb1⟩; have hB := Lib.hid (hB.out.trans (hb1.mono hB.out.size)); have hT3 := Lib.hid (hT3.out.keep hb1); have c0 : w3.cell? ⟨w1.heap.size + 1, 36, none⟩ = some (.int .i64 4) := cell_of hT3.out.c2 36; have c1 : w3.cell? ⟨w1.heap.size + 1, 37, none⟩ = some (.int .i64 2) := cell_of hT3.out.c2 37; have c2 : w3.cell? ⟨w1.heap.size + 1, 38, none⟩ = some (.int .i64 1) := cell_of hT3.out.c2 38; have c3 : w3.cell? ⟨w1.heap.size + 1, 39, none⟩ = some (.int .i64 65) := cell_of hT3.out.c2 39; clear hb1)
            | (go_at_call 17; (with_reducible refine (d4.out _).mono ?_); rintro e w3 ⟨rfl, hb1⟩; have hB := Lib.hid (hB.out.trans (hb1.mono hB.out.size)); have hT3 := Lib.hid (hT3.out.keep hb1); have c0 : w3.cell? ⟨w1.heap.size + 1, 36, none⟩ = some (.int .i64 4) := cell_of hT3.out.c2 36; have c1 : w3.cell? ⟨w1.heap.size + 1, 37, none⟩ = some (.int .i64 2) := cell_of hT3.out.c2 37; have c2 : w3.cell? ⟨w1.heap.size + 1, 38, none⟩ = some (.int .i64 1) := cell_of hT3.out.c2 38; have c3 : w3.cell? ⟨w1.heap.size + 1, 39, none⟩ = some (.int .i64 65) := cell_of hT3.out.c2 39; clear hb1)
            | (go_at_call 18; (with_reducible refine (d5.out _).mono ?_); rintro e w3 ⟨rfl, hb1⟩; have hB := Lib.hid (hB.out.trans (hb1.mono hB.out.size)); have hT3 := Lib.hid (hT3.out.keep hb1); have c0 : w3.cell? ⟨w1.heap.size + 1, 36, none⟩ = some (.int .i64 4) := cell_of hT3.out.c2 36; have c1 : w3.cell? ⟨w1.heap.size + 1, 37, none⟩ = some (.int .i64 2) := cell_of hT3.out.c2 37; have c2 : w3.cell? ⟨w1.heap.size + 1, 38, none⟩ = some (.int .i64 1) := cell_of hT3.out.c2 38; have c3 : w3.cell? ⟨w1.heap.size + 1, 39, none⟩ = some (.int .i64 65) := cell_of hT3.out.c2 39; clear hb1))
          go_roundw
          case rel => exact ⟨10, by omega, by omega, rfl, hB.out⟩
          case measure => simp [intOf]
        · have d1 := Lib.hid (may_lit (B := 4) (P := 2) (W := (-1)) (K := (-9)) (b := false) (by decide +kernel))
          have d2 := Lib.hid (cells_lit (B := 4) (P := 2) (W := (-1)) (K := (-9)) (n := 0) (by decide +kernel))
          have d3 := Lib.hid (size_lit (B := 4) (P := 2) (W := (-1)) (K := (-9)) (n := 0) (by decide +kernel))
          have d4 := Lib.hid (count_lit (B := 4) (P := 2) (W := (-1)) (K := (-9)) (n := 0) (by decide +kernel))
          have d5 := Lib.hid (lpns_lit (B := 4) (P := 2) (W := (-1)) (K := (-9)) (s := 0) (n := 0) (by decide) (by decide +kernel))
          have c0 : wr.cell? ⟨w1.heap.size + 1, 40, none⟩ = some (.int .i64 4) := cell_of hT3.out.c2 40; have c1 : wr.cell? ⟨w1.heap.size + 1, 41, none⟩ = some (.int .i64 2) := cell_of hT3.out.c2 41; have c2 : wr.cell? ⟨w1.heap.size + 1, 42, none⟩ = some (.int .i64 (-1)) := cell_of hT3.out.c2 42; have c3 : wr.cell? ⟨w1.heap.size + 1, 43, none⟩ = some (.int .i64 (-9)) := cell_of hT3.out.c2 43
          go_wp2_with (first
            | (go_at_call 12; (with_reducible refine (d1.out _).mono ?_); rintro e w3 ⟨rfl, hb1⟩; have hB := Lib.hid (hB.out.trans (hb1.mono hB.out.size)); have hT3 := Lib.hid (hT3.out.keep hb1); have c0 : w3.cell? ⟨w1.heap.size + 1, 40, none⟩ = some (.int .i64 4) := cell_of hT3.out.c2 40; have c1 : w3.cell? ⟨w1.heap.size + 1, 41, none⟩ = some (.int .i64 2) := cell_of hT3.out.c2 41; have c2 : w3.cell? ⟨w1.heap.size + 1, 42, none⟩ = some (.int .i64 (-1)) := cell_of hT3.out.c2 42; have c3 : w3.cell? ⟨w1.heap.size + 1, 43, none⟩ = some (.int .i64 (-9)) := cell_of hT3.out.c2 43; clear hb1)
            | (go_at_call 13; (with_reducible refine (d2.out _).mono ?_); rintro e w3 ⟨rfl, hb1⟩; have hB := Lib.hid (hB.out.trans (hb1.mono hB.out.size)); have hT3 := Lib.hid (hT3.out.keep hb1); have c0 : w3.cell? ⟨w1.heap.size + 1, 40, none⟩ = some (.int .i64 4) := cell_of hT3.out.c2 40; have c1 : w3.cell? ⟨w1.heap.size + 1, 41, none⟩ = some (.int .i64 2) := cell_of hT3.out.c2 41; have c2 : w3.cell? ⟨w1.heap.size + 1, 42, none⟩ = some (.int .i64 (-1)) := cell_of hT3.out.c2 42; have c3 : w3.cell? ⟨w1.heap.size + 1, 43, none⟩ = some (.int .i64 (-9)) := cell_of hT3.out.c2 43; clear hb1)
            | (go_at_call 15; (with_reducible refine (d3.out _).mono ?_); rintro e w3 ⟨rfl, hb1⟩; have hB := Lib.hid (hB.out.trans (hb1.mono hB.out.size)); have hT3 := Lib.hid (hT3.out.keep hb1); have c0 : w3.cell? ⟨w1.heap.size + 1, 40, none⟩ = some (.int .i64 4) := cell_of hT3.out.c2 40; have c1 : w3.cell? ⟨w1.heap.size + 1, 41, none⟩ = some (.int .i64 2) := cell_of hT3.out.c2 41; have c2 : w3.cell? ⟨w1.heap.size + 1, 42, none⟩ = some (.int .i64 (-1)) := cell_of hT3.out.c2 42; have c3 : w3.cell? ⟨w1.heap.size + 1, 43, none⟩ = some (.int .i64 (-9)) := cell_of hT3.out.c2 43; clear hb1)
            | (go_at_call 17; (with_reducible refine (d4.out _).mono ?_); rintro e w3 ⟨rfl, hb1⟩; have hB := Lib.hid (hB.out.trans (hb1.mono hB.out.size)); have hT3 := Lib.hid (hT3.out.keep hb1); have c0 : w3.cell? ⟨w1.heap.size + 1, 40, none⟩ = some (.int .i64 4) := cell_of hT3.out.c2 40; have c1 : w3.cell? ⟨w1.heap.size + 1, 41, none⟩ = some (.int .i64 2) := cell_of hT3.out.c2 41; have c2 : w3.cell? ⟨w1.heap.size + 1, 42, none⟩ = some (.int .i64 (-1)) := cell_of hT3.out.c2 42; have c3 : w3.cell? ⟨w1.heap.size + 1, 43, none⟩ = some (.int .i64 (-9)) := cell_of hT3.out.c2 43; clear hb1)
            | (go_at_call 18; (with_reducible refine (d5.out _).mono ?_); rintro e w3 ⟨rfl, hb1⟩; have hB := Lib.hid (hB.out.trans (hb1.mono hB.out.size)); have hT3 := Lib.hid (hT3.out.keep hb1); have c0 : w3.cell? ⟨w1.heap.size + 1, 40, none⟩ = some (.int .i64 4) := cell_of hT3.out.c2 40; have c1 : w3.cell? ⟨w1.heap.size + 1, 41, none⟩ = some (.int .i64 2) := cell_of hT3.out.c2 41; have c2 : w3.cell? ⟨w1.heap.size + 1, 42, none⟩ = some (.int .i64 (-1)) := cell_of hT3.out.c2 42; have c3 : w3.cell? ⟨w1.heap.size + 1, 43, none⟩ = some (.int .i64 (-9)) := cell_of hT3.out.c2 43; clear hb1))
          go_roundw
          case rel => exact ⟨11, by omega, by omega, rfl, hB.out⟩
          case measure => simp [intOf]
        · have d4 := Lib.hid (count_lit (B := 64) (P := 32) (W := 4) (K := 64) (n := 2048) (by decide +kernel))
          have d3 := Lib.hid (size_lit (B := 64) (P := 32) (W := 4) (K := 64) (n := 310) (by decide +kernel))
          have d5 := Lib.hid (lpns_lit (B := 64) (P := 32) (W := 4) (K := 64) (s := 0) (n := 976) (by decide) (by decide +kernel))
          have d6 := Lib.hid (lpns_lit (B := 64) (P := 32) (W := 4) (K := 64) (s := 60) (n := 16) (by decide) (by decide +kernel))
          have d7 := Lib.hid (lpns_lit (B := 64) (P := 32) (W := 4) (K := 64) (s := 61) (n := 0) (by decide) (by decide +kernel))
          have d8 := Lib.hid (lpns_lit (B := 64) (P := 32) (W := 4) (K := 64) (s := -1) (n := 0) (by decide) (by decide +kernel))
          have d9 := Lib.hid (lpns_lit (B := 4) (P := 2) (W := 1) (K := 9) (s := 0) (n := 1) (by decide) (by decide +kernel))
          have c0 : wr.cell? ⟨w1.heap.size, 4, none⟩ = some (.int .i64 64) := cell_of hT3.out.c1 4; have c1 : wr.cell? ⟨w1.heap.size, 5, none⟩ = some (.int .i64 32) := cell_of hT3.out.c1 5; have c2 : wr.cell? ⟨w1.heap.size, 6, none⟩ = some (.int .i64 4) := cell_of hT3.out.c1 6; have c3 : wr.cell? ⟨w1.heap.size, 7, none⟩ = some (.int .i64 64) := cell_of hT3.out.c1 7
          have hA := below_alloc wr (.cells #[.int .i64 64, .int .i64 32, .int .i64 4, .int .i64 64] 23)
          have hx := Lib.hid (Box.new wr 64 32 4 64)
          replace hT3 := Lib.hid (hT3.out.keep hA)
          have hb4 := Lib.hid ((hbb.out.trans (hB.out.mono hbb.out.size)).trans (hA.mono (hbb.out.trans (hB.out.mono hbb.out.size)).size))
          clear hA hB hbb hT2
          go_wp2_with (first
            | (go_at_call 17; (first | (with_reducible refine (d4.out _).mono ?_)); rintro e w3 ⟨rfl, hb1⟩; have hb4 := Lib.hid (hb4.out.trans (hb1.mono hb4.out.size)); have hT3 := Lib.hid (hT3.out.keep hb1); have hx := Lib.hid (hx.out.keep hb1); obtain ⟨_, g0, g1, g2, g3⟩ := hx.out; have c0 : w3.cell? ⟨w1.heap.size, 0, none⟩ = some (.int .i64 4) := cell_of hT3.out.c1 0; have c1 : w3.cell? ⟨w1.heap.size, 1, none⟩ = some (.int .i64 2) := cell_of hT3.out.c1 1; have c2 : w3.cell? ⟨w1.heap.size, 2, none⟩ = some (.int .i64 1) := cell_of hT3.out.c1 2; have c3 : w3.cell? ⟨w1.heap.size, 3, none⟩ = some (.int .i64 9) := cell_of hT3.out.c1 3; clear hb1)
            | (go_at_call 15; (first | (with_reducible refine (d3.out _).mono ?_)); rintro e w3 ⟨rfl, hb1⟩; have hb4 := Lib.hid (hb4.out.trans (hb1.mono hb4.out.size)); have hT3 := Lib.hid (hT3.out.keep hb1); have hx := Lib.hid (hx.out.keep hb1); obtain ⟨_, g0, g1, g2, g3⟩ := hx.out; have c0 : w3.cell? ⟨w1.heap.size, 0, none⟩ = some (.int .i64 4) := cell_of hT3.out.c1 0; have c1 : w3.cell? ⟨w1.heap.size, 1, none⟩ = some (.int .i64 2) := cell_of hT3.out.c1 1; have c2 : w3.cell? ⟨w1.heap.size, 2, none⟩ = some (.int .i64 1) := cell_of hT3.out.c1 2; have c3 : w3.cell? ⟨w1.heap.size, 3, none⟩ = some (.int .i64 9) := cell_of hT3.out.c1 3; clear hb1)
            | (go_at_call 18; (first | (with_reducible refine (d5.out _).mono ?_) | (with_reducible refine (d6.out _).mono ?_) | (with_reducible refine (d7.out _).mono ?_) | (with_reducible refine (d8.out _).mono ?_) | (with_reducible refine (d9.out _).mono ?_)); rintro e w3 ⟨rfl, hb1⟩; have hb4 := Lib.hid (hb4.out.trans (hb1.mono hb4.out.size)); have hT3 := Lib.hid (hT3.out.keep hb1); have hx := Lib.hid (hx.out.keep hb1); obtain ⟨_, g0, g1, g2, g3⟩ := hx.out; have c0 : w3.cell? ⟨w1.heap.size, 0, none⟩ = some (.int .i64 4) := cell_of hT3.out.c1 0; have c1 : w3.cell? ⟨w1.heap.size, 1, none⟩ = some (.int .i64 2) := cell_of hT3.out.c1 1; have c2 : w3.cell? ⟨w1.heap.size, 2, none⟩ = some (.int .i64 1) := cell_of hT3.out.c1 2; have c3 : w3.cell? ⟨w1.heap.size, 3, none⟩ = some (.int .i64 9) := cell_of hT3.out.c1 3; clear hb1))
          go_ret
          exact ⟨rfl, hb4.out⟩
end Go.Proofs.Ytadfamjacncmfaa
namespace Go.Proofs.Ytadfamjacncmfaa.geoKnown
open Go.ChangeShapes Go.WideShapes Go.ChangeAt Go.RowKit
set_option linter.unusedVariables false

theorem own : ownKnob Try.prog.godebug = none := by kernel_rfl

theorem walk  (w : World)  :
    Calls Try.prog 4 #[] w fun e w' => e = .returned (.bool true) ∧ Below w.heap.size w w' := known_law  w 

set_option maxRecDepth 100000 in
theorem lifted (os : Os) (started : os.Started) (H : Type) (enc : TypeId × Value → H) :
    ReturnsInHanded {} Try.checked os 4 .any (Rows.geoKnownSpec.pre6 enc Try.prog Try.f4 Rows.geoKnownRow.domain false) (Rows.geoKnownSpec.post enc Try.prog Try.f4 false true false false) := by
  refine returnsInHanded_of_change (C := Try.checked) own started (by kernel_rfl) Try.func4
    (ChangeSpec.witness6 (enc := enc) (C := Try.checked) false ⟨#[], #[], []⟩ 8 (by kernel_rfl) (by kernel_rfl) (by kernel_rfl) (by kernel_rfl)) ?_
  intro W base args ds gs before hval0 hW hcnd _
  have hval : ∀ (j : Nat) t v, Try.f4.params[j]? = some t → args[j]? = some v → Value.okWide Try.prog W .any base t v := hval0
  have hW' := hW
  obtain ⟨p, q, hA0, hV, rfl, hfz, hnd⟩ := hW
  have hA : DataW.TrodAll enc Try.prog W 0 (fun _ => true) true Try.f4.params.toList args.toList ds p := hA0
  rw [Try.params4] at hA hval
  obtain ⟨hargs, rfl, rfl⟩ := trodAll_nil hA
  obtain rfl : args = #[] := by cases args; simp_all
  obtain ⟨rfl, rfl⟩ := trodVars_none hV
  clear hA0 hval0
  refine (walk  W ).mono fun e W' ⟨he, hg⟩ => ?_
  subst he
  exact ⟨_, rfl, Cl.post_below (pv := []) hW' (fun _ _ _ => (trodAll_cons_mk (shut_bool Try.underlying4 _) trodAll_mk0)) (fun sp hsp => rfl) (fun _ _ => rfl) rfl
    hg (ok_one (by kernel_rfl) rfl (okWide_bool_mk Try.underlying4 _))⟩

theorem over : Rows.geoKnownRow.holds Try.pinned (OpenSpec.ofChange Rows.geoKnownSpec) :=
  OpenClaim.holds_of_wide 4 Try.f4 rfl rfl rfl rfl rfl rfl rfl ⟨rfl, rfl, rfl, rfl, rfl⟩ rfl rfl rfl rfl rfl (by kernel_rfl) Try.func4 (by kernel_rfl)
    (of_decide_eq_true (by kernel_rfl)) (by unfold Func.isWrapper; first | (rw [if_pos (by decide +kernel)]; kernel_rfl) | (rw [if_neg (by decide +kernel)]; exact ⟨rfl, rfl⟩))
    (fun os started H enc _ => lifted os started H enc)

/-- THE STATEMENT -/
theorem proved : Rows.GeoKnownSaid := over
end Go.Proofs.Ytadfamjacncmfaa.geoKnown
