/- WearVictims walked. -/
import Derived.Test.YtoldfgnnmfaihaaWrg
namespace Go.Proofs.Ytoldfgnnmfaihaa.We
open Go.RowKit
set_option linter.unusedVariables false
set_option linter.unusedSimpArgs false
attribute [local go_sem ↓] Cl.quiet_since Cl.quiet_after
/-- how valid each is, of those that may -/
def wI (x : Nat → Nat → Int) (i : Nat) : Int := if oddI (x i 2) then x i 0 else 0
def colW (x : Nat → Nat → Int) (n : Nat) : List Value := (List.range n).map fun i => .int .i64 (wI x i)
theorem colW_len (x : Nat → Nat → Int) (n : Nat) : (colW x n).length = n := by simp [colW]
theorem colW_succ (x : Nat → Nat → Int) (n : Nat) : colW x n ++ [.int .i64 (wI x n)] = colW x (n + 1) := by simp [colW, List.range_succ]
theorem colW_get (x : Nat → Nat → Int) {n i : Nat} (h : i < n) : (colW x n).getD i undef = .int .i64 (wI x i) := by simp [colW, List.getD_eq_getElem?_getD, h]
theorem even_fin : ∀ k : Fin 256, (bits BinOp.and IntKind.u8 (k.val : Int) 1 == 0) = !oddI (k.val : Int) := by decide +kernel
theorem even_bits {a : Int} (h : 0 ≤ a ∧ a < 256) : (bits BinOp.and IntKind.u8 a 1 == 0) = !oddI a := by
  have := even_fin ⟨a.toNat, by omega⟩
  rwa [show ((⟨a.toNat, by omega⟩ : Fin 256).val : Int) = a from Int.toNat_of_nonneg h.1] at this
theorem lex6_22 : (Cl.opsAt 22 (Try.f6.body.getD .skip)).map (Region.lexB .any) = some true := by kernel_rfl
theorem fst_colW (x : Nat → Nat → Int) (n : Nat) : fst (fun j => oddI (x j 2)) (lx (wI x) (fun j => x j 1)) n = fst (fun j => oddI (x j 2)) (lx (fun j => x j 0) (fun j => x j 1)) n :=
  fst_congr (fun _ _ => rfl) fun a b _ _ ha hb => by
    simp only [lx, wI, ha, hb, if_true]
set_option maxRecDepth 20000 in
set_option maxHeartbeats 16000000 in
theorem victims_law (A : Option Addr) (n : Nat) (x : Nat → Nat → Int) (c : Nat) (hl : n ≤ c) (hc : c ≤ maxLen) (w : World) (s0 : RF w w.heap.size A 3 n .u8 x) :
    Calls Try.prog 6 #[.slice A n c] w (Ans w (.bool true)) := by
  have ca := Lib.hid awake_any
  have H := Lib.hid s0
  clear s0 hl hc
  by_cases h200 : 200 < n
  · have h200I : (200 : Int) < (n : Int) := by omega
    go_enter Try.func6, Try.ntmps6
    go_wp2_with (go_at_call 8; (with_reducible refine (ca.out _).mono ?_); rintro e w1 ⟨rfl, hb⟩)
    go_ret
    exact ⟨rfl, hb⟩
  have h200I : ¬ (200 : Int) < (n : Int) := by omega
  go_enter Try.func6, Try.ntmps6
  go_wp2_with (go_at_call 8; (with_reducible refine (ca.out _).mono ?_); rintro e w1 ⟨rfl, hb⟩; have hb := Lib.hid hb)
  go_loopw [3, 4, 5, 6, 7] (fun p q s r t wr => ∃ (i : Nat), i ≤ n ∧ t = .int .i64 (i : Int) ∧ Hid (Chs w1 wr [⟨3, p, colI x 0 i, none⟩, ⟨3, q, colI x 1 i, none⟩, ⟨4, r, colB x 2 i, none⟩, ⟨3, s, colW x i, none⟩])) (fun _ _ _ _ t _ => n - (intOf t).toNat)
  case atStart => exact ⟨0, Nat.zero_le _, rfl, Lib.hid (((((Chs.nil w1).more _).more _).more _).more _)⟩
  case round =>
    obtain ⟨i, hi, rfl, hC⟩ := hrel
    by_cases hin : i < n
    · have hinI : (i : Int) < (n : Int) := by omega
      have hdin : decide (i < n) = true := decide_eq_true hin
      go_wp2_with fail
      go_cut [3, 4, 6] from 25 to 52 (fun p q r wx => Hid (Chs w1 wx [⟨3, p, colI x 0 (i + 1), none⟩, ⟨3, q, colI x 1 (i + 1), none⟩, ⟨4, r, colB x 2 (i + 1), none⟩, ⟨3, u5, colW x i, none⟩]))
      case first =>
        refine Cl.region_tree (fun b => b < w1.heap.size) 31 (.r 0 <| .r 1 <| .r 2 <| .r 3 <| .r 4 <| .r 5 <| .r 6 <| .r 9 <| .r 10 <| .r 11 <| .r 12 <| .r 13 <| .r 14 <| .r 15 <| .r 18 <| .r 19 <| .r 20 <| .r 21 <| .r 22 <| .r 23 <| .r 24 <| .r 25 <| .b3 7 16 26 (.b3 8 16 26 (.b 16 26 (.b 17 26 (.c 26 <| .c 27 <| .r 28 <| .r 29 <| .r 30 <| .e) (.c 17 <| .c 27 <| .r 28 <| .r 29 <| .r 30 <| .e)) (.c 16 <| .c 17 <| .c 27 <| .r 28 <| .r 29 <| .r 30 <| .e)) (.b 8 26 (.b 17 26 (.c 26 <| .c 27 <| .r 28 <| .r 29 <| .r 30 <| .e) (.c 17 <| .c 27 <| .r 28 <| .r 29 <| .r 30 <| .e)) (.c 8 <| .c 17 <| .c 27 <| .r 28 <| .r 29 <| .r 30 <| .e)) (.b 8 16 (.c 16 <| .c 17 <| .c 27 <| .r 28 <| .r 29 <| .r 30 <| .e) (.c 8 <| .c 17 <| .c 27 <| .r 28 <| .r 29 <| .r 30 <| .e))) (.b 7 26 (.b 8 26 (.b 17 26 (.c 26 <| .c 27 <| .r 28 <| .r 29 <| .r 30 <| .e) (.c 17 <| .c 27 <| .r 28 <| .r 29 <| .r 30 <| .e)) (.c 8 <| .c 17 <| .c 27 <| .r 28 <| .r 29 <| .r 30 <| .e)) (.c 7 <| .c 8 <| .c 17 <| .c 27 <| .r 28 <| .r 29 <| .r 30 <| .e)) (.b 7 16 (.b 8 16 (.c 16 <| .c 17 <| .c 27 <| .r 28 <| .r 29 <| .r 30 <| .e) (.c 8 <| .c 17 <| .c 27 <| .r 28 <| .r 29 <| .r 30 <| .e)) (.c 7 <| .c 8 <| .c 17 <| .c 27 <| .r 28 <| .r 29 <| .r 30 <| .e))) (by kernel_rfl) (by kernel_rfl) ?_
        intro w6 hk6
        have hC6 := Lib.hid (hC.out.keep (Cl.Keeps.below hk6))
        have hw1 := hb.out.size
        obtain ⟨a, rfl, hab, g0, g1⟩ := (H.out.below (hb.out.trans (hC6.out.below.mono hw1))).at0 (i := i) hin (by decide)
        have g1' := g1 0 (by decide)
        have g2' : w6.cell? ⟨(a.add (i * 3)).block, (a.add (i * 3)).off + 2, none⟩ = some (.int .u8 (x i 2)) := g1 1 (by decide)
        have hbl : ∀ m, (a.add m).block < w1.heap.size := fun m => by rw [add_block]; omega
        have f1 : ∀ y : Cl.Since (fun b => b < w1.heap.size) w6, y.w.cell? (a.add (i * 3)) = some (.int .u8 (x i 0)) := fun y => (World.cell?_of_block (y.keeps.block _ (World.block_lt_of_cell? _ _ g0) (hbl _))).trans g0
        have f2 : ∀ y : Cl.Since (fun b => b < w1.heap.size) w6, y.w.cell? ⟨(a.add (i * 3)).block, (a.add (i * 3)).off + 1, none⟩ = some (.int .u8 (x i 1)) := fun y => (World.cell?_of_block (a := ⟨(a.add (i * 3)).block, (a.add (i * 3)).off + 1, none⟩) (y.keeps.block _ (World.block_lt_of_cell? _ _ g1') (hbl _))).trans g1'
        have f3 : ∀ y : Cl.Since (fun b => b < w1.heap.size) w6, y.w.cell? ⟨(a.add (i * 3)).block, (a.add (i * 3)).off + 2, none⟩ = some (.int .u8 (x i 2)) := fun y => (World.cell?_of_block (a := ⟨(a.add (i * 3)).block, (a.add (i * 3)).off + 2, none⟩) (y.keeps.block _ (World.block_lt_of_cell? _ _ g2') (hbl _))).trans g2'
        have s1 := colI_succ x 0 i
        have s2 := colI_succ x 1 i
        have s3 := colB_succ x 2 i
        have b0 := u8_in (H.out.1 i 0)
        have b1 := u8_in (H.out.1 i 1)
        have b2 := u8_in (H.out.1 i 2)
        have ho := odd_bits b2
        obtain ⟨X, hX⟩ : ∃ X, x i 0 = X := ⟨_, rfl⟩
        obtain ⟨Y, hY⟩ : ∃ Y, x i 1 = Y := ⟨_, rfl⟩
        obtain ⟨Z, hZ⟩ : ∃ Z, x i 2 = Z := ⟨_, rfl⟩
        obtain ⟨O, hO⟩ : ∃ O, oddI (x i 2) = O := ⟨_, rfl⟩
        rw [hX] at f1 s1 b0
        rw [hY] at f2 s2 b1
        rw [hO] at ho s3
        rw [hZ] at f3 b2 ho
        replace s1 := Lib.hid s1
        replace s2 := Lib.hid s2
        replace s3 := Lib.hid s3
        have hl0 := Lib.hid (show (colI x 0 i).length ≤ 1000000 by rw [colI_len]; omega)
        have hl1 := Lib.hid (show (colI x 1 i).length ≤ 1000000 by rw [colI_len]; omega)
        have hl2 := Lib.hid (show (colB x 2 i).length ≤ 1000000 by rw [colB_len]; omega)
        clear g0 g1 g1' g2' hk6 hC hX hY hZ hO hbl
        iterate 22 (refine Cl.tree_r rfl ?_; go_big_quiet_step (fail); refine wpQuiet_nil ?_)
        clear f1 f2 f3 ho
        refine Cl.tree_b3 rfl rfl rfl ?_ ?_ ?_
        · go_wp2_with fail
          refine Cl.way_on (Cl.Keeps.of_below (below_alloc _ _)) ?_
          have hC1 : Hid (Chs w1 (w6.alloc (.cells #[.int .i64 X] 3)) [⟨3, u3, colI x 0 i, some (w6.heap.size, .int .i64 X)⟩, ⟨3, u4, colI x 1 i, none⟩, ⟨4, u6, colB x 2 i, none⟩, ⟨3, u5, colW x i, none⟩]) := Lib.hid (hC6.out.build 0 rfl rfl (.int .i64 X) 3)
          clear hC6
          generalize w6.alloc (.cells #[.int .i64 X] 3) = v1 at *
          refine Cl.tree_b3 rfl rfl rfl ?_ ?_ ?_
          · go_wp2_with (refine app_int (w0 := w1) rfl (.tmp 25) (.tmp 32) rfl 0 _ _ _ X rfl rfl rfl hC1.out hl0.out ?_)
            intro r2 v2 ho2 hkp2
            have hC2 : Hid (Chs w1 v2 [⟨3, r2, colI x 0 i ++ [.int .i64 X], none⟩, ⟨3, u4, colI x 1 i, none⟩, ⟨4, u6, colB x 2 i, none⟩, ⟨3, u5, colW x i, none⟩]) := Lib.hid ho2
            clear hC1 ho2
            go_wp2_with fail
            refine Cl.way_on hkp2 ?_
            clear hkp2
            refine Cl.tree_b rfl rfl ?_ ?_
            · go_wp2_with fail
              refine Cl.way_on (Cl.Keeps.of_below (below_alloc _ _)) ?_
              have hC3 : Hid (Chs w1 (v2.alloc (.cells #[.int .i64 Y] 3)) [⟨3, r2, colI x 0 i ++ [.int .i64 X], none⟩, ⟨3, u4, colI x 1 i, some (v2.heap.size, .int .i64 Y)⟩, ⟨4, u6, colB x 2 i, none⟩, ⟨3, u5, colW x i, none⟩]) := Lib.hid (hC2.out.build 1 rfl rfl (.int .i64 Y) 3)
              clear hC2
              generalize v2.alloc (.cells #[.int .i64 Y] 3) = v3 at *
              refine Cl.tree_b rfl rfl ?_ ?_
              · go_wp2_with (refine app_int (w0 := w1) rfl (.tmp 34) (.tmp 41) rfl 1 _ _ _ Y rfl rfl rfl hC3.out hl1.out ?_)
                intro r4 v4 ho4 hkp4
                have hC4 : Hid (Chs w1 v4 [⟨3, r2, colI x 0 i ++ [.int .i64 X], none⟩, ⟨3, r4, colI x 1 i ++ [.int .i64 Y], none⟩, ⟨4, u6, colB x 2 i, none⟩, ⟨3, u5, colW x i, none⟩]) := Lib.hid ho4
                clear hC3 ho4
                go_wp2_with fail
                refine Cl.way_on hkp4 ?_
                clear hkp4
                refine Cl.tree_c rfl ?_
                go_wp2_with fail
                refine Cl.way_on (Cl.Keeps.of_below (below_alloc _ _)) ?_
                have hC5 : Hid (Chs w1 (v4.alloc (.cells #[.bool O] 4)) [⟨3, r2, colI x 0 i ++ [.int .i64 X], none⟩, ⟨3, r4, colI x 1 i ++ [.int .i64 Y], none⟩, ⟨4, u6, colB x 2 i, some (v4.heap.size, .bool O)⟩, ⟨3, u5, colW x i, none⟩]) := Lib.hid (hC4.out.build 2 rfl rfl (.bool O) 4)
                clear hC4
                generalize v4.alloc (.cells #[.bool O] 4) = v5 at *
                refine Cl.tree_c rfl ?_
                go_wp2_with (refine app_bool (w0 := w1) rfl (.tmp 43) (.tmp 51) rfl 2 _ _ _ O rfl rfl rfl hC5.out hl2.out ?_)
                intro r6 v6 ho6 hkp6
                have hC6 : Hid (Chs w1 v6 [⟨3, r2, colI x 0 i ++ [.int .i64 X], none⟩, ⟨3, r4, colI x 1 i ++ [.int .i64 Y], none⟩, ⟨4, r6, colB x 2 i ++ [.bool O], none⟩, ⟨3, u5, colW x i, none⟩]) := Lib.hid ho6
                clear hC5 ho6
                go_wp2_with fail
                refine Cl.way_on hkp6 ?_
                clear hkp6
                refine Cl.tree_r rfl ?_
                go_big_quiet_step (fail)
                refine wpQuiet_nil ?_
                refine Cl.tree_r rfl ?_
                go_big_quiet_step (fail)
                refine wpQuiet_nil ?_
                refine Cl.tree_r rfl ?_
                go_big_quiet_step (fail)
                refine wpQuiet_nil ?_
                refine Cl.tree_e ?_
                go_wp2_with fail
                go_meet
                rw [s1.out, s2.out, s3.out] at hC6
                exact hC6
              · go_wp2_with fail
                refine Cl.way_on (Cl.Keeps.of_below (below_alloc _ _)) ?_
                have hC7 : Hid (Chs w1 (v3.alloc (.cells #[.bool O] 4)) [⟨3, r2, colI x 0 i ++ [.int .i64 X], none⟩, ⟨3, u4, colI x 1 i, some (v2.heap.size, .int .i64 Y)⟩, ⟨4, u6, colB x 2 i, some (v3.heap.size, .bool O)⟩, ⟨3, u5, colW x i, none⟩]) := Lib.hid (hC3.out.build 2 rfl rfl (.bool O) 4)
                clear hC3
                generalize v3.alloc (.cells #[.bool O] 4) = v7 at *
                refine Cl.tree_c rfl ?_
                go_wp2_with (refine app_int (w0 := w1) rfl (.tmp 34) (.tmp 41) rfl 1 _ _ _ Y rfl rfl rfl hC7.out hl1.out ?_)
                intro r8 v8 ho8 hkp8
                have hC8 : Hid (Chs w1 v8 [⟨3, r2, colI x 0 i ++ [.int .i64 X], none⟩, ⟨3, r8, colI x 1 i ++ [.int .i64 Y], none⟩, ⟨4, u6, colB x 2 i, some (v3.heap.size, .bool O)⟩, ⟨3, u5, colW x i, none⟩]) := Lib.hid ho8
                clear hC7 ho8
                go_wp2_with fail
                refine Cl.way_on hkp8 ?_
                clear hkp8
                refine Cl.tree_c rfl ?_
                go_wp2_with (refine app_bool (w0 := w1) rfl (.tmp 43) (.tmp 51) rfl 2 _ _ _ O rfl rfl rfl hC8.out hl2.out ?_)
                intro r9 v9 ho9 hkp9
                have hC9 : Hid (Chs w1 v9 [⟨3, r2, colI x 0 i ++ [.int .i64 X], none⟩, ⟨3, r8, colI x 1 i ++ [.int .i64 Y], none⟩, ⟨4, r9, colB x 2 i ++ [.bool O], none⟩, ⟨3, u5, colW x i, none⟩]) := Lib.hid ho9
                clear hC8 ho9
                go_wp2_with fail
                refine Cl.way_on hkp9 ?_
                clear hkp9
                refine Cl.tree_r rfl ?_
                go_big_quiet_step (fail)
                refine wpQuiet_nil ?_
                refine Cl.tree_r rfl ?_
                go_big_quiet_step (fail)
                refine wpQuiet_nil ?_
                refine Cl.tree_r rfl ?_
                go_big_quiet_step (fail)
                refine wpQuiet_nil ?_
                refine Cl.tree_e ?_
                go_wp2_with fail
                go_meet
                rw [s1.out, s2.out, s3.out] at hC9
                exact hC9
            · go_wp2_with fail
              refine Cl.way_on (Cl.Keeps.of_below (below_alloc _ _)) ?_
              have hC10 : Hid (Chs w1 (v2.alloc (.cells #[.bool O] 4)) [⟨3, r2, colI x 0 i ++ [.int .i64 X], none⟩, ⟨3, u4, colI x 1 i, none⟩, ⟨4, u6, colB x 2 i, some (v2.heap.size, .bool O)⟩, ⟨3, u5, colW x i, none⟩]) := Lib.hid (hC2.out.build 2 rfl rfl (.bool O) 4)
              clear hC2
              generalize v2.alloc (.cells #[.bool O] 4) = v10 at *
              refine Cl.tree_c rfl ?_
              go_wp2_with fail
              refine Cl.way_on (Cl.Keeps.of_below (below_alloc _ _)) ?_
              have hC11 : Hid (Chs w1 (v10.alloc (.cells #[.int .i64 Y] 3)) [⟨3, r2, colI x 0 i ++ [.int .i64 X], none⟩, ⟨3, u4, colI x 1 i, some (v10.heap.size, .int .i64 Y)⟩, ⟨4, u6, colB x 2 i, some (v2.heap.size, .bool O)⟩, ⟨3, u5, colW x i, none⟩]) := Lib.hid (hC10.out.build 1 rfl rfl (.int .i64 Y) 3)
              clear hC10
              generalize v10.alloc (.cells #[.int .i64 Y] 3) = v11 at *
              refine Cl.tree_c rfl ?_
              go_wp2_with (refine app_int (w0 := w1) rfl (.tmp 34) (.tmp 41) rfl 1 _ _ _ Y rfl rfl rfl hC11.out hl1.out ?_)
              intro r12 v12 ho12 hkp12
              have hC12 : Hid (Chs w1 v12 [⟨3, r2, colI x 0 i ++ [.int .i64 X], none⟩, ⟨3, r12, colI x 1 i ++ [.int .i64 Y], none⟩, ⟨4, u6, colB x 2 i, some (v2.heap.size, .bool O)⟩, ⟨3, u5, colW x i, none⟩]) := Lib.hid ho12
              clear hC11 ho12
              go_wp2_with fail
              refine Cl.way_on hkp12 ?_
              clear hkp12
              refine Cl.tree_c rfl ?_
              go_wp2_with (refine app_bool (w0 := w1) rfl (.tmp 43) (.tmp 51) rfl 2 _ _ _ O rfl rfl rfl hC12.out hl2.out ?_)
              intro r13 v13 ho13 hkp13
              have hC13 : Hid (Chs w1 v13 [⟨3, r2, colI x 0 i ++ [.int .i64 X], none⟩, ⟨3, r12, colI x 1 i ++ [.int .i64 Y], none⟩, ⟨4, r13, colB x 2 i ++ [.bool O], none⟩, ⟨3, u5, colW x i, none⟩]) := Lib.hid ho13
              clear hC12 ho13
              go_wp2_with fail
              refine Cl.way_on hkp13 ?_
              clear hkp13
              refine Cl.tree_r rfl ?_
              go_big_quiet_step (fail)
              refine wpQuiet_nil ?_
              refine Cl.tree_r rfl ?_
              go_big_quiet_step (fail)
              refine wpQuiet_nil ?_
              refine Cl.tree_r rfl ?_
              go_big_quiet_step (fail)
              refine wpQuiet_nil ?_
              refine Cl.tree_e ?_
              go_wp2_with fail
              go_meet
              rw [s1.out, s2.out, s3.out] at hC13
              exact hC13
          · go_wp2_with fail
            refine Cl.way_on (Cl.Keeps.of_below (below_alloc _ _)) ?_
            have hC14 : Hid (Chs w1 (v1.alloc (.cells #[.int .i64 Y] 3)) [⟨3, u3, colI x 0 i, some (w6.heap.size, .int .i64 X)⟩, ⟨3, u4, colI x 1 i, some (v1.heap.size, .int .i64 Y)⟩, ⟨4, u6, colB x 2 i, none⟩, ⟨3, u5, colW x i, none⟩]) := Lib.hid (hC1.out.build 1 rfl rfl (.int .i64 Y) 3)
            clear hC1
            generalize v1.alloc (.cells #[.int .i64 Y] 3) = v14 at *
            refine Cl.tree_b rfl rfl ?_ ?_
            · go_wp2_with (refine app_int (w0 := w1) rfl (.tmp 25) (.tmp 32) rfl 0 _ _ _ X rfl rfl rfl hC14.out hl0.out ?_)
              intro r15 v15 ho15 hkp15
              have hC15 : Hid (Chs w1 v15 [⟨3, r15, colI x 0 i ++ [.int .i64 X], none⟩, ⟨3, u4, colI x 1 i, some (v1.heap.size, .int .i64 Y)⟩, ⟨4, u6, colB x 2 i, none⟩, ⟨3, u5, colW x i, none⟩]) := Lib.hid ho15
              clear hC14 ho15
              go_wp2_with fail
              refine Cl.way_on hkp15 ?_
              clear hkp15
              refine Cl.tree_b rfl rfl ?_ ?_
              · go_wp2_with (refine app_int (w0 := w1) rfl (.tmp 34) (.tmp 41) rfl 1 _ _ _ Y rfl rfl rfl hC15.out hl1.out ?_)
                intro r16 v16 ho16 hkp16
                have hC16 : Hid (Chs w1 v16 [⟨3, r15, colI x 0 i ++ [.int .i64 X], none⟩, ⟨3, r16, colI x 1 i ++ [.int .i64 Y], none⟩, ⟨4, u6, colB x 2 i, none⟩, ⟨3, u5, colW x i, none⟩]) := Lib.hid ho16
                clear hC15 ho16
                go_wp2_with fail
                refine Cl.way_on hkp16 ?_
                clear hkp16
                refine Cl.tree_c rfl ?_
                go_wp2_with fail
                refine Cl.way_on (Cl.Keeps.of_below (below_alloc _ _)) ?_
                have hC17 : Hid (Chs w1 (v16.alloc (.cells #[.bool O] 4)) [⟨3, r15, colI x 0 i ++ [.int .i64 X], none⟩, ⟨3, r16, colI x 1 i ++ [.int .i64 Y], none⟩, ⟨4, u6, colB x 2 i, some (v16.heap.size, .bool O)⟩, ⟨3, u5, colW x i, none⟩]) := Lib.hid (hC16.out.build 2 rfl rfl (.bool O) 4)
                clear hC16
                generalize v16.alloc (.cells #[.bool O] 4) = v17 at *
                refine Cl.tree_c rfl ?_
                go_wp2_with (refine app_bool (w0 := w1) rfl (.tmp 43) (.tmp 51) rfl 2 _ _ _ O rfl rfl rfl hC17.out hl2.out ?_)
                intro r18 v18 ho18 hkp18
                have hC18 : Hid (Chs w1 v18 [⟨3, r15, colI x 0 i ++ [.int .i64 X], none⟩, ⟨3, r16, colI x 1 i ++ [.int .i64 Y], none⟩, ⟨4, r18, colB x 2 i ++ [.bool O], none⟩, ⟨3, u5, colW x i, none⟩]) := Lib.hid ho18
                clear hC17 ho18
                go_wp2_with fail
                refine Cl.way_on hkp18 ?_
                clear hkp18
                refine Cl.tree_r rfl ?_
                go_big_quiet_step (fail)
                refine wpQuiet_nil ?_
                refine Cl.tree_r rfl ?_
                go_big_quiet_step (fail)
                refine wpQuiet_nil ?_
                refine Cl.tree_r rfl ?_
                go_big_quiet_step (fail)
                refine wpQuiet_nil ?_
                refine Cl.tree_e ?_
                go_wp2_with fail
                go_meet
                rw [s1.out, s2.out, s3.out] at hC18
                exact hC18
              · go_wp2_with fail
                refine Cl.way_on (Cl.Keeps.of_below (below_alloc _ _)) ?_
                have hC19 : Hid (Chs w1 (v15.alloc (.cells #[.bool O] 4)) [⟨3, r15, colI x 0 i ++ [.int .i64 X], none⟩, ⟨3, u4, colI x 1 i, some (v1.heap.size, .int .i64 Y)⟩, ⟨4, u6, colB x 2 i, some (v15.heap.size, .bool O)⟩, ⟨3, u5, colW x i, none⟩]) := Lib.hid (hC15.out.build 2 rfl rfl (.bool O) 4)
                clear hC15
                generalize v15.alloc (.cells #[.bool O] 4) = v19 at *
                refine Cl.tree_c rfl ?_
                go_wp2_with (refine app_int (w0 := w1) rfl (.tmp 34) (.tmp 41) rfl 1 _ _ _ Y rfl rfl rfl hC19.out hl1.out ?_)
                intro r20 v20 ho20 hkp20
                have hC20 : Hid (Chs w1 v20 [⟨3, r15, colI x 0 i ++ [.int .i64 X], none⟩, ⟨3, r20, colI x 1 i ++ [.int .i64 Y], none⟩, ⟨4, u6, colB x 2 i, some (v15.heap.size, .bool O)⟩, ⟨3, u5, colW x i, none⟩]) := Lib.hid ho20
                clear hC19 ho20
                go_wp2_with fail
                refine Cl.way_on hkp20 ?_
                clear hkp20
                refine Cl.tree_c rfl ?_
                go_wp2_with (refine app_bool (w0 := w1) rfl (.tmp 43) (.tmp 51) rfl 2 _ _ _ O rfl rfl rfl hC20.out hl2.out ?_)
                intro r21 v21 ho21 hkp21
                have hC21 : Hid (Chs w1 v21 [⟨3, r15, colI x 0 i ++ [.int .i64 X], none⟩, ⟨3, r20, colI x 1 i ++ [.int .i64 Y], none⟩, ⟨4, r21, colB x 2 i ++ [.bool O], none⟩, ⟨3, u5, colW x i, none⟩]) := Lib.hid ho21
                clear hC20 ho21
                go_wp2_with fail
                refine Cl.way_on hkp21 ?_
                clear hkp21
                refine Cl.tree_r rfl ?_
                go_big_quiet_step (fail)
                refine wpQuiet_nil ?_
                refine Cl.tree_r rfl ?_
                go_big_quiet_step (fail)
                refine wpQuiet_nil ?_
                refine Cl.tree_r rfl ?_
                go_big_quiet_step (fail)
                refine wpQuiet_nil ?_
                refine Cl.tree_e ?_
                go_wp2_with fail
                go_meet
                rw [s1.out, s2.out, s3.out] at hC21
                exact hC21
            · go_wp2_with fail
              refine Cl.way_on (Cl.Keeps.of_below (below_alloc _ _)) ?_
              have hC22 : Hid (Chs w1 (v14.alloc (.cells #[.bool O] 4)) [⟨3, u3, colI x 0 i, some (w6.heap.size, .int .i64 X)⟩, ⟨3, u4, colI x 1 i, some (v1.heap.size, .int .i64 Y)⟩, ⟨4, u6, colB x 2 i, some (v14.heap.size, .bool O)⟩, ⟨3, u5, colW x i, none⟩]) := Lib.hid (hC14.out.build 2 rfl rfl (.bool O) 4)
              clear hC14
              generalize v14.alloc (.cells #[.bool O] 4) = v22 at *
              refine Cl.tree_c rfl ?_
              go_wp2_with (refine app_int (w0 := w1) rfl (.tmp 25) (.tmp 32) rfl 0 _ _ _ X rfl rfl rfl hC22.out hl0.out ?_)
              intro r23 v23 ho23 hkp23
              have hC23 : Hid (Chs w1 v23 [⟨3, r23, colI x 0 i ++ [.int .i64 X], none⟩, ⟨3, u4, colI x 1 i, some (v1.heap.size, .int .i64 Y)⟩, ⟨4, u6, colB x 2 i, some (v14.heap.size, .bool O)⟩, ⟨3, u5, colW x i, none⟩]) := Lib.hid ho23
              clear hC22 ho23
              go_wp2_with fail
              refine Cl.way_on hkp23 ?_
              clear hkp23
              refine Cl.tree_c rfl ?_
              go_wp2_with (refine app_int (w0 := w1) rfl (.tmp 34) (.tmp 41) rfl 1 _ _ _ Y rfl rfl rfl hC23.out hl1.out ?_)
              intro r24 v24 ho24 hkp24
              have hC24 : Hid (Chs w1 v24 [⟨3, r23, colI x 0 i ++ [.int .i64 X], none⟩, ⟨3, r24, colI x 1 i ++ [.int .i64 Y], none⟩, ⟨4, u6, colB x 2 i, some (v14.heap.size, .bool O)⟩, ⟨3, u5, colW x i, none⟩]) := Lib.hid ho24
              clear hC23 ho24
              go_wp2_with fail
              refine Cl.way_on hkp24 ?_
              clear hkp24
              refine Cl.tree_c rfl ?_
              go_wp2_with (refine app_bool (w0 := w1) rfl (.tmp 43) (.tmp 51) rfl 2 _ _ _ O rfl rfl rfl hC24.out hl2.out ?_)
              intro r25 v25 ho25 hkp25
              have hC25 : Hid (Chs w1 v25 [⟨3, r23, colI x 0 i ++ [.int .i64 X], none⟩, ⟨3, r24, colI x 1 i ++ [.int .i64 Y], none⟩, ⟨4, r25, colB x 2 i ++ [.bool O], none⟩, ⟨3, u5, colW x i, none⟩]) := Lib.hid ho25
              clear hC24 ho25
              go_wp2_with fail
              refine Cl.way_on hkp25 ?_
              clear hkp25
              refine Cl.tree_r rfl ?_
              go_big_quiet_step (fail)
              refine wpQuiet_nil ?_
              refine Cl.tree_r rfl ?_
              go_big_quiet_step (fail)
              refine wpQuiet_nil ?_
              refine Cl.tree_r rfl ?_
              go_big_quiet_step (fail)
              refine wpQuiet_nil ?_
              refine Cl.tree_e ?_
              go_wp2_with fail
              go_meet
              rw [s1.out, s2.out, s3.out] at hC25
              exact hC25
          · go_wp2_with fail
            refine Cl.way_on (Cl.Keeps.of_below (below_alloc _ _)) ?_
            have hC26 : Hid (Chs w1 (v1.alloc (.cells #[.bool O] 4)) [⟨3, u3, colI x 0 i, some (w6.heap.size, .int .i64 X)⟩, ⟨3, u4, colI x 1 i, none⟩, ⟨4, u6, colB x 2 i, some (v1.heap.size, .bool O)⟩, ⟨3, u5, colW x i, none⟩]) := Lib.hid (hC1.out.build 2 rfl rfl (.bool O) 4)
            clear hC1
            generalize v1.alloc (.cells #[.bool O] 4) = v26 at *
            refine Cl.tree_b rfl rfl ?_ ?_
            · go_wp2_with (refine app_int (w0 := w1) rfl (.tmp 25) (.tmp 32) rfl 0 _ _ _ X rfl rfl rfl hC26.out hl0.out ?_)
              intro r27 v27 ho27 hkp27
              have hC27 : Hid (Chs w1 v27 [⟨3, r27, colI x 0 i ++ [.int .i64 X], none⟩, ⟨3, u4, colI x 1 i, none⟩, ⟨4, u6, colB x 2 i, some (v1.heap.size, .bool O)⟩, ⟨3, u5, colW x i, none⟩]) := Lib.hid ho27
              clear hC26 ho27
              go_wp2_with fail
              refine Cl.way_on hkp27 ?_
              clear hkp27
              refine Cl.tree_c rfl ?_
              go_wp2_with fail
              refine Cl.way_on (Cl.Keeps.of_below (below_alloc _ _)) ?_
              have hC28 : Hid (Chs w1 (v27.alloc (.cells #[.int .i64 Y] 3)) [⟨3, r27, colI x 0 i ++ [.int .i64 X], none⟩, ⟨3, u4, colI x 1 i, some (v27.heap.size, .int .i64 Y)⟩, ⟨4, u6, colB x 2 i, some (v1.heap.size, .bool O)⟩, ⟨3, u5, colW x i, none⟩]) := Lib.hid (hC27.out.build 1 rfl rfl (.int .i64 Y) 3)
              clear hC27
              generalize v27.alloc (.cells #[.int .i64 Y] 3) = v28 at *
              refine Cl.tree_c rfl ?_
              go_wp2_with (refine app_int (w0 := w1) rfl (.tmp 34) (.tmp 41) rfl 1 _ _ _ Y rfl rfl rfl hC28.out hl1.out ?_)
              intro r29 v29 ho29 hkp29
              have hC29 : Hid (Chs w1 v29 [⟨3, r27, colI x 0 i ++ [.int .i64 X], none⟩, ⟨3, r29, colI x 1 i ++ [.int .i64 Y], none⟩, ⟨4, u6, colB x 2 i, some (v1.heap.size, .bool O)⟩, ⟨3, u5, colW x i, none⟩]) := Lib.hid ho29
              clear hC28 ho29
              go_wp2_with fail
              refine Cl.way_on hkp29 ?_
              clear hkp29
              refine Cl.tree_c rfl ?_
              go_wp2_with (refine app_bool (w0 := w1) rfl (.tmp 43) (.tmp 51) rfl 2 _ _ _ O rfl rfl rfl hC29.out hl2.out ?_)
              intro r30 v30 ho30 hkp30
              have hC30 : Hid (Chs w1 v30 [⟨3, r27, colI x 0 i ++ [.int .i64 X], none⟩, ⟨3, r29, colI x 1 i ++ [.int .i64 Y], none⟩, ⟨4, r30, colB x 2 i ++ [.bool O], none⟩, ⟨3, u5, colW x i, none⟩]) := Lib.hid ho30
              clear hC29 ho30
              go_wp2_with fail
              refine Cl.way_on hkp30 ?_
              clear hkp30
              refine Cl.tree_r rfl ?_
              go_big_quiet_step (fail)
              refine wpQuiet_nil ?_
              refine Cl.tree_r rfl ?_
              go_big_quiet_step (fail)
              refine wpQuiet_nil ?_
              refine Cl.tree_r rfl ?_
              go_big_quiet_step (fail)
              refine wpQuiet_nil ?_
              refine Cl.tree_e ?_
              go_wp2_with fail
              go_meet
              rw [s1.out, s2.out, s3.out] at hC30
              exact hC30
            · go_wp2_with fail
              refine Cl.way_on (Cl.Keeps.of_below (below_alloc _ _)) ?_
              have hC31 : Hid (Chs w1 (v26.alloc (.cells #[.int .i64 Y] 3)) [⟨3, u3, colI x 0 i, some (w6.heap.size, .int .i64 X)⟩, ⟨3, u4, colI x 1 i, some (v26.heap.size, .int .i64 Y)⟩, ⟨4, u6, colB x 2 i, some (v1.heap.size, .bool O)⟩, ⟨3, u5, colW x i, none⟩]) := Lib.hid (hC26.out.build 1 rfl rfl (.int .i64 Y) 3)
              clear hC26
              generalize v26.alloc (.cells #[.int .i64 Y] 3) = v31 at *
              refine Cl.tree_c rfl ?_
              go_wp2_with (refine app_int (w0 := w1) rfl (.tmp 25) (.tmp 32) rfl 0 _ _ _ X rfl rfl rfl hC31.out hl0.out ?_)
              intro r32 v32 ho32 hkp32
              have hC32 : Hid (Chs w1 v32 [⟨3, r32, colI x 0 i ++ [.int .i64 X], none⟩, ⟨3, u4, colI x 1 i, some (v26.heap.size, .int .i64 Y)⟩, ⟨4, u6, colB x 2 i, some (v1.heap.size, .bool O)⟩, ⟨3, u5, colW x i, none⟩]) := Lib.hid ho32
              clear hC31 ho32
              go_wp2_with fail
              refine Cl.way_on hkp32 ?_
              clear hkp32
              refine Cl.tree_c rfl ?_
              go_wp2_with (refine app_int (w0 := w1) rfl (.tmp 34) (.tmp 41) rfl 1 _ _ _ Y rfl rfl rfl hC32.out hl1.out ?_)
              intro r33 v33 ho33 hkp33
              have hC33 : Hid (Chs w1 v33 [⟨3, r32, colI x 0 i ++ [.int .i64 X], none⟩, ⟨3, r33, colI x 1 i ++ [.int .i64 Y], none⟩, ⟨4, u6, colB x 2 i, some (v1.heap.size, .bool O)⟩, ⟨3, u5, colW x i, none⟩]) := Lib.hid ho33
              clear hC32 ho33
              go_wp2_with fail
              refine Cl.way_on hkp33 ?_
              clear hkp33
              refine Cl.tree_c rfl ?_
              go_wp2_with (refine app_bool (w0 := w1) rfl (.tmp 43) (.tmp 51) rfl 2 _ _ _ O rfl rfl rfl hC33.out hl2.out ?_)
              intro r34 v34 ho34 hkp34
              have hC34 : Hid (Chs w1 v34 [⟨3, r32, colI x 0 i ++ [.int .i64 X], none⟩, ⟨3, r33, colI x 1 i ++ [.int .i64 Y], none⟩, ⟨4, r34, colB x 2 i ++ [.bool O], none⟩, ⟨3, u5, colW x i, none⟩]) := Lib.hid ho34
              clear hC33 ho34
              go_wp2_with fail
              refine Cl.way_on hkp34 ?_
              clear hkp34
              refine Cl.tree_r rfl ?_
              go_big_quiet_step (fail)
              refine wpQuiet_nil ?_
              refine Cl.tree_r rfl ?_
              go_big_quiet_step (fail)
              refine wpQuiet_nil ?_
              refine Cl.tree_r rfl ?_
              go_big_quiet_step (fail)
              refine wpQuiet_nil ?_
              refine Cl.tree_e ?_
              go_wp2_with fail
              go_meet
              rw [s1.out, s2.out, s3.out] at hC34
              exact hC34
        · go_wp2_with fail
          refine Cl.way_on (Cl.Keeps.of_below (below_alloc _ _)) ?_
          have hC35 : Hid (Chs w1 (w6.alloc (.cells #[.int .i64 Y] 3)) [⟨3, u3, colI x 0 i, none⟩, ⟨3, u4, colI x 1 i, some (w6.heap.size, .int .i64 Y)⟩, ⟨4, u6, colB x 2 i, none⟩, ⟨3, u5, colW x i, none⟩]) := Lib.hid (hC6.out.build 1 rfl rfl (.int .i64 Y) 3)
          clear hC6
          generalize w6.alloc (.cells #[.int .i64 Y] 3) = v35 at *
          refine Cl.tree_b rfl rfl ?_ ?_
          · go_wp2_with fail
            refine Cl.way_on (Cl.Keeps.of_below (below_alloc _ _)) ?_
            have hC36 : Hid (Chs w1 (v35.alloc (.cells #[.int .i64 X] 3)) [⟨3, u3, colI x 0 i, some (v35.heap.size, .int .i64 X)⟩, ⟨3, u4, colI x 1 i, some (w6.heap.size, .int .i64 Y)⟩, ⟨4, u6, colB x 2 i, none⟩, ⟨3, u5, colW x i, none⟩]) := Lib.hid (hC35.out.build 0 rfl rfl (.int .i64 X) 3)
            clear hC35
            generalize v35.alloc (.cells #[.int .i64 X] 3) = v36 at *
            refine Cl.tree_b rfl rfl ?_ ?_
            · go_wp2_with (refine app_int (w0 := w1) rfl (.tmp 25) (.tmp 32) rfl 0 _ _ _ X rfl rfl rfl hC36.out hl0.out ?_)
              intro r37 v37 ho37 hkp37
              have hC37 : Hid (Chs w1 v37 [⟨3, r37, colI x 0 i ++ [.int .i64 X], none⟩, ⟨3, u4, colI x 1 i, some (w6.heap.size, .int .i64 Y)⟩, ⟨4, u6, colB x 2 i, none⟩, ⟨3, u5, colW x i, none⟩]) := Lib.hid ho37
              clear hC36 ho37
              go_wp2_with fail
              refine Cl.way_on hkp37 ?_
              clear hkp37
              refine Cl.tree_b rfl rfl ?_ ?_
              · go_wp2_with (refine app_int (w0 := w1) rfl (.tmp 34) (.tmp 41) rfl 1 _ _ _ Y rfl rfl rfl hC37.out hl1.out ?_)
                intro r38 v38 ho38 hkp38
                have hC38 : Hid (Chs w1 v38 [⟨3, r37, colI x 0 i ++ [.int .i64 X], none⟩, ⟨3, r38, colI x 1 i ++ [.int .i64 Y], none⟩, ⟨4, u6, colB x 2 i, none⟩, ⟨3, u5, colW x i, none⟩]) := Lib.hid ho38
                clear hC37 ho38
                go_wp2_with fail
                refine Cl.way_on hkp38 ?_
                clear hkp38
                refine Cl.tree_c rfl ?_
                go_wp2_with fail
                refine Cl.way_on (Cl.Keeps.of_below (below_alloc _ _)) ?_
                have hC39 : Hid (Chs w1 (v38.alloc (.cells #[.bool O] 4)) [⟨3, r37, colI x 0 i ++ [.int .i64 X], none⟩, ⟨3, r38, colI x 1 i ++ [.int .i64 Y], none⟩, ⟨4, u6, colB x 2 i, some (v38.heap.size, .bool O)⟩, ⟨3, u5, colW x i, none⟩]) := Lib.hid (hC38.out.build 2 rfl rfl (.bool O) 4)
                clear hC38
                generalize v38.alloc (.cells #[.bool O] 4) = v39 at *
                refine Cl.tree_c rfl ?_
                go_wp2_with (refine app_bool (w0 := w1) rfl (.tmp 43) (.tmp 51) rfl 2 _ _ _ O rfl rfl rfl hC39.out hl2.out ?_)
                intro r40 v40 ho40 hkp40
                have hC40 : Hid (Chs w1 v40 [⟨3, r37, colI x 0 i ++ [.int .i64 X], none⟩, ⟨3, r38, colI x 1 i ++ [.int .i64 Y], none⟩, ⟨4, r40, colB x 2 i ++ [.bool O], none⟩, ⟨3, u5, colW x i, none⟩]) := Lib.hid ho40
                clear hC39 ho40
                go_wp2_with fail
                refine Cl.way_on hkp40 ?_
                clear hkp40
                refine Cl.tree_r rfl ?_
                go_big_quiet_step (fail)
                refine wpQuiet_nil ?_
                refine Cl.tree_r rfl ?_
                go_big_quiet_step (fail)
                refine wpQuiet_nil ?_
                refine Cl.tree_r rfl ?_
                go_big_quiet_step (fail)
                refine wpQuiet_nil ?_
                refine Cl.tree_e ?_
                go_wp2_with fail
                go_meet
                rw [s1.out, s2.out, s3.out] at hC40
                exact hC40
              · go_wp2_with fail
                refine Cl.way_on (Cl.Keeps.of_below (below_alloc _ _)) ?_
                have hC41 : Hid (Chs w1 (v37.alloc (.cells #[.bool O] 4)) [⟨3, r37, colI x 0 i ++ [.int .i64 X], none⟩, ⟨3, u4, colI x 1 i, some (w6.heap.size, .int .i64 Y)⟩, ⟨4, u6, colB x 2 i, some (v37.heap.size, .bool O)⟩, ⟨3, u5, colW x i, none⟩]) := Lib.hid (hC37.out.build 2 rfl rfl (.bool O) 4)
                clear hC37
                generalize v37.alloc (.cells #[.bool O] 4) = v41 at *
                refine Cl.tree_c rfl ?_
                go_wp2_with (refine app_int (w0 := w1) rfl (.tmp 34) (.tmp 41) rfl 1 _ _ _ Y rfl rfl rfl hC41.out hl1.out ?_)
                intro r42 v42 ho42 hkp42
                have hC42 : Hid (Chs w1 v42 [⟨3, r37, colI x 0 i ++ [.int .i64 X], none⟩, ⟨3, r42, colI x 1 i ++ [.int .i64 Y], none⟩, ⟨4, u6, colB x 2 i, some (v37.heap.size, .bool O)⟩, ⟨3, u5, colW x i, none⟩]) := Lib.hid ho42
                clear hC41 ho42
                go_wp2_with fail
                refine Cl.way_on hkp42 ?_
                clear hkp42
                refine Cl.tree_c rfl ?_
                go_wp2_with (refine app_bool (w0 := w1) rfl (.tmp 43) (.tmp 51) rfl 2 _ _ _ O rfl rfl rfl hC42.out hl2.out ?_)
                intro r43 v43 ho43 hkp43
                have hC43 : Hid (Chs w1 v43 [⟨3, r37, colI x 0 i ++ [.int .i64 X], none⟩, ⟨3, r42, colI x 1 i ++ [.int .i64 Y], none⟩, ⟨4, r43, colB x 2 i ++ [.bool O], none⟩, ⟨3, u5, colW x i, none⟩]) := Lib.hid ho43
                clear hC42 ho43
                go_wp2_with fail
                refine Cl.way_on hkp43 ?_
                clear hkp43
                refine Cl.tree_r rfl ?_
                go_big_quiet_step (fail)
                refine wpQuiet_nil ?_
                refine Cl.tree_r rfl ?_
                go_big_quiet_step (fail)
                refine wpQuiet_nil ?_
                refine Cl.tree_r rfl ?_
                go_big_quiet_step (fail)
                refine wpQuiet_nil ?_
                refine Cl.tree_e ?_
                go_wp2_with fail
                go_meet
                rw [s1.out, s2.out, s3.out] at hC43
                exact hC43
            · go_wp2_with fail
              refine Cl.way_on (Cl.Keeps.of_below (below_alloc _ _)) ?_
              have hC44 : Hid (Chs w1 (v36.alloc (.cells #[.bool O] 4)) [⟨3, u3, colI x 0 i, some (v35.heap.size, .int .i64 X)⟩, ⟨3, u4, colI x 1 i, some (w6.heap.size, .int .i64 Y)⟩, ⟨4, u6, colB x 2 i, some (v36.heap.size, .bool O)⟩, ⟨3, u5, colW x i, none⟩]) := Lib.hid (hC36.out.build 2 rfl rfl (.bool O) 4)
              clear hC36
              generalize v36.alloc (.cells #[.bool O] 4) = v44 at *
              refine Cl.tree_c rfl ?_
              go_wp2_with (refine app_int (w0 := w1) rfl (.tmp 25) (.tmp 32) rfl 0 _ _ _ X rfl rfl rfl hC44.out hl0.out ?_)
              intro r45 v45 ho45 hkp45
              have hC45 : Hid (Chs w1 v45 [⟨3, r45, colI x 0 i ++ [.int .i64 X], none⟩, ⟨3, u4, colI x 1 i, some (w6.heap.size, .int .i64 Y)⟩, ⟨4, u6, colB x 2 i, some (v36.heap.size, .bool O)⟩, ⟨3, u5, colW x i, none⟩]) := Lib.hid ho45
              clear hC44 ho45
              go_wp2_with fail
              refine Cl.way_on hkp45 ?_
              clear hkp45
              refine Cl.tree_c rfl ?_
              go_wp2_with (refine app_int (w0 := w1) rfl (.tmp 34) (.tmp 41) rfl 1 _ _ _ Y rfl rfl rfl hC45.out hl1.out ?_)
              intro r46 v46 ho46 hkp46
              have hC46 : Hid (Chs w1 v46 [⟨3, r45, colI x 0 i ++ [.int .i64 X], none⟩, ⟨3, r46, colI x 1 i ++ [.int .i64 Y], none⟩, ⟨4, u6, colB x 2 i, some (v36.heap.size, .bool O)⟩, ⟨3, u5, colW x i, none⟩]) := Lib.hid ho46
              clear hC45 ho46
              go_wp2_with fail
              refine Cl.way_on hkp46 ?_
              clear hkp46
              refine Cl.tree_c rfl ?_
              go_wp2_with (refine app_bool (w0 := w1) rfl (.tmp 43) (.tmp 51) rfl 2 _ _ _ O rfl rfl rfl hC46.out hl2.out ?_)
              intro r47 v47 ho47 hkp47
              have hC47 : Hid (Chs w1 v47 [⟨3, r45, colI x 0 i ++ [.int .i64 X], none⟩, ⟨3, r46, colI x 1 i ++ [.int .i64 Y], none⟩, ⟨4, r47, colB x 2 i ++ [.bool O], none⟩, ⟨3, u5, colW x i, none⟩]) := Lib.hid ho47
              clear hC46 ho47
              go_wp2_with fail
              refine Cl.way_on hkp47 ?_
              clear hkp47
              refine Cl.tree_r rfl ?_
              go_big_quiet_step (fail)
              refine wpQuiet_nil ?_
              refine Cl.tree_r rfl ?_
              go_big_quiet_step (fail)
              refine wpQuiet_nil ?_
              refine Cl.tree_r rfl ?_
              go_big_quiet_step (fail)
              refine wpQuiet_nil ?_
              refine Cl.tree_e ?_
              go_wp2_with fail
              go_meet
              rw [s1.out, s2.out, s3.out] at hC47
              exact hC47
          · go_wp2_with fail
            refine Cl.way_on (Cl.Keeps.of_below (below_alloc _ _)) ?_
            have hC48 : Hid (Chs w1 (v35.alloc (.cells #[.bool O] 4)) [⟨3, u3, colI x 0 i, none⟩, ⟨3, u4, colI x 1 i, some (w6.heap.size, .int .i64 Y)⟩, ⟨4, u6, colB x 2 i, some (v35.heap.size, .bool O)⟩, ⟨3, u5, colW x i, none⟩]) := Lib.hid (hC35.out.build 2 rfl rfl (.bool O) 4)
            clear hC35
            generalize v35.alloc (.cells #[.bool O] 4) = v48 at *
            refine Cl.tree_c rfl ?_
            go_wp2_with fail
            refine Cl.way_on (Cl.Keeps.of_below (below_alloc _ _)) ?_
            have hC49 : Hid (Chs w1 (v48.alloc (.cells #[.int .i64 X] 3)) [⟨3, u3, colI x 0 i, some (v48.heap.size, .int .i64 X)⟩, ⟨3, u4, colI x 1 i, some (w6.heap.size, .int .i64 Y)⟩, ⟨4, u6, colB x 2 i, some (v35.heap.size, .bool O)⟩, ⟨3, u5, colW x i, none⟩]) := Lib.hid (hC48.out.build 0 rfl rfl (.int .i64 X) 3)
            clear hC48
            generalize v48.alloc (.cells #[.int .i64 X] 3) = v49 at *
            refine Cl.tree_c rfl ?_
            go_wp2_with (refine app_int (w0 := w1) rfl (.tmp 25) (.tmp 32) rfl 0 _ _ _ X rfl rfl rfl hC49.out hl0.out ?_)
            intro r50 v50 ho50 hkp50
            have hC50 : Hid (Chs w1 v50 [⟨3, r50, colI x 0 i ++ [.int .i64 X], none⟩, ⟨3, u4, colI x 1 i, some (w6.heap.size, .int .i64 Y)⟩, ⟨4, u6, colB x 2 i, some (v35.heap.size, .bool O)⟩, ⟨3, u5, colW x i, none⟩]) := Lib.hid ho50
            clear hC49 ho50
            go_wp2_with fail
            refine Cl.way_on hkp50 ?_
            clear hkp50
            refine Cl.tree_c rfl ?_
            go_wp2_with (refine app_int (w0 := w1) rfl (.tmp 34) (.tmp 41) rfl 1 _ _ _ Y rfl rfl rfl hC50.out hl1.out ?_)
            intro r51 v51 ho51 hkp51
            have hC51 : Hid (Chs w1 v51 [⟨3, r50, colI x 0 i ++ [.int .i64 X], none⟩, ⟨3, r51, colI x 1 i ++ [.int .i64 Y], none⟩, ⟨4, u6, colB x 2 i, some (v35.heap.size, .bool O)⟩, ⟨3, u5, colW x i, none⟩]) := Lib.hid ho51
            clear hC50 ho51
            go_wp2_with fail
            refine Cl.way_on hkp51 ?_
            clear hkp51
            refine Cl.tree_c rfl ?_
            go_wp2_with (refine app_bool (w0 := w1) rfl (.tmp 43) (.tmp 51) rfl 2 _ _ _ O rfl rfl rfl hC51.out hl2.out ?_)
            intro r52 v52 ho52 hkp52
            have hC52 : Hid (Chs w1 v52 [⟨3, r50, colI x 0 i ++ [.int .i64 X], none⟩, ⟨3, r51, colI x 1 i ++ [.int .i64 Y], none⟩, ⟨4, r52, colB x 2 i ++ [.bool O], none⟩, ⟨3, u5, colW x i, none⟩]) := Lib.hid ho52
            clear hC51 ho52
            go_wp2_with fail
            refine Cl.way_on hkp52 ?_
            clear hkp52
            refine Cl.tree_r rfl ?_
            go_big_quiet_step (fail)
            refine wpQuiet_nil ?_
            refine Cl.tree_r rfl ?_
            go_big_quiet_step (fail)
            refine wpQuiet_nil ?_
            refine Cl.tree_r rfl ?_
            go_big_quiet_step (fail)
            refine wpQuiet_nil ?_
            refine Cl.tree_e ?_
            go_wp2_with fail
            go_meet
            rw [s1.out, s2.out, s3.out] at hC52
            exact hC52
        · go_wp2_with fail
          refine Cl.way_on (Cl.Keeps.of_below (below_alloc _ _)) ?_
          have hC53 : Hid (Chs w1 (w6.alloc (.cells #[.bool O] 4)) [⟨3, u3, colI x 0 i, none⟩, ⟨3, u4, colI x 1 i, none⟩, ⟨4, u6, colB x 2 i, some (w6.heap.size, .bool O)⟩, ⟨3, u5, colW x i, none⟩]) := Lib.hid (hC6.out.build 2 rfl rfl (.bool O) 4)
          clear hC6
          generalize w6.alloc (.cells #[.bool O] 4) = v53 at *
          refine Cl.tree_b rfl rfl ?_ ?_
          · go_wp2_with fail
            refine Cl.way_on (Cl.Keeps.of_below (below_alloc _ _)) ?_
            have hC54 : Hid (Chs w1 (v53.alloc (.cells #[.int .i64 X] 3)) [⟨3, u3, colI x 0 i, some (v53.heap.size, .int .i64 X)⟩, ⟨3, u4, colI x 1 i, none⟩, ⟨4, u6, colB x 2 i, some (w6.heap.size, .bool O)⟩, ⟨3, u5, colW x i, none⟩]) := Lib.hid (hC53.out.build 0 rfl rfl (.int .i64 X) 3)
            clear hC53
            generalize v53.alloc (.cells #[.int .i64 X] 3) = v54 at *
            refine Cl.tree_b rfl rfl ?_ ?_
            · go_wp2_with (refine app_int (w0 := w1) rfl (.tmp 25) (.tmp 32) rfl 0 _ _ _ X rfl rfl rfl hC54.out hl0.out ?_)
              intro r55 v55 ho55 hkp55
              have hC55 : Hid (Chs w1 v55 [⟨3, r55, colI x 0 i ++ [.int .i64 X], none⟩, ⟨3, u4, colI x 1 i, none⟩, ⟨4, u6, colB x 2 i, some (w6.heap.size, .bool O)⟩, ⟨3, u5, colW x i, none⟩]) := Lib.hid ho55
              clear hC54 ho55
              go_wp2_with fail
              refine Cl.way_on hkp55 ?_
              clear hkp55
              refine Cl.tree_c rfl ?_
              go_wp2_with fail
              refine Cl.way_on (Cl.Keeps.of_below (below_alloc _ _)) ?_
              have hC56 : Hid (Chs w1 (v55.alloc (.cells #[.int .i64 Y] 3)) [⟨3, r55, colI x 0 i ++ [.int .i64 X], none⟩, ⟨3, u4, colI x 1 i, some (v55.heap.size, .int .i64 Y)⟩, ⟨4, u6, colB x 2 i, some (w6.heap.size, .bool O)⟩, ⟨3, u5, colW x i, none⟩]) := Lib.hid (hC55.out.build 1 rfl rfl (.int .i64 Y) 3)
              clear hC55
              generalize v55.alloc (.cells #[.int .i64 Y] 3) = v56 at *
              refine Cl.tree_c rfl ?_
              go_wp2_with (refine app_int (w0 := w1) rfl (.tmp 34) (.tmp 41) rfl 1 _ _ _ Y rfl rfl rfl hC56.out hl1.out ?_)
              intro r57 v57 ho57 hkp57
              have hC57 : Hid (Chs w1 v57 [⟨3, r55, colI x 0 i ++ [.int .i64 X], none⟩, ⟨3, r57, colI x 1 i ++ [.int .i64 Y], none⟩, ⟨4, u6, colB x 2 i, some (w6.heap.size, .bool O)⟩, ⟨3, u5, colW x i, none⟩]) := Lib.hid ho57
              clear hC56 ho57
              go_wp2_with fail
              refine Cl.way_on hkp57 ?_
              clear hkp57
              refine Cl.tree_c rfl ?_
              go_wp2_with (refine app_bool (w0 := w1) rfl (.tmp 43) (.tmp 51) rfl 2 _ _ _ O rfl rfl rfl hC57.out hl2.out ?_)
              intro r58 v58 ho58 hkp58
              have hC58 : Hid (Chs w1 v58 [⟨3, r55, colI x 0 i ++ [.int .i64 X], none⟩, ⟨3, r57, colI x 1 i ++ [.int .i64 Y], none⟩, ⟨4, r58, colB x 2 i ++ [.bool O], none⟩, ⟨3, u5, colW x i, none⟩]) := Lib.hid ho58
              clear hC57 ho58
              go_wp2_with fail
              refine Cl.way_on hkp58 ?_
              clear hkp58
              refine Cl.tree_r rfl ?_
              go_big_quiet_step (fail)
              refine wpQuiet_nil ?_
              refine Cl.tree_r rfl ?_
              go_big_quiet_step (fail)
              refine wpQuiet_nil ?_
              refine Cl.tree_r rfl ?_
              go_big_quiet_step (fail)
              refine wpQuiet_nil ?_
              refine Cl.tree_e ?_
              go_wp2_with fail
              go_meet
              rw [s1.out, s2.out, s3.out] at hC58
              exact hC58
            · go_wp2_with fail
              refine Cl.way_on (Cl.Keeps.of_below (below_alloc _ _)) ?_
              have hC59 : Hid (Chs w1 (v54.alloc (.cells #[.int .i64 Y] 3)) [⟨3, u3, colI x 0 i, some (v53.heap.size, .int .i64 X)⟩, ⟨3, u4, colI x 1 i, some (v54.heap.size, .int .i64 Y)⟩, ⟨4, u6, colB x 2 i, some (w6.heap.size, .bool O)⟩, ⟨3, u5, colW x i, none⟩]) := Lib.hid (hC54.out.build 1 rfl rfl (.int .i64 Y) 3)
              clear hC54
              generalize v54.alloc (.cells #[.int .i64 Y] 3) = v59 at *
              refine Cl.tree_c rfl ?_
              go_wp2_with (refine app_int (w0 := w1) rfl (.tmp 25) (.tmp 32) rfl 0 _ _ _ X rfl rfl rfl hC59.out hl0.out ?_)
              intro r60 v60 ho60 hkp60
              have hC60 : Hid (Chs w1 v60 [⟨3, r60, colI x 0 i ++ [.int .i64 X], none⟩, ⟨3, u4, colI x 1 i, some (v54.heap.size, .int .i64 Y)⟩, ⟨4, u6, colB x 2 i, some (w6.heap.size, .bool O)⟩, ⟨3, u5, colW x i, none⟩]) := Lib.hid ho60
              clear hC59 ho60
              go_wp2_with fail
              refine Cl.way_on hkp60 ?_
              clear hkp60
              refine Cl.tree_c rfl ?_
              go_wp2_with (refine app_int (w0 := w1) rfl (.tmp 34) (.tmp 41) rfl 1 _ _ _ Y rfl rfl rfl hC60.out hl1.out ?_)
              intro r61 v61 ho61 hkp61
              have hC61 : Hid (Chs w1 v61 [⟨3, r60, colI x 0 i ++ [.int .i64 X], none⟩, ⟨3, r61, colI x 1 i ++ [.int .i64 Y], none⟩, ⟨4, u6, colB x 2 i, some (w6.heap.size, .bool O)⟩, ⟨3, u5, colW x i, none⟩]) := Lib.hid ho61
              clear hC60 ho61
              go_wp2_with fail
              refine Cl.way_on hkp61 ?_
              clear hkp61
              refine Cl.tree_c rfl ?_
              go_wp2_with (refine app_bool (w0 := w1) rfl (.tmp 43) (.tmp 51) rfl 2 _ _ _ O rfl rfl rfl hC61.out hl2.out ?_)
              intro r62 v62 ho62 hkp62
              have hC62 : Hid (Chs w1 v62 [⟨3, r60, colI x 0 i ++ [.int .i64 X], none⟩, ⟨3, r61, colI x 1 i ++ [.int .i64 Y], none⟩, ⟨4, r62, colB x 2 i ++ [.bool O], none⟩, ⟨3, u5, colW x i, none⟩]) := Lib.hid ho62
              clear hC61 ho62
              go_wp2_with fail
              refine Cl.way_on hkp62 ?_
              clear hkp62
              refine Cl.tree_r rfl ?_
              go_big_quiet_step (fail)
              refine wpQuiet_nil ?_
              refine Cl.tree_r rfl ?_
              go_big_quiet_step (fail)
              refine wpQuiet_nil ?_
              refine Cl.tree_r rfl ?_
              go_big_quiet_step (fail)
              refine wpQuiet_nil ?_
              refine Cl.tree_e ?_
              go_wp2_with fail
              go_meet
              rw [s1.out, s2.out, s3.out] at hC62
              exact hC62
          · go_wp2_with fail
            refine Cl.way_on (Cl.Keeps.of_below (below_alloc _ _)) ?_
            have hC63 : Hid (Chs w1 (v53.alloc (.cells #[.int .i64 Y] 3)) [⟨3, u3, colI x 0 i, none⟩, ⟨3, u4, colI x 1 i, some (v53.heap.size, .int .i64 Y)⟩, ⟨4, u6, colB x 2 i, some (w6.heap.size, .bool O)⟩, ⟨3, u5, colW x i, none⟩]) := Lib.hid (hC53.out.build 1 rfl rfl (.int .i64 Y) 3)
            clear hC53
            generalize v53.alloc (.cells #[.int .i64 Y] 3) = v63 at *
            refine Cl.tree_c rfl ?_
            go_wp2_with fail
            refine Cl.way_on (Cl.Keeps.of_below (below_alloc _ _)) ?_
            have hC64 : Hid (Chs w1 (v63.alloc (.cells #[.int .i64 X] 3)) [⟨3, u3, colI x 0 i, some (v63.heap.size, .int .i64 X)⟩, ⟨3, u4, colI x 1 i, some (v53.heap.size, .int .i64 Y)⟩, ⟨4, u6, colB x 2 i, some (w6.heap.size, .bool O)⟩, ⟨3, u5, colW x i, none⟩]) := Lib.hid (hC63.out.build 0 rfl rfl (.int .i64 X) 3)
            clear hC63
            generalize v63.alloc (.cells #[.int .i64 X] 3) = v64 at *
            refine Cl.tree_c rfl ?_
            go_wp2_with (refine app_int (w0 := w1) rfl (.tmp 25) (.tmp 32) rfl 0 _ _ _ X rfl rfl rfl hC64.out hl0.out ?_)
            intro r65 v65 ho65 hkp65
            have hC65 : Hid (Chs w1 v65 [⟨3, r65, colI x 0 i ++ [.int .i64 X], none⟩, ⟨3, u4, colI x 1 i, some (v53.heap.size, .int .i64 Y)⟩, ⟨4, u6, colB x 2 i, some (w6.heap.size, .bool O)⟩, ⟨3, u5, colW x i, none⟩]) := Lib.hid ho65
            clear hC64 ho65
            go_wp2_with fail
            refine Cl.way_on hkp65 ?_
            clear hkp65
            refine Cl.tree_c rfl ?_
            go_wp2_with (refine app_int (w0 := w1) rfl (.tmp 34) (.tmp 41) rfl 1 _ _ _ Y rfl rfl rfl hC65.out hl1.out ?_)
            intro r66 v66 ho66 hkp66
            have hC66 : Hid (Chs w1 v66 [⟨3, r65, colI x 0 i ++ [.int .i64 X], none⟩, ⟨3, r66, colI x 1 i ++ [.int .i64 Y], none⟩, ⟨4, u6, colB x 2 i, some (w6.heap.size, .bool O)⟩, ⟨3, u5, colW x i, none⟩]) := Lib.hid ho66
            clear hC65 ho66
            go_wp2_with fail
            refine Cl.way_on hkp66 ?_
            clear hkp66
            refine Cl.tree_c rfl ?_
            go_wp2_with (refine app_bool (w0 := w1) rfl (.tmp 43) (.tmp 51) rfl 2 _ _ _ O rfl rfl rfl hC66.out hl2.out ?_)
            intro r67 v67 ho67 hkp67
            have hC67 : Hid (Chs w1 v67 [⟨3, r65, colI x 0 i ++ [.int .i64 X], none⟩, ⟨3, r66, colI x 1 i ++ [.int .i64 Y], none⟩, ⟨4, r67, colB x 2 i ++ [.bool O], none⟩, ⟨3, u5, colW x i, none⟩]) := Lib.hid ho67
            clear hC66 ho67
            go_wp2_with fail
            refine Cl.way_on hkp67 ?_
            clear hkp67
            refine Cl.tree_r rfl ?_
            go_big_quiet_step (fail)
            refine wpQuiet_nil ?_
            refine Cl.tree_r rfl ?_
            go_big_quiet_step (fail)
            refine wpQuiet_nil ?_
            refine Cl.tree_r rfl ?_
            go_big_quiet_step (fail)
            refine wpQuiet_nil ?_
            refine Cl.tree_e ?_
            go_wp2_with fail
            go_meet
            rw [s1.out, s2.out, s3.out] at hC67
            exact hC67
      case rest =>
        have hw1 := hb.out.size
        obtain ⟨a, rfl, hab, g0, g1⟩ := (H.out.below (hb.out.trans (hcut.out.below.mono hw1))).at0 (i := i) hin (by decide)
        have g2' : wc.cell? ⟨(a.add (i * 3)).block, (a.add (i * 3)).off + 2, none⟩ = some (.int .u8 (x i 2)) := g1 1 (by decide)
        have b0 := u8_in (H.out.1 i 0)
        have he := even_bits (u8_in (H.out.1 i 2))
        have hsw := colW_succ x i
        have hl3 := Lib.hid (show (colW x i).length ≤ 1000000 by rw [colW_len]; omega)
        unfold wI at hsw
        obtain ⟨Z, hZ⟩ : ∃ Z, x i 2 = Z := ⟨_, rfl⟩
        cases hO : oddI (x i 2)
        · rw [hO] at he hsw
          rw [hZ] at g2' he
          replace he : (bits BinOp.and IntKind.u8 Z 1 == 0) = true := he
          replace hsw := Lib.hid (show colW x i ++ [.int .i64 0] = colW x (i + 1) from hsw)
          have hB := Lib.hid (hcut.out.build 3 rfl rfl (.int .i64 0) 3)
          obtain ⟨X, hX⟩ : ∃ X, x i 0 = X := ⟨_, rfl⟩
          rw [hX] at g0 b0
          clear hC hX hZ hO g1
          go_wp2_with (refine app_int (w0 := w1) rfl (.tmp 66) (.tmp 68) rfl 3 _ _ _ 0 rfl rfl rfl hB.out hl3.out ?_)
          intro v9 w9 ho9 hkp9
          have hC9 : Hid (Chs w1 w9 [⟨3, u3, colI x 0 (i + 1), none⟩, ⟨3, u4, colI x 1 (i + 1), none⟩, ⟨4, u6, colB x 2 (i + 1), none⟩, ⟨3, v9, colW x i ++ [.int .i64 0], none⟩]) := Lib.hid ho9
          rw [hsw.out] at hC9
          clear ho9 hkp9 hB hcut g0 g2'
          go_wp2_with fail
          go_roundw
          case rel => exact ⟨i + 1, by omega, by go_num, hC9⟩
          case measure => simp [intOf]; omega
        · rw [hO] at he hsw
          rw [hZ] at g2' he
          replace he : (bits BinOp.and IntKind.u8 Z 1 == 0) = false := he
          obtain ⟨X, hX⟩ : ∃ X, x i 0 = X := ⟨_, rfl⟩
          replace hsw := Lib.hid (show colW x i ++ [.int .i64 X] = colW x (i + 1) by rw [← hX]; exact hsw)
          have hB := Lib.hid (hcut.out.build 3 rfl rfl (.int .i64 X) 3)
          rw [hX] at g0 b0
          clear hC hX hZ hO g1
          go_wp2_with (refine app_int (w0 := w1) rfl (.tmp 66) (.tmp 68) rfl 3 _ _ _ X rfl rfl rfl hB.out hl3.out ?_)
          intro v9 w9 ho9 hkp9
          have hC9 : Hid (Chs w1 w9 [⟨3, u3, colI x 0 (i + 1), none⟩, ⟨3, u4, colI x 1 (i + 1), none⟩, ⟨4, u6, colB x 2 (i + 1), none⟩, ⟨3, v9, colW x i ++ [.int .i64 X], none⟩]) := Lib.hid ho9
          rw [hsw.out] at hC9
          clear ho9 hkp9 hB hcut g0 g2'
          go_wp2_with fail
          go_roundw
          case rel => exact ⟨i + 1, by omega, by go_num, hC9⟩
          case measure => simp [intOf]; omega
    · obtain rfl : n = i := by omega
      clear hin hi
      obtain ⟨W, rfl⟩ : ∃ W, W = wr := ⟨_, rfl⟩
      obtain ⟨A3, k3, e3, S3⟩ := hC.out.sf 0 rfl
      obtain ⟨A4, k4, e4, S4⟩ := hC.out.sf 1 rfl
      obtain ⟨A6, k6, e6, S6⟩ := hC.out.sf 2 rfl
      obtain ⟨A5, k5, e5, S5⟩ := hC.out.sf 3 rfl
      dsimp only at e3 e4 e5 e6 S3 S4 S5 S6
      rw [colI_len] at e3 S3 e4 S4
      rw [colB_len] at e6 S6
      rw [colW_len] at e5 S5
      subst e3
      subst e4
      subst e5
      subst e6
      have hB := Lib.hid (below_trans hb.out hC.out.below)
      obtain ⟨v, hv⟩ : ∃ v : Nat → Int, (fun j => x j 0) = v := ⟨_, rfl⟩
      obtain ⟨e, he⟩ : ∃ e : Nat → Int, (fun j => x j 1) = e := ⟨_, rfl⟩
      obtain ⟨u, hu⟩ : ∃ u : Nat → Int, wI x = u := ⟨_, rfl⟩
      obtain ⟨μ, hμ⟩ : ∃ μ : Nat → Bool, (fun j => oddI (x j 2)) = μ := ⟨_, rfl⟩
      have Q3 := S3.congr (f' := iF v) fun j hj => by rw [← hv]; exact colI_get x hj
      have Q4 := S4.congr (f' := iF e) fun j hj => by rw [← he]; exact colI_get x hj
      have Q5 := S5.congr (f' := iF u) fun j hj => by rw [← hu]; exact colW_get x hj
      have Q6 := S6.congr (f' := bF μ) fun j hj => by rw [← hμ]; exact colB_get x hj
      have hsame := fst_colW x n
      rw [hv, he, hu, hμ] at hsame
      have hmn : mn (mn n n) n = n := by simp [mn]
      have hv1 := fun w2 (hb : Below W.heap.size W w2) => victim_any A3 n k3 v A4 n k4 e A6 n k6 μ w2 (Q3.far hb) (Q4.far hb) (Q6.far hb) (by omega)
      have hv2 := fun w2 (hb : Below W.heap.size W w2) => victim_any A5 n k5 u A4 n k4 e A6 n k6 μ w2 (Q5.far hb) (Q4.far hb) (Q6.far hb) (by omega)
      rw [hmn] at hv1 hv2
      rw [hsame] at hv2
      have hbest := fun b h => fst_best (m := μ) (lx_ord v e) (n := n) (b := b) h
      have hblt := fun b h => fst_lt (m := μ) (ah := lx v e) (n := n) (b := b) h
      have hnone := fun h => fst_none (m := μ) (ah := lx v e) (n := n) h
      generalize fst μ (lx v e) n = R at hv1 hv2 hbest hblt hnone
      obtain ⟨b, hbR⟩ : ∃ b, R.getD 0 = b := ⟨_, rfl⟩
      obtain ⟨o, hoR⟩ : ∃ o, R.isSome = o := ⟨_, rfl⟩
      rw [hbR, hoR] at hv1 hv2
      have hno : Hid (o = false → ∀ i, i < n → μ i = false) := Lib.hid (fun ho => by
        cases R with
        | none => exact hnone rfl
        | some c => rw [← hoR] at ho; cases ho)
      have hyes : Hid (o = true → (b < n ∧ μ b = true) ∧ ∀ i, i < n → μ i = true → i ≠ b → lx v e i b = false ∧ (i < b → lx v e b i = true)) := Lib.hid (fun ho => by
        cases R with
        | none => rw [← hoR] at ho; cases ho
        | some c => obtain rfl : c = b := hbR; exact ⟨hblt c rfl, hbest c rfl⟩)
      replace hv1 := Lib.hid hv1
      replace hv2 := Lib.hid hv2
      have nb : (b != b) = false := by simp
      have nbI : ((b : Int) != (b : Int)) = false := by simp
      have no : (o != o) = false := by simp
      have hsf : Hid (∀ w2, Below W.heap.size W w2 → SF w2 w2.heap.size A3 n (iF v) ∧ SF w2 w2.heap.size A4 n (iF e) ∧ SF w2 w2.heap.size A6 n (bF μ)) := Lib.hid (fun w2 hb => ⟨Q3.far hb, Q4.far hb, Q6.far hb⟩)
      clear S3 S4 S5 S6 Q3 Q4 Q5 Q6 hv he hu hμ hsame hmn hbest hblt hnone hbR hoR hC H ca hb
      go_wp2_with (first
        | (go_at_call 11; (with_reducible refine (hv1.out _ (Below.refl _ _)).mono ?_); rintro e5 w5 ⟨rfl, hb5⟩; have hB5 := Lib.hid hb5; clear hb5 hv1)
        | (go_at_call 11; (with_reducible refine (hv2.out _ hB5.out).mono ?_); rintro e6 w6 ⟨rfl, hb6⟩; have hB6 := Lib.hid (below_trans hB5.out hb6); clear hb6 hv2 hB5))
      go_loopw [13] (fun p w7 => ∃ i : Nat, i ≤ n ∧ p = .int .i64 (i : Int) ∧ Hid (Below W.heap.size W w7)) (fun p _ => n - (intOf p).toNat)
      case atStart => exact ⟨0, Nat.zero_le _, rfl, hB6⟩
      case round =>
        obtain ⟨i, hi, rfl, hB7⟩ := hrel
        by_cases hin : i < n
        · have hinI : (i : Int) < (n : Int) := by omega
          have hdin : decide (i < n) = true := decide_eq_true hin
          obtain ⟨q3, q4, q6⟩ := hsf.out wr hB7.out
          obtain ⟨a6, rfl, _, c6⟩ := q6.at_ hin
          simp only [bF] at c6
          cases hmu : μ i
          · rw [hmu] at c6
            have t6 := aft c6
            clear q3 q4 q6 c6
            go_wp2_with fail
            refine Cl.region_after_at wr.heap.size (by kernel_rfl) lex6_22 (by kernel_rfl) ?_
            try simp only [List.append]
            repeat (go_big_quiet_step (fail))
            refine wpQuiet_nil ?_
            rintro _ ⟨y, rfl⟩
            go_wp2_with fail
            go_roundw
            case rel => exact ⟨i + 1, by omega, by go_num, Lib.hid (below_trans hB7.out y.below)⟩
            case measure => simp [intOf]; omega
          · rw [hmu] at c6
            have ho : o = true := by
              cases ho : o
              · have := hno.out ho i hin; rw [hmu] at this; cases this
              · rfl
            subst ho
            obtain ⟨⟨hbn, _⟩, hbe⟩ := hyes.out rfl
            have hbnI : (b : Int) < (n : Int) := by omega
            obtain ⟨a3, rfl, _, c3⟩ := q3.at_ hin
            obtain ⟨_, e1, _, c3'⟩ := q3.at_ hbn
            injection e1 with e1
            subst e1
            obtain ⟨a4, rfl, _, c4⟩ := q4.at_ hin
            obtain ⟨_, e1, _, c4'⟩ := q4.at_ hbn
            injection e1 with e1
            subst e1
            simp only [iF] at c3 c3' c4 c4'
            have hfin : ¬ v i < v b ∧ (v i = v b → ¬ e i < e b ∧ (e i = e b → ¬ i < b)) := by
              by_cases e1 : i = b
              · subst e1; exact ⟨Int.lt_irrefl _, fun _ => ⟨Int.lt_irrefl _, fun _ => Nat.lt_irrefl _⟩⟩
              · obtain ⟨h1, h2⟩ := hbe i hin hmu e1
                simp only [lx, Bool.or_eq_false_iff, Bool.and_eq_false_iff, decide_eq_false_iff_not, Bool.or_eq_true, Bool.and_eq_true, decide_eq_true_eq] at h1 h2
                refine ⟨h1.1, fun h3 => ⟨by rcases h1.2 with h | h; exact absurd h3 h; exact h, fun h4 h5 => ?_⟩⟩
                rcases h2 h5 with h | ⟨_, h⟩ <;> omega
            obtain ⟨X, hX⟩ : ∃ X, v i = X := ⟨_, rfl⟩
            obtain ⟨X', hX'⟩ : ∃ X, v b = X := ⟨_, rfl⟩
            obtain ⟨Y, hY⟩ : ∃ X, e i = X := ⟨_, rfl⟩
            obtain ⟨Y', hY'⟩ : ∃ X, e b = X := ⟨_, rfl⟩
            rw [hX] at c3 hfin
            rw [hX'] at c3' hfin
            rw [hY] at c4 hfin
            rw [hY'] at c4' hfin
            have t1 := aft c3
            have t2 := aft c3'
            have t3 := aft c4
            have t4 := aft c4'
            have t6 := aft c6
            obtain ⟨y1, y2⟩ := hfin
            have d1 : decide (X < X') = false := decide_eq_false y1
            clear q3 q4 q6 c6 c3 c3' c4 c4' hX hX' hY hY' hbe hmu
            by_cases e1 : X = X'
            · obtain ⟨y3, y4⟩ := y2 e1
              have d2 : (X == X') = true := by simp [e1]
              have d3 : decide (Y < Y') = false := decide_eq_false y3
              by_cases e2 : Y = Y'
              · have d4 : (Y == Y') = true := by simp [e2]
                have d5 : decide (i < b) = false := decide_eq_false (y4 e2)
                have d5I : decide ((i : Int) < (b : Int)) = false := decide_eq_false (by have := y4 e2; omega)
                clear y2 y3 y4 y1 e1 e2
                go_wp2_with fail
                refine Cl.region_after_at wr.heap.size (by kernel_rfl) lex6_22 (by kernel_rfl) ?_
                try simp only [List.append]
                repeat (go_big_quiet_step (fail))
                refine wpQuiet_nil ?_
                rintro _ ⟨y, rfl⟩
                go_wp2_with fail
                go_roundw
                case rel => exact ⟨i + 1, by omega, by go_num, Lib.hid (below_trans hB7.out y.below)⟩
                case measure => simp [intOf]; omega
              · have d4 : (Y == Y') = false := by simp [e2]
                clear y2 y3 y4 y1 e1 e2
                go_wp2_with fail
                refine Cl.region_after_at wr.heap.size (by kernel_rfl) lex6_22 (by kernel_rfl) ?_
                try simp only [List.append]
                repeat (go_big_quiet_step (fail))
                refine wpQuiet_nil ?_
                rintro _ ⟨y, rfl⟩
                go_wp2_with fail
                go_roundw
                case rel => exact ⟨i + 1, by omega, by go_num, Lib.hid (below_trans hB7.out y.below)⟩
                case measure => simp [intOf]; omega
            · have d2 : (X == X') = false := by simp [e1]
              clear y2 y1 e1
              go_wp2_with fail
              refine Cl.region_after_at wr.heap.size (by kernel_rfl) lex6_22 (by kernel_rfl) ?_
              try simp only [List.append]
              repeat (go_big_quiet_step (fail))
              refine wpQuiet_nil ?_
              rintro _ ⟨y, rfl⟩
              go_wp2_with fail
              go_roundw
              case rel => exact ⟨i + 1, by omega, by go_num, Lib.hid (below_trans hB7.out y.below)⟩
              case measure => simp [intOf]; omega
        · obtain rfl : n = i := by omega
          have hdin : decide (n < n) = false := decide_eq_false (Nat.lt_irrefl _)
          cases o
          · go_wp2_with fail
            go_ret
            exact ⟨rfl, below_trans hB.out hB7.out⟩
          · obtain ⟨⟨hbn, hbm⟩, _⟩ := hyes.out rfl
            have hbnI : (b : Int) < (n : Int) := by omega
            obtain ⟨_, _, q6⟩ := hsf.out wr hB7.out
            obtain ⟨a6, rfl, _, c6⟩ := q6.at_ hbn
            simp only [bF] at c6
            rw [hbm] at c6
            go_wp2_with fail
            go_ret
            exact ⟨rfl, below_trans hB.out hB7.out⟩
end Go.Proofs.Ytoldfgnnmfaihaa.We
