/- WearGaps walked. -/
import Derived.Test.YtoldfgnnmfaihaaWre
import Derived.Test.YtoldfgnnmfaihaaWrw
import Derived.Test.YtoldfgnnmfaihaaWro
import Derived.Test.YtoldfgnnmfaihaaTr
import Derived.Deep.CutRange
namespace Go.Proofs.Ytoldfgnnmfaihaa.We
open Go.RowKit
set_option linter.unusedVariables false
set_option linter.unusedSimpArgs false
attribute [local go_sem ↓] Cl.quiet_since
/-- wiped once more -/
theorem gap_step {e e' : Nat → Int} {m : Nat → Bool} {n k : Nat} (h : ∀ i, i < n → e' i = if i = k then e i + 1 else e i) :
    0 ≤ gapF e m n ∧ gapF e' m n ≤ gapF e m n + 1 ∧ gapF e m n - 1 ≤ gapF e' m n ∧ (m k = true ∨ gapF e' m n = gapF e m n) := by
  cases hp : fst m (lo e) n with
  | none =>
    have hp' : fst m (lo e') n = none := by
      cases hp' : fst m (lo e') n with
      | none => rfl
      | some a => have := fst_lt hp'; rw [fst_none hp a this.1] at this; cases this.2
    rw [gap_none hp, gap_none hp']
    exact ⟨Int.le_refl _, by omega, by omega, Or.inr rfl⟩
  | some a =>
    obtain ⟨b, hq⟩ := hi_of_lo hp
    have ha := fst_lt hp
    have hb := fst_lt hq
    cases hp' : fst m (lo e') n with
    | none => rw [fst_none hp' a ha.1] at ha; cases ha.2
    | some a' =>
      obtain ⟨b', hq'⟩ := hi_of_lo hp'
      have ha' := fst_lt hp'
      have hb' := fst_lt hq'
      rw [gap_some hp hq, gap_some hp' hq']
      have f : ∀ i, i < n → e i ≤ e' i ∧ e' i ≤ e i + 1 := fun i hi => by rw [h i hi]; split <;> omega
      have x1 := lo_le hp hb.1 hb.2
      have x2 := lo_le hp ha'.1 ha'.2
      have x3 := hi_ge hq hb'.1 hb'.2
      have x4 := lo_le hp' ha.1 ha.2
      have x5 := hi_ge hq' hb.1 hb.2
      have y1 := f a ha.1
      have y2 := f b hb.1
      have y3 := f a' ha'.1
      have y4 := f b' hb'.1
      refine ⟨by omega, by omega, by omega, ?_⟩
      cases hm : m k
      · right
        have g : ∀ i, i < n → m i = true → e' i = e i := fun i hi hmi => by
          rw [h i hi]
          split
          · rename_i e1; rw [e1, hm] at hmi; cases hmi
          · rfl
        have z1 := g a ha.1 ha.2
        have z2 := g b hb.1 hb.2
        have z3 := g a' ha'.1 ha'.2
        have z4 := g b' hb'.1 hb'.2
        have z5 := hi_ge hq' hb.1 hb.2
        have z6 := hi_ge hq hb'.1 hb'.2
        have z7 := lo_le hp' ha.1 ha.2
        have z8 := lo_le hp ha'.1 ha'.2
        omega
      · exact Or.inl rfl
theorem gap_le {e : Nat → Int} {m : Nat → Bool} {n : Nat} (h : ∀ i, i < n → 0 ≤ e i ∧ e i ≤ 256) : gapF e m n ≤ 256 := by
  cases hp : fst m (lo e) n with
  | none => rw [gap_none hp]; decide
  | some a =>
    obtain ⟨b, hq⟩ := hi_of_lo hp
    rw [gap_some hp hq]
    have := h a (fst_lt hp).1
    have := h b (fst_lt hq).1
    omega
/-- a byte's lowest bit -/
def oddI (x : Int) : Bool := decide (x % 2 = 1)
def colI (x : Nat → Nat → Int) (j n : Nat) : List Value := (List.range n).map fun i => .int .i64 (x i j)
def colB (x : Nat → Nat → Int) (j n : Nat) : List Value := (List.range n).map fun i => .bool (oddI (x i j))
theorem colI_len (x : Nat → Nat → Int) (j n : Nat) : (colI x j n).length = n := by simp [colI]
theorem colB_len (x : Nat → Nat → Int) (j n : Nat) : (colB x j n).length = n := by simp [colB]
theorem colI_succ (x : Nat → Nat → Int) (j n : Nat) : colI x j n ++ [.int .i64 (x n j)] = colI x j (n + 1) := by simp [colI, List.range_succ]
theorem colB_succ (x : Nat → Nat → Int) (j n : Nat) : colB x j n ++ [.bool (oddI (x n j))] = colB x j (n + 1) := by simp [colB, List.range_succ]
theorem colI_get (x : Nat → Nat → Int) {j n i : Nat} (h : i < n) : (colI x j n).getD i undef = .int .i64 (x i j) := by simp [colI, List.getD_eq_getElem?_getD, h]
theorem colB_get (x : Nat → Nat → Int) {j n i : Nat} (h : i < n) : (colB x j n).getD i undef = .bool (oddI (x i j)) := by simp [colB, List.getD_eq_getElem?_getD, h]
theorem u8_in {a : Int} (h : (Lit.int .u8 a).wf = true) : 0 ≤ a ∧ a < 256 := by
  simp [Lit.wf, IntKind.min, IntKind.max, IntKind.signed, IntKind.bits] at h; omega
theorem odd_fin : ∀ k : Fin 256, (bits BinOp.and IntKind.u8 (k.val : Int) 1 == 1) = oddI (k.val : Int) := by decide +kernel
theorem odd_bits {a : Int} (h : 0 ≤ a ∧ a < 256) : (bits BinOp.and IntKind.u8 a 1 == 1) = oddI a := by
  have := odd_fin ⟨a.toNat, by omega⟩
  rwa [show ((⟨a.toNat, by omega⟩ : Fin 256).val : Int) = a from Int.toNat_of_nonneg h.1] at this
set_option maxRecDepth 20000 in
set_option maxHeartbeats 8000000 in
theorem gaps_law (A : Option Addr) (n : Nat) (x : Nat → Nat → Int) (c : Nat) (hl : n ≤ c) (hc : c ≤ maxLen) (a1 : Int) (w1 : (Lit.int .u8 a1).wf = true) (w : World) (s0 : RF w w.heap.size A 2 n .u8 x) :
    Calls Try.prog 7 #[.slice A n c, .int .u8 a1] w (Ans w (.bool true)) := by
  have ca := Lib.hid awake_any
  have H := Lib.hid s0
  obtain ⟨t, ht, rfl⟩ := u8_nat w1
  clear s0 w1 hl hc
  by_cases h0 : n = 0
  · subst h0
    go_enter Try.func7, Try.ntmps7
    go_wp2_with (go_at_call 8; (with_reducible refine (ca.out _).mono ?_); rintro e w1 ⟨rfl, hb⟩)
    go_ret
    exact ⟨rfl, hb⟩
  have h0I : ((n : Int) == 0) = false := by rw [beq_eq_false_iff_ne]; omega
  by_cases h200 : 200 < n
  · have h200I : (200 : Int) < (n : Int) := by omega
    go_enter Try.func7, Try.ntmps7
    go_wp2_with (go_at_call 8; (with_reducible refine (ca.out _).mono ?_); rintro e w1 ⟨rfl, hb⟩)
    go_ret
    exact ⟨rfl, hb⟩
  have h200I : ¬ (200 : Int) < (n : Int) := by omega
  go_enter Try.func7, Try.ntmps7
  go_wp2_with (go_at_call 8; (with_reducible refine (ca.out _).mono ?_); rintro e w1 ⟨rfl, hb⟩; have hb := Lib.hid hb)
  go_loopw [5, 6, 7] (fun p q r wr => ∃ (i : Nat), i ≤ n ∧ r = .int .i64 (i : Int) ∧ Hid (Chs w1 wr [⟨3, p, colI x 0 i, none⟩, ⟨4, q, colB x 1 i, none⟩])) (fun _ _ r _ => n - (intOf r).toNat)
  case atStart => exact ⟨0, Nat.zero_le _, rfl, Lib.hid (((Chs.nil w1).more _).more _)⟩
  case round =>
    obtain ⟨i, hi, rfl, hC⟩ := hrel
    by_cases hin : i < n
    · have hinI : (i : Int) < (n : Int) := by omega
      have hdin : decide (i < n) = true := decide_eq_true hin
      go_wp2_with fail
      refine Cl.region_tree (fun b => b < w1.heap.size) 21 (.r 0 <| .r 1 <| .r 2 <| .r 3 <| .r 4 <| .r 5 <| .r 6 <| .r 9 <| .r 10 <| .r 11 <| .r 12 <| .r 13 <| .r 14 <| .r 15 <| .r 16 <| .b 7 17 (.b 8 17 (.c 17 <| .c 18 <| .r 19 <| .r 20 <| .e) (.c 8 <| .c 18 <| .r 19 <| .r 20 <| .e)) (.c 7 <| .c 8 <| .c 18 <| .r 19 <| .r 20 <| .e)) (by kernel_rfl) (by kernel_rfl) ?_
      intro w6 hk6
      have hC6 := Lib.hid (hC.out.keep (Cl.Keeps.below hk6))
      have hw1 := hb.out.size
      obtain ⟨a, rfl, hab, g0, g1⟩ := (H.out.below (hb.out.trans (hC6.out.below.mono hw1))).at0 (i := i) hin (by decide)
      have g1' := g1 0 (by decide)
      have hbl : ∀ m, (a.add m).block < w1.heap.size := fun m => by rw [add_block]; omega
      have f1 : ∀ y : Cl.Since (fun b => b < w1.heap.size) w6, y.w.cell? (a.add (i * 2)) = some (.int .u8 (x i 0)) := fun y => (World.cell?_of_block (y.keeps.block _ (World.block_lt_of_cell? _ _ g0) (hbl _))).trans g0
      have f2 : ∀ y : Cl.Since (fun b => b < w1.heap.size) w6, y.w.cell? ⟨(a.add (i * 2)).block, (a.add (i * 2)).off + 1, none⟩ = some (.int .u8 (x i 1)) := fun y => (World.cell?_of_block (a := ⟨(a.add (i * 2)).block, (a.add (i * 2)).off + 1, none⟩) (y.keeps.block _ (World.block_lt_of_cell? _ _ g1') (hbl _))).trans g1'
      have s1 := colI_succ x 0 i
      have s2 := colB_succ x 1 i
      have b0 := u8_in (H.out.1 i 0)
      have b1 := u8_in (H.out.1 i 1)
      obtain ⟨X, hX⟩ : ∃ X, x i 0 = X := ⟨_, rfl⟩
      obtain ⟨Y, hY⟩ : ∃ Y, x i 1 = Y := ⟨_, rfl⟩
      have ho := odd_bits b1
      obtain ⟨O, hO⟩ : ∃ O, oddI (x i 1) = O := ⟨_, rfl⟩
      rw [hX] at f1 s1 b0
      rw [hO] at ho s2
      rw [hY] at f2 b1 ho
      replace s1 := Lib.hid s1
      replace s2 := Lib.hid s2
      have hl0 := Lib.hid (show (colI x 0 i).length ≤ 1000000 by rw [colI_len]; omega)
      have hl1 := Lib.hid (show (colB x 1 i).length ≤ 1000000 by rw [colB_len]; omega)
      clear g0 g1 g1' hk6 hC hX hY hO hbl
      iterate 15 (refine Cl.tree_r rfl ?_; go_big_quiet_step (fail); refine wpQuiet_nil ?_)
      clear f1 f2 ho
      refine Cl.tree_b rfl rfl ?_ ?_
      · go_wp2_with fail
        refine Cl.way_on (Cl.Keeps.of_below (below_alloc _ _)) ?_
        have hC1 : Hid (Chs w1 (w6.alloc (.cells #[.int .i64 X] 3)) [⟨3, u5, colI x 0 i, some (w6.heap.size, .int .i64 X)⟩, ⟨4, u6, colB x 1 i, none⟩]) := Lib.hid (hC6.out.build 0 rfl rfl (.int .i64 X) 3)
        clear hC6
        generalize w6.alloc (.cells #[.int .i64 X] 3) = v1 at *
        refine Cl.tree_b rfl rfl ?_ ?_
        · go_wp2_with (refine app_int (w0 := w1) rfl (.tmp 27) (.tmp 34) rfl 0 _ _ _ X rfl rfl rfl hC1.out hl0.out ?_)
          intro r2 v2 ho2 hkp2
          have hC2 : Hid (Chs w1 v2 [⟨3, r2, colI x 0 i ++ [.int .i64 X], none⟩, ⟨4, u6, colB x 1 i, none⟩]) := Lib.hid ho2
          clear hC1 ho2
          go_wp2_with fail
          refine Cl.way_on hkp2 ?_
          clear hkp2
          refine Cl.tree_c rfl ?_
          go_wp2_with fail
          refine Cl.way_on (Cl.Keeps.of_below (below_alloc _ _)) ?_
          have hC3 : Hid (Chs w1 (v2.alloc (.cells #[.bool O] 4)) [⟨3, r2, colI x 0 i ++ [.int .i64 X], none⟩, ⟨4, u6, colB x 1 i, some (v2.heap.size, .bool O)⟩]) := Lib.hid (hC2.out.build 1 rfl rfl (.bool O) 4)
          clear hC2
          generalize v2.alloc (.cells #[.bool O] 4) = v3 at *
          refine Cl.tree_c rfl ?_
          go_wp2_with (refine app_bool (w0 := w1) rfl (.tmp 36) (.tmp 44) rfl 1 _ _ _ O rfl rfl rfl hC3.out hl1.out ?_)
          intro r4 v4 ho4 hkp4
          have hC4 : Hid (Chs w1 v4 [⟨3, r2, colI x 0 i ++ [.int .i64 X], none⟩, ⟨4, r4, colB x 1 i ++ [.bool O], none⟩]) := Lib.hid ho4
          clear hC3 ho4
          go_wp2_with fail
          refine Cl.way_on hkp4 ?_
          clear hkp4
          refine Cl.tree_r rfl ?_
          go_big_quiet_step (fail)
          refine wpQuiet_nil ?_
          refine Cl.tree_r rfl ?_
          go_big_quiet_step (fail)
          refine wpQuiet_nil ?_
          refine Cl.tree_e ?_
          go_wp2_with fail
          go_roundw
          case rel => exact ⟨i + 1, by omega, by go_num, by rw [s1.out, s2.out] at hC4; exact hC4⟩
          case measure => simp [intOf]; omega
        · go_wp2_with fail
          refine Cl.way_on (Cl.Keeps.of_below (below_alloc _ _)) ?_
          have hC5 : Hid (Chs w1 (v1.alloc (.cells #[.bool O] 4)) [⟨3, u5, colI x 0 i, some (w6.heap.size, .int .i64 X)⟩, ⟨4, u6, colB x 1 i, some (v1.heap.size, .bool O)⟩]) := Lib.hid (hC1.out.build 1 rfl rfl (.bool O) 4)
          clear hC1
          generalize v1.alloc (.cells #[.bool O] 4) = v5 at *
          refine Cl.tree_c rfl ?_
          go_wp2_with (refine app_int (w0 := w1) rfl (.tmp 27) (.tmp 34) rfl 0 _ _ _ X rfl rfl rfl hC5.out hl0.out ?_)
          intro r6 v6 ho6 hkp6
          have hC6 : Hid (Chs w1 v6 [⟨3, r6, colI x 0 i ++ [.int .i64 X], none⟩, ⟨4, u6, colB x 1 i, some (v1.heap.size, .bool O)⟩]) := Lib.hid ho6
          clear hC5 ho6
          go_wp2_with fail
          refine Cl.way_on hkp6 ?_
          clear hkp6
          refine Cl.tree_c rfl ?_
          go_wp2_with (refine app_bool (w0 := w1) rfl (.tmp 36) (.tmp 44) rfl 1 _ _ _ O rfl rfl rfl hC6.out hl1.out ?_)
          intro r7 v7 ho7 hkp7
          have hC7 : Hid (Chs w1 v7 [⟨3, r6, colI x 0 i ++ [.int .i64 X], none⟩, ⟨4, r7, colB x 1 i ++ [.bool O], none⟩]) := Lib.hid ho7
          clear hC6 ho7
          go_wp2_with fail
          refine Cl.way_on hkp7 ?_
          clear hkp7
          refine Cl.tree_r rfl ?_
          go_big_quiet_step (fail)
          refine wpQuiet_nil ?_
          refine Cl.tree_r rfl ?_
          go_big_quiet_step (fail)
          refine wpQuiet_nil ?_
          refine Cl.tree_e ?_
          go_wp2_with fail
          go_roundw
          case rel => exact ⟨i + 1, by omega, by go_num, by rw [s1.out, s2.out] at hC7; exact hC7⟩
          case measure => simp [intOf]; omega
      · go_wp2_with fail
        refine Cl.way_on (Cl.Keeps.of_below (below_alloc _ _)) ?_
        have hC8 : Hid (Chs w1 (w6.alloc (.cells #[.bool O] 4)) [⟨3, u5, colI x 0 i, none⟩, ⟨4, u6, colB x 1 i, some (w6.heap.size, .bool O)⟩]) := Lib.hid (hC6.out.build 1 rfl rfl (.bool O) 4)
        clear hC6
        generalize w6.alloc (.cells #[.bool O] 4) = v8 at *
        refine Cl.tree_c rfl ?_
        go_wp2_with fail
        refine Cl.way_on (Cl.Keeps.of_below (below_alloc _ _)) ?_
        have hC9 : Hid (Chs w1 (v8.alloc (.cells #[.int .i64 X] 3)) [⟨3, u5, colI x 0 i, some (v8.heap.size, .int .i64 X)⟩, ⟨4, u6, colB x 1 i, some (w6.heap.size, .bool O)⟩]) := Lib.hid (hC8.out.build 0 rfl rfl (.int .i64 X) 3)
        clear hC8
        generalize v8.alloc (.cells #[.int .i64 X] 3) = v9 at *
        refine Cl.tree_c rfl ?_
        go_wp2_with (refine app_int (w0 := w1) rfl (.tmp 27) (.tmp 34) rfl 0 _ _ _ X rfl rfl rfl hC9.out hl0.out ?_)
        intro r10 v10 ho10 hkp10
        have hC10 : Hid (Chs w1 v10 [⟨3, r10, colI x 0 i ++ [.int .i64 X], none⟩, ⟨4, u6, colB x 1 i, some (w6.heap.size, .bool O)⟩]) := Lib.hid ho10
        clear hC9 ho10
        go_wp2_with fail
        refine Cl.way_on hkp10 ?_
        clear hkp10
        refine Cl.tree_c rfl ?_
        go_wp2_with (refine app_bool (w0 := w1) rfl (.tmp 36) (.tmp 44) rfl 1 _ _ _ O rfl rfl rfl hC10.out hl1.out ?_)
        intro r11 v11 ho11 hkp11
        have hC11 : Hid (Chs w1 v11 [⟨3, r10, colI x 0 i ++ [.int .i64 X], none⟩, ⟨4, r11, colB x 1 i ++ [.bool O], none⟩]) := Lib.hid ho11
        clear hC10 ho11
        go_wp2_with fail
        refine Cl.way_on hkp11 ?_
        clear hkp11
        refine Cl.tree_r rfl ?_
        go_big_quiet_step (fail)
        refine wpQuiet_nil ?_
        refine Cl.tree_r rfl ?_
        go_big_quiet_step (fail)
        refine wpQuiet_nil ?_
        refine Cl.tree_e ?_
        go_wp2_with fail
        go_roundw
        case rel => exact ⟨i + 1, by omega, by go_num, by rw [s1.out, s2.out] at hC11; exact hC11⟩
        case measure => simp [intOf]; omega
    · obtain rfl : n = i := by omega
      clear hin hi
      have hne0 : colI x 0 n ≠ [] := fun e => by have := colI_len x 0 n; rw [e] at this; exact h0 this.symm
      have hne1 : colB x 1 n ≠ [] := fun e => by have := colB_len x 1 n; rw [e] at this; exact h0 this.symm
      obtain ⟨g, k, e5, hgw, hfp, P⟩ := hC.out.pv 0 rfl hne0
      obtain ⟨g', k', e6, hgw', hfp', P'⟩ := hC.out.pv 1 rfl hne1
      have hgg : g ≠ g' := fun e => hC.out.apart 0 1 _ _ (by decide) rfl rfl g hfp (by rw [e]; exact hfp')
      dsimp only at e5 e6 P P'
      rw [colI_len] at e5 P
      rw [colB_len] at e6 P'
      subst e5
      subst e6
      have hB := Lib.hid (below_trans hb.out hC.out.below)
      have Q := Lib.hid (P.congr (f' := iF (fun j => x j 0)) fun j hj => colI_get x hj)
      have Q' := Lib.hid (P'.congr (f' := bF (fun j => oddI (x j 1))) fun j hj => colB_get x hj)
      have hx0 := fun j => u8_in (H.out.1 j 0)
      obtain ⟨e, he⟩ : ∃ e : Nat → Int, (fun j => x j 0) = e := ⟨_, rfl⟩
      obtain ⟨μ, hμ⟩ : ∃ μ : Nat → Bool, (fun j => oddI (x j 1)) = μ := ⟨_, rfl⟩
      have hx1 : ∀ j, 0 ≤ e j ∧ e j < 256 := fun j => by rw [← he]; exact hx0 j
      rw [he] at Q
      rw [hμ] at Q'
      clear P P' hfp hfp' hne0 hne1 hx0 he hμ H ca
      obtain ⟨r, hr⟩ : ∃ r, t % n = r := ⟨_, rfl⟩
      have hrn : r < n := by rw [← hr]; exact Nat.mod_lt _ (by omega)
      have hrT : (t : Int).tmod (n : Int) = (r : Int) := by rw [Int.tmod_eq_emod_of_nonneg (by omega), ← hr]; exact (Int.natCast_emod t n).symm
      have hrI : (r : Int) < (n : Int) := by omega
      have hn0 : ¬ (n : Int) = 0 := by omega
      have hz := hx1 r
      have hgs := gap_step (e := e) (e' := fun i => if i = r then e i + 1 else e i) (m := μ) (n := n) (k := r) (fun i _ => rfl)
      have hgl := gap_le (e := e) (m := μ) (n := n) (fun i _ => by have := hx1 i; omega)
      have hmn : mn n n = n := by unfold mn; split <;> rfl
      have hg1 := fun w2 (hb : Below wr.heap.size wr w2) => gap_any (some ⟨g, 0, none⟩) n k e (some ⟨g', 0, none⟩) n k' μ w2 (Q.out.below hb).sf (Q'.out.below hb).sf (by omega)
      have hg2 := fun w2 (q1 : PV w2 3 g n (iF fun i => if i = r then e i + 1 else e i)) (q2 : PV w2 4 g' n (bF μ)) => gap_any (some ⟨g, 0, none⟩) n k (fun i => if i = r then e i + 1 else e i) (some ⟨g', 0, none⟩) n k' μ w2 q1.sf q2.sf (by omega)
      rw [hmn] at hg1 hg2
      rw [IntWalk.wrap64_in _ (by omega)] at hg1
      rw [IntWalk.wrap64_in _ (by omega)] at hg2
      have hgrow : Hid (∀ w2, PV w2 3 g n (iF e) → PV (w2.setCell ⟨g, r, none⟩ (.int .i64 (e r + 1))) 3 g n (iF fun i => if i = r then e i + 1 else e i)) := Lib.hid (fun w2 q => (q.set_ r _).congr fun j hj => by
        by_cases e1 : j = r
        · subst e1; simp [iF]
        · simp [iF, e1])
      generalize gapF e μ n = was at *
      generalize gapF (fun i => if i = r then e i + 1 else e i) μ n = now at *
      obtain ⟨Z, hZ⟩ : ∃ Z, e r = Z := ⟨_, rfl⟩
      rw [hZ] at hz hgrow
      replace hg1 := Lib.hid hg1
      replace hg2 := Lib.hid hg2
      obtain ⟨hs1, hs2, hs3, hs4⟩ := hgs
      have d1 : decide (0 ≤ was) = true := decide_eq_true hs1
      have d2 : decide (now ≤ was + 1) = true := decide_eq_true hs2
      have d3 : decide (was - 1 ≤ now) = true := decide_eq_true hs3
      have hc : ∀ w2 : World, PV w2 3 g n (iF e) → w2.cell? ⟨g, r, none⟩ = some (.int .i64 Z) := fun w2 q => (q.cell hrn).trans (by rw [← hZ]; rfl)
      have hc' : ∀ w2 : World, PV w2 4 g' n (bF μ) → w2.cell? ⟨g', r, none⟩ = some (.bool (μ r)) := fun w2 q => q.cell hrn
      replace hc := Lib.hid hc
      replace hc' := Lib.hid hc'
      replace hx1 := Lib.hid hx1
      clear hb hr hmn hZ
      go_wp2_with (first
        | (go_at_call 13; (with_reducible refine (hg1.out _ (Below.refl _ _)).mono ?_); rintro e3 w3 ⟨rfl, hb3⟩; have Q3 := Lib.hid (Q.out.below hb3); have Q3' := Lib.hid (Q'.out.below hb3); have hB3 := Lib.hid (below_trans hB.out hb3); have c0 := hc.out w3 Q3.out; have z0 := Q3.out.frozen r; clear hb3 hg1))
      have Q4 := hgrow.out w3 Q3.out
      have Q4' := Q3'.out.other (g' := g) (i := r) (.int .i64 (Z + 1)) (Ne.symm hgg)
      have hw1 := hC.out.below.size
      have hB4 := below_set (g := g) (i := r) hB3.out (by have := (hB.out).size; have := Below.size (by assumption : Below w.heap.size w w1); omega) (.int .i64 (Z + 1))
      generalize w3.setCell ⟨g, r, none⟩ (.int .i64 (Z + 1)) = w4 at *
      have hcg := Lib.hid (hg2.out w4 Q4 Q4')
      replace Q4' := Lib.hid Q4'
      replace hB4 := Lib.hid hB4
      clear hg2 c0 z0 Q3 Q3' hB3 hgrow hC Q Q' hB
      refine hcg.out.mono ?_
      rintro e5 w5 ⟨rfl, hb5⟩
      have c1 := hc'.out w5 (Q4'.out.below hb5)
      have hB5 := Lib.hid (below_trans hB4.out hb5)
      clear hb5 hcg hB4 Q4' Q4
      dsimp only
      cases hmu : μ r
      · rw [hmu] at c1 hs4
        obtain rfl : now = was := by rcases hs4 with h | h; cases h; exact h
        have d4 : (now == now) = true := by simp
        go_wp2_with fail
        go_ret
        exact ⟨rfl, hB5.out⟩
      · rw [hmu] at c1
        clear hs4
        go_wp2_with fail
        go_ret
        exact ⟨rfl, hB5.out⟩
end Go.Proofs.Ytoldfgnnmfaihaa.We
