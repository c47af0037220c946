/- ScanBlank walked, for whatever has scan's contracts. -/
import Derived.Test.YtjhoecfhmndcgaaGreatV45
import Derived.Deep.Cut
namespace Go.Proofs.YtjhoecfhmndcgaaGreat.Sc
open Go.RowKit Go.Gf Go.Fl
set_option linter.unusedVariables false
set_option linter.unusedSimpArgs false
set_option maxRecDepth 20000
attribute [local go_sem ↓] exec_load_tb Cl.quiet_since
attribute [local go_sem] tbAt_ptr tbIn_ptr
theorem prod_in {x y n : Nat} (hx : x ≤ 64) (hy : y ≤ 32) (hn : n ≤ 320) : wrap64 ((x : Int) * (y : Int) * (n : Int)) = ((x * y * n : Nat) : Int) := by
  have h1 : x * y ≤ 64 * 32 := Nat.mul_le_mul hx hy
  have h2 : x * y * n ≤ 64 * 32 * 320 := Nat.mul_le_mul h1 hn
  rw [← Int.natCast_mul, ← Int.natCast_mul]
  generalize x * y * n = z at *
  exact IntWalk.wrap64_in _ (by omega)
theorem prod_two {x y n : Nat} (hx : x ≤ 64) (hy : y ≤ 32) (hn : n ≤ 320) : wrap64 ((x : Int) * (y : Int)) = ((x * y : Nat) : Int) ∧ wrap64 (((x * y : Nat) : Int) * (n : Int)) = ((x * y * n : Nat) : Int) := by
  have h1 : x * y ≤ 64 * 32 := Nat.mul_le_mul hx hy
  have h2 : x * y * n ≤ 64 * 32 * 320 := Nat.mul_le_mul h1 hn
  rw [← Int.natCast_mul, ← Int.natCast_mul]
  generalize x * y * n = z at *
  generalize x * y = u at *
  exact ⟨IntWalk.wrap64_in _ (by omega), IntWalk.wrap64_in _ (by omega)⟩
theorem cells_in {W K : Nat} (h1 : 1 ≤ W) (h4 : W ≤ 4) (hK : K ≤ 64) : W * (K + 16) ≤ 320 ∧ 0 < W * (K + 16) :=
  ⟨(Nat.mul_le_mul h4 (show K + 16 ≤ 80 by omega) : W * (K + 16) ≤ 4 * 80), Nat.mul_pos h1 (by omega)⟩
theorem nz {x : Nat} (hx : 4 ≤ x) (y : Nat) : ¬ x = 0 ∧ ((x : Int) == 0) = false ∧ ¬ (x : Int) = 0 ∧ ¬ (y : Int) + 1 = 0 ∧ ((y : Int) + 1 == 0) = false := by
  refine ⟨by omega, by simp; omega, by omega, by omega, by simp; omega⟩
set_option maxHeartbeats 16000000 in
theorem blank_law (C : SC) (B P W K : Int) (N M : Nat) (hN : N < 256) (hM : M < 256) (w : World) :
    Calls Tryz.prog 4 #[.agg #[.int .i64 B, .int .i64 P, .int .i64 W, .int .i64 K], .int .u8 (N : Int), .int .u8 (M : Int)] w (We.Ans w (.bool true)) := by
  have bx := Lib.hid (G4.new w B P W K)
  have hb := Lib.hid (We.below_alloc w (.cells #[.int .i64 B, .int .i64 P, .int .i64 W, .int .i64 K] 34))
  have ha := Lib.hid (awake_any C (w.alloc (.cells #[.int .i64 B, .int .i64 P, .int .i64 W, .int .i64 K] 34)))
  have hr := fun w => Ge.refmay_any B P W K w
  have C' := Lib.hid C
  clear C
  go_enter Tryz.func4, Tryz.ntmps4
  go_wp2_with (go_at_call 8; (with_reducible refine ha.out.mono ?_); clear ha; rintro e w1 ⟨rfl, hb1⟩; have b1 := Lib.hid (bx.out.below hb1); replace hb1 := Lib.hid (We.below_trans hb.out hb1); clear bx hb)
  refine Cl.region_way (fun _ => True) 13 [(0, .r), (1, .c), (2, .r), (3, .r), (4, .r), (5, .r), (6, .r), (7, .r), (8, .r), (9, .r), (10, .c), (11, .r), (12, .r), (13, .z)] (by kernel_rfl) (by kernel_rfl) ?_
  intro w2 hk2
  have b2 := Lib.hid (b1.out.below hk2.below)
  have B2 := Lib.hid (We.below_trans hb1.out hk2.below)
  clear hk2 b1 hb1
  have t0 : ∀ z : Cl.Since (fun _ => True) w2, z.w.cell? ⟨w.heap.size, 0, none⟩ = some (.int .i64 B) := fun z => (b2.out.below z.keeps.below).c0
  have t1 : ∀ z : Cl.Since (fun _ => True) w2, z.w.cell? ⟨w.heap.size, 1, none⟩ = some (.int .i64 P) := fun z => (b2.out.below z.keeps.below).c1
  have t2 : ∀ z : Cl.Since (fun _ => True) w2, z.w.cell? ⟨w.heap.size, 2, none⟩ = some (.int .i64 W) := fun z => (b2.out.below z.keeps.below).c2
  have t3 : ∀ z : Cl.Since (fun _ => True) w2, z.w.cell? ⟨w.heap.size, 3, none⟩ = some (.int .i64 K) := fun z => (b2.out.below z.keeps.below).c3
  refine Cl.way_r rfl ?_
  go_big_quiet_step (fail)
  refine wpQuiet_nil ?_
  refine Cl.way_c rfl ?_
  have hc := Lib.hid (hr w2)
  clear t0 t1 t2 t3
  go_wp2_with (go_at_call 11; (with_reducible refine hc.out.mono ?_); clear hc; rintro e w3 ⟨rfl, hb3⟩)
  refine Cl.way_on (Cl.Keeps.of_below hb3) ?_
  have b3 := Lib.hid (b2.out.below hb3)
  have B3 := Lib.hid (We.below_trans B2.out hb3)
  clear hb3 b2 B2 hr
  have t0 : ∀ z : Cl.Since (fun _ => True) w3, z.w.cell? ⟨w.heap.size, 0, none⟩ = some (.int .i64 B) := fun z => (b3.out.below z.keeps.below).c0
  have t1 : ∀ z : Cl.Since (fun _ => True) w3, z.w.cell? ⟨w.heap.size, 1, none⟩ = some (.int .i64 P) := fun z => (b3.out.below z.keeps.below).c1
  have t2 : ∀ z : Cl.Since (fun _ => True) w3, z.w.cell? ⟨w.heap.size, 2, none⟩ = some (.int .i64 W) := fun z => (b3.out.below z.keeps.below).c2
  have t3 : ∀ z : Cl.Since (fun _ => True) w3, z.w.cell? ⟨w.heap.size, 3, none⟩ = some (.int .i64 K) := fun z => (b3.out.below z.keeps.below).c3
  cases hm : Ge.mayG B P W K
  · iterate 8 (with_reducible refine (no_implicit_lambda% (Cl.way_r rfl ?_)); go_big_quiet_step (fail); with_reducible refine (no_implicit_lambda% (wpQuiet_nil ?_)))
    refine Cl.way_c rfl ?_
    go_wp2_with fail
    refine Cl.way_on (Cl.Keeps.refl _ _) ?_
    iterate 2 (with_reducible refine (no_implicit_lambda% (Cl.way_r rfl ?_)); go_big_quiet_step (fail); with_reducible refine (no_implicit_lambda% (wpQuiet_nil ?_)))
    refine Cl.way_z rfl ?_
    clear t0 t1 t2 t3
    go_wp2_with fail
    refine Cl.Calm.normal ?_
    go_wp2_with fail
    go_ret
    exact ⟨rfl, B3.out⟩
  · obtain ⟨W', K', N', rfl, rfl, hN', hW1, hW4, hK1, hK64, h8', h256, hsg, hcg⟩ := mayG_of hm
    obtain ⟨x, y, rfl, rfl, hx1, hx2, hy1, hy2⟩ : ∃ x y : Nat, B = (x : Int) ∧ P = (y : Int) ∧ 4 ≤ x ∧ x ≤ 64 ∧ 2 ≤ y ∧ y ≤ 32 := by
      have h := Ge.may_of hm
      exact ⟨B.toNat, P.toNat, by omega, by omega, by omega, by omega, by omega, by omega⟩
    obtain ⟨n0, hn0⟩ : ∃ n0, W' * (K' + 16) = n0 := ⟨_, rfl⟩
    have hn1 : n0 ≤ 320 ∧ 0 < n0 := by rw [← hn0]; exact cells_in hW1 hW4 hK64
    have e3 := prod_in hx2 hy2 hn1.1
    obtain ⟨e1, e2⟩ := prod_two hx2 hy2 hn1.1
    replace hN' := Lib.hid hN'
    replace hn0 := Lib.hid hn0
    obtain ⟨Z, hZ⟩ : ∃ z, x * y * n0 = z := ⟨_, rfl⟩
    rw [hZ] at e3 e2
    clear hZ
    obtain ⟨XY, hXY⟩ : ∃ z, x * y = z := ⟨_, rfl⟩
    rw [hXY] at e1 e2
    clear hXY
    have hcel := fun w => Ge.refcells_any (x : Int) (y : Int) (W' : Int) (K' : Int) w
    rw [hcg, hn0.out] at hcel
    replace hcel := Lib.hid hcel
    iterate 8 (with_reducible refine (no_implicit_lambda% (Cl.way_r rfl ?_)); go_big_quiet_step (fail); with_reducible refine (no_implicit_lambda% (wpQuiet_nil ?_)))
    clear t0 t1 t2 t3
    refine Cl.way_c rfl ?_
    go_wp2_with (go_at_call 12; (with_reducible refine (hcel.out _).mono ?_); clear hcel; rintro e w4 ⟨rfl, hb4⟩)
    refine Cl.way_on (Cl.Keeps.of_below hb4) ?_
    have b4 := Lib.hid (b3.out.below hb4)
    have B4 := Lib.hid (We.below_trans B3.out hb4)
    clear hb4 b3 B3
    by_cases h6 : (6000 : Int) < (Z : Int)
    · have d1 : decide ((6000 : Int) < wrap64 ((x : Int) * (y : Int) * (n0 : Int))) = true := by rw [e3]; exact decide_eq_true h6
      have d2 : decide ((6000 : Int) < (Z : Int)) = true := decide_eq_true h6
      iterate 2 (with_reducible refine (no_implicit_lambda% (Cl.way_r rfl ?_)); go_big_quiet_step (fail); with_reducible refine (no_implicit_lambda% (wpQuiet_nil ?_)))
      refine Cl.way_z rfl ?_
      go_wp2_with fail
      refine Cl.Calm.normal ?_
      go_wp2_with fail
      go_ret
      exact ⟨rfl, B4.out⟩
    · have d1 : decide ((6000 : Int) < wrap64 ((x : Int) * (y : Int) * (n0 : Int))) = false := by rw [e3]; exact decide_eq_false h6
      have d2 : decide ((6000 : Int) < (Z : Int)) = false := decide_eq_false h6
      iterate 2 (with_reducible refine (no_implicit_lambda% (Cl.way_r rfl ?_)); go_big_quiet_step (fail); with_reducible refine (no_implicit_lambda% (wpQuiet_nil ?_)))
      refine Cl.way_z rfl ?_
      go_wp2_with fail
      refine Cl.Calm.normal ?_
      clear d1 d2 e1 e2 e3 h6
      have f5 : wrap64 ((y : Int) + 1) = (y : Int) + 1 := IntWalk.wrap64_in _ (by omega)
      obtain ⟨n1, n3, n5, n6, n7⟩ := nz hx1 y
      have hax : N % x < x := Nat.mod_lt _ (Nat.lt_of_lt_of_le (by decide) hx1)
      have hmy : M % (y + 1) < y + 1 := Nat.mod_lt _ (Nat.succ_pos y)
      have f1 : (N : Int).tmod (x : Int) = ((N % x : Nat) : Int) := rfl
      have f2 : (N : Int) % (x : Int) = ((N % x : Nat) : Int) := (Int.natCast_emod _ _).symm
      have f3 : (M : Int).tmod ((y : Int) + 1) = ((M % (y + 1) : Nat) : Int) := rfl
      have f4 : (M : Int) % ((y : Int) + 1) = ((M % (y + 1) : Nat) : Int) := (Int.natCast_emod _ _).symm
      obtain ⟨b, hb'⟩ : ∃ b, N % x = b := ⟨_, rfl⟩
      obtain ⟨n, hn'⟩ : ∃ n, M % (y + 1) = n := ⟨_, rfl⟩
      rw [hb'] at hax f1 f2
      rw [hn'] at hmy f3 f4
      clear hb' hn'
      have c0 := b4.out.c0
      have c1 := b4.out.c1
      have c2 := b4.out.c2
      have c3 := b4.out.c3
      have hnw := e_new (w := w4) x y W' K' (b := x) (p := y) (k := W') (l := K') rfl rfl rfl rfl hm (A := none) (bs := []) (n := 0) (c := 0) (Or.inl rfl) rfl (by decide) (by simp) (A2 := none) (ts := []) (n2 := 0) (c2 := 0) (Ft.S3.nil _ _ _) rfl (by decide) (by simp)
      rw [← dvP_zero x y W' K' b (pageL W' (sayL N' 1 3 0 (List.replicate (10 * (N' - 8) / 8) 0)))] at hnw
      replace hnw := Lib.hid hnw
      have hm' := Lib.hid hm
      clear hm hcg
      go_wp2_with (go_at_call 13; (with_reducible refine hnw.out.mono ?_); clear hnw; rintro e w5 ⟨a, rfl, hb5, E5⟩; have b5 := Lib.hid (b4.out.below hb5); have hgl := Lib.hid b4.out.lt; have hlo := Lib.hid B4.out.size; have B5 := Lib.hid (We.below_trans B4.out hb5); replace E5 := Lib.hid E5; clear c0 c1 c2 c3 b4 hb5)
      obtain ⟨D, hD⟩ : ∃ D, 10 * (N' - 8) / 8 = D := ⟨_, rfl⟩
      have hv : sayV N' 1 3 0 (List.replicate D 0) := ⟨by decide, by decide, by decide, by decide, by rw [List.length_replicate, hD], fun u hu => by rw [List.eq_of_mem_replicate hu]; decide⟩
      rw [hD] at E5 hsg
      have hsz := fun w => Ge.refsize_any (x : Int) (y : Int) (W' : Int) (K' : Int) w
      rw [hsg] at hsz
      replace hsz := Lib.hid hsz
      have hD6 : D ≤ 1000000 := by omega
      have hSl := (said_len hm'.out hN'.out hv).1
      have hSb := (said_len hm'.out hN'.out hv).2.1
      rw [hn0.out] at hSl
      obtain ⟨S, hS⟩ : ∃ S, pageL W' (sayL N' 1 3 0 (List.replicate D 0)) = S := ⟨_, rfl⟩
      have hmk := fun (w : World) (A : Option Addr) (hs : Sb w w.heap.size A (List.replicate D 0)) => make_page (n := D) (c := D) (kI := 1) (lI := 3) (qI := 0) hm'.out hN'.out hv rfl rfl rfl List.length_replicate hs hD6
      rw [hS] at E5 hSl hSb hmk
      replace hS := Lib.hid hS
      replace hv := Lib.hid hv
      replace hmk := Lib.hid hmk
      replace hSl := Lib.hid hSl
      replace hSb := Lib.hid hSb
      have hD6' := Lib.hid hD6
      clear hsg hD h8' h256 hD6 f1 f2
      refine Cl.region_way (fun _ => True) 11 [(0, .r), (1, .r), (2, .r), (3, .c), (4, .c), (5, .c), (6, .r), (7, .r), (8, .r), (9, .r), (10, .r)] (by kernel_rfl) (by kernel_rfl) ?_
      intro w6 hk6
      have b6 := Lib.hid (b5.out.below hk6.below)
      have E6 := Lib.hid (Env.below E5.out hk6.below)
      have B6 := Lib.hid (We.below_trans B5.out hk6.below)
      clear hk6 b5 E5 B5
      have t0 : ∀ z : Cl.Since (fun _ => True) w6, z.w.cell? ⟨w.heap.size, 0, none⟩ = some (.int .i64 (x : Int)) := fun z => (b6.out.below z.keeps.below).c0
      have t1 : ∀ z : Cl.Since (fun _ => True) w6, z.w.cell? ⟨w.heap.size, 1, none⟩ = some (.int .i64 (y : Int)) := fun z => (b6.out.below z.keeps.below).c1
      have t2 : ∀ z : Cl.Since (fun _ => True) w6, z.w.cell? ⟨w.heap.size, 2, none⟩ = some (.int .i64 (W' : Int)) := fun z => (b6.out.below z.keeps.below).c2
      have t3 : ∀ z : Cl.Since (fun _ => True) w6, z.w.cell? ⟨w.heap.size, 3, none⟩ = some (.int .i64 (K' : Int)) := fun z => (b6.out.below z.keeps.below).c3
      iterate 3 (refine Cl.way_r rfl ?_; go_big_quiet_step (fail); refine wpQuiet_nil ?_)
      clear t0 t1 t2 t3
      refine Cl.way_c rfl ?_
      go_wp2_with (go_at_call 15; (with_reducible refine (hsz.out _).mono ?_); clear hsz; rintro e w7 ⟨rfl, hb7⟩)
      refine Cl.way_on (Cl.Keeps.of_below hb7) ?_
      have b7 := Lib.hid (b6.out.below hb7)
      have E7 := Lib.hid (Env.below E6.out hb7)
      clear hb7 b6 E6 B6
      refine Cl.way_c rfl ?_
      have mk := make_u8 D hD6'.out w7
      go_wp2_with fail
      have hb8 := Ge.below_alloc w7 (.cells (madeCells #[.int .u8 0] D) 5)
      have b8 := Lib.hid (b7.out.below hb8)
      have E8 := Lib.hid (Env.below E7.out hb8)
      have hc := Lib.hid (hmk.out _ _ (sb_zeros w7 D))
      refine Cl.way_on (Cl.Keeps.of_below hb8) ?_
      clear mk hb8 E7 b7 hmk
      generalize w7.heap.size = g7 at *
      generalize w7.alloc (.cells (madeCells #[.int .u8 0] D) 5) = w8 at *
      refine Cl.way_c rfl ?_
      go_wp2_with (go_at_call 14; (with_reducible refine hc.out.mono ?_); clear hc; rintro e w9 ⟨v, rfl, ho, hb9⟩)
      refine Cl.way_on (Cl.Keeps.of_below hb9) ?_
      obtain ⟨g9, c9, rfl, hq1, hq2, E9, S9⟩ := own_syms E8.out ho hb9 (by intro e; have := hSl.out; rw [e] at this; have := hn1.2; simp at *; omega) hSb.out
      have b9 := Lib.hid (b8.out.below hb9)
      rw [hSl.out] at S9 ⊢
      replace E9 := Lib.hid E9
      replace S9 := Lib.hid S9
      clear ho hb9 E8 b8 hq1 hq2
      iterate 5 (refine Cl.way_r rfl ?_; go_big_quiet_step (fail); refine wpQuiet_nil ?_)
      refine Cl.way_end ?_
      have c1 := b9.out.c1
      go_wp2_with fail
      have hgF := Lib.hid (show ∀ q, (w4.heap.size ≤ q ∧ q ≠ g9) → w4.heap.size ≤ q from fun q h => h.1)
      clear c1 f3 f4 f5 n1 n3 n5 n6 n7 hN hM hW1 hW4 hK1 hK64 hx1 hy1
      replace hx2 := Lib.hid hx2
      replace hy2 := Lib.hid hy2
      replace hax := Lib.hid hax
      have hny := Lib.hid (Nat.le_of_lt_succ hmy)
      have hn32 : n ≤ 32 := Nat.le_trans hny.out hy2.out
      clear hmy
      replace hn1 := Lib.hid hn1
      go_loopw [13] (fun p wr => ∃ t : Nat, p = .int .i64 (t : Int) ∧ t ≤ n ∧ Hid (Env w4 (fun q => w4.heap.size ≤ q ∧ q ≠ g9) a (dvP x y W' K' b S t) wr) ∧ Hid (Syms wr (fun q => w4.heap.size ≤ q ∧ q ≠ g9) (some ⟨g9, 0, none⟩) n0 c9 S) ∧ Hid (G4 wr w.heap.size (x : Int) (y : Int) (W' : Int) (K' : Int))) (fun p _ => n - (intOf p).toNat)
      case atStart => exact ⟨0, rfl, Nat.zero_le _, E9, S9, b9⟩
      case round =>
        obtain ⟨t, rfl, ht', Er, Sr, br⟩ := hrel
        clear E9 S9 b9
        by_cases htn : t < n
        · have hty := Lib.hid (show t < y from Nat.lt_of_lt_of_le htn hny.out)
          have htI : (t : Int) < (n : Int) := by omega
          have d5 : decide ((t : Int) < (n : Int)) = true := decide_eq_true htI
          have ht1 : wrap64 ((t : Int) + 1) = ((t + 1 : Nat) : Int) := by rw [IntWalk.wrap64_in _ (by omega)]; omega
          have hc := Lib.hid (dv_program Er.out Sr.out hn0.out hn1.out.2 hax.out hty.out hy2.out (bI := (b : Int)) (pI := (t : Int)) rfl rfl)
          go_upto_region 13 with (go_at_call 16; (with_reducible refine hc.out.mono ?_); clear hc; rintro e w10 ⟨rfl, k10, E10⟩)
          have S10 := Lib.hid (Sr.out.keep k10)
          have b10 := Lib.hid (G4.out (w0 := w4) br.out k10 hgF.out hgl.out)
          replace E10 := Lib.hid E10
          clear Er Sr br k10
          go_wp2_with fail
          go_roundw
          case rel => exact ⟨t + 1, by first | rw [ht1] | go_num, by omega, E10, S10, b10⟩
          case measure => (try rw [ht1]); simp [intOf]; omega
        · obtain rfl : t = n := by omega
          have d5 : decide ((t : Int) < (t : Int)) = false := decide_eq_false (by omega)
          clear Sr
          have hz := zero27
          go_wp2_with (first
            | (go_at_call 17; (refine (make_any _).mono ?_); rintro e w10 ⟨cs, rfl, hl, hb10⟩; have hl' := Lib.hid hl; have E10 := Env.below Er.out hb10; have b10 := br.out.below hb10; have ht10 := Lib.hid (tb_start (cs := cs) E10); have b11 := Lib.hid (b10.below ht10.out.1); have ho := Lib.hid (e_ops (r := (t : Int)) ht10.out.2.1 rfl); clear Er br hb10 hl E10 b10)
            | (refine wpList_store_row rfl 50 _ _ rfl w10.heap.size (cells cs) rfl rfl 50 (cells ZT) (heap_alloc_new w10 _) (rsize hl'.out) (zsize hl'.out) (cells_one cs) ?_))
          clear hz
          obtain ⟨q1, E11, T11⟩ := ht10.out
          replace E11 := Lib.hid E11
          replace T11 := Lib.hid T11
          clear ht10 q1
          generalize w10.heap.size = g11 at *
          generalize (w10.alloc (Obj.cells (cells ZT) 50)).setRow g11 (cells cs) = w11 at *
          refine ho.out.mono ?_
          rintro e w12 ⟨rfl, hb12⟩
          have E12 := Lib.hid (Env.below E11.out hb12)
          have T12 := Lib.hid (T11.out.keep hb12)
          have b12 := Lib.hid (b11.out.below hb12)
          clear E11 T11 b11 hb12 ho
          obtain ⟨tI, tO⟩ := tb_is T12.out hl'.out.1
          have hT := Lib.hid hl'.out.tab
          have hE := E12.out
          rw [← hS.out] at hE
          have hc := dv_scan C'.out hE hT.out hm'.out hN'.out hv.out hax.out hy2.out hny.out (bI := (b : Int)) rfl
          rw [hS.out] at hc
          clear hE E12
          replace hc := Lib.hid hc
          have f18 : wrap64 (((t + y : Nat) : Int) - (t : Int)) = (y : Int) := by rw [show ((t + y : Nat) : Int) - (t : Int) = (y : Int) by omega]; exact IntWalk.wrap64_in _ (by have := hy2.out; omega)
          have f19 : wrap64 (((t : Int) + (y : Int)) - (t : Int)) = (y : Int) := by rw [show ((t : Int) + (y : Int)) - (t : Int) = (y : Int) by omega]; exact IntWalk.wrap64_in _ (by have := hy2.out; omega)
          have c1 := b12.out.c1
          clear hn32
          go_wp2_with (first
            | (go_at_call 19; (with_reducible refine hc.out.mono ?_); clear hc tI tO c1; rintro e w13 ⟨A, c13, rfl, k13, E13⟩; have T13 := tb_out T12.out k13 (fun h => h.2 rfl); have b13 := G4.out (w0 := w4) b12.out k13 (fun q h => h.1.1) hgl.out; have hbA := We.below_alloc w13 (.cells #[.slice A t c13, .int .i64 (t : Int), .int .i64 0] 54); have s14 := Lib.hid (Sc.S3.new w13 (.slice A t c13) (.int .i64 (t : Int)) (.int .i64 0)); have E14 := Lib.hid (Env.below E13 hbA); have T14 := Lib.hid (T13.keep hbA); have b14 := Lib.hid (b13.below hbA); have ho := Lib.hid (e_ops E14.out (r := ((t + y : Nat) : Int)) rfl); clear k13 E13 T12 b12 T13 b13 hbA)
            | (go_at_call 18; (with_reducible refine ho.out.mono ?_); rintro e w15 ⟨rfl, hb15⟩; have s15 := Lib.hid (s14.out.below hb15); have E15 := Lib.hid (Env.below E14.out hb15); have T15 := Lib.hid (T14.out.keep hb15); have b15 := Lib.hid (b14.out.below hb15); clear ho s14 E14 T14 b14 hb15; have c1 := b15.out.c1; have s0 := s15.out.c0; have s1 := s15.out.c1; have s2 := s15.out.c2; have he := Lib.hid (dv_erase E15.out (show t + y < 1000000 by have := hy2.out; have := hny.out; omega) hax.out (bI := (b : Int)) rfl))
            | (go_at_call 20; (with_reducible refine he.out.mono ?_); rintro e w16 ⟨rfl, k16, E16⟩; have T16 := Lib.hid (tb_out T15.out k16 (fun h => h.1.2 rfl)); have b16 := Lib.hid (G4.out (w0 := w4) b15.out k16 (fun q h => h.1.1.1) hgl.out); obtain ⟨tI, tO⟩ := tb_is T16.out hl'.out.1; have hd := Lib.hid (dv_scan0 C'.out E16 (show t + y + 1 < 1000000 by have := hy2.out; have := hny.out; omega) hT.out hax.out hy2.out (bI := (b : Int)) rfl); clear he c1 s0 s1 s2 s15 E15 T15 b15 k16 E16 f18 f19)
            | (go_at_call 19; (with_reducible refine hd.out.mono ?_); clear hd tI tO; rintro e w17 ⟨A2, c17, rfl, k17, E17⟩; have T17 := tb_out T16.out k17 (fun h => h.1.2 rfl); have b17 := G4.out (w0 := w4) b16.out k17 (fun q h => h.1.1.1) hgl.out; have hbA := We.below_alloc w17 (.cells #[.slice A2 0 c17, .int .i64 0, .int .i64 0] 54); have s18 := Lib.hid (Sc.S3.new w17 (.slice A2 0 c17) (.int .i64 0) (.int .i64 0)); have E18 := Lib.hid (E17.leave hbA w17.heap.size (Nat.le_refl _) s18.out.lt); have T18 := Lib.hid (T17.keep hbA); have b18 := Lib.hid (b17.below hbA); obtain ⟨tI, tO⟩ := tb_is T18.out hl'.out.1; have c0 := b18.out.c0; have hq := Lib.hid (C'.out.out E18.out (dvW_fine x y W' K' b S t (show t + y + 1 + y < 1000000 by have := hy2.out; have := hny.out; omega) (by decide)) hT.out rfl (x : Int) (fun h => by have h2 : (x : Int) < (x : Int) := h.2; omega)); clear k17 E17 T16 b16 T17 b17 hbA)
            | (go_at_call 19; (with_reducible refine hq.out.mono ?_); clear hq tI tO c0; rintro e w19 ⟨rfl, k19, E19⟩; have T19 := tb_out T18.out k19 (fun h => h.1.1.1.2 rfl); have s19 := s18.out.out k19 (fun h => h.2 rfl); have hbA := We.below_alloc w19 (.cells #[.slice none 0 0, .int .i64 0, .int .i64 0] 54); have s20 := Lib.hid (s19.below hbA); have B20 := Lib.hid (We.below_trans B4.out (Env.below E19 hbA).low); have T20 := Lib.hid (T19.keep hbA); obtain ⟨tI, tO⟩ := tb_is T20.out hl'.out.1; have hn := Lib.hid (fun w => C'.out.nobody (w := w) (cs := cs) 0); clear k19 E19 T18 T19 s19 s18 E18 b18 hbA)
            | (go_at_call 19; (with_reducible refine (hn.out _).mono ?_); clear hn tI tO; rintro e w21 ⟨rfl, hb21⟩; have hbA := We.below_alloc w21 (.cells #[.slice none 0 0, .int .i64 0, .int .i64 0] 54); have s22 := Lib.hid ((s20.out.below hb21).below hbA); have B22 := Lib.hid (We.below_trans (We.below_trans B20.out hb21) hbA); have s0 := s22.out.c0; have s1 := s22.out.c1; have s2 := s22.out.c2; clear s20 s22 B20 T20 hb21 hbA))
          go_ret
          exact ⟨rfl, B22.out⟩
end Go.Proofs.YtjhoecfhmndcgaaGreat.Sc
