/- scan.Block, as the program has it: what lies on a block of a chip. · scan.Block where there is no block, no chip; ALL THAT scan ANSWERS. -/
import Derived.Test.YtjhoecfhmndcgaaGreatV46
import Derived.Test.YtjhoecfhmndcgaaGreatV07
namespace Go.Proofs.YtjhoecfhmndcgaaGreat.So
open Go.RowKit Go.Sort Go.Gf Go.Fl Go.Proofs.YtjhoecfhmndcgaaGreat.Sc
set_option linter.unusedVariables false
set_option linter.unusedSimpArgs false
set_option maxRecDepth 20000
attribute [local go_sem ↓] exec_load_tb
attribute [local go_sem] tbAt_ptr tbIn_ptr
theorem found_new (w : World) (Z : Int) (k l q n : Nat) : ∀ j, j < 5 → (w.alloc (.cells #[.int .i64 Z, .int .i64 (k : Int), .int .i64 (l : Int), .int .i64 (q : Int), .int .i64 (n : Int)] 29)).cell? ⟨w.heap.size, j, none⟩ = some (fC ⟨Z, k, l, q, n⟩ j) := fun j hj => by
  rw [We.cell_new]
  rcases (by omega : j = 0 ∨ j = 1 ∨ j = 2 ∨ j = 3 ∨ j = 4) with rfl | rfl | rfl | rfl | rfl <;> rfl
set_option maxHeartbeats 8000000 in
theorem block_any {w0 w : World} {F : Nat → Prop} {a : Addr} {M : Dev} {cs : List Nat} (h : Env w0 F a M w) (hf : Fine M) (hT : Tab cs) (hd : M.dark = false) (hops : M.ops + M.P < 1000000000) (b : Nat) (hb : b < M.B) (κ : Nat → Kd)
    (hκ : ∀ p, p < M.P → KdIs M.B M.P M.W M.K (M.pg b p).ps (κ p)) (hft : ∀ p, p < M.P → (fateOf { M with ops := M.ops + p }).2.1 ≠ 2) (bI : Int) (e1 : bI = (b : Int)) :
    Calls Tryz.prog 19 #[.agg (cells cs), .pointer (some a), .int .i64 bI] w fun e w' => ∃ A c, e = .returned (.tuple #[.agg #[.slice A (fdL κ b M.P M.P).length c, .int .i64 (usN κ M.P : Int), .int .i64 (trN κ M.P : Int)], .int .i64 0]) ∧
      Cl.Keeps (fun q => ¬ F q) w w' ∧ Env w0 (fun q => F q ∧ ∀ a', A = some a' → q ≠ a'.block) a { M with ops := M.ops + M.P } w' ∧ FS w' w'.heap.size A (fdL κ b M.P M.P) := by
  subst e1
  have hM := h.geo
  have hbd := Ge.may_of hM
  obtain ⟨w1, hw1⟩ : ∃ x, x = w.alloc (.cells (cells cs) 50) := ⟨_, rfl⟩
  obtain ⟨w2, hw2⟩ : ∃ x, x = w1.alloc (.cells #[.slice none 0 0, .int .i64 0, .int .i64 0] 54) := ⟨_, rfl⟩
  obtain ⟨w3, hw3⟩ : ∃ x, x = w2.alloc (.cells #[.slice none 0 0, .int .i64 0, .int .i64 0] 54) := ⟨_, rfl⟩
  have s1 : w1.heap.size = w.heap.size + 1 := by rw [hw1, World.size_alloc]
  have s2 : w2.heap.size = w.heap.size + 2 := by rw [hw2, World.size_alloc, s1]
  have s3 : w3.heap.size = w.heap.size + 3 := by rw [hw3, World.size_alloc, s2]
  have k1 : Below w.heap.size w w1 := by rw [hw1]; exact We.below_alloc w _
  have k2 : Below w1.heap.size w1 w2 := by rw [hw2]; exact We.below_alloc w1 _
  have k3 : Below w2.heap.size w2 w3 := by rw [hw3]; exact We.below_alloc w2 _
  have B3 : Bx w3 50 w.heap.size (cells cs) := ((by rw [hw1]; exact Bx.new w _ _ : Bx w1 50 w.heap.size (cells cs)).below k2).below k3
  have B6 : Bx w3 54 (w.heap.size + 1) #[.slice none 0 0, .int .i64 0, .int .i64 0] := (by have := Bx.new w1 54 #[.slice none 0 0, .int .i64 0, .int .i64 0]; rwa [← hw2, s1] at this : Bx w2 54 (w.heap.size + 1) #[.slice none 0 0, .int .i64 0, .int .i64 0]).below k3
  have B8 : Bx w3 54 (w.heap.size + 2) #[.slice none 0 0, .int .i64 0, .int .i64 0] := by have := Bx.new w2 54 #[.slice none 0 0, .int .i64 0, .int .i64 0]; rwa [← hw3, s2] at this
  have k03 : Below w.heap.size w w3 := We.below_trans (We.below_trans k1 k2) k3
  have h3 := h.below k03
  have hcg := Lib.hid (geo_any h3.dev)
  have hmx : max (1 : Int) (M.P : Int) = (M.P : Int) := by omega
  have hle : M.P ≤ 32 ∧ 0 < M.P ∧ b < 64 := by omega
  have hn6 : M.W * (M.K + 16) ≤ 1000000 ∧ 0 < M.W * (M.K + 16) := by
    have a1 : M.W ≤ 4 ∧ 1 ≤ M.W ∧ M.K ≤ 64 := by omega
    have a2 : M.W * (M.K + 16) ≤ 4 * 80 := Nat.mul_le_mul a1.1 (by omega)
    exact ⟨by omega, Nat.mul_pos a1.2.1 (by omega)⟩
  obtain ⟨N, hN⟩ : ∃ N, M.W * (M.K + 16) = N := ⟨_, rfl⟩
  rw [hN] at hn6
  have hN6 := Lib.hid hn6.1
  have hN0 := Lib.hid hn6.2
  replace hN := Lib.hid hN
  have hlen := Lib.hid (show ∀ p, p < M.P → (M.pg b p).ps.length = N from fun p hp => by
    obtain ⟨Ly, _, o, hd⟩ := h.dev
    rw [hd.len b hb p hp]
    exact hN.out)
  have H := Lib.hid h
  have hHB := Lib.hid (And.intro B3 (And.intro B6 B8))
  have hK03 := Lib.hid k03
  replace hf := Lib.hid hf
  replace hM := Lib.hid hM
  replace hT := Lib.hid hT
  replace hκ := Lib.hid hκ
  replace hft := Lib.hid hft
  replace hd := Lib.hid hd
  have hbB := Lib.hid hb
  have hS3 := Lib.hid s3
  have h00 := Lib.hid h.low.size
  have hlp := Lib.hid (fd_le κ b M.P)
  clear h h3 k1 k2 k3 k03 B3 B6 B8 hbd hn6 s1 s2 s3 hb
  go_enter Tryz.func19, Tryz.ntmps19
  go_wp2_with (go_at_call 39; rw [← hw1, ← hw2, ← hw3]; (with_reducible refine hcg.out.mono ?_); clear hcg; rintro e w4 ⟨rfl, hb4⟩)
  obtain ⟨wB, hwB⟩ : ∃ x, x = w4.alloc (.cells #[.int .i64 (M.B : Int), .int .i64 (M.P : Int), .int .i64 (M.W : Int), .int .i64 (M.K : Int)] 34) := ⟨_, rfl⟩
  rw [← hwB]
  have kB : Below w4.heap.size w4 wB := by rw [hwB]; exact We.below_alloc w4 _
  have sB : wB.heap.size = w4.heap.size + 1 := by rw [hwB, World.size_alloc]
  have s43 : w.heap.size + 3 ≤ w4.heap.size := by rw [← hS3.out]; exact hb4.size
  have k0B : Below w.heap.size w wB := We.below_trans (We.below_trans hK03.out hb4) kB
  have R0 := Lib.hid (show BR F M cs w wB w4.heap.size [w.heap.size, w.heap.size + 1, w.heap.size + 2, w4.heap.size] (fdL κ b M.P 0) (usN κ 0 : Int) (trN κ 0 : Int) none 0 wB from
    ⟨(hHB.out.1.below hb4).below kB, (hHB.out.2.1.below hb4).below kB, (hHB.out.2.2.below hb4).below kB, by rw [hwB]; exact Bx.new w4 _ _, by simp, by simp, by simp, by simp, (fun a' e => by cases e), OwnF.nil _ _, Nat.le_refl _, by omega, by omega, Cl.Keeps.of_below k0B⟩)
  have E0 := Lib.hid (show Env w0 (Fr F [w.heap.size, w.heap.size + 1, w.heap.size + 2, w4.heap.size]) a { M with ops := M.ops + 0 } wB from
    env_leaves H.out (Cl.Keeps.of_below k0B) (k0B.mono h00.out) _ (fun s hs => by simp at hs; rcases hs with rfl | rfl | rfl | rfl <;> omega))
  generalize hgB : w4.heap.size = gB at *
  clear hb4 kB sB s43 k0B hHB hK03 hS3 hwB hw1 hw2 hw3 hgB
  go_loopw [23] (fun q wr => ∃ p : Nat, ∃ L A c, q = .int .i64 (p : Int) ∧ p ≤ M.P ∧ Hid (BR F M cs w wB gB L (fdL κ b M.P p) (usN κ p : Int) (trN κ p : Int) A c wr) ∧ Hid (Env w0 (Fr F L) a { M with ops := M.ops + p } wr)) (fun q _ => M.P - (intOf q).toNat)
  case atStart => exact ⟨0, _, none, 0, rfl, Nat.zero_le _, R0, E0⟩
  case round =>
    obtain ⟨p, L, A, c, rfl, hpP, R, E⟩ := hrel
    clear R0 E0
    by_cases hlt : p < M.P
    · have hltI : (p : Int) < (M.P : Int) := by omega
      have hp1 : wrap64 ((p : Int) + 1) = ((p + 1 : Nat) : Int) := by rw [IntWalk.wrap64_in _ (by omega)]; omega
      have hps := Lib.hid (hlen.out p hlt)
      have hs := Lib.hid (e_sense E.out ⟨show M.ops + p < 1000000000 by omega, hf.out.rf, hf.out.er⟩ b p hbB.out hlt (bI := (b : Int)) (pI := (p : Int)) rfl rfl (st_sense hd.out (hft.out p hlt)) (n := N) hN.out (ps := (M.pg b p).ps) rfl (fun e => by have := hps.out; rw [e] at this; have := hN0.out; simp at *; omega))
      have hkp := Lib.hid (hκ.out p hlt)
      have hq := hlp.out p
      have hqI : (trN κ p : Int) ≤ (p : Int) := by omega
      replace hq := Lib.hid hq
      cases hk : κ p with
      | blank =>
        rw [hk] at hkp
        replace hk := Lib.hid hk
        have hX := Lib.hid (fd_blank hk.out b M.P)
        go_wp2_with (first | (go_at_call 40; (with_reducible refine hs.out.mono ?_); clear hs; rintro e w5 ⟨g, c5, rfl, hnc, hk5, hg1, hg2, hE5, hpt⟩; have R5 := Lib.hid ((R.out.keep hk5).more g); have E5 := Lib.hid (env_cons hE5); obtain ⟨tI, tO⟩ := tb_is R5.out.b3 hT.out.1; have y0 := R5.out.b9.cell 0; have y1 := R5.out.b9.cell 1; have y2 := R5.out.b9.cell 2; have y3 := R5.out.b9.cell 3; have hr := Lib.hid (pg_read (c := c5) hT.out hM.out hps.out hN.out.symm hg2 hN6.out hpt hkp.out); clear hk5 hE5 hpt hnc) | (go_at_call 41; (with_reducible refine hr.out.mono ?_); clear hr tI tO y0 y1 y2 y3; rintro e w6 ⟨k, l, q, m, er, A', z, c', rfl, hb6, hR⟩; have hbm := We.below_alloc w6 (.cells #[.int .i64 k, .int .i64 l, .int .i64 q] 27); have R7 := Lib.hid ((R5.out.below hb6).below hbm); have E7 := Lib.hid ((E5.out.below hb6).below hbm); obtain rfl : er = 13 := hR; clear hbm hb6))
        go_roundw
        case rel => exact ⟨p + 1, g :: L, A, c, by first | rfl | rw [hp1] | go_num, by omega, by rw [hX.out.1, hX.out.2.1, hX.out.2.2]; exact R7, E7⟩
        case measure => (try rw [hp1]); simp [intOf]; omega
      | torn =>
        rw [hk] at hkp
        replace hk := Lib.hid hk
        have hX := Lib.hid (fd_torn hk.out b M.P)
        have ht1 : wrap64 ((trN κ p : Int) + 1) = (trN κ p : Int) + 1 := by rw [IntWalk.wrap64_in _ (by omega)]
        go_wp2_with (first | (go_at_call 40; (with_reducible refine hs.out.mono ?_); clear hs; rintro e w5 ⟨g, c5, rfl, hnc, hk5, hg1, hg2, hE5, hpt⟩; have R5 := Lib.hid ((R.out.keep hk5).more g); have E5 := Lib.hid (env_cons hE5); obtain ⟨tI, tO⟩ := tb_is R5.out.b3 hT.out.1; have y0 := R5.out.b9.cell 0; have y1 := R5.out.b9.cell 1; have y2 := R5.out.b9.cell 2; have y3 := R5.out.b9.cell 3; have hr := Lib.hid (pg_read (c := c5) hT.out hM.out hps.out hN.out.symm hg2 hN6.out hpt hkp.out); clear hk5 hE5 hpt hnc) | (go_at_call 41; (with_reducible refine hr.out.mono ?_); clear hr tI tO y0 y1 y2 y3; rintro e w6 ⟨k, l, q, m, er, A', z, c', rfl, hb6, hR⟩; have hbm := We.below_alloc w6 (.cells #[.int .i64 k, .int .i64 l, .int .i64 q] 27); have R7 := Lib.hid ((R5.out.below hb6).below hbm); have E7 := Lib.hid ((E5.out.below hb6).below hbm); have hR2 := Lib.hid hR; clear hR hbm hb6; have d13 : (er == 13) = false := (by simp; exact hR2.out.2); have d0 : (er != 0) = true := (by simp; exact hR2.out.1); have z0 := R7.out.b8.cell 0; have z1 := R7.out.b8.cell 1; have z2 := R7.out.b8.cell 2; have zf := R7.out.b8.frozen; have zz := Lib.hid (fun v : Value => (R7.out.b8.set_ 1 v).cell 2); have z2' := zz.out))
        have E9 := Lib.hid (env_put (i := 2) (v := .int .i64 ((trN κ p : Int) + 1)) (env_put (i := 1) (v := .int .i64 ((p : Int) + 1)) E7.out R7.out.m8 (by have := h00.out; omega)) R7.out.m8 (by have := h00.out; omega))
        have R9 := Lib.hid ((R7.out.put (u' := (p : Int) + 1) (t' := (trN κ p : Int)) 1 (.int .i64 ((p : Int) + 1)) rfl rfl).put (u' := (p : Int) + 1) (t' := (trN κ p : Int) + 1) 2 (.int .i64 ((trN κ p : Int) + 1)) rfl rfl)
        clear z0 z1 z2 zf zz z2' R7 E7
        go_roundw
        case rel =>
          refine ⟨p + 1, g :: L, A, c, by first | rfl | rw [hp1] | go_num, by omega, ?_, E9⟩
          rw [hX.out.1, hX.out.2.1, hX.out.2.2]
          exact R9
        case measure => (try rw [hp1]); simp [intOf]; omega
      | said k0 l0 q0 n0 =>
        rw [hk] at hkp
        replace hk := Lib.hid hk
        obtain ⟨Z, hZ⟩ : ∃ Z : Int, Z = ((b * M.P + p : Nat) : Int) := ⟨_, rfl⟩
        have hX := Lib.hid (fd_said hk.out b M.P)
        have hnum := Lib.hid (fun x : World => (show Calls Tryz.prog 42 #[.agg #[.int .i64 (M.B : Int), .int .i64 (M.P : Int), .int .i64 (M.W : Int), .int .i64 (M.K : Int)], .int .i64 (b : Int), .int .i64 (p : Int)] x (Ge.Ans x (.tuple #[.int .i64 Z, .bool true])) from by
          have hn := Ge.number_any (M.B : Int) (M.P : Int) (M.W : Int) (M.K : Int) (b : Int) (p : Int) x
          have hbb := hbB.out
          have hN1 : Ge.isN (M.B : Int) (M.P : Int) (M.W : Int) (M.K : Int) (b : Int) (p : Int) = true := by unfold Ge.isN; simp [hM.out]; omega
          have hN2 : Ge.numG (M.B : Int) (M.P : Int) (M.W : Int) (M.K : Int) (b : Int) (p : Int) = Z := by unfold Ge.numG; rw [hN1, hZ]; simp
          rwa [hN1, hN2] at hn))
        replace hZ := Lib.hid hZ
        have hl6 : Hid ((fdL κ b M.P p).length ≤ 1000000) := Lib.hid (by have := hq.out; omega)
        go_wp2_with (first
          | (go_at_call 40; (with_reducible refine hs.out.mono ?_); clear hs; rintro e w5 ⟨g, c5, rfl, hnc, hk5, hg1, hg2, hE5, hpt⟩; have R5 := Lib.hid ((R.out.keep hk5).more g); have E5 := Lib.hid (env_cons hE5); obtain ⟨tI, tO⟩ := tb_is R5.out.b3 hT.out.1; have y0 := R5.out.b9.cell 0; have y1 := R5.out.b9.cell 1; have y2 := R5.out.b9.cell 2; have y3 := R5.out.b9.cell 3; have hr := Lib.hid (pg_read (c := c5) hT.out hM.out hps.out hN.out.symm hg2 hN6.out hpt hkp.out); clear hk5 hE5 hpt hnc)
          | (go_at_call 41; (with_reducible refine hr.out.mono ?_); clear hr tI tO y0 y1 y2 y3; rintro e w6 ⟨k, l, q, m, er, A', z, c', rfl, hb6, hR⟩; have hbm := We.below_alloc w6 (.cells #[.int .i64 k, .int .i64 l, .int .i64 q] 27); have R7 := Lib.hid ((R5.out.below hb6).below hbm); have E7 := Lib.hid ((E5.out.below hb6).below hbm); obtain ⟨rfl, rfl, rfl, rfl, rfl⟩ := hR; have z0 := R7.out.b8.cell 0; have z1 := R7.out.b8.cell 1; have z2 := R7.out.b8.cell 2; have zf := R7.out.b8.frozen; have zz := Lib.hid (fun v : Value => (R7.out.b8.set_ 1 v).cell 2); have z2' := zz.out; have R9 := Lib.hid (R7.out.put (u' := (p : Int) + 1) (t' := (trN κ p : Int)) 1 (.int .i64 ((p : Int) + 1)) rfl rfl); have E9 := Lib.hid (env_put (i := 1) (v := .int .i64 ((p : Int) + 1)) E7.out R7.out.m8 (by have := h00.out; omega)); have MB6 := Bx.new w6 27 #[.int .i64 (k0 : Int), .int .i64 (l0 : Int), .int .i64 (q0 : Int)]; have MB7 := Lib.hid (MB6.keep (set_other (g := w.heap.size + 2) (i := 1) (.int .i64 ((p : Int) + 1)) (by have := R7.out.gl; have := R7.out.gs; have := R5.out.sz; have := hb6.size; omega))); have g0 := R9.out.b9.cell 0; have g1 := R9.out.b9.cell 1; have g2 := R9.out.b9.cell 2; have g3 := R9.out.b9.cell 3; clear hbm hb6 R7 E7 MB6 R5 E5)
          | (go_at_call 42; (with_reducible refine (hnum.out _).mono ?_); clear z0 z1 z2 zf zz z2' g0 g1 g2 g3; rintro e w8 ⟨rfl, hb8⟩; have R8 := Lib.hid (R9.out.below hb8); have E8 := Lib.hid (E9.out.below hb8); have MB := Lib.hid (MB7.out.below hb8); clear R9 E9 MB7 hb8; have v0 := R8.out.b8.cell 0; have m0 := MB.out.cell 0; have m1 := MB.out.cell 1; have m2 := MB.out.cell 2; have ha9 := We.below_alloc w8 (.cells #[.int .i64 Z, .int .i64 (k0 : Int), .int .i64 (l0 : Int), .int .i64 (q0 : Int), .int .i64 (n0 : Int)] 29); have R9 := Lib.hid (R8.out.below ha9); have E9 := Lib.hid (E8.out.below ha9); have hy := Lib.hid (found_new w8 Z k0 l0 q0 n0); clear R8 E8 ha9)
          | (refine app_fnd2 rfl (.tmp 65) (.tmp 70) rfl A (fdL κ b M.P p).length c (fdL κ b M.P p) rfl R9.out.own R9.out.sz w8.heap.size rfl ⟨Z, k0, l0, q0, n0⟩ hy.out hl6.out ?_; intro A2 c2 w' hO hK hA2; have hbx := R9.out.b8.keep (hK.block _ R9.out.b8.lt (fun a' e => (by have := (own_lt R9.out.own a' e).1; have := R9.out.gl; have := R9.out.gs; omega))); have x0 := hbx.cell 0; have xf := hbx.frozen; clear hbx v0 m0 m1 m2))
        have hl2 : (fdL κ b M.P p ++ [(⟨Z, k0, l0, q0, n0⟩ : Fnd)]).length = (fdL κ b M.P p).length + 1 := by simp
        rw [← hl2] at hO
        obtain ⟨L', R', E'⟩ := BR.app R9.out E9.out h00.out hO hK hA2
        rw [hl2] at R' E'
        clear x0 xf hO hK hA2 hl2 R9 E9 hy
        replace R' := Lib.hid R'
        replace E' := Lib.hid E'
        go_roundw
        case rel =>
          refine ⟨p + 1, L', A2, c2, by first | rfl | rw [hp1] | go_num, by omega, ?_, E'⟩
          rw [hX.out.1, hX.out.2.1, hX.out.2.2, ← hZ.out]
          exact R'
        case measure => (try rw [hp1]); simp [intOf]; omega
    · obtain rfl : p = M.P := by omega
      have hltI : ¬ ((M.P : Nat) : Int) < (M.P : Int) := by omega
      have z0 := R.out.b8.cell 0
      have z1 := R.out.b8.cell 1
      have z2 := R.out.b8.cell 2
      have y0 := R.out.b6.cell 0
      have y1 := R.out.b6.cell 1
      have y2 := R.out.b6.cell 2
      have yf := R.out.b6.frozen
      have ya := Lib.hid (fun v : Value => (R.out.b6.set_ 0 v).cell 1)
      have yb := Lib.hid (fun v v' : Value => ((R.out.b6.set_ 0 v).set_ 1 v').cell 2)
      have ya' := ya.out
      have yb' := yb.out
      have BX := Lib.hid (((R.out.b6.set_ 0 (.slice A (fdL κ b M.P M.P).length c)).set_ 1 (.int .i64 (usN κ M.P : Int))).set_ 2 (.int .i64 (trN κ M.P : Int)))
      have EX := Lib.hid (env_put (i := 2) (v := .int .i64 (trN κ M.P : Int)) (env_put (i := 1) (v := .int .i64 (usN κ M.P : Int)) (env_put (i := 0) (v := .slice A (fdL κ b M.P M.P).length c) E.out R.out.m6 (by have := h00.out; omega)) R.out.m6 (by have := h00.out; omega)) R.out.m6 (by have := h00.out; omega))
      have OX := Lib.hid (own_keepA (w' := ((wr.setCell ⟨w.heap.size + 1, 0, none⟩ (.slice A (fdL κ b M.P M.P).length c)).setCell ⟨w.heap.size + 1, 1, none⟩ (.int .i64 (usN κ M.P : Int))).setCell ⟨w.heap.size + 1, 2, none⟩ (.int .i64 (trN κ M.P : Int))) R.out.own (fun a' ea => by
        have h1 := (own_lt R.out.own a' ea).1
        have h2 := R.out.gl
        have h3 := R.out.gs
        rw [set_other _ (by omega), set_other _ (by omega), set_other _ (by omega)]))
      have KX := Lib.hid (show Cl.Keeps (fun q => ¬ F q) w (((wr.setCell ⟨w.heap.size + 1, 0, none⟩ (.slice A (fdL κ b M.P M.P).length c)).setCell ⟨w.heap.size + 1, 1, none⟩ (.int .i64 (usN κ M.P : Int))).setCell ⟨w.heap.size + 1, 2, none⟩ (.int .i64 (trN κ M.P : Int))) from
        ⟨R.out.kp.os, R.out.kp.tape, R.out.kp.output, by simp [World.setCell]; exact R.out.kp.size, fun x hx hq => by
          rw [set_other _ (by omega), set_other _ (by omega), set_other _ (by omega)]
          exact R.out.kp.block x hx hq⟩)
      go_wp2_with fail
      refine bodyPost_ret (results_sight rfl rfl BX.out) rfl ?_
      refine ⟨A, ⟨c, rfl⟩, KX.out, ?_, OwnF.fs OX.out⟩
      have hlt := own_lt OX.out
      refine env_sub EX.out (fun x hx => ⟨(EX.out.all x hx).1, fun a' ea e => ?_⟩) (fun x hx => H.out.own x hx.1) (fun x _ hx => ⟨hx.1, fun a' ea e => hx.2 (by rw [e]; exact R.out.mA a' ea)⟩)
      have := (hlt a' ea).2
      omega
end Go.Proofs.YtjhoecfhmndcgaaGreat.So
namespace Go.Proofs.YtjhoecfhmndcgaaGreat.So
open Go.RowKit Go.Sort Go.Gf Go.Fl Go.Proofs.YtjhoecfhmndcgaaGreat.Sc
set_option linter.unusedVariables false
set_option linter.unusedSimpArgs false
set_option maxRecDepth 20000
attribute [local go_sem ↓] exec_load_tb
attribute [local go_sem] tbAt_ptr tbIn_ptr
set_option maxHeartbeats 8000000 in
theorem out_any {w0 w : World} {F : Nat → Prop} {a : Addr} {M : Dev} {cs : List Nat} (h : Env w0 F a M w) (hf : Fine M) (hT : Tab cs) (hd : M.dark = false) (bI : Int) (hbI : ¬ (0 ≤ bI ∧ bI < (M.B : Int))) :
    Calls Tryz.prog 19 #[.agg (cells cs), .pointer (some a), .int .i64 bI] w fun e w' => e = .returned (.tuple #[.agg #[.slice none 0 0, .int .i64 0, .int .i64 0], .int .i64 1]) ∧ Cl.Keeps (fun q => ¬ F q) w w' ∧ Env w0 F a { M with ops := M.ops + 1, rf := M.rf + 1 } w' := by
  have hM := h.geo
  have hbd := Ge.may_of hM
  obtain ⟨w1, hw1⟩ : ∃ x, x = w.alloc (.cells (cells cs) 50) := ⟨_, rfl⟩
  obtain ⟨w2, hw2⟩ : ∃ x, x = w1.alloc (.cells #[.slice none 0 0, .int .i64 0, .int .i64 0] 54) := ⟨_, rfl⟩
  obtain ⟨w3, hw3⟩ : ∃ x, x = w2.alloc (.cells #[.slice none 0 0, .int .i64 0, .int .i64 0] 54) := ⟨_, rfl⟩
  have s1 : w1.heap.size = w.heap.size + 1 := by rw [hw1, World.size_alloc]
  have s2 : w2.heap.size = w.heap.size + 2 := by rw [hw2, World.size_alloc, s1]
  have s3 : w3.heap.size = w.heap.size + 3 := by rw [hw3, World.size_alloc, s2]
  have k1 : Below w.heap.size w w1 := by rw [hw1]; exact We.below_alloc w _
  have k2 : Below w1.heap.size w1 w2 := by rw [hw2]; exact We.below_alloc w1 _
  have k3 : Below w2.heap.size w2 w3 := by rw [hw3]; exact We.below_alloc w2 _
  have B3 : Bx w3 50 w.heap.size (cells cs) := ((by rw [hw1]; exact Bx.new w _ _ : Bx w1 50 w.heap.size (cells cs)).below k2).below k3
  have B6 : Bx w3 54 (w.heap.size + 1) #[.slice none 0 0, .int .i64 0, .int .i64 0] := (by have := Bx.new w1 54 #[.slice none 0 0, .int .i64 0, .int .i64 0]; rwa [← hw2, s1] at this : Bx w2 54 (w.heap.size + 1) #[.slice none 0 0, .int .i64 0, .int .i64 0]).below k3
  have B8 : Bx w3 54 (w.heap.size + 2) #[.slice none 0 0, .int .i64 0, .int .i64 0] := by have := Bx.new w2 54 #[.slice none 0 0, .int .i64 0, .int .i64 0]; rwa [← hw3, s2] at this
  have k03 : Below w.heap.size w w3 := We.below_trans (We.below_trans k1 k2) k3
  have h3 := h.below k03
  have hcg := Lib.hid (geo_any h3.dev)
  have hmx : max (1 : Int) (M.P : Int) = (M.P : Int) := by omega
  have hle : 0 < M.P := by omega
  have H := Lib.hid h
  have hHB := Lib.hid (And.intro B3 (And.intro B6 B8))
  have hK03 := Lib.hid k03
  replace hf := Lib.hid hf
  replace hM := Lib.hid hM
  replace hT := Lib.hid hT
  replace hd := Lib.hid hd
  have hS3 := Lib.hid s3
  have h00 := Lib.hid h.low.size
  clear h h3 k1 k2 k3 k03 B3 B6 B8 hbd s1 s2 s3
  go_enter Tryz.func19, Tryz.ntmps19
  go_wp2_with (go_at_call 39; rw [← hw1, ← hw2, ← hw3]; (with_reducible refine hcg.out.mono ?_); clear hcg; rintro e w4 ⟨rfl, hb4⟩)
  obtain ⟨wB, hwB⟩ : ∃ x, x = w4.alloc (.cells #[.int .i64 (M.B : Int), .int .i64 (M.P : Int), .int .i64 (M.W : Int), .int .i64 (M.K : Int)] 34) := ⟨_, rfl⟩
  rw [← hwB]
  have kB : Below w4.heap.size w4 wB := by rw [hwB]; exact We.below_alloc w4 _
  have sB : wB.heap.size = w4.heap.size + 1 := by rw [hwB, World.size_alloc]
  have s43 : w.heap.size + 3 ≤ w4.heap.size := by rw [← hS3.out]; exact hb4.size
  have k0B : Below w.heap.size w wB := We.below_trans (We.below_trans hK03.out hb4) kB
  have R0 := Lib.hid (show BR F M cs w wB w4.heap.size [w.heap.size, w.heap.size + 1, w.heap.size + 2, w4.heap.size] [] 0 0 none 0 wB from
    ⟨(hHB.out.1.below hb4).below kB, (hHB.out.2.1.below hb4).below kB, (hHB.out.2.2.below hb4).below kB, by rw [hwB]; exact Bx.new w4 _ _, by simp, by simp, by simp, by simp, (fun a' e => by cases e), OwnF.nil _ _, Nat.le_refl _, by omega, by omega, Cl.Keeps.of_below k0B⟩)
  have E0 := Lib.hid (show Env w0 (Fr F [w.heap.size, w.heap.size + 1, w.heap.size + 2, w4.heap.size]) a { M with ops := M.ops + 0 } wB from
    env_leaves H.out (Cl.Keeps.of_below k0B) (k0B.mono h00.out) _ (fun s hs => by simp at hs; rcases hs with rfl | rfl | rfl | rfl <;> omega))
  generalize hgB : w4.heap.size = gB at *
  clear hb4 kB sB s43 k0B hHB hK03 hS3 hwB hw1 hw2 hw3 hgB
  refine wp_loop_rounds 1 ?_
  rw [rounds_succ]
  have hltI : (0 : Int) < (M.P : Int) := by omega
  have hs := Lib.hid (e_sense_no E0.out ⟨hf.out.ops, hf.out.rf, hf.out.er⟩ bI 0 (fun hh => hbI ⟨hh.1, hh.2.1⟩) (sn_no hd.out))
  clear hbI
  go_wp2_with (go_at_call 40; (with_reducible refine hs.out.mono ?_); clear hs; rintro e w5 ⟨rfl, hk5, hE5⟩; have R5 := Lib.hid (R0.out.keep hk5); have E5 := Lib.hid hE5; have y0 := R5.out.b6.cell 0; have y1 := R5.out.b6.cell 1; have y2 := R5.out.b6.cell 2; have yf := R5.out.b6.frozen; have ya := Lib.hid (fun v : Value => (R5.out.b6.set_ 0 v).cell 1); have yb := Lib.hid (fun v v' : Value => ((R5.out.b6.set_ 0 v).set_ 1 v').cell 2); have ya' := ya.out; have yb' := yb.out; clear hk5 hE5)
  have BX := Lib.hid (((R5.out.b6.set_ 0 (.slice none 0 0)).set_ 1 (.int .i64 0)).set_ 2 (.int .i64 0))
  have EX := Lib.hid (env_put (i := 2) (v := .int .i64 0) (env_put (i := 1) (v := .int .i64 0) (env_put (i := 0) (v := .slice none 0 0) E5.out R5.out.m6 (by have := h00.out; omega)) R5.out.m6 (by have := h00.out; omega)) R5.out.m6 (by have := h00.out; omega))
  have KX := Lib.hid (show Cl.Keeps (fun q => ¬ F q) w (((w5.setCell ⟨w.heap.size + 1, 0, none⟩ (.slice none 0 0)).setCell ⟨w.heap.size + 1, 1, none⟩ (.int .i64 0)).setCell ⟨w.heap.size + 1, 2, none⟩ (.int .i64 0)) from
    ⟨R5.out.kp.os, R5.out.kp.tape, R5.out.kp.output, by simp [World.setCell]; exact R5.out.kp.size, fun x hx hq => by
      rw [set_other _ (by omega), set_other _ (by omega), set_other _ (by omega)]
      exact R5.out.kp.block x hx hq⟩)
  clear R5 E5 y0 y1 y2 yf ya yb ya' yb'
  refine bodyPost_ret (results_sight rfl rfl BX.out) rfl ?_
  refine ⟨rfl, KX.out, ?_⟩
  refine env_sub EX.out (fun x hx => (EX.out.all x hx).1) (fun x hx => H.out.own x hx) (fun x _ hx => hx.1)
set_option maxHeartbeats 8000000 in
theorem nobody_any {w : World} {cs : List Nat} (bI : Int) : Calls Tryz.prog 19 #[.agg (cells cs), .pointer none, .int .i64 bI] w (We.Ans w (.tuple #[.agg #[.slice none 0 0, .int .i64 0, .int .i64 0], .int .i64 1])) := by
  obtain ⟨w1, hw1⟩ : ∃ x, x = w.alloc (.cells (cells cs) 50) := ⟨_, rfl⟩
  obtain ⟨w2, hw2⟩ : ∃ x, x = w1.alloc (.cells #[.slice none 0 0, .int .i64 0, .int .i64 0] 54) := ⟨_, rfl⟩
  obtain ⟨w3, hw3⟩ : ∃ x, x = w2.alloc (.cells #[.slice none 0 0, .int .i64 0, .int .i64 0] 54) := ⟨_, rfl⟩
  have s1 : w1.heap.size = w.heap.size + 1 := by rw [hw1, World.size_alloc]
  have s2 : w2.heap.size = w.heap.size + 2 := by rw [hw2, World.size_alloc, s1]
  have s3 : w3.heap.size = w.heap.size + 3 := by rw [hw3, World.size_alloc, s2]
  have k1 : Below w.heap.size w w1 := by rw [hw1]; exact We.below_alloc w _
  have k2 : Below w1.heap.size w1 w2 := by rw [hw2]; exact We.below_alloc w1 _
  have k3 : Below w2.heap.size w2 w3 := by rw [hw3]; exact We.below_alloc w2 _
  have B3 : Bx w3 50 w.heap.size (cells cs) := ((by rw [hw1]; exact Bx.new w _ _ : Bx w1 50 w.heap.size (cells cs)).below k2).below k3
  have B6 : Bx w3 54 (w.heap.size + 1) #[.slice none 0 0, .int .i64 0, .int .i64 0] := (by have := Bx.new w1 54 #[.slice none 0 0, .int .i64 0, .int .i64 0]; rwa [← hw2, s1] at this : Bx w2 54 (w.heap.size + 1) #[.slice none 0 0, .int .i64 0, .int .i64 0]).below k3
  have B8 : Bx w3 54 (w.heap.size + 2) #[.slice none 0 0, .int .i64 0, .int .i64 0] := by have := Bx.new w2 54 #[.slice none 0 0, .int .i64 0, .int .i64 0]; rwa [← hw3, s2] at this
  have k03 : Below w.heap.size w w3 := We.below_trans (We.below_trans k1 k2) k3
  have hcg := fun x => Lib.hid (geo_nil x)
  have hs := fun x => Lib.hid (sense_nil x bI 0)
  have hmx : max (1 : Int) (0 : Int) = 1 := by decide
  have hB6 := Lib.hid B6
  have hK03 := Lib.hid k03
  have hS3 := Lib.hid s3
  clear k1 k2 k3 k03 B3 B6 B8 s1 s2 s3
  go_enter Tryz.func19, Tryz.ntmps19
  go_wp2_with (go_at_call 39; rw [← hw1, ← hw2, ← hw3]; (with_reducible refine (hcg _).out.mono ?_); clear hcg; rintro e w4 ⟨rfl, hb4⟩)
  have kB := We.below_alloc w4 (.cells #[.int .i64 0, .int .i64 0, .int .i64 0, .int .i64 0] 34)
  have b6 := Lib.hid ((hB6.out.below hb4).below kB)
  have k6 := Lib.hid (We.below_trans (We.below_trans hK03.out hb4) kB)
  have s6 := Lib.hid (show w.heap.size + 3 ≤ w4.heap.size by rw [← hS3.out]; exact hb4.size)
  clear hb4 kB hB6 hK03 hS3 hw1 hw2 hw3
  refine wp_loop_rounds 1 ?_
  rw [rounds_succ]
  go_wp2_with (go_at_call 40; (with_reducible refine (hs _).out.mono ?_); clear hs; rintro e w5 ⟨rfl, hb5⟩; have X5 := Lib.hid (b6.out.below hb5); have K5 := Lib.hid (We.below_trans k6.out hb5); have y0 := X5.out.cell 0; have y1 := X5.out.cell 1; have y2 := X5.out.cell 2; have yf := X5.out.frozen; have ya := Lib.hid (fun v : Value => (X5.out.set_ 0 v).cell 1); have yb := Lib.hid (fun v v' : Value => ((X5.out.set_ 0 v).set_ 1 v').cell 2); have ya' := ya.out; have yb' := yb.out; clear hb5)
  have BX := Lib.hid (((X5.out.set_ 0 (.slice none 0 0)).set_ 1 (.int .i64 0)).set_ 2 (.int .i64 0))
  have KX := Lib.hid (((K5.out.setCell (p := ⟨w.heap.size + 1, 0, none⟩) (Nat.le_succ _) (.slice none 0 0)).setCell (p := ⟨w.heap.size + 1, 1, none⟩) (Nat.le_succ _) (.int .i64 0)).setCell (p := ⟨w.heap.size + 1, 2, none⟩) (Nat.le_succ _) (.int .i64 0))
  clear X5 K5 y0 y1 y2 yf ya yb ya' yb'
  refine bodyPost_ret (results_sight rfl rfl BX.out) rfl ?_
  exact ⟨rfl, KX.out⟩
end Go.Proofs.YtjhoecfhmndcgaaGreat.So
namespace Go.Proofs.YtjhoecfhmndcgaaGreat.Sc
theorem the_scan : SC := ⟨fun h hf hT hd ho b hb κ hκ hft bI e => So.block_any h hf hT hd ho b hb κ hκ hft bI e, fun h hf hT hd bI hb => So.out_any h hf hT hd bI hb, fun bI => So.nobody_any bI, fun h hn hs => So.latest_any h hn hs, fun h hn hs h0 => So.greatest_any h hn hs h0⟩
end Go.Proofs.YtjhoecfhmndcgaaGreat.Sc
