/- ChipFails: the walk. -/
import Derived.Test.YtnndhbppgmnefaaDy
namespace Go.Proofs.Ytnndhbppgmnefaa
open Go.RowKit Go.Fl
set_option linter.unusedVariables false
set_option linter.unusedSimpArgs false
attribute [local go_sem ↓] Cl.quiet_after Cl.quiet_since
theorem lex6_29 : (Cl.opsAt 29 (Try.f6.body.getD .skip)).map (Region.lexB .any) = some true := by kernel_rfl
theorem Arr.fill {w : World} {g n i s : Nat} (h : Arr w g (fillN n i s)) (hi : i < n) : (∃ v, w.cell? ⟨g, i, none⟩ = some v) ∧ w.frozen? ⟨g, i, none⟩ = false ∧ Arr (w.setCell ⟨g, i, none⟩ (.int .u16 (s : Int))) g (fillN n (i + 1) s) := by
  refine ⟨⟨_, h.cell (i := i) (by rw [fillN_len]; exact hi)⟩, h.frozen i, ?_⟩
  have := h.set_ i s
  rw [fillN_step] at this
  exact this
theorem Arr.syms {w : World} {g n : Nat} {cs : List Nat} {F : Nat → Prop} (h : Arr w g cs) (hl : cs.length = n) (hc : ∀ x ∈ cs, x < 1024) (hg : ¬ F g) : Syms w F (some ⟨g, 0, none⟩) n n cs :=
  ⟨h.sl fun x hx => Nat.lt_trans (hc x hx) (by decide), fun a e => by injection e with e; subst e; exact ⟨h.lt, hg⟩, hl, Nat.le_refl _, hc⟩
set_option maxRecDepth 20000 in
set_option maxHeartbeats 8000000 in
theorem fails_law (B P W K : Int) (wB : (Lit.int .i64 B).wf = true) (wP : (Lit.int .i64 P).wf = true) (wW : (Lit.int .i64 W).wf = true) (wK : (Lit.int .i64 K).wf = true) (a1 : Int) (wa1 : (Lit.int .u16 a1).wf = true) (a2 : Int) (wa2 : (Lit.int .u16 a2).wf = true) (w : World) :
    Calls Try.prog 6 #[.agg #[.int .i64 B, .int .i64 P, .int .i64 W, .int .i64 K], .int .u16 a1, .int .u16 a2] w fun e w' => e = .returned (.bool true) ∧ Below w.heap.size w w' := by
  have ha1 := u16_range wa1
  have ha2 := u16_range wa2
  obtain ⟨kp, rfl⟩ : ∃ kp : Nat, a1 = (kp : Int) := ⟨a1.toNat, by omega⟩
  obtain ⟨sym, rfl⟩ : ∃ sym : Nat, a2 = (sym : Int) := ⟨a2.toNat, by omega⟩
  have hk65 : kp < 65536 := by omega
  have hs65 : sym < 65536 := by omega
  clear wa1 wa2 ha1 ha2
  have hand : bits .and .u16 (sym : Int) 1023 = ((sym % 1024 : Nat) : Int) := by rw [and1023 _ (by omega) (by omega)]; simp
  obtain ⟨s, hs⟩ : ∃ s, sym % 1024 = s := ⟨_, rfl⟩
  have hs1 : s < 1024 := by omega
  rw [hs] at hand
  replace hs := Lib.hid hs
  have haw := Lib.hid awake_any
  have hA := below_alloc' w (.cells #[.int .i64 B, .int .i64 P, .int .i64 W, .int .i64 K] 24)
  have hx := Lib.hid (Ge.Box.new w B P W K)
  generalize hw1 : w.alloc (.cells #[.int .i64 B, .int .i64 P, .int .i64 W, .int .i64 K] 24) = w1 at *
  replace hA := Lib.hid hA
  clear wB wP wW wK
  cases hg : Ge.mayG B P W K
  · have cm := Lib.hid (Ge.refmay_lit hg)
    go_enter Try.func6, Try.ntmps6
    go_wp2_with (first
      | (go_at_call 8; (with_reducible refine (haw.out _).mono ?_); rintro e w2 ⟨rfl, hb2⟩; have hx2 := Lib.hid (hx.out.keep hb2); obtain ⟨_, c0, c1, c2, c3⟩ := hx2.out; have hB2 := Lib.hid (hA.out.trans (hb2.mono hA.out.size)); clear hb2)
      | (go_at_call 22; (with_reducible refine (cm.out _).mono ?_); rintro e w3 ⟨rfl, hb3⟩; have hx3 := Lib.hid (hx2.out.keep hb3); obtain ⟨_, c0, c1, c2, c3⟩ := hx3.out; have hB3 := Lib.hid (hB2.out.trans (hb3.mono hB2.out.size)); clear hb3))
    go_ret
    exact ⟨rfl, hB3.out⟩
  · obtain ⟨b, p, v, k, rfl, rfl, rfl, rfl⟩ := may_nat hg
    obtain ⟨n, hn⟩ : ∃ n, v * (k + 16) = n := ⟨_, rfl⟩
    obtain ⟨sm, hsm⟩ : ∃ sm, decide (b * p * n ≤ 20000) = sm := ⟨_, rfl⟩
    have cm := Lib.hid (Ge.refmay_lit hg)
    have cs := Lib.hid (small_any hg hn hsm)
    have hn3 : n ≤ 320 := by have := Ge.may_of hg; rw [← hn]; exact Nat.mul_le_mul (show v ≤ 4 by omega) (show k + 16 ≤ 80 by omega)
    have hn0 : 0 < n := by have := Ge.may_of hg; rw [← hn]; exact Nat.lt_of_lt_of_le (by decide) (Nat.mul_le_mul (show 1 ≤ v by omega) (show 17 ≤ k + 16 by omega))
    clear hsm
    replace hn := Lib.hid hn
    cases sm
    · go_enter Try.func6, Try.ntmps6
      go_wp2_with (first
        | (go_at_call 8; (with_reducible refine (haw.out _).mono ?_); rintro e w2 ⟨rfl, hb2⟩; have hx2 := Lib.hid (hx.out.keep hb2); obtain ⟨_, c0, c1, c2, c3⟩ := hx2.out; have hB2 := Lib.hid (hA.out.trans (hb2.mono hA.out.size)); clear hb2)
        | (go_at_call 22; (with_reducible refine (cm.out _).mono ?_); rintro e w3 ⟨rfl, hb3⟩; have hx3 := Lib.hid (hx2.out.keep hb3); obtain ⟨_, c0, c1, c2, c3⟩ := hx3.out; have hB3 := Lib.hid (hB2.out.trans (hb3.mono hB2.out.size)); clear hb3)
        | (go_at_call 23; (with_reducible refine (cs.out _).mono ?_); rintro e w4 ⟨rfl, hb4⟩; have hB4 := Lib.hid (hB3.out.trans (hb4.mono hB3.out.size)); clear hb4))
      go_ret
      exact ⟨rfl, hB4.out⟩
    · have hce : Ge.celG (b : Int) (p : Int) (v : Int) (k : Int) = (n : Int) := by
        unfold Ge.celG
        rw [if_pos hg, ← hn.out]
        simp
      have cc := Lib.hid (Ge.refcells_lit hce)
      clear hce
      have hb32 := Lib.hid (Ge.may_of hg)
      obtain ⟨u1, u2, u3, u4, _⟩ := hb32.out
      obtain ⟨v1, v2⟩ : 1 ≤ v ∧ v ≤ 4 := by have := hb32.out; omega
      go_enter Try.func6, Try.ntmps6
      go_wp2_with (first
        | (go_at_call 8; (with_reducible refine (haw.out _).mono ?_); rintro e w2 ⟨rfl, hb2⟩; have hx2 := Lib.hid (hx.out.keep hb2); obtain ⟨_, c0, c1, c2, c3⟩ := hx2.out; have hB2 := Lib.hid (hA.out.trans (hb2.mono hA.out.size)); clear hb2)
        | (go_at_call 22; (with_reducible refine (cm.out _).mono ?_); rintro e w3 ⟨rfl, hb3⟩; have hx3 := Lib.hid (hx2.out.keep hb3); obtain ⟨_, c0, c1, c2, c3⟩ := hx3.out; have hB3 := Lib.hid (hB2.out.trans (hb3.mono hB2.out.size)); clear hb3)
        | (go_at_call 23; (with_reducible refine (cs.out _).mono ?_); rintro e w4 ⟨rfl, hb4⟩; have hx4 := Lib.hid (hx3.out.keep hb4); obtain ⟨_, c0, c1, c2, c3⟩ := hx4.out; have hB4 := Lib.hid (hB3.out.trans (hb4.mono hB3.out.size)); clear hb4; clear hx2 hB2 hx3 hB3))
      have hmay := fts_may kp
      have hA5 := below_alloc' w4 (.cells #[.int .i64 1, .int .i64 1, .int .i64 (kp : Int), .int .i64 3, .int .i64 1, .int .i64 0] 26)
      have hts := Ft.S3.new w4 #[.int .i64 1, .int .i64 1, .int .i64 (kp : Int), .int .i64 3, .int .i64 1, .int .i64 0] (fts kp) 26 (fun i hi => by
        rcases (by have : i < 2 := hi; omega : i = 0 ∨ i = 1) with rfl | rfl <;> exact ⟨rfl, rfl, rfl⟩)
      have hx5 := Lib.hid (hx4.out.keep hA5)
      have hB5 := Lib.hid (hB4.out.trans (hA5.mono hB4.out.size))
      generalize w4.alloc (.cells #[.int .i64 1, .int .i64 1, .int .i64 (kp : Int), .int .i64 3, .int .i64 1, .int .i64 0] 26) = w5 at *
      refine (e_new (w := w5) b p v k rfl rfl rfl rfl hg (A := none) (bs := []) (n := 0) (c := 0) (Or.inl rfl) rfl (by decide) (by simp) (c2 := 2) hts rfl hmay (fun x hx => by
        unfold fts at hx
        simp only [List.mem_cons, List.not_mem_nil, or_false] at hx
        rcases hx with rfl | rfl
        · show (kp : Int) ≤ _; omega
        · show (0 : Int) ≤ _; decide)).mono ?_
      clear hA5 hts hx4 hB4
      rintro e w6 ⟨a, rfl, hb6, hE⟩
      have hx6 := Lib.hid (hx5.out.keep hb6)
      obtain ⟨_, c0, c1, c2, c3⟩ := hx6.out
      have hE : Hid (Env w5 (fun b' => w5.heap.size ≤ b') a (fd0 b p v k kp) w6) := Lib.hid hE
      clear hb6
      go_wp2_with (go_at_call 24; (with_reducible refine (cc.out _).mono ?_))
      rintro e w7 ⟨rfl, hb7⟩
      have hE7 := hE.out.below hb7
      have hmk := makeN w7 n (by omega)
      obtain ⟨hE8, hr8, _⟩ := hE7.syms (zN n) (zN_lt n) (zN_len n)
      have hsl5 := hE7.low.size
      clear hE hE7 hx6 hb7 c0 c1 c2 c3
      generalize hw8 : w7.alloc (.cells ((zN n).map uv).toArray 54) = w8 at *
      obtain ⟨sb, hsb⟩ : ∃ sb, w7.heap.size = sb := ⟨_, rfl⟩
      rw [hsb] at hE8 hr8 hmk hsl5
      obtain ⟨F, hF⟩ : ∃ F : Nat → Prop, (fun b' => w5.heap.size ≤ b' ∧ b' ≠ sb) = F := ⟨_, rfl⟩
      have hFs : ¬ F sb := by rw [← hF]; exact fun hh => hh.2 rfl
      rw [hF] at hE8
      replace hE8 := Lib.hid hE8
      rw [← fillN_zero n s] at hr8
      replace hr8 := Lib.hid hr8
      clear cm cs cc hF
      go_wp2_with fail
      clear hmk hw8
      go_loopw [10] (fun q' wr => ∃ i : Nat, i ≤ n ∧ q' = .int .i64 i ∧ Env w5 F a (fd0 b p v k kp) wr ∧ Arr wr sb (fillN n i s)) (fun q _ => n - (intOf q).toNat)
      case atStart => exact ⟨0, Nat.zero_le _, rfl, hE8.out, hr8.out⟩
      case round =>
        clear hE8 hr8
        obtain ⟨i, hi, rfl, hE, hR⟩ := hrel
        by_cases hin : i < n
        · have hiI : (i : Int) < (n : Int) := by omega
          have hdi : decide (i < n) = true := decide_eq_true hin
          obtain ⟨⟨v0, hv0⟩, hf0, hR1⟩ := hR.fill hin
          have hE1 := Lib.hid (hE.put (k := i) (v := .int .u16 (s : Int)) hFs hsl5)
          replace hR1 := Lib.hid hR1
          clear hE hR
          go_wp2_with fail
          go_roundw
          case rel => exact ⟨i + 1, by omega, by go_num, hE1.out, hR1.out⟩
          case measure => simp [intOf]; omega
        · obtain rfl : i = n := by omega
          have hdi : decide (i < i) = false := decide_eq_false (Nat.lt_irrefl _)
          clear hdi
          have hdi : decide (i < i) = false := decide_eq_false (Nat.lt_irrefl _)
          have hS := hR.syms (F := F) (fillN_len i i s) (fillN_lt i i s hs1) hFs
          obtain ⟨xs, hxs⟩ : ∃ xs, Hid (fillN i i s = xs) := ⟨_, Lib.hid rfl⟩
          rw [hxs.out] at hS
          have hxl : Hid (xs.length = v * (k + 16)) := by rw [← hxs.out, fillN_len, hn.out]; exact Lib.hid rfl
          have hnp : Hid (0 < v * (k + 16)) := by rw [hn.out]; exact Lib.hid hn0
          replace hS := Lib.hid hS
          replace hE := Lib.hid hE
          clear hR
          have fin : ∀ (M : Dev), M.ops < 100 → M.rf = 0 → M.er = (fun _ => 0) → Fine M := fun M h1 h2 h3 => ⟨by omega, by omega, fun b => by rw [h3]; show 0 < 1000000; decide⟩
          replace fin := Lib.hid fin
          go_wp2_with fail
          refine (e_program hE.out (fin.out _ (by show 0 < 100; decide) rfl rfl) 0 0 (by show 0 < b; omega) (by show 0 < p; omega) rfl rfl hS.out hn.out.symm (fs_1 b p v k kp xs)).mono ?_
          rintro e w10 ⟨rfl, hk10, hE10⟩
          have hS10 := Lib.hid (hS.out.keep hk10)
          replace hE10 := Lib.hid hE10
          clear hk10 hE hS
          go_wp2_with fail
          refine (e_program hE10.out (fin.out _ (by show 1 < 100; decide) rfl rfl) 0 1 (by show 0 < b; omega) (by show 1 < p; omega) rfl rfl hS10.out hn.out.symm (fs_2 b p v k kp xs hxl.out hnp.out)).mono ?_
          rintro e w11 ⟨rfl, hk11, hE11⟩
          have hS11 := Lib.hid (hS10.out.keep hk11)
          replace hE11 := Lib.hid hE11
          clear hk11 hE10 hS10
          go_wp2_with fail
          have hq3 : ((fd3 b p v k kp xs).pg 0 1).ps = progP (List.replicate (v * (k + 16)) (0, 0)) xs (min (kp : Int) (((v * (k + 16) : Nat) : Int) - (9 * v : Nat))) := rfl
          obtain ⟨ps, hps⟩ : ∃ ps, ((fd3 b p v k kp xs).pg 0 1).ps = ps := ⟨_, rfl⟩
          have hpl : ps.length = i := by rw [← hps, hq3, progP_len, List.length_replicate, hn.out]
          have h9 : Hid (∀ r, r < v → 9 ≤ zcW ps v r i) := fun r hr => by
            rw [← hn.out]
            refine zc_nine (K := k) (fun j h1 h2 => ?_) hr
            rw [← hps, hq3, prog_pt h2, if_neg]
            have e1 : v * (k + 16) = v * (k + 7) + 9 * v := by rw [show k + 16 = k + 7 + 9 from rfl, Nat.mul_add, Nat.mul_comm v 9]
            rw [e1]
            generalize v * (k + 7) = c at *
            omega
          have hne : ps ≠ [] := by intro e; rw [e] at hpl; simp at hpl; omega
          refine (e_sense hE11.out (fin.out _ (by show 2 < 100; decide) rfl rfl) 0 1 (by show 0 < b; omega) (by show 1 < p; omega) rfl rfl (fs_3 b p v k kp xs) (n := i) hn.out hps hne).mono ?_
          rintro e w12 ⟨gq, cq, rfl, hcq, hk12, _, hql, hE12, hqt⟩
          rw [hpl] at hqt
          have hS12 := Lib.hid ((hS11.out.keep hk12).less (G := fun b' => F b' ∧ b' ≠ gq) (fun b' hh => hh.1))
          have hx12 := hx5.out.keep hE12.low
          obtain ⟨_, c0, c1, c2, c3⟩ := hx12
          have hmk2 := run_make32i w12 v (by omega)
          have hA13 := below_alloc' w12 (.cells (zI v) 3)
          have z13 := World.size_alloc w12 (.cells (zI v) 3)
          have hN13 := Nums.new w12 v
          have hE13 := hE12.leave hA13 w12.heap.size (Nat.le_refl _) (by omega)
          have hS13 := (hS12.out.below hA13).less (G := fun b' => (F b' ∧ b' ≠ gq) ∧ b' ≠ w12.heap.size) (fun b' hh => hh.1)
          have hqt13 : ∀ j, j < i → IsP (w12.alloc (.cells (zI v) 3)) ⟨gq, j, none⟩ (ptAt ps j) := fun j hj => (hqt j hj).block (hA13.block gq hql)
          have hnl5 : w5.heap.size ≤ w12.heap.size := hE12.low.size
          have hsn0 : sb ≠ w12.heap.size := by have h1 : sb < w12.heap.size := (hS12.out.out _ rfl).1; omega
          have hgn : gq ≠ w12.heap.size := by omega
          have hx13 := (hx5.out.keep hE12.low).keep hA13
          have hql13 : gq < (w12.alloc (.cells (zI v) 3)).heap.size := by omega
          clear hA13 z13 hE12 hS12 hqt hk12 hE11 hS11 hps hq3
          generalize hw13 : w12.alloc (.cells (zI v) 3) = w13 at *
          replace hE13 := Lib.hid hE13
          replace hS13 := Lib.hid hS13
          replace hqt13 := Lib.hid hqt13
          replace hN13 : Hid (Nums w13 w12.heap.size v (fun r => zcW ps v r 0)) := Lib.hid hN13
          go_wp2_with fail
          clear hmk2 hw13 c0 c1 c2 c3
          obtain ⟨nb, hnb⟩ : ∃ nb, w12.heap.size = nb := ⟨_, rfl⟩
          rw [hnb] at hE13 hS13 hN13 hnl5 hgn ⊢
          obtain ⟨G, hG⟩ : ∃ G : Nat → Prop, (fun b' => (F b' ∧ b' ≠ gq) ∧ b' ≠ nb) = G := ⟨_, rfl⟩
          have hGn : ¬ G nb := by rw [← hG]; exact fun hh => hh.2 rfl
          have hGq : ¬ G gq := by rw [← hG]; exact fun hh => hh.1.2 rfl
          have hGs : ¬ G sb := by rw [← hG]; exact fun hh => hFs hh.1.1
          rw [hG] at hE13 hS13
          have hsn : sb ≠ nb := by rw [← hnb]; exact hsn0
          clear hG hnb hsn0
          go_loopw [16] (fun q' wr => ∃ j : Nat, j ≤ i ∧ q' = .int .i64 j ∧ Env w5 G a (fd3 b p v k kp xs) wr ∧ Syms wr G (some ⟨sb, 0, none⟩) i i xs ∧ Nums wr nb v (fun r => zcW ps v r j) ∧ gq < wr.heap.size ∧ ∀ t, t < i → IsP wr ⟨gq, t, none⟩ (ptAt ps t)) (fun q _ => i - (intOf q).toNat)
          case atStart => exact ⟨0, Nat.zero_le _, rfl, hE13.out, hS13.out, hN13.out, hql13, hqt13.out⟩
          case round =>
            clear hE13 hS13 hN13 hqt13 hql13
            obtain ⟨j, hj, rfl, hE, hS, hN, hgl, hpt⟩ := hrel
            by_cases hjn : j < i
            · have hjI : (j : Int) < (i : Int) := by omega
              have hdj : decide (j < i) = true := decide_eq_true hjn
              obtain ⟨x, y, hxy, hxx, hyy⟩ := hpt j hjn
              obtain ⟨q, hq⟩ : ∃ q, ptAt ps j = q := ⟨_, rfl⟩
              rw [hq] at hxx hyy
              obtain ⟨uu, vv⟩ := q
              dsimp only at hxx hyy
              have o1 := ord_eq_i hxx is_zero'
              have o2 := ord_eq_i hyy is_zero'
              replace hq := Lib.hid hq
              replace hpt := Lib.hid hpt
              clear hxx hyy
              by_cases hz : uu = 0 ∧ vv = 0
              · obtain ⟨hz1, hz2⟩ := hz
                rw [decide_eq_true hz1] at o1
                rw [decide_eq_true hz2] at o2
                have h00 : ptAt ps j = (0, 0) := by rw [hq.out, hz1, hz2]
                have hput := zc_put (W := v) h00
                clear hz1 hz2 h00
                obtain ⟨r, hrv, hr1, hr2⟩ := remN j v (by omega)
                have hre : j % v = r := by have : ((j % v : Nat) : Int) = (r : Int) := by rw [← hr1]; exact Int.natCast_emod _ _
                                           exact Int.ofNat.inj this
                rw [hre] at hput
                have c2 := (hx5.out.keep hE.low).c2
                have hrI : (r : Int) < (v : Int) := by omega
                have hvn : ¬ (v : Int) = 0 := fun e => by have : (1 : Int) ≤ 0 := by rw [← e]; exact Int.ofNat_le.2 v1
                                                          exact absurd this (by decide)
                have q1 := hN.at_ r hrv
                have hzl := zc_le ps v r j
                have f1 := hN.frozen r
                obtain ⟨Z, hZ⟩ : ∃ Z, zcW ps v r j = Z := ⟨_, rfl⟩
                have hN1 := hN.put hrv (zcW ps v r j + 1)
                rw [hput] at hN1
                simp only [hZ] at q1 hzl hN1
                rw [show ((Z + 1 : Nat) : Int) = (Z : Int) + 1 from by simp] at hN1
                have hE1 := Lib.hid (hE.put (k := r) (v := .int .i64 ((Z : Int) + 1)) hGn hnl5)
                have hS1 := Lib.hid (hS.put (g := nb) (k := r) (v := .int .i64 ((Z : Int) + 1)) (fun a e => by injection e with e; subst e; exact hsn))
                have hp1 : Hid (∀ t, t < i → IsP (wr.setCell ⟨nb, r, none⟩ (.int .i64 ((Z : Int) + 1))) ⟨gq, t, none⟩ (ptAt ps t)) := fun t ht => (hpt.out t ht).block (Below.heap_setCell _ _ _ _ (by show gq ≠ nb; exact hgn))
                have hg1 : Hid (gq < (wr.setCell ⟨nb, r, none⟩ (.int .i64 ((Z : Int) + 1))).heap.size) := by simp [World.setCell]; exact Lib.hid hgl
                replace hN1 := Lib.hid hN1
                replace hr1 := hr1
                clear hput hre hN hZ hE hS hpt hq
                go_wp2_with fail
                go_roundw
                case rel => exact ⟨j + 1, by omega, by go_num, hE1.out, hS1.out, hN1.out, hg1.out, hp1.out⟩
                case measure => simp [intOf]; omega
              · have hsame : (fun r => zcW ps v r j) = fun r => zcW ps v r (j + 1) := zc_same (by rw [hq.out]; intro e; injection e with e1 e2; exact hz ⟨e1, e2⟩)
                rw [hsame] at hN
                replace hN := Lib.hid hN
                replace hE := Lib.hid hE
                replace hS := Lib.hid hS
                clear hsame hq
                by_cases hz1 : uu = 0
                · rw [decide_eq_true hz1] at o1
                  rw [decide_eq_false (fun e => hz ⟨hz1, e⟩)] at o2
                  clear hz hz1
                  go_wp2_with fail
                  go_roundw
                  case rel => exact ⟨j + 1, by omega, by go_num, hE.out, hS.out, hN.out, hgl, hpt.out⟩
                  case measure => simp [intOf]; omega
                · rw [decide_eq_false hz1] at o1
                  clear hz hz1
                  go_wp2_with fail
                  go_roundw
                  case rel => exact ⟨j + 1, by omega, by go_num, hE.out, hS.out, hN.out, hgl, hpt.out⟩
                  case measure => simp [intOf]; omega
            · obtain rfl : j = i := by omega
              have hdj : decide (j < j) = false := decide_eq_false (Nat.lt_irrefl _)
              replace hE := Lib.hid hE
              replace hS := Lib.hid hS
              replace hN := Lib.hid hN
              clear hpt hgl
              go_wp2_with fail
              obtain ⟨w14, hw14⟩ : ∃ w14, wr = w14 := ⟨_, rfl⟩
              rw [hw14] at hE hS hN ⊢
              clear hw14
              go_loopw [17] (fun q' wr => ∃ r : Nat, r ≤ v ∧ q' = .int .i64 r ∧ wr = w14) (fun q _ => v - (intOf q).toNat)
              case atStart => exact ⟨0, Nat.zero_le _, rfl, rfl⟩
              case round =>
                obtain ⟨r, hr, rfl, rfl⟩ := hrel
                have c2 := (hx5.out.keep hE.out.low).c2
                by_cases hrv : r < v
                · have hrI : (r : Int) < (v : Int) := by omega
                  have hdr : decide (r < v) = true := decide_eq_true hrv
                  have q1 := hN.out.at_ r hrv
                  have h9r := h9.out r hrv
                  have hzl := zc_le ps v r j
                  generalize zcW ps v r j = Z at *
                  have d9 : decide ((Z : Int) < 9) = false := decide_eq_false (by omega)
                  have d9b : decide (Z < 9) = false := decide_eq_false (by omega)
                  go_wp2_with fail
                  go_roundw
                  case rel => exact ⟨r + 1, by omega, by go_num, by first | rfl | trivial⟩
                  case measure => simp [intOf]; omega
                · obtain rfl : r = v := by omega
                  have hdr : decide (r < r) = false := decide_eq_false (Nat.lt_irrefl _)
                  clear hN h9
                  go_wp2_with fail
                  refine (e_erase hE.out (fin.out _ (by show 3 < 100; decide) rfl rfl) 0 (by show 0 < b; omega) rfl (fs_4 b p r k kp xs)).mono ?_
                  rintro e w15 ⟨rfl, hk15, hE15⟩
                  have hS15 := Lib.hid (hS.out.keep hk15)
                  replace hE15 := Lib.hid hE15
                  clear hk15 hE hS
                  go_wp2_with fail
                  refine (e_erase hE15.out (fin.out _ (by show 4 < 100; decide) rfl rfl) 0 (by show 0 < b; omega) rfl (fs_5 b p r k kp xs)).mono ?_
                  rintro e w16 ⟨rfl, hk16, hE16⟩
                  have hS16 := Lib.hid (hS15.out.keep hk16)
                  replace hE16 := Lib.hid hE16
                  clear hk16 hE15 hS15
                  go_wp2_with fail
                  refine (e_program hE16.out (fin.out _ (by show 5 < 100; decide) rfl rfl) 1 0 (by show 1 < b; omega) (by show 0 < p; omega) rfl rfl hS16.out hn.out.symm (fs_6 b p r k kp xs)).mono ?_
                  rintro e w17 ⟨rfl, hk17, hE17⟩
                  replace hE17 := Lib.hid hE17
                  clear hk17 hE16 hS16
                  go_wp2_with fail
                  have hq7 : ((fd7 b p r k kp xs).pg 0 0).ps = progP (List.replicate (r * (k + 16)) (0, 0)) xs (((r * (k + 16) : Nat) : Int)) := rfl
                  obtain ⟨qs, hqs⟩ : ∃ qs, ((fd7 b p r k kp xs).pg 0 0).ps = qs := ⟨_, rfl⟩
                  have hql7 : qs.length = j := by rw [← hqs, hq7, progP_len, List.length_replicate, hn.out]
                  have hne7 : qs ≠ [] := by intro e; rw [e] at hql7; simp at hql7; omega
                  have hq0 : ptAt qs 0 = pt s := by
                    rw [← hqs, hq7, prog_pt (by rw [hn.out]; exact hn0), if_pos (by rw [hn.out]; omega), ← hxs.out, fillN_at j j s 0 hn0 hn0]
                  refine (e_sense hE17.out (fin.out _ (by show 6 < 100; decide) rfl rfl) 0 0 (by show 0 < b; omega) (by show 0 < p; omega) rfl rfl (fs_7 b p r k kp xs) (n := j) hn.out hqs hne7).mono ?_
                  rintro e w18 ⟨g7, c7, rfl, hc7, _, _, hgl7, hE18, hpt7⟩
                  obtain ⟨x, y, hxy, hxx, hyy⟩ := hpt7 0 (by rw [hql7]; exact hn0)
                  rw [hq0] at hxx hyy
                  have hof := Lib.hid (fun w => refof_any (sym : Int) w (by omega) (by omega))
                  have hs2 := hs.out
                  have o1 : (FloatKind.f64.format.order x (L ((sym : Int) / 32)) == some .eq) = true := by
                    rw [ord_eq_i hxx (L_is ((sym : Int) / 32))]
                    refine decide_eq_true ?_
                    show 2 * ((s : Int) / 32 % 32) - 31 = _
                    omega
                  have o2 : (FloatKind.f64.format.order y (L (sym : Int)) == some .eq) = true := by
                    rw [ord_eq_i hyy (L_is (sym : Int))]
                    refine decide_eq_true ?_
                    show 2 * ((s : Int) % 32) - 31 = _
                    omega
                  have kq := fun z : Cl.After w18.heap.size w18 => (z.below.cell (p := ⟨g7, 0, none⟩) hgl7).trans hxy
                  have cb0 := Lib.hid (fun z : Cl.After w18.heap.size w18 => e_broken (hE18.below z.below) 0 (by show 0 < b; omega) (bI := 0) rfl (r := true) rfl)
                  have cb1 := Lib.hid (fun z : Cl.After w18.heap.size w18 => e_broken (hE18.below z.below) 1 (by show 1 < b; omega) (bI := 1) rfl (r := false) rfl)
                  have crf := Lib.hid (fun z : Cl.After w18.heap.size w18 => e_refused (hE18.below z.below) (r := 0) rfl)
                  have hlow := Lib.hid (hB5.out.trans (hE18.low.mono hB5.out.size))
                  have hjI0 : (0 : Int) < (j : Int) := by omega
                  clear hxx hyy hxy hpt7 hqs hq7 hq0 hE18 hE17 hne7 hs2
                  generalize L ((sym : Int) / 32) = L1 at *
                  generalize L (sym : Int) = L2 at *
                  go_wp2_with fail
                  refine Cl.region_after_at w18.heap.size (by kernel_rfl) lex6_29 (by kernel_rfl) ?_
                  try simp only [List.append]
                  repeat (go_big_quiet_step (first
                    | (go_at_call 25; with_reducible exact Cl.after_same (hof.out _))
                    | (go_at_call 18; first | with_reducible exact ans_aft (Nat.le_refl _) (cb0.out _) | with_reducible exact ans_aft (Nat.le_refl _) (cb1.out _))
                    | (go_at_call 17; with_reducible exact ans_aft (Nat.le_refl _) (crf.out _))))
                  refine wpQuiet_nil ?_
                  rintro _ ⟨z, rfl⟩
                  go_wp2
                  go_ret
                  exact ⟨rfl, hlow.out.trans (z.below.mono hlow.out.size)⟩
end Go.Proofs.Ytnndhbppgmnefaa
