/- PatrolVisits walked, for whatever is a patrol. -/
import Derived.Test.YtmmpcgmhcaianaaPtb
namespace Go.Proofs.Ytmmpcgmhcaianaa.Pt
open Go.RowKit Go.Proofs.Ytmmpcgmhcaianaa.Ge
set_option linter.unusedVariables false
set_option linter.unusedSimpArgs false
attribute [local go_sem ↓] Cl.quiet_since
/-- how often page j was visited in i calls -/
def cntF (n : Nat) : Nat → Nat → Nat
  | 0, _ => 0
  | i + 1, j => cntF n i j + (if i % n = j then 1 else 0)
theorem cnt_le (n : Nat) : ∀ i j, cntF n i j ≤ i
  | 0, _ => Nat.le_refl 0
  | i + 1, j => by
    unfold cntF
    have := cnt_le n i j
    split <;> omega
theorem cnt_q {n q r : Nat} (hr : r < n) : (n * q + r) / n = q ∧ (n * q + r) % n = r := by
  have h0 : 0 < n := by omega
  exact ⟨by rw [Nat.mul_add_div h0, Nat.div_eq_of_lt hr, Nat.add_zero], by rw [Nat.mul_add_mod, Nat.mod_eq_of_lt hr]⟩
theorem cnt_eq {n : Nat} (h0 : 0 < n) : ∀ i j, j < n → cntF n i j = i / n + (if j < i % n then 1 else 0)
  | 0, j, hj => by
    unfold cntF
    rw [Nat.zero_div, Nat.zero_mod, if_neg (by omega)]
  | i + 1, j, hj => by
    have ih := cnt_eq h0 i j hj
    unfold cntF
    rw [ih]
    have hr := Nat.mod_lt i h0
    have he := Nat.div_add_mod i n
    generalize i / n = q at *
    generalize i % n = r at *
    subst he
    by_cases h1 : r + 1 < n
    · obtain ⟨a1, a2⟩ := cnt_q (q := q) h1
      rw [show n * q + r + 1 = n * q + (r + 1) from rfl, a1, a2]
      by_cases e1 : r = j
      · rw [if_neg (by omega), if_pos e1, if_pos (by omega)]
      · by_cases e2 : j < r
        · rw [if_pos e2, if_neg e1, if_pos (by omega)]
        · rw [if_neg e2, if_neg e1, if_neg (by omega)]
    · obtain ⟨a1, a2⟩ := cnt_q (n := n) (q := q + 1) h0
      rw [Nat.add_zero] at a1 a2
      rw [show n * q + r + 1 = n * (q + 1) by rw [Nat.mul_add, Nat.mul_one]; omega, a1, a2, if_neg (Nat.not_lt_zero j)]
      by_cases e1 : r = j
      · rw [if_neg (by omega), if_pos e1]
      · rw [if_pos (by omega), if_neg e1]
theorem cnt_set (n i q j : Nat) (hq : i % n = q) (c : Nat) (hc : cntF n i q = c) : (if j = q then Value.int .i64 ((c + 1 : Nat) : Int) else We.iF (fun j => ((cntF n i j : Nat) : Int)) j) = We.iF (fun j => ((cntF n (i + 1) j : Nat) : Int)) j := by
  unfold We.iF
  show _ = Value.int .i64 ((cntF n i j + (if i % n = j then 1 else 0) : Nat) : Int)
  rw [hq]
  by_cases h : j = q
  · rw [if_pos h, h, hc, if_pos rfl]
  · rw [if_neg h, if_neg (fun e => h e.symm)]
    rfl
theorem rdN {x y n : Nat} {W K : Int} (hm : mayG (x : Int) (y : Int) W K = true) (hn : x * y = n) (k : Nat) : rdI (x : Int) (y : Int) W K k = ((k / n : Nat) : Int) := by
  unfold rdI
  rw [if_pos hm, ← Int.natCast_mul, hn, Int.natCast_ediv]
theorem cnt_cases {n : Nat} (h0 : 0 < n) (i : Nat) {j : Nat} (hj : j < n) : (cntF n i j = i / n ∨ cntF n i j = i / n + 1) ∧ (0 < j → cntF n i j ≤ cntF n i (j - 1)) := by
  rw [cnt_eq h0 i j hj]
  refine ⟨?_, fun h => ?_⟩
  · split
    · exact Or.inr rfl
    · exact Or.inl rfl
  · rw [cnt_eq h0 i (j - 1) (by omega)]
    generalize i / n = q
    generalize i % n = r
    split
    · rw [if_pos (by omega)]; omega
    · omega
theorem since_at {w : World} {T : TypeId} {g n j v : Nat} {f : Nat → Nat} (h : We.PV w T g n (We.iF fun j => ((f j : Nat) : Int))) (hj : j < n ∧ f j = v) (z : Cl.Since (fun _ => True) w) : z.w.cell? ⟨g, j, none⟩ = some (.int .i64 (v : Int)) := by
  have h1 := (h.below z.keeps.below).cell hj.1
  rw [h1]
  exact congrArg (fun v : Nat => some (Value.int .i64 (v : Int))) hj.2
section
variable {Q : World → Nat → Nat → Nat → Int → Int → Int → Int → Nat → Prop}
set_option maxRecDepth 20000 in
set_option maxHeartbeats 8000000 in
theorem visits_law (C : PC Q) (B P W K : Int) (N : Nat) (hN : N < 65536) (w : World) :
    Calls Try.prog 6 #[.agg #[.int .i64 B, .int .i64 P, .int .i64 W, .int .i64 K], .int .u16 (N : Int)] w (We.Ans w (.bool true)) := by
  have bx := Lib.hid (G4.new w B P W K)
  have hb := Lib.hid (We.below_alloc w (.cells #[.int .i64 B, .int .i64 P, .int .i64 W, .int .i64 K] 23))
  have ha := Lib.hid (awake_any C (w.alloc (.cells #[.int .i64 B, .int .i64 P, .int .i64 W, .int .i64 K] 23)))
  have hr := fun w => refmay_any B P W K w
  have hn := Lib.hid (fun w => C.new w B P W K)
  have C' := Lib.hid C
  clear C
  cases hm : mayG B P W K
  · rw [hm] at hr
    replace hr := Lib.hid hr
    go_enter Try.func6, Try.ntmps6
    go_wp2_with (go_at_call 7; (with_reducible refine ha.out.mono ?_); clear ha; rintro e w1 ⟨rfl, hb1⟩; have b1 := Lib.hid (bx.out.below hb1); obtain ⟨c0, c1, c2, c3⟩ := b1.out.cells; replace hb1 := Lib.hid (We.below_trans hb.out hb1))
    go_wp2_with (go_at_call 9; (with_reducible refine (hr.out _).mono ?_); clear hr; rintro e w2 ⟨rfl, hb2⟩; replace hb2 := Lib.hid (We.below_trans hb1.out hb2); clear c0 c1 c2 c3)
    go_ret
    exact ⟨rfl, hb2.out⟩
  · rw [hm] at hr
    replace hr := Lib.hid hr
    obtain ⟨x, y, rfl, rfl, hx1, hx2, hy1, hy2⟩ := may_nat hm
    have hm' := Lib.hid hm
    clear hm
    obtain ⟨f, hf⟩ : ∃ f, N % 600 = f := ⟨_, rfl⟩
    have hf5 : f < 600 := by rw [← hf]; exact Nat.mod_lt _ (by decide)
    have g1 : (N : Int).tmod 600 = (f : Int) := by rw [← hf]; rfl
    have g2 : (N : Int) % 600 = (f : Int) := by rw [← hf]; exact (Int.natCast_emod _ _).symm
    clear hf
    obtain ⟨n, hxy⟩ : ∃ n, x * y = n := ⟨_, rfl⟩
    have hn2 : 8 ≤ n ∧ n ≤ 2048 := by
      rw [← hxy]
      exact ⟨Nat.le_trans (by decide) (Nat.mul_le_mul hx1 hy1), Nat.le_trans (Nat.mul_le_mul hx2 hy2) (by decide)⟩
    have g3 : wrap64 ((x : Int) * (y : Int)) = (n : Int) := by rw [← Int.natCast_mul, hxy]; exact IntWalk.wrap64_in _ (by omega)
    have mk := Lib.hid (fun w => We.run_makeI w n (by omega))
    have hrd := Lib.hid (rdN hm'.out hxy f)
    replace hxy := Lib.hid hxy
    replace hn2 := Lib.hid hn2
    replace hx1 := Lib.hid hx1
    replace hx2 := Lib.hid hx2
    replace hy1 := Lib.hid hy1
    replace hy2 := Lib.hid hy2
    replace hf5 := Lib.hid hf5
    by_cases hbig : (200 : Int) < (n : Int)
    · have d0 : decide ((200 : Int) < (n : Int)) = true := decide_eq_true hbig
      have d0w : decide ((200 : Int) < wrap64 ((x : Int) * (y : Int))) = true := by rw [g3]; exact d0
      clear hbig
      go_enter Try.func6, Try.ntmps6
      go_wp2_with (go_at_call 7; (with_reducible refine ha.out.mono ?_); clear ha; rintro e w1 ⟨rfl, hb1⟩; have b1 := Lib.hid (bx.out.below hb1); obtain ⟨c0, c1, c2, c3⟩ := b1.out.cells; replace hb1 := Lib.hid (We.below_trans hb.out hb1); clear bx hb)
      go_wp2_with (go_at_call 9; (with_reducible refine (hr.out _).mono ?_); clear hr; rintro e w2 ⟨rfl, hb2⟩; have b2 := Lib.hid (b1.out.below hb2); clear c0 c1 c2 c3; obtain ⟨c0, c1, c2, c3⟩ := b2.out.cells; replace hb2 := Lib.hid (We.below_trans hb1.out hb2); clear b1 hb1)
      go_ret
      exact ⟨rfl, hb2.out⟩
    have d0 : decide ((200 : Int) < (n : Int)) = false := decide_eq_false hbig
    have d0w : decide ((200 : Int) < wrap64 ((x : Int) * (y : Int))) = false := by rw [g3]; exact d0
    clear hbig
    go_enter Try.func6, Try.ntmps6
    go_wp2_with (go_at_call 7; (with_reducible refine ha.out.mono ?_); clear ha; rintro e w1 ⟨rfl, hb1⟩; have b1 := Lib.hid (bx.out.below hb1); obtain ⟨c0, c1, c2, c3⟩ := b1.out.cells; replace hb1 := Lib.hid (We.below_trans hb.out hb1); clear bx hb)
    go_wp2_with (go_at_call 9; (with_reducible refine (hr.out _).mono ?_); clear hr; rintro e w2 ⟨rfl, hb2⟩; have b2 := Lib.hid (b1.out.below hb2); clear c0 c1 c2 c3; obtain ⟨c0, c1, c2, c3⟩ := b2.out.cells; replace hb2 := Lib.hid (We.below_trans hb1.out hb2); clear b1 hb1)
    clear d0 d0w
    go_wp2_with (go_at_call 8; (with_reducible refine (hn.out _).mono ?_); clear hn; rintro e w3 ⟨G, rfl, hb3, f3⟩; have b3 := Lib.hid (b2.out.below hb3); have hgl := Lib.hid b2.out.lt; have hlo := Lib.hid hb2.out.size; have hsz := Lib.hid hb3.size; replace hb3 := Lib.hid (We.below_trans hb2.out hb3); replace f3 := Lib.hid f3; clear c0 c1 c2 c3 b2 hb2; obtain ⟨c0, c1, c2, c3⟩ := b3.out.cells; have mk3 := mk.out w3)
    have hba := We.below_alloc w3 (.cells (We.zI n) 3)
    have p1 := Lib.hid (show We.PV (w3.alloc (.cells (We.zI n) 3)) 3 w3.heap.size n (We.iF fun j => ((cntF n 0 j : Nat) : Int)) from We.PV.ints w3 n)
    have fa := Lib.hid (PC.below C'.out f3.out hba)
    have ba := Lib.hid (b3.out.below hba)
    have Ba := Lib.hid (We.below_trans hb3.out hba)
    have hg := Lib.hid (show w3.heap.size ≤ w3.heap.size ∧ w.heap.size < w3.heap.size ∧ w.heap.size ≤ w3.heap.size from ⟨Nat.le_refl _, b3.out.lt, Nat.le_of_lt b3.out.lt⟩)
    have hlo2 := Lib.hid (show w.heap.size ≤ w2.heap.size from hlo.out)
    clear mk3 mk hba f3 b3 hb3 c0 c1 c2 c3 hsz
    generalize w3.alloc (.cells (We.zI n) 3) = wa at *
    generalize w3.heap.size = gs at *
    generalize w2.heap.size = lo at *
    try rw [g3]
    go_loopw [7] (fun q wb => ∃ i : Nat, q = .int .i64 (i : Int) ∧ i ≤ f ∧ Hid (Q wb lo gs G (x : Int) (y : Int) W K i) ∧ Hid (G4 wb w.heap.size (x : Int) (y : Int) W K) ∧ Hid (Below w.heap.size w wb) ∧ Hid (We.PV wb 3 gs n (We.iF fun j => ((cntF n i j : Nat) : Int)))) (fun q _ => f - (intOf q).toNat)
    case atStart => exact ⟨0, rfl, Nat.zero_le _, fa, ba, Ba, p1⟩
    case round =>
      obtain ⟨i, rfl, hin, fr, br, Br, pr⟩ := hrel
      clear fa ba Ba p1
      by_cases hi' : i < f
      · have d1 : decide (i < f) = true := decide_eq_true hi'
        have d2 : decide ((i : Int) < (f : Int)) = true := decide_eq_true (Int.ofNat_lt.mpr hi')
        have hk1 : wrap64 ((i : Int) + 1) = ((i + 1 : Nat) : Int) := by have := hf5.out; rw [IntWalk.wrap64_in _ (by omega)]; omega
        have hki : i ≤ 1000000 := by have := hf5.out; omega
        have hnl : 0 < n := Nat.lt_of_lt_of_le (by decide) hn2.out.1
        obtain ⟨q, b, r, m, hq, hqh, hv, e3, e4, t1, t2, t3, t4, t5, t6, hqI⟩ := vis_at (k := i) hm'.out hy1.out hx2.out hy2.out hxy.out hnl
        have hc := Lib.hid (next_lit C'.out Br.out hlo.out fr.out hki _ _ hv.out)
        obtain ⟨c, hcq⟩ : ∃ c, Hid (cntF n i q = c) := ⟨_, Lib.hid rfl⟩
        have hst := Lib.hid (fun j => cnt_set n i q j hq.out c hcq.out)
        have hcl : wrap64 ((c : Int) + 1) = ((c + 1 : Nat) : Int) := by have h1 := cnt_le n i q; rw [hcq.out] at h1; rw [IntWalk.wrap64_in _ (by omega)]; omega
        clear hv hq hki hnl
        go_wp2_with (go_at_call 10; (with_reducible refine hc.out.mono ?_); clear hc; rintro e w7 ⟨rfl, B7, F7, k7⟩; have b7 := Lib.hid (br.out.out k7 hgl.out); have p7 := Lib.hid (pr.out.keep (k7.block gs pr.out.lt (fun h => Nat.lt_irrefl _ h.2))); have s7 : w7.cell? ⟨gs, q, none⟩ = some (.int .i64 (c : Int)) := (p7.out.cell hqh.out).trans (congrArg (fun v : Nat => some (Value.int .i64 (v : Int))) hcq.out); have s8 := p7.out.frozen q; obtain ⟨c0, c1, c2, c3⟩ := b7.out.cells; replace B7 := Lib.hid B7; replace F7 := Lib.hid F7; clear fr br Br k7 pr)
        have hset := Lib.hid ((p7.out.set_ q (.int .i64 ((c + 1 : Nat) : Int))).congr fun j _ => hst.out j)
        have Fs := Lib.hid (C'.out.keep F7.out (w' := w7.setCell ⟨gs, q, none⟩ (.int .i64 ((c + 1 : Nat) : Int))) fun c _ h2 _ => We.setCell_block w7 _ (fun e => Nat.lt_irrefl _ (e ▸ h2)))
        have bs := Lib.hid (b7.out.keep (w' := w7.setCell ⟨gs, q, none⟩ (.int .i64 ((c + 1 : Nat) : Int))) (We.setCell_block w7 _ (fun e => Nat.lt_irrefl _ (e ▸ hg.out.2.1))))
        have Bs := Lib.hid (We.below_set B7.out hg.out.2.2 (i := q) (.int .i64 ((c + 1 : Nat) : Int)))
        try rw [hcl]
        go_roundw
        case rel => exact ⟨i + 1, by first | rfl | rw [hk1], hi', Fs, bs, Bs, hset⟩
        case measure => first | (rw [hk1]; simp only [intOf, Int.toNat_natCast]; exact Nat.sub_lt_sub_left hi' (Nat.lt_succ_self i)) | (simp only [intOf]; exact Nat.sub_lt_sub_left hi' (Nat.lt_succ_self i))
      · obtain rfl : i = f := Nat.le_antisymm hin (Nat.le_of_not_lt hi')
        have d1 : decide (i < i) = false := decide_eq_false (Nat.lt_irrefl i)
        have d2 : decide ((i : Int) < (i : Int)) = false := decide_eq_false (Int.lt_irrefl _)
        go_wp2_with fail
        clear d1 d2 g1 g2 hi' hin
        have hki := Lib.hid (show i ≤ 1000000 by have := hf5.out; omega)
        have hnl : 0 < n := Nat.lt_of_lt_of_le (by decide) hn2.out.1
        have hnh := Lib.hid hnl
        have hRb := Lib.hid (show i / n ≤ 600 from Nat.le_trans (Nat.div_le_self i n) (Nat.le_of_lt hf5.out))
        have hcs := Lib.hid (fun j (hj : j < n) => cnt_cases hnl i hj)
        obtain ⟨R, hR⟩ : ∃ R, i / n = R := ⟨_, rfl⟩
        rw [hR] at hrd hRb hcs
        clear hR hnl
        have g9 : wrap64 ((R : Int) + 1) = (R : Int) + 1 := by have := hRb.out; exact IntWalk.wrap64_in _ (by omega)
        go_loopw [10] (fun q wb => ∃ j : Nat, q = .int .i64 (j : Int) ∧ j ≤ n ∧ Hid (Q wb lo gs G (x : Int) (y : Int) W K i) ∧ Hid (G4 wb w.heap.size (x : Int) (y : Int) W K) ∧ Hid (Below w.heap.size w wb) ∧ Hid (We.PV wb 3 gs n (We.iF fun j => ((cntF n i j : Nat) : Int)))) (fun q _ => n - (intOf q).toNat)
        case atStart => exact ⟨0, rfl, Nat.zero_le _, fr, br, Br, pr⟩
        case round =>
          clear fr br Br pr
          obtain ⟨j, rfl, hjl, fr, br, Br, pr⟩ := hrel
          by_cases hj : j < n
          · have d1 : decide (j < n) = true := decide_eq_true hj
            have d2 : decide ((j : Int) < (n : Int)) = true := decide_eq_true (Int.ofNat_lt.mpr hj)
            have hjI : (j : Int) < (n : Int) := Int.ofNat_lt.mpr hj
            have hk1 : wrap64 ((j : Int) + 1) = ((j + 1 : Nat) : Int) := by have := hn2.out; rw [IntWalk.wrap64_in _ (by omega)]; omega
            obtain ⟨hv, hle⟩ := hcs.out j hj
            have hjn : Hid (j < n ∧ cntF n i j = cntF n i j) := Lib.hid ⟨hj, rfl⟩
            replace hj := Lib.hid hj
            obtain ⟨v, hv'⟩ : ∃ v, cntF n i j = v := ⟨_, rfl⟩
            rw [hv'] at hv hle
            replace hjn : Hid (j < n ∧ cntF n i j = v) := Lib.hid ⟨hj.out, hv'⟩
            clear hv'
            rcases hv with hv | hv
            · have e1 : ((v : Int) != (R : Int)) = false := by rw [hv]; simp
              clear hv
              by_cases hp : j = 0
              · have z1 : decide (0 < j) = false := by rw [hp]; rfl
                have z2 : decide ((0 : Int) < (j : Int)) = false := by rw [hp]; rfl
                clear hle hp
                go_wp2_with fail
                refine Cl.region_way (fun _ => True) 32 [(0, .r), (1, .r), (2, .r), (3, .r), (4, .r), (5, .c), (6, .r), (7, .r), (8, .r), (9, .r), (10, .r), (11, .r), (12, .r), (13, .c), (14, .r), (15, .r), (16, .r), (17, .r), (18, .r), (19, .r), (20, .r), (21, .r), (22, .r), (23, .r), (24, .r), (25, .r), (26, .r), (27, .r), (28, .r), (29, .r), (30, .r), (31, .r), (32, .z)] (by kernel_rfl) (by kernel_rfl) ?_
                intro w8 hk8
                have F8 := Lib.hid (PC.below C'.out fr.out hk8.below)
                have B8 := Lib.hid (We.below_trans Br.out hk8.below)
                have p8 := Lib.hid (pr.out.below hk8.below)
                have b8 := Lib.hid (br.out.below hk8.below)
                clear hk8 fr Br pr br
                have t0 := since_at p8.out hjn.out
                iterate 5 (refine Cl.way_r rfl ?_; go_big_quiet_step (fail); refine wpQuiet_nil ?_)
                refine Cl.way_c rfl ?_
                have hc := Lib.hid (rounds_lit C'.out B8.out F8.out hki.out _ hrd.out)
                clear t0
                go_wp2_with (go_at_call 12; (with_reducible refine hc.out.mono ?_); clear hc; rintro e w9 ⟨rfl, B9, F9, k9⟩; have p9 := Lib.hid (p8.out.below k9); have b9 := Lib.hid (b8.out.below k9); replace B9 := Lib.hid B9; replace F9 := Lib.hid F9; replace k9 := Lib.hid k9; clear p8 b8 B8 F8)
                refine Cl.way_on (Cl.Keeps.of_below k9.out) ?_
                clear k9
                have t0 := since_at p9.out hjn.out
                iterate 7 (with_reducible refine (no_implicit_lambda% (Cl.way_r rfl ?_)); go_big_quiet_step (fail); with_reducible refine (no_implicit_lambda% (wpQuiet_nil ?_)))
                refine Cl.way_c rfl ?_
                go_wp2_with fail
                refine Cl.way_on (Cl.Keeps.refl _ _) ?_
                iterate 18 (with_reducible refine (no_implicit_lambda% (Cl.way_r rfl ?_)); go_big_quiet_step (fail); with_reducible refine (no_implicit_lambda% (wpQuiet_nil ?_)))
                refine Cl.way_z rfl ?_
                clear t0
                go_wp2_with fail
                refine Cl.Calm.normal ?_
                go_wp2_with fail
                go_roundw
                case rel => exact ⟨j + 1, by first | rfl | rw [hk1], hj.out, F9, b9, B9, p9⟩
                case measure => first | (rw [hk1]; simp only [intOf, Int.toNat_natCast]; exact Nat.sub_lt_sub_left hj.out (Nat.lt_succ_self j)) | (simp only [intOf]; exact Nat.sub_lt_sub_left hj.out (Nat.lt_succ_self j))
              · have hp' : 0 < j := Nat.pos_of_ne_zero hp
                have hpl := hle hp'
                have z1 : decide (0 < j) = true := decide_eq_true hp'
                have z2 : decide ((0 : Int) < (j : Int)) = true := decide_eq_true (Int.ofNat_lt.mpr hp')
                obtain ⟨p, hpj⟩ : ∃ p, j - 1 = p := ⟨_, rfl⟩
                have z3 : wrap64 ((j : Int) - 1) = (p : Int) := by have := hn2.out; have := hj.out; rw [IntWalk.wrap64_in _ (by omega)]; omega
                have hpI : (p : Int) < (n : Int) := by have := hj.out; omega
                have hpN : p < n := by have := hj.out; omega
                rw [hpj] at hpl
                obtain ⟨u, hu⟩ : ∃ u, cntF n i p = u := ⟨_, rfl⟩
                rw [hu] at hpl
                have hpn : Hid (p < n ∧ cntF n i p = u) := Lib.hid ⟨hpN, hu⟩
                have z4 : decide (u < v) = false := decide_eq_false (Nat.not_lt.mpr hpl)
                have z5 : decide ((u : Int) < (v : Int)) = false := decide_eq_false (Int.not_lt.mpr (Int.ofNat_le.mpr hpl))
                clear hle hpl hu hp hp' hpj hpN
                go_wp2_with fail
                refine Cl.region_way (fun _ => True) 32 [(0, .r), (1, .r), (2, .r), (3, .r), (4, .r), (5, .c), (6, .r), (7, .r), (8, .r), (9, .r), (10, .r), (11, .r), (12, .r), (13, .c), (14, .r), (15, .r), (16, .r), (17, .r), (18, .r), (19, .r), (20, .r), (21, .r), (22, .r), (23, .r), (24, .r), (25, .r), (26, .r), (27, .r), (28, .r), (29, .r), (30, .r), (31, .r), (32, .z)] (by kernel_rfl) (by kernel_rfl) ?_
                intro w8 hk8
                have F8 := Lib.hid (PC.below C'.out fr.out hk8.below)
                have B8 := Lib.hid (We.below_trans Br.out hk8.below)
                have p8 := Lib.hid (pr.out.below hk8.below)
                have b8 := Lib.hid (br.out.below hk8.below)
                clear hk8 fr Br pr br
                have t0 := since_at p8.out hjn.out
                have t1 := since_at p8.out hpn.out
                iterate 5 (refine Cl.way_r rfl ?_; go_big_quiet_step (fail); refine wpQuiet_nil ?_)
                refine Cl.way_c rfl ?_
                have hc := Lib.hid (rounds_lit C'.out B8.out F8.out hki.out _ hrd.out)
                clear t0 t1
                go_wp2_with (go_at_call 12; (with_reducible refine hc.out.mono ?_); clear hc; rintro e w9 ⟨rfl, B9, F9, k9⟩; have p9 := Lib.hid (p8.out.below k9); have b9 := Lib.hid (b8.out.below k9); replace B9 := Lib.hid B9; replace F9 := Lib.hid F9; replace k9 := Lib.hid k9; clear p8 b8 B8 F8)
                refine Cl.way_on (Cl.Keeps.of_below k9.out) ?_
                clear k9
                have t0 := since_at p9.out hjn.out
                have t1 := since_at p9.out hpn.out
                iterate 7 (with_reducible refine (no_implicit_lambda% (Cl.way_r rfl ?_)); go_big_quiet_step (fail); with_reducible refine (no_implicit_lambda% (wpQuiet_nil ?_)))
                refine Cl.way_c rfl ?_
                go_wp2_with fail
                refine Cl.way_on (Cl.Keeps.refl _ _) ?_
                iterate 18 (with_reducible refine (no_implicit_lambda% (Cl.way_r rfl ?_)); go_big_quiet_step (fail); with_reducible refine (no_implicit_lambda% (wpQuiet_nil ?_)))
                refine Cl.way_z rfl ?_
                clear t0 t1
                go_wp2_with fail
                refine Cl.Calm.normal ?_
                go_wp2_with fail
                go_roundw
                case rel => exact ⟨j + 1, by first | rfl | rw [hk1], hj.out, F9, b9, B9, p9⟩
                case measure => first | (rw [hk1]; simp only [intOf, Int.toNat_natCast]; exact Nat.sub_lt_sub_left hj.out (Nat.lt_succ_self j)) | (simp only [intOf]; exact Nat.sub_lt_sub_left hj.out (Nat.lt_succ_self j))
            · have e1 : ((v : Int) != (R : Int)) = true := by rw [hv]; simp; omega
              have e2 : ((v : Int) != (R : Int) + 1) = false := by rw [hv]; simp
              clear hv
              by_cases hp : j = 0
              · have z1 : decide (0 < j) = false := by rw [hp]; rfl
                have z2 : decide ((0 : Int) < (j : Int)) = false := by rw [hp]; rfl
                clear hle hp
                go_wp2_with fail
                refine Cl.region_way (fun _ => True) 32 [(0, .r), (1, .r), (2, .r), (3, .r), (4, .r), (5, .c), (6, .r), (7, .r), (8, .r), (9, .r), (10, .r), (11, .r), (12, .r), (13, .c), (14, .r), (15, .r), (16, .r), (17, .r), (18, .r), (19, .r), (20, .r), (21, .r), (22, .r), (23, .r), (24, .r), (25, .r), (26, .r), (27, .r), (28, .r), (29, .r), (30, .r), (31, .r), (32, .z)] (by kernel_rfl) (by kernel_rfl) ?_
                intro w8 hk8
                have F8 := Lib.hid (PC.below C'.out fr.out hk8.below)
                have B8 := Lib.hid (We.below_trans Br.out hk8.below)
                have p8 := Lib.hid (pr.out.below hk8.below)
                have b8 := Lib.hid (br.out.below hk8.below)
                clear hk8 fr Br pr br
                have t0 := since_at p8.out hjn.out
                iterate 5 (refine Cl.way_r rfl ?_; go_big_quiet_step (fail); refine wpQuiet_nil ?_)
                refine Cl.way_c rfl ?_
                have hc := Lib.hid (rounds_lit C'.out B8.out F8.out hki.out _ hrd.out)
                clear t0
                go_wp2_with (go_at_call 12; (with_reducible refine hc.out.mono ?_); clear hc; rintro e w9 ⟨rfl, B9, F9, k9⟩; have p9 := Lib.hid (p8.out.below k9); have b9 := Lib.hid (b8.out.below k9); replace B9 := Lib.hid B9; replace F9 := Lib.hid F9; replace k9 := Lib.hid k9; clear p8 b8 B8 F8)
                refine Cl.way_on (Cl.Keeps.of_below k9.out) ?_
                clear k9
                have t0 := since_at p9.out hjn.out
                iterate 7 (refine Cl.way_r rfl ?_; go_big_quiet_step (fail); refine wpQuiet_nil ?_)
                refine Cl.way_c rfl ?_
                have hc := Lib.hid (rounds_lit C'.out B9.out F9.out hki.out _ hrd.out)
                clear t0
                go_wp2_with (go_at_call 12; (with_reducible refine hc.out.mono ?_); clear hc; rintro e w10 ⟨rfl, B10, F10, k10⟩; have p10 := Lib.hid (p9.out.below k10); have b10 := Lib.hid (b9.out.below k10); replace B10 := Lib.hid B10; replace F10 := Lib.hid F10; replace k10 := Lib.hid k10; clear p9 b9 B9 F9)
                refine Cl.way_on (Cl.Keeps.of_below k10.out) ?_
                clear k10
                have t0 := since_at p10.out hjn.out
                iterate 18 (with_reducible refine (no_implicit_lambda% (Cl.way_r rfl ?_)); go_big_quiet_step (fail); with_reducible refine (no_implicit_lambda% (wpQuiet_nil ?_)))
                refine Cl.way_z rfl ?_
                clear t0
                go_wp2_with fail
                refine Cl.Calm.normal ?_
                go_wp2_with fail
                go_roundw
                case rel => exact ⟨j + 1, by first | rfl | rw [hk1], hj.out, F10, b10, B10, p10⟩
                case measure => first | (rw [hk1]; simp only [intOf, Int.toNat_natCast]; exact Nat.sub_lt_sub_left hj.out (Nat.lt_succ_self j)) | (simp only [intOf]; exact Nat.sub_lt_sub_left hj.out (Nat.lt_succ_self j))
              · have hp' : 0 < j := Nat.pos_of_ne_zero hp
                have hpl := hle hp'
                have z1 : decide (0 < j) = true := decide_eq_true hp'
                have z2 : decide ((0 : Int) < (j : Int)) = true := decide_eq_true (Int.ofNat_lt.mpr hp')
                obtain ⟨p, hpj⟩ : ∃ p, j - 1 = p := ⟨_, rfl⟩
                have z3 : wrap64 ((j : Int) - 1) = (p : Int) := by have := hn2.out; have := hj.out; rw [IntWalk.wrap64_in _ (by omega)]; omega
                have hpI : (p : Int) < (n : Int) := by have := hj.out; omega
                have hpN : p < n := by have := hj.out; omega
                rw [hpj] at hpl
                obtain ⟨u, hu⟩ : ∃ u, cntF n i p = u := ⟨_, rfl⟩
                rw [hu] at hpl
                have hpn : Hid (p < n ∧ cntF n i p = u) := Lib.hid ⟨hpN, hu⟩
                have z4 : decide (u < v) = false := decide_eq_false (Nat.not_lt.mpr hpl)
                have z5 : decide ((u : Int) < (v : Int)) = false := decide_eq_false (Int.not_lt.mpr (Int.ofNat_le.mpr hpl))
                clear hle hpl hu hp hp' hpj hpN
                go_wp2_with fail
                refine Cl.region_way (fun _ => True) 32 [(0, .r), (1, .r), (2, .r), (3, .r), (4, .r), (5, .c), (6, .r), (7, .r), (8, .r), (9, .r), (10, .r), (11, .r), (12, .r), (13, .c), (14, .r), (15, .r), (16, .r), (17, .r), (18, .r), (19, .r), (20, .r), (21, .r), (22, .r), (23, .r), (24, .r), (25, .r), (26, .r), (27, .r), (28, .r), (29, .r), (30, .r), (31, .r), (32, .z)] (by kernel_rfl) (by kernel_rfl) ?_
                intro w8 hk8
                have F8 := Lib.hid (PC.below C'.out fr.out hk8.below)
                have B8 := Lib.hid (We.below_trans Br.out hk8.below)
                have p8 := Lib.hid (pr.out.below hk8.below)
                have b8 := Lib.hid (br.out.below hk8.below)
                clear hk8 fr Br pr br
                have t0 := since_at p8.out hjn.out
                have t1 := since_at p8.out hpn.out
                iterate 5 (refine Cl.way_r rfl ?_; go_big_quiet_step (fail); refine wpQuiet_nil ?_)
                refine Cl.way_c rfl ?_
                have hc := Lib.hid (rounds_lit C'.out B8.out F8.out hki.out _ hrd.out)
                clear t0 t1
                go_wp2_with (go_at_call 12; (with_reducible refine hc.out.mono ?_); clear hc; rintro e w9 ⟨rfl, B9, F9, k9⟩; have p9 := Lib.hid (p8.out.below k9); have b9 := Lib.hid (b8.out.below k9); replace B9 := Lib.hid B9; replace F9 := Lib.hid F9; replace k9 := Lib.hid k9; clear p8 b8 B8 F8)
                refine Cl.way_on (Cl.Keeps.of_below k9.out) ?_
                clear k9
                have t0 := since_at p9.out hjn.out
                have t1 := since_at p9.out hpn.out
                iterate 7 (refine Cl.way_r rfl ?_; go_big_quiet_step (fail); refine wpQuiet_nil ?_)
                refine Cl.way_c rfl ?_
                have hc := Lib.hid (rounds_lit C'.out B9.out F9.out hki.out _ hrd.out)
                clear t0 t1
                go_wp2_with (go_at_call 12; (with_reducible refine hc.out.mono ?_); clear hc; rintro e w10 ⟨rfl, B10, F10, k10⟩; have p10 := Lib.hid (p9.out.below k10); have b10 := Lib.hid (b9.out.below k10); replace B10 := Lib.hid B10; replace F10 := Lib.hid F10; replace k10 := Lib.hid k10; clear p9 b9 B9 F9)
                refine Cl.way_on (Cl.Keeps.of_below k10.out) ?_
                clear k10
                have t0 := since_at p10.out hjn.out
                have t1 := since_at p10.out hpn.out
                iterate 18 (with_reducible refine (no_implicit_lambda% (Cl.way_r rfl ?_)); go_big_quiet_step (fail); with_reducible refine (no_implicit_lambda% (wpQuiet_nil ?_)))
                refine Cl.way_z rfl ?_
                clear t0 t1
                go_wp2_with fail
                refine Cl.Calm.normal ?_
                go_wp2_with fail
                go_roundw
                case rel => exact ⟨j + 1, by first | rfl | rw [hk1], hj.out, F10, b10, B10, p10⟩
                case measure => first | (rw [hk1]; simp only [intOf, Int.toNat_natCast]; exact Nat.sub_lt_sub_left hj.out (Nat.lt_succ_self j)) | (simp only [intOf]; exact Nat.sub_lt_sub_left hj.out (Nat.lt_succ_self j))
          · obtain rfl : j = n := Nat.le_antisymm hjl (Nat.le_of_not_lt hj)
            have d1 : decide (j < j) = false := decide_eq_false (Nat.lt_irrefl j)
            have d2 : decide ((j : Int) < (j : Int)) = false := decide_eq_false (Int.lt_irrefl _)
            go_wp2_with fail
            go_ret
            exact ⟨rfl, Br.out⟩
end
end Go.Proofs.Ytmmpcgmhcaianaa.Pt
