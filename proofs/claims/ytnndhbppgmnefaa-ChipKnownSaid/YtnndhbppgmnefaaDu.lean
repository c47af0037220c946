/- ChipKnown: the walk. -/
import Derived.Test.YtnndhbppgmnefaaDt
namespace Go.Proofs.Ytnndhbppgmnefaa
open Go.RowKit Go.Fl
set_option linter.unusedVariables false
set_option linter.unusedSimpArgs false
attribute [local go_sem ↓] Cl.quiet_after Cl.quiet_since
theorem lex3_14 : (Cl.opsAt 14 (Try.f3.body.getD .skip)).map (Region.lexB .any) = some true := by kernel_rfl
def erL : List Int := [0, 5, 6, 9, 9, 7, 6, 7, 8, 8]
def erAt (i : Nat) : Int := erL.getD i 0
def erC : Array Value := #[.int .i64 0, .int .i64 5, .int .i64 6, .int .i64 9, .int .i64 9, .int .i64 7, .int .i64 6, .int .i64 7, .int .i64 8, .int .i64 8]
theorem erC_at (i : Nat) (hi : i < 10) : erC[i]? = some (.int .i64 (erAt i)) := by
  rcases (by omega : i = 0 ∨ i = 1 ∨ i = 2 ∨ i = 3 ∨ i = 4 ∨ i = 5 ∨ i = 6 ∨ i = 7 ∨ i = 8 ∨ i = 9) with rfl | rfl | rfl | rfl | rfl | rfl | rfl | rfl | rfl | rfl <;> rfl
set_option maxRecDepth 20000 in
set_option maxHeartbeats 8000000 in
theorem known_any (w : World) : Calls Try.prog 3 #[] w (Ans w (.bool true)) := by
  have haw := Lib.hid (awake_any w)
  go_enter Try.func3, Try.ntmps3
  go_wp2_with (go_at_call 8; (with_reducible refine haw.out.mono ?_); rintro e wa ⟨rfl, hba⟩; replace hba := Lib.hid hba)
  have h1 := below_alloc' wa (.cells #[.int .i64 4, .int .i64 2, .int .i64 1, .int .i64 9] 24)
  have z1 := World.size_alloc wa (.cells #[.int .i64 4, .int .i64 2, .int .i64 1, .int .i64 9] 24)
  generalize wa.alloc (.cells #[.int .i64 4, .int .i64 2, .int .i64 1, .int .i64 9] 24) = w1 at *
  have h2 := below_alloc' w1 (.cells #[.int .i64 2, .int .i64 1, .int .i64 25, .int .i64 5, .int .i64 1, .int .i64 0, .int .i64 8, .int .i64 2, .int .i64 20, .int .i64 10, .int .i64 2, .int .i64 0] 26)
  have z2 := World.size_alloc w1 (.cells #[.int .i64 2, .int .i64 1, .int .i64 25, .int .i64 5, .int .i64 1, .int .i64 0, .int .i64 8, .int .i64 2, .int .i64 20, .int .i64 10, .int .i64 2, .int .i64 0] 26)
  have hts := Ft.S3.new w1 #[.int .i64 2, .int .i64 1, .int .i64 25, .int .i64 5, .int .i64 1, .int .i64 0, .int .i64 8, .int .i64 2, .int .i64 20, .int .i64 10, .int .i64 2, .int .i64 0] kts 26 (fun i hi => by
    rcases (by have : i < 4 := hi; omega : i = 0 ∨ i = 1 ∨ i = 2 ∨ i = 3) with rfl | rfl | rfl | rfl <;> exact ⟨rfl, rfl, rfl⟩)
  generalize w1.alloc (.cells #[.int .i64 2, .int .i64 1, .int .i64 25, .int .i64 5, .int .i64 1, .int .i64 0, .int .i64 8, .int .i64 2, .int .i64 20, .int .i64 10, .int .i64 2, .int .i64 0] 26) = w2 at *
  have h3 := below_alloc' w2 (.cells #[.int .i64 3] 3)
  have hi := ints_one w2 3
  generalize w2.alloc (.cells #[.int .i64 3] 3) = w3 at *
  have hts3 := hts.far h3
  rw [z1] at hts3
  rw [z2, z1] at hi
  have hB3 := Lib.hid (hba.out.trans ((h1.trans ((h2.trans (h3.mono h2.size)).mono h1.size)).mono hba.out.size))
  have hnw := Lib.hid (e_new (w := w3) 4 2 1 9 (b := 4) (p := 2) (k := 1) (l := 9) rfl rfl rfl rfl (by decide) (n := 1) (c := 1) hi rfl (by decide) (by decide) (c2 := 4) hts3 rfl (by decide +kernel) (by decide +kernel))
  clear h1 h2 h3 z1 z2 hts hts3 hi hba haw
  refine hnw.out.mono ?_
  clear hnw
  rintro e w4 ⟨a, rfl, _, hE⟩
  have hmk := make25 w4
  obtain ⟨hE0, _, hS0⟩ := hE.syms z25 z25_lt z25_len
  clear hE
  have hE0 : Env w3 (fun b => w3.heap.size ≤ b ∧ b ≠ w4.heap.size) a k0 (w4.alloc (.cells (z25.map uv).toArray 54)) := hE0
  generalize hw5 : w4.alloc (.cells (z25.map uv).toArray 54) = w5 at *
  replace hE0 := Lib.hid hE0
  replace hS0 := Lib.hid hS0
  obtain ⟨F, hF⟩ : ∃ F : Nat → Prop, Hid ((fun b => w3.heap.size ≤ b ∧ b ≠ w4.heap.size) = F) := ⟨_, Lib.hid rfl⟩
  rw [hF.out] at hE0 hS0
  obtain ⟨sb, hsb⟩ : ∃ sb, Hid (w4.heap.size = sb) := ⟨_, Lib.hid rfl⟩
  rw [hsb.out] at hmk hS0
  have er0 : 0 < 1000000 := by decide
  go_wp2_with (simp only [hmk])
  clear hmk hw5
  refine (e_program hE0.out ⟨by decide, by decide, fun _ => er0⟩ 0 0 (by decide) (by decide) rfl rfl hS0.out rfl ks_1).mono ?_
  rintro e v1 ⟨rfl, hk, hE⟩
  have hE1 := Lib.hid hE
  have hS1 := Lib.hid (hS0.out.keep hk)
  clear hk hE hE0 hS0
  go_wp2_with fail
  refine (e_program hE1.out ⟨by decide, by decide, fun _ => er0⟩ 0 0 (by decide) (by decide) rfl rfl hS1.out rfl ks_2).mono ?_
  rintro e v2 ⟨rfl, hk, hE⟩
  have hE2 := Lib.hid hE
  have hS2 := Lib.hid (hS1.out.keep hk)
  clear hk hE hE1 hS1
  go_wp2_with fail
  refine (e_program hE2.out ⟨by decide, by decide, fun _ => er0⟩ 0 1 (by decide) (by decide) rfl rfl hS2.out rfl ks_3).mono ?_
  rintro e v3 ⟨rfl, hk, hE⟩
  have hE3 := Lib.hid hE
  have hS3 := Lib.hid (hS2.out.keep hk)
  clear hk hE hE2 hS2
  go_wp2_with fail
  refine (e_program hE3.out ⟨by decide, by decide, fun _ => er0⟩ 3 0 (by decide) (by decide) rfl rfl hS3.out rfl ks_4).mono ?_
  rintro e v4 ⟨rfl, hk, hE⟩
  have hE4 := Lib.hid hE
  have hS4 := Lib.hid (hS3.out.keep hk)
  clear hk hE hE3 hS3
  go_wp2_with fail
  refine (e_erase hE4.out ⟨by decide, by decide, fun _ => er0⟩ 3 (by decide) rfl ks_5).mono ?_
  rintro e v5 ⟨rfl, hk, hE⟩
  have hE5 := Lib.hid hE
  have hS5 := Lib.hid (hS4.out.keep hk)
  clear hk hE hE4 hS4
  go_wp2_with fail
  refine (e_erase hE5.out ⟨by decide, by decide, fun _ => er0⟩ 1 (by decide) rfl ks_6).mono ?_
  rintro e v6 ⟨rfl, hk, hE⟩
  have hE6 := Lib.hid hE
  have hS6 := Lib.hid (hS5.out.keep hk)
  clear hk hE hE5 hS5
  go_wp2_with fail
  refine (e_program hE6.out ⟨by decide, by decide, fun _ => er0⟩ 1 0 (by decide) (by decide) rfl rfl hS6.out rfl ks_7).mono ?_
  rintro e v7 ⟨rfl, hk, hE⟩
  have hE7 := Lib.hid hE
  have hS7 := Lib.hid (hS6.out.keep hk)
  clear hk hE hE6 hS6
  go_wp2_with fail
  refine (e_erase hE7.out ⟨by decide, by decide, fun _ => er0⟩ 1 (by decide) rfl ks_8).mono ?_
  rintro e v8 ⟨rfl, hk, hE⟩
  have hE8 := Lib.hid hE
  have hS8 := Lib.hid (hS7.out.keep hk)
  clear hk hE hE7 hS7
  go_wp2_with fail
  refine (e_program hE8.out ⟨by decide, by decide, fun _ => er0⟩ 2 0 (by decide) (by decide) rfl rfl hS8.out rfl ks_9).mono ?_
  rintro e v9 ⟨rfl, hk, hE⟩
  have hE9 := Lib.hid hE
  have hS9 := Lib.hid (hS8.out.keep hk)
  clear hk hE hE8 hS8
  go_wp2_with fail
  refine (e_program hE9.out ⟨by decide, by decide, fun _ => er0⟩ 2 1 (by decide) (by decide) rfl rfl hS9.out rfl ks_10).mono ?_
  rintro e v10 ⟨rfl, hk, hE⟩
  have hE10 := Lib.hid hE
  have hS10 := Lib.hid (hS9.out.keep hk)
  clear hk hE hE9 hS9
  go_wp2_with fail
  have hA1 := below_alloc' v10 (.cells erC 29)
  have zA1 := World.size_alloc v10 (.cells erC 29)
  have cA1 := cell_new v10 erC 29
  have hA2 := below_alloc' (v10.alloc (.cells erC 29)) (.cells erC 29)
  have cA2 := cell_new (v10.alloc (.cells erC 29)) erC 29
  have zA2 := World.size_alloc (v10.alloc (.cells erC 29)) (.cells erC 29)
  rw [zA1] at cA2 zA2
  have q1 : Hid (∀ i, i < 10 → ((v10.alloc (.cells erC 29)).alloc (.cells erC 29)).cell? ⟨v10.heap.size, i, none⟩ = some (.int .i64 (erAt i))) := fun i hi => ((hA2.cell (p := ⟨v10.heap.size, i, none⟩) (by rw [zA1]; exact Nat.lt_succ_self _)).trans (cA1 i)).trans (erC_at i hi)
  have q2 : Hid (∀ i, i < 10 → ((v10.alloc (.cells erC 29)).alloc (.cells erC 29)).cell? ⟨v10.heap.size + 1, i, none⟩ = some (.int .i64 (erAt i))) := fun i hi => (cA2 i).trans (erC_at i hi)
  have hE11 := Lib.hid (hE10.out.below (hA1.trans (hA2.mono hA1.size)))
  unfold erC at q1 q2 hE11 zA2
  clear hA1 hA2 zA1 cA1 cA2 hE10 hS10 hsb
  generalize (v10.alloc (.cells #[.int .i64 0, .int .i64 5, .int .i64 6, .int .i64 9, .int .i64 9, .int .i64 7, .int .i64 6, .int .i64 7, .int .i64 8, .int .i64 8] 29)).alloc (.cells #[.int .i64 0, .int .i64 5, .int .i64 6, .int .i64 9, .int .i64 9, .int .i64 7, .int .i64 6, .int .i64 7, .int .i64 8, .int .i64 8] 29) = v11 at *
  have z1 : v10.heap.size < v11.heap.size := by omega
  have z2 : v10.heap.size + 1 < v11.heap.size := by omega
  clear zA2
  go_loopw [8] (fun q wr => ∃ i : Nat, i ≤ 10 ∧ q = .int .i64 i ∧ Below v11.heap.size v11 wr) (fun q _ => 10 - (intOf q).toNat)
  case atStart => exact ⟨0, Nat.zero_le _, rfl, Below.refl _ _⟩
  case round =>
    obtain ⟨i, hi, rfl, hB⟩ := hrel
    by_cases hin : i < 10
    · have hiI : (i : Int) < 10 := by omega
      have c1 := fun x : Cl.After wr.heap.size wr => (x.below.cell (p := ⟨v10.heap.size, i, none⟩) (Nat.lt_of_lt_of_le z1 hB.size)).trans ((hB.cell (p := ⟨v10.heap.size, i, none⟩) z1).trans (q1.out i hin))
      have c2 := fun x : Cl.After wr.heap.size wr => (x.below.cell (p := ⟨v10.heap.size + 1, i, none⟩) (Nat.lt_of_lt_of_le z2 hB.size)).trans ((hB.cell (p := ⟨v10.heap.size + 1, i, none⟩) z2).trans (q2.out i hin))
      replace hB := Lib.hid hB
      go_wp2_with fail
      refine Cl.region_after_at wr.heap.size (by kernel_rfl) lex3_14 (by kernel_rfl) ?_
      try simp only [List.append]
      repeat (go_big_quiet_step (fail))
      refine wpQuiet_nil ?_
      rintro _ ⟨x, rfl⟩
      go_wp2_with fail
      go_roundw
      case rel => exact ⟨i + 1, by omega, by go_num, hB.out.trans (x.below.mono hB.out.size)⟩
      case measure => simp [intOf]; omega
    · obtain rfl : i = 10 := by omega
      have hE12 := Lib.hid (hE11.out.below hB)
      clear hE11 q1 q2 hB
      go_wp2_with fail
      refine (e_ops hE12.out (r := 9) rfl).mono ?_
      rintro e w13 ⟨rfl, hb13⟩
      have hE13 := Lib.hid (hE12.out.below hb13)
      clear hE12 hb13
      go_wp2_with fail
      refine (e_power hE13.out).mono ?_
      rintro e w14 ⟨rfl, _, hE14⟩
      have hE14 : Hid (Env w3 F a k10 w14) := Lib.hid hE14
      clear hE13
      go_wp2_with fail
      obtain ⟨ps, hps⟩ : ∃ ps, (k11.pg 2 0).ps = ps := ⟨_, rfl⟩
      have hkn := kn_n
      have hkl := kl_n
      rw [hps] at hkn hkl
      refine (e_sense hE14.out ⟨by decide, by decide, fun _ => er0⟩ 2 0 (by decide) (by decide) rfl rfl ks_11 (n := 25) rfl hps (by intro e; rw [e] at hkl; cases hkl)).mono ?_
      rintro e w15 ⟨gs, cs, rfl, hcs, _, _, hgl, hE15, hpt⟩
      replace hE15 := Lib.hid hE15
      rw [hkl] at hpt
      replace hpt := Lib.hid hpt
      replace hkn := Lib.hid hkn
      clear hE14 hps hkl
      go_wp2_with fail
      go_loopw [12, 13] (fun m q wr => ∃ i : Nat, i ≤ 25 ∧ q = .int .i64 i ∧ m = .int .i64 (nought ps i : Int) ∧ Below w15.heap.size w15 wr) (fun _ q _ => 25 - (intOf q).toNat)
      case atStart => exact ⟨0, Nat.zero_le _, rfl, rfl, Below.refl _ _⟩
      case round =>
        obtain ⟨i, hi2, rfl, rfl, hB⟩ := hrel
        by_cases hin2 : i < 25
        · have hiI : (i : Int) < 25 := by omega
          obtain ⟨x, y, hxy, hx, hy⟩ := hpt.out i hin2
          have hxr : wr.cell? ⟨gs, i, none⟩ = some (.complex .f64 x y) := (hB.cell (p := ⟨gs, i, none⟩) hgl).trans hxy
          have hle := nought_le ps i
          obtain ⟨q, hq⟩ : ∃ q, ptAt ps i = q := ⟨_, rfl⟩
          rw [hq] at hx hy
          obtain ⟨u, v⟩ := q
          dsimp only at hx hy
          have o1 := ord_eq_i hx is_zero'
          have o2 := ord_eq_i hy is_zero'
          replace hB := Lib.hid hB
          replace hq := Lib.hid hq
          clear hx hy hxy
          by_cases hz1 : u = 0
          · rw [decide_eq_true hz1] at o1
            by_cases hz2 : v = 0
            · rw [decide_eq_true hz2] at o2
              have hstp := Lib.hid (nought_hit (ps := ps) (i := i) (by rw [hq.out, hz1, hz2]))
              clear hz1 hz2
              go_wp2_with fail
              go_roundw
              case rel => exact ⟨i + 1, by omega, by go_num, by rw [hstp.out]; go_num, hB.out⟩
              case measure => simp [intOf]; omega
            · rw [decide_eq_false hz2] at o2
              have hstp := Lib.hid (nought_miss (ps := ps) (i := i) (by rw [hq.out]; intro e; injection e with e1 e2; exact hz2 e2))
              clear hz1 hz2
              go_wp2_with fail
              go_roundw
              case rel => exact ⟨i + 1, by omega, by go_num, by rw [hstp.out], hB.out⟩
              case measure => simp [intOf]; omega
          · rw [decide_eq_false hz1] at o1
            have hstp := Lib.hid (nought_miss (ps := ps) (i := i) (by rw [hq.out]; intro e; injection e with e1 e2; exact hz1 e1))
            clear hz1
            go_wp2_with fail
            go_roundw
            case rel => exact ⟨i + 1, by omega, by go_num, by rw [hstp.out], hB.out⟩
            case measure => simp [intOf]; omega
        · obtain rfl : i = 25 := by omega
          rw [hkn.out]
          have hE16 := Lib.hid (hE15.out.below hB)
          clear hE15 hpt hB hkn
          go_wp2_with fail
          refine (e_sense_err hE16.out ⟨by decide, by decide, fun _ => er0⟩ 0 1 (by decide) (by decide) rfl rfl ks_12 (by decide)).mono ?_
          rintro e w17 ⟨rfl, _, hE17⟩
          replace hE17 := Lib.hid hE17
          clear hE16
          go_wp2_with fail
          refine (e_power hE17.out).mono ?_
          rintro e w18 ⟨rfl, _, hE18⟩
          have hE18 : Hid (Env w3 (fun b => F b ∧ b ≠ gs) a k13 w18) := Lib.hid hE18
          clear hE17
          go_wp2_with fail
          obtain ⟨qs, hqs⟩ : ∃ qs, (k14.pg 0 1).ps = qs := ⟨_, rfl⟩
          have hkc := kn_c
          have hkl := kl_c
          rw [hqs] at hkc hkl
          refine (e_sense hE18.out ⟨by decide, by decide, fun _ => er0⟩ 0 1 (by decide) (by decide) rfl rfl ks_14 (n := 25) rfl hqs (by intro e; rw [e] at hkl; cases hkl)).mono ?_
          rintro e w20 ⟨gq, cq, rfl, hcq, _, _, hql, hE20, hqt⟩
          replace hE20 := Lib.hid hE20
          rw [hkl] at hqt
          replace hqt := Lib.hid hqt
          replace hkc := Lib.hid hkc
          clear hE18 hqs hkl
          go_wp2_with fail
          go_loopw [18, 19] (fun m q wr => ∃ i : Nat, i ≤ 25 ∧ q = .int .i64 i ∧ m = .int .i64 (charged qs i : Int) ∧ Below w20.heap.size w20 wr) (fun _ q _ => 25 - (intOf q).toNat)
          case atStart => exact ⟨0, Nat.zero_le _, rfl, rfl, Below.refl _ _⟩
          case round =>
            obtain ⟨i, hi3, rfl, rfl, hB⟩ := hrel
            by_cases hin3 : i < 25
            · have hiI : (i : Int) < 25 := by omega
              obtain ⟨x, y, hxy, hx, hy⟩ := hqt.out i hin3
              have hxr : wr.cell? ⟨gq, i, none⟩ = some (.complex .f64 x y) := (hB.cell (p := ⟨gq, i, none⟩) hql).trans hxy
              have hle := charged_le qs i
              obtain ⟨q, hq⟩ : ∃ q, ptAt qs i = q := ⟨_, rfl⟩
              rw [hq] at hx hy
              obtain ⟨u, v⟩ := q
              dsimp only at hx hy
              have o1 := ord_eq_i hx is_zero'
              have o2 := ord_eq_i hy is_zero'
              replace hB := Lib.hid hB
              replace hq := Lib.hid hq
              clear hx hy hxy
              by_cases hz1 : u = 0
              · rw [decide_eq_true hz1] at o1
                by_cases hz2 : v = 0
                · rw [decide_eq_true hz2] at o2
                  have hstp := Lib.hid (charged_hit (ps := qs) (i := i) (by rw [hq.out, hz1, hz2]))
                  clear hz1 hz2
                  go_wp2_with fail
                  go_roundw
                  case rel => exact ⟨i + 1, by omega, by go_num, by rw [hstp.out], hB.out⟩
                  case measure => simp [intOf]; omega
                · rw [decide_eq_false hz2] at o2
                  have hstp := Lib.hid (charged_miss (ps := qs) (i := i) (by rw [hq.out]; intro e; injection e with e1 e2; exact hz2 e2))
                  clear hz1 hz2
                  go_wp2_with fail
                  go_roundw
                  case rel => exact ⟨i + 1, by omega, by go_num, by rw [hstp.out]; go_num, hB.out⟩
                  case measure => simp [intOf]; omega
              · rw [decide_eq_false hz1] at o1
                have hstp := Lib.hid (charged_miss (ps := qs) (i := i) (by rw [hq.out]; intro e; injection e with e1 e2; exact hz1 e1))
                clear hz1
                go_wp2_with fail
                go_roundw
                case rel => exact ⟨i + 1, by omega, by go_num, by rw [hstp.out]; go_num, hB.out⟩
                case measure => simp [intOf]; omega
            · obtain rfl : i = 25 := by omega
              rw [hkc.out]
              have hE21 := Lib.hid (hE20.out.below hB)
              clear hE20 hqt hB hkc
              go_wp2_with fail
              refine (e_mark hE21.out ⟨by decide, by decide, fun _ => er0⟩ 0 (by decide) rfl ks_15).mono ?_
              rintro e w22 ⟨rfl, _, hE22⟩
              replace hE22 := Lib.hid hE22
              clear hE21
              go_wp2_with fail
              refine (e_marked hE22.out ⟨by decide, by decide, fun _ => er0⟩ 0 (by decide) rfl ks_16 (v := true) (by decide +kernel)).mono ?_
              rintro e w23 ⟨rfl, _, hE23⟩
              replace hE23 := Lib.hid hE23
              clear hE22
              go_wp2_with fail
              refine (e_sense_no hE23.out ⟨by decide, by decide, fun _ => er0⟩ 4 0 (by decide) ks_17).mono ?_
              rintro e w24 ⟨rfl, _, hE24⟩
              replace hE24 := Lib.hid hE24
              clear hE23
              go_wp2_with fail
              refine (e_refused hE24.out (r := 4) rfl).mono ?_
              rintro e w25 ⟨rfl, hb25⟩
              have hE25 := Lib.hid (hE24.out.below hb25)
              clear hE24 hb25
              go_wp2_with fail
              refine (e_broken hE25.out 1 (by decide) rfl (r := true) rfl).mono ?_
              rintro e w26 ⟨rfl, hb26⟩
              have hE26 := Lib.hid (hE25.out.below hb26)
              clear hE25 hb26
              go_wp2_with fail
              refine (e_broken hE26.out 0 (by decide) rfl (r := false) rfl).mono ?_
              rintro e w27 ⟨rfl, hb27⟩
              have hE27 := Lib.hid (hE26.out.below hb27)
              clear hE26 hb27
              go_wp2_with fail
              refine (e_erases hE27.out 0 (by decide) rfl (r := 0) rfl).mono ?_
              rintro e w28 ⟨rfl, hb28⟩
              have hE28 := Lib.hid (hE27.out.below hb28)
              clear hE27 hb28
              go_wp2_with fail
              refine (e_drift hE28.out 2 0 (by decide) (by decide) rfl rfl (u := 2) (v := 0) is_two' is_zero' (by decide) (by decide) 0 ks_18).mono ?_
              rintro e w29 ⟨rfl, _, hE29⟩
              have hE29 : Hid (Env w3 _ a k18 w29) := Lib.hid hE29
              clear hE28
              go_wp2_with fail
              refine (e_drift hE29.out 0 0 (by decide) (by decide) rfl rfl (u := 2) (v := 0) is_two' is_zero' (by decide) (by decide) 0 ks_19).mono ?_
              rintro e w30 ⟨rfl, _, hE30⟩
              have hE30 : Hid (Env w3 _ a k19 w30) := Lib.hid hE30
              clear hE29
              go_wp2_with fail
              refine (e_worst hE30.out k19_len (r := 1) (by rw [ks_w]; rfl)).mono ?_
              rintro e w31 ⟨rfl, hb31⟩
              have hE31 := Lib.hid (hE30.out.below hb31)
              clear hE30 hb31
              go_wp2_with fail
              go_ret
              exact ⟨rfl, hB3.out.trans (hE31.out.low.mono hB3.out.size)⟩
end Go.Proofs.Ytnndhbppgmnefaa
