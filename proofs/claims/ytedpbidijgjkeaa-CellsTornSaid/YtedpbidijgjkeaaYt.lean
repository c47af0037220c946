/- The law over pages in part. -/
import Derived.Test.YtedpbidijgjkeaaYm
namespace Go.Proofs.Ytedpbidijgjkeaa
open Go.RowKit Go.Gf Go.Fl
set_option linter.unusedVariables false
set_option linter.unusedSimpArgs false
attribute [local go_sem ↓] Cl.quiet_after

theorem progP_zero (n : Nat) (xs : List Nat) {k i : Nat} (hi : i < n) : ptAt (progP (List.replicate n (0, 0)) xs (k : Int)) i = if i < k then pt (syAt xs i) else (0, 0) := by
  rw [prog_at (by simpa using hi), zero_at]
  by_cases h : i < k
  · rw [if_pos h, if_pos (by omega)]
  · rw [if_neg h, if_neg (by omega)]
set_option maxRecDepth 20000 in
set_option maxHeartbeats 8000000 in
theorem torn_law (A0 : Option Addr) (xs : List Nat) (c0 : Nat) (l0 : xs.length ≤ c0) (m0 : c0 ≤ maxLen) (i0 : Int) (hi0 : 0 ≤ i0 ∧ i0 ≤ 65535) (b0 b1 : Int) (w : World) (s0 : Sl w w.heap.size A0 xs) :
    Calls Try.prog 5 #[.slice A0 xs.length c0, .int .u16 i0, .agg #[.int .i8 b0, .int .i8 b1]] w (Ans w (.bool true)) := by
  have ca := Lib.hid awake_any
  obtain ⟨n, hn⟩ : ∃ n, xs.length = n := ⟨_, rfl⟩
  rw [hn] at l0 ⊢
  replace hn := Lib.hid hn
  have hbx := below_alloc' w (.cells #[.int .i8 b0, .int .i8 b1] 37)
  have H := Lib.hid (s0.far hbx)
  have hbx := Lib.hid hbx
  have q0 := Lib.hid (cell_new w #[.int .i8 b0, .int .i8 b1] 37 0)
  have q1 := Lib.hid (cell_new w #[.int .i8 b0, .int .i8 b1] 37 1)
  have hwl := Lib.hid (show w.heap.size < (w.alloc (.cells #[.int .i8 b0, .int .i8 b1] 37)).heap.size from by rw [World.size_alloc]; omega)
  replace l0 := Lib.hid l0
  clear s0 m0
  by_cases hz : n = 0
  · subst hz
    go_enter Try.func5, Try.ntmps5
    go_wp2_with fail
    refine (ca.out _).mono ?_
    rintro e w1 ⟨rfl, hb1⟩
    have hb := hbx.out.trans (hb1.mono hbx.out.size)
    go_wp2_with fail
    go_ret
    exact ⟨rfl, hb⟩
  by_cases h300 : 300 < n
  · have hI : (300 : Int) < (n : Int) := by omega
    have hI2 : ((n : Int) == 0) = false := by rw [beq_eq_false_iff_ne]; omega
    have hI3 : (n == 0) = false := by rw [beq_eq_false_iff_ne]; omega
    go_enter Try.func5, Try.ntmps5
    go_wp2_with fail
    refine (ca.out _).mono ?_
    rintro e w1 ⟨rfl, hb1⟩
    have hb := hbx.out.trans (hb1.mono hbx.out.size)
    go_wp2_with fail
    go_ret
    exact ⟨rfl, hb⟩
  have hI : ¬ (300 : Int) < (n : Int) := by omega
  have hI2 : ((n : Int) == 0) = false := by rw [beq_eq_false_iff_ne]; omega
  have hI3 : (n == 0) = false := by rw [beq_eq_false_iff_ne]; omega
  go_enter Try.func5, Try.ntmps5
  go_wp2_with fail
  generalize w.alloc (.cells #[.int .i8 b0, .int .i8 b1] 37) = wb at *
  refine (ca.out _).mono ?_
  rintro e w1 ⟨rfl, hb1⟩
  have hb1 := Lib.hid hb1
  have H1 := Lib.hid (H.out.below hb1.out)
  go_wp2_with fail
  go_loop [7] (fun q => ∃ k : Nat, k ≤ n ∧ q = .int .i64 k ∧ Hid (∀ j, j < k → syAt xs j < 1024)) (fun q => n - (intOf q).toNat)
  case atStart => exact ⟨0, Nat.zero_le _, rfl, Lib.hid (fun j h => absurd h (by omega))⟩
  case round =>
    obtain ⟨k, hk, rfl, hlo⟩ := hrel
    by_cases hlt : k < n
    · have hkI : (k : Int) < (n : Int) := by omega
      have hd : decide (k < n) = true := decide_eq_true hlt
      obtain ⟨a, rfl, hab, hc⟩ := H1.out.at_ (i := k) (by rw [hn.out]; exact hlt)
      rw [← syAt_get (by rw [hn.out]; exact hlt)] at hc
      obtain ⟨X, hX⟩ : ∃ X, Hid (syAt xs k = X) := ⟨_, Lib.hid rfl⟩
      rw [hX.out] at hc
      by_cases hX4 : 1024 ≤ X
      · have hXI : (1024 : Int) ≤ (X : Int) := by omega
        go_wp2_with fail
        go_ret
        exact ⟨rfl, hbx.out.trans (hb1.out.mono hbx.out.size)⟩
      · have hXI : ¬ (1024 : Int) ≤ (X : Int) := by omega
        go_wp2_with fail
        go_round
        case rel => exact ⟨k + 1, by omega, by go_num, Lib.hid (fun j hj => by
          rcases Nat.lt_or_ge j k with h | h
          · exact hlo.out j h
          · obtain rfl : j = k := by omega
            rw [hX.out]; omega)⟩
        case measure => simp [intOf]; omega
    · obtain rfl : k = n := by omega
      have hd : decide (k < k) = false := decide_eq_false (Nat.lt_irrefl _)
      have hx : Hid (∀ x ∈ xs, x < 1024) := fun x hx => by
        obtain ⟨j, hj, rfl⟩ := List.getElem_of_mem hx
        have := hlo.out j (by rw [← hn.out]; exact hj)
        rwa [syAt_get hj] at this
      clear hlo
      obtain ⟨ad, rfl, had, _⟩ := H.out.at_ (i := 0) (by rw [hn.out]; omega)
      have had := Lib.hid had
      have hw1 := Lib.hid hb1.out.size
      obtain ⟨i, rfl⟩ : ∃ i : Nat, i0 = (i : Int) := ⟨i0.toNat, by omega⟩
      have hkI0 : (k : Int) + 1 ≠ 0 := by omega
      go_wp2_with fail
      refine (c_new k k rfl (by omega) (fun b => w1.heap.size ≤ b) (fun b hb => hb)).mono ?_
      rintro e w3 ⟨p, rfl, hb, hp⟩
      have hp3 := Lib.hid hp
      have hz3 := Lib.hid (show w1.heap.size ≤ w3.heap.size from hb.size)
      have hb3 := Lib.hid (hb1.out.trans (hb.mono hb1.out.size))
      have hs3 := Lib.hid ((H.out.below hb3.out).more hb3.out.size)
      have hA : Hid (∀ a, some ad = some a → ¬ w1.heap.size ≤ a.block) := fun a e => by
        injection e with e
        subst e
        have := had.out
        have := hw1.out
        omega
      have hlow : Hid (∀ b, w1.heap.size ≤ b → wb.heap.size ≤ b) := fun b h => Nat.le_trans hw1.out h
      clear hp hb
      go_wp2_with fail
      have hκI : (i : Int) % ((k : Int) + 1) = ((i % (k + 1) : Nat) : Int) := by rw [Int.natCast_emod]; rfl
      have hκk : i % (k + 1) < k + 1 := Nat.mod_lt _ (by omega)
      rw [hκI]
      clear hκI hkI0
      generalize i % (k + 1) = κ at hκk ⊢
      refine (c_prog hp3.out (fun b h => Nat.le_trans hz3.out h) (n := k) hn.out l0.out hs3.out hA.out (by rw [List.length_replicate]; exact hn.out) (by rw [hn.out]; omega) hx.out (κ : Int) (by omega)).mono ?_
      rintro e w4 ⟨rfl, hk4, ss, hp, _⟩
      rw [hn.out] at hp
      obtain ⟨ps, hps⟩ : ∃ ps, Hid (progP (List.replicate k (0, 0)) xs (κ : Int) = ps) := ⟨_, Lib.hid rfl⟩
      have hpl : Hid (ps.length = k) := by rw [← hps.out]; exact (prog_len _ _ _).trans (by simp)
      have hpat : Hid (∀ j, j < k → ptAt ps j = if j < κ then pt (syAt xs j) else (0, 0)) := fun j hj => by rw [← hps.out]; exact progP_zero k xs hj
      rw [hps.out] at hp
      have hp4 := Lib.hid hp
      have hb4 := Lib.hid (Cl.Keeps.low hb3.out (fun b h => hlow.out b h) hk4)
      have hz4 := Lib.hid (Nat.le_trans hz3.out hk4.size)
      clear hp hk4 hs3 hp3 hb3 hz3
      go_wp2_with fail
      refine (c_sense hp4.out (n := k) hpl.out).mono ?_
      rintro e w5 ⟨B, d, rfl, hid, hb, hpt⟩
      rcases hpt with hpt | ⟨g5, rfl, hg5, hX5, hP5⟩
      · have := hpl.out; rw [hpt] at this; exact absurd this.symm hz
      rw [hpl.out] at hP5
      have hP5 := Lib.hid hP5
      have hg5l := hX5.lt
      have hp5 := hp4.out.below hb
      have hb5 := Lib.hid (hb4.out.trans (hb.mono hb4.out.size))
      have hz5 := Lib.hid (Nat.le_trans hz4.out hb.size)
      have hs5 := Lib.hid (H.out.below hb5.out)
      have p0 := (hb5.out.cell (p := ⟨w.heap.size, 0, none⟩) hwl.out).trans q0.out
      have p1 := (hb5.out.cell (p := ⟨w.heap.size, 1, none⟩) hwl.out).trans q1.out
      replace p0 : w5.cell? ⟨w.heap.size, 0, none⟩ = some (.int .i8 b0) := p0
      replace p1 : w5.cell? ⟨w.heap.size, 1, none⟩ = some (.int .i8 b1) := p1
      have hp5 := Lib.hid hp5
      clear hb hX5 hg5 hp4 hb4 hz4
      go_wp2_with fail
      go_loop [11] (fun q => ∃ j : Nat, j ≤ k ∧ q = .int .i64 j) (fun q => k - (intOf q).toNat)
      case atStart => exact ⟨0, Nat.zero_le _, rfl⟩
      case round =>
        obtain ⟨j, hj, rfl⟩ := hrel
        by_cases hjk : j < k
        · have hjI : (j : Int) < (k : Int) := by omega
          have hdj : decide (j < k) = true := decide_eq_true hjk
          have hjl : j < xs.length := by rw [hn.out]; exact hjk
          obtain ⟨x, y, hc, hx1, hy1⟩ := hP5.out j hjk
          rw [hpat.out j hjk] at hx1 hy1
          obtain ⟨a', e, had', hcs⟩ := hs5.out.at_ hjl
          injection e with e
          subst e
          rw [← syAt_get hjl] at hcs
          obtain ⟨S, hS⟩ : ∃ S, syAt xs j = S := ⟨_, rfl⟩
          have hS4 : S < 1024 := by rw [← hS]; exact syAt_lt hx.out j
          rw [hS] at hx1 hy1 hcs
          have hof := Lib.hid (fun w => refof_any (S : Int) w (by omega) (by omega))
          by_cases hjκ : j < κ
          · rw [if_pos hjκ] at hx1 hy1
            have hjκI : ¬ (κ : Int) ≤ (j : Int) := by omega
            have hdκ : decide (κ ≤ j) = false := decide_eq_false (by omega)
            have o1 : (FloatKind.f64.format.order x (L ((S : Int) / 32)) == some .eq) = true := by rw [ord_eq_i hx1 (is_L1 S)]; simp
            have o2 : (FloatKind.f64.format.order y (L (S : Int)) == some .eq) = true := by rw [ord_eq_i hy1 (is_L2 S)]; simp
            clear hx1 hy1 had'
            go_wp2_with (first | (go_at_call 16; (with_reducible refine (hof.out _).mono ?_); rintro e w' ⟨rfl, rfl⟩))
            go_round
            case rel => exact ⟨j + 1, by omega, by go_num⟩
            case measure => simp [intOf]; omega
          · rw [if_neg hjκ] at hx1 hy1
            have hjκI : (κ : Int) ≤ (j : Int) := by omega
            have hdκ : decide (κ ≤ j) = true := decide_eq_true (by omega)
            have o1 : (FloatKind.f64.format.order x 0 == some .eq) = true := by rw [ord_eq_i hx1 is_zero']; simp
            have o2 : (FloatKind.f64.format.order y 0 == some .eq) = true := by rw [ord_eq_i hy1 is_zero']; simp
            clear hx1 hy1 had'
            go_wp2_with (first | (go_at_call 16; (with_reducible refine (hof.out _).mono ?_); rintro e w' ⟨rfl, rfl⟩))
            go_round
            case rel => exact ⟨j + 1, by omega, by go_num⟩
            case measure => simp [intOf]; omega
        · obtain rfl : j = k := by omega
          have hdj : decide (j < j) = false := decide_eq_false (Nat.lt_irrefl _)
          have hz : j ≠ 0 := hz
          replace hp5 := hp5.out
          rcases (by omega : κ = j ∨ κ = 0 ∨ (0 < κ ∧ κ < j)) with hκk2 | hκk2 | hκk2
          · have hκk := hκk2
            have hst : progS j (κ : Int) = 1 := by unfold progS; rw [if_neg (by omega), if_pos (by omega)]
            have hwt : ((κ : Int) == (j : Int)) = true := by rw [beq_iff_eq]; omega
            have hwt2 : (κ == j) = true := by rw [beq_iff_eq]; omega
            have hκ0 : ((κ : Int) == 0) = false := by rw [beq_eq_false_iff_ne]; omega
            have hκ02 : (κ == 0) = false := by rw [beq_eq_false_iff_ne]; omega
            rw [hst] at hp5
            have hmv : Hid (∀ X Y : Int, -59 ≤ X ∧ X ≤ 59 → -59 ≤ Y ∧ Y ≤ 59 → movB ps 1 0 X Y = true) := fun X Y hX hY => by
              have e : ps = xs.map pt := by rw [← hps.out, hκk, ← hn.out]; exact prog_all (by simp)
              rw [e]
              exact mov_ok (t := 0) (by rw [hn.out]; omega) hX hY
            replace hp5 := Lib.hid hp5
            go_wp2_with fail
            have hX0 := tmod60 (b := b0)
            have hY0 := tmod60 (b := b1)
            generalize b0.tmod 60 = X at hX0 ⊢
            generalize b1.tmod 60 = Y at hY0 ⊢
            have e6 := hmv.out X Y hX0 hY0
            refine (c_drift hp5.out (fun b h => Nat.le_trans hz5.out h) (ofInt_is X (by omega)) (ofInt_is Y (by omega)) (by omega) (by omega) 0).mono ?_
            rintro e w6 ⟨rfl, hk6, hp⟩
            rw [e6] at hp ⊢
            have hl6 : (if true = true then movP ps (Int.toNat 0) X Y else ps).length = j := by
              first
                | (rw [if_pos rfl]; unfold movP; rw [List.length_set]; exact hpl.out)
                | (rw [if_neg (by decide)]; exact hpl.out)
            generalize (if true = true then movP ps (Int.toNat 0) X Y else ps) = ps6 at hp hl6
            have hp6 := Lib.hid hp
            have hb6 := Lib.hid (Cl.Keeps.low hb5.out (fun b h => hlow.out b h) hk6)
            have hz6 := Lib.hid (Nat.le_trans hz5.out hk6.size)
            have hs6 := Lib.hid ((H.out.below hb6.out).more hb6.out.size)
            clear hp hk6 hp5 hb5 hz5 hs5 e6
            go_wp2_with fail
            refine (c_order hp6.out (by decide)).mono ?_
            rintro e w7 ⟨rfl, hb⟩
            obtain ⟨ps7, hp7, hl7⟩ : ∃ ps7, Hid (Page w7 (fun b => w1.heap.size ≤ b) p ps7 ss 1) ∧ ps7.length = j := ⟨ps6, hp6.out.below hb, hl6⟩
            have hb7 := Lib.hid (hb6.out.trans (hb.mono hb6.out.size))
            have hz7 := Lib.hid (Nat.le_trans hz6.out hb.size)
            clear hb
            clear hp6 hb6 hz6 hs6 hl6
            go_wp2_with fail
            refine (c_erase hp7.out (fun b h => Nat.le_trans hz7.out h)).mono ?_
            rintro e w8 ⟨rfl, hk8, ss8, hp⟩
            rw [hl7] at hp
            have hp8 := Lib.hid hp
            have hb8 := Lib.hid (Cl.Keeps.low hb7.out (fun b h => hlow.out b h) hk8)
            have hz8 := Lib.hid (Nat.le_trans hz7.out hk8.size)
            have hs8 := Lib.hid ((H.out.below hb8.out).more hb8.out.size)
            clear hp hk8 hp7 hb7 hz7 hl7
            go_wp2_with fail
            refine (c_prog hp8.out (fun b h => Nat.le_trans hz8.out h) (n := j) hn.out l0.out hs8.out hA.out (by rw [List.length_replicate]; exact hn.out) (by rw [hn.out]; omega) hx.out j (by omega)).mono ?_
            rintro e w9 ⟨rfl, hk9, ss9, hp, hss9⟩
            obtain rfl := hss9 (by omega)
            have hp9 := Lib.hid (show Page w9 (fun b => w1.heap.size ≤ b) p (ss9.map pt) ss9 1 from by
              have e1 : progP (List.replicate j (0, 0)) ss9 (j : Int) = ss9.map pt := by rw [← hn.out]; exact prog_all (by simp)
              rw [e1] at hp
              have e2 : progS ss9.length (j : Int) = 1 := by rw [hn.out]; exact prog_S (by omega)
              rw [e2] at hp
              exact hp)
            have hb9 := Lib.hid (Cl.Keeps.low hb8.out (fun b h => hlow.out b h) hk9)
            have hwn := wrong_none hx.out
            clear hp hss9 hk9 hp8 hb8 hz8 hs8
            go_wp2_with fail
            refine (c_wrong hp9.out (l := []) (n := 0) (by rw [if_pos rfl, hwn]) rfl).mono ?_
            rintro e w10 ⟨A10, c10, rfl, hb, _⟩
            have hb10 := Lib.hid (hb9.out.trans (hb.mono hb9.out.size))
            have hp10 := Lib.hid (hp9.out.below hb)
            clear hb hb9 hp9
            go_wp2_with fail
            refine (c_state hp10.out).mono ?_
            rintro e w11 ⟨rfl, hb⟩
            have hb11 := Lib.hid (hb10.out.trans (hb.mono hb10.out.size))
            clear hb
            go_wp2_with fail
            go_ret
            exact ⟨rfl, hbx.out.trans (hb11.out.mono hbx.out.size)⟩
          · have hκk := hκk2
            have hst : progS j (κ : Int) = 0 := by unfold progS; rw [if_pos (by omega)]
            have hwt : ((κ : Int) == (j : Int)) = false := by rw [beq_eq_false_iff_ne]; omega
            have hwt2 : (κ == j) = false := by rw [beq_eq_false_iff_ne]; omega
            have hwt3 : ((0 : Int) == (j : Int)) = false := by rw [beq_eq_false_iff_ne]; omega
            have hwt4 : (0 == j) = false := by rw [beq_eq_false_iff_ne]; omega
            have hκ0 : ((κ : Int) == 0) = true := by rw [beq_iff_eq]; omega
            have hκ02 : (κ == 0) = true := by rw [beq_iff_eq]; omega
            rw [hst] at hp5
            have hmv : Hid (∀ X Y : Int, -59 ≤ X ∧ X ≤ 59 → -59 ≤ Y ∧ Y ≤ 59 → movB ps 0 0 X Y = false) := fun X Y hX hY => by
              unfold movB
              rw [decide_eq_false_iff_not]
              intro e
              exact absurd e.1 (by decide)
            replace hp5 := Lib.hid hp5
            go_wp2_with fail
            have hX0 := tmod60 (b := b0)
            have hY0 := tmod60 (b := b1)
            generalize b0.tmod 60 = X at hX0 ⊢
            generalize b1.tmod 60 = Y at hY0 ⊢
            have e6 := hmv.out X Y hX0 hY0
            refine (c_drift hp5.out (fun b h => Nat.le_trans hz5.out h) (ofInt_is X (by omega)) (ofInt_is Y (by omega)) (by omega) (by omega) 0).mono ?_
            rintro e w6 ⟨rfl, hk6, hp⟩
            rw [e6] at hp ⊢
            have hl6 : (if false = true then movP ps (Int.toNat 0) X Y else ps).length = j := by
              first
                | (rw [if_pos rfl]; unfold movP; rw [List.length_set]; exact hpl.out)
                | (rw [if_neg (by decide)]; exact hpl.out)
            generalize (if false = true then movP ps (Int.toNat 0) X Y else ps) = ps6 at hp hl6
            have hp6 := Lib.hid hp
            have hb6 := Lib.hid (Cl.Keeps.low hb5.out (fun b h => hlow.out b h) hk6)
            have hz6 := Lib.hid (Nat.le_trans hz5.out hk6.size)
            have hs6 := Lib.hid ((H.out.below hb6.out).more hb6.out.size)
            clear hp hk6 hp5 hb5 hz5 hs5 e6
            go_wp2_with fail
            refine (c_prog hp6.out (fun b h => Nat.le_trans hz6.out h) (n := j) hn.out l0.out hs6.out hA.out (by rw [hl6]; exact hn.out) (by rw [hn.out]; omega) hx.out 1 (by omega)).mono ?_
            rintro e w7 ⟨rfl, hk7, ss7, hp, _⟩
            have hl7 : (progP ps6 xs 1).length = j := by rw [prog_len]; exact hl6
            generalize progP ps6 xs 1 = ps7 at hp hl7
            generalize progS xs.length 1 = st7 at hp
            have hp7 := Lib.hid hp
            have hb7 := Lib.hid (Cl.Keeps.low hb6.out (fun b h => hlow.out b h) hk7)
            have hz7 := Lib.hid (Nat.le_trans hz6.out hk7.size)
            clear hp hk7
            clear hp6 hb6 hz6 hs6 hl6
            go_wp2_with fail
            refine (c_erase hp7.out (fun b h => Nat.le_trans hz7.out h)).mono ?_
            rintro e w8 ⟨rfl, hk8, ss8, hp⟩
            rw [hl7] at hp
            have hp8 := Lib.hid hp
            have hb8 := Lib.hid (Cl.Keeps.low hb7.out (fun b h => hlow.out b h) hk8)
            have hz8 := Lib.hid (Nat.le_trans hz7.out hk8.size)
            have hs8 := Lib.hid ((H.out.below hb8.out).more hb8.out.size)
            clear hp hk8 hp7 hb7 hz7 hl7
            go_wp2_with fail
            refine (c_prog hp8.out (fun b h => Nat.le_trans hz8.out h) (n := j) hn.out l0.out hs8.out hA.out (by rw [List.length_replicate]; exact hn.out) (by rw [hn.out]; omega) hx.out j (by omega)).mono ?_
            rintro e w9 ⟨rfl, hk9, ss9, hp, hss9⟩
            obtain rfl := hss9 (by omega)
            have hp9 := Lib.hid (show Page w9 (fun b => w1.heap.size ≤ b) p (ss9.map pt) ss9 1 from by
              have e1 : progP (List.replicate j (0, 0)) ss9 (j : Int) = ss9.map pt := by rw [← hn.out]; exact prog_all (by simp)
              rw [e1] at hp
              have e2 : progS ss9.length (j : Int) = 1 := by rw [hn.out]; exact prog_S (by omega)
              rw [e2] at hp
              exact hp)
            have hb9 := Lib.hid (Cl.Keeps.low hb8.out (fun b h => hlow.out b h) hk9)
            have hwn := wrong_none hx.out
            clear hp hss9 hk9 hp8 hb8 hz8 hs8
            go_wp2_with fail
            refine (c_wrong hp9.out (l := []) (n := 0) (by rw [if_pos rfl, hwn]) rfl).mono ?_
            rintro e w10 ⟨A10, c10, rfl, hb, _⟩
            have hb10 := Lib.hid (hb9.out.trans (hb.mono hb9.out.size))
            have hp10 := Lib.hid (hp9.out.below hb)
            clear hb hb9 hp9
            go_wp2_with fail
            refine (c_state hp10.out).mono ?_
            rintro e w11 ⟨rfl, hb⟩
            have hb11 := Lib.hid (hb10.out.trans (hb.mono hb10.out.size))
            clear hb
            go_wp2_with fail
            go_ret
            exact ⟨rfl, hbx.out.trans (hb11.out.mono hbx.out.size)⟩
          · have hκk := hκk2
            have hst : progS j (κ : Int) = 2 := by unfold progS; rw [if_neg (by omega), if_neg (by omega)]
            have hwt : ((κ : Int) == (j : Int)) = false := by rw [beq_eq_false_iff_ne]; omega
            have hwt2 : (κ == j) = false := by rw [beq_eq_false_iff_ne]; omega
            have hκ0 : ((κ : Int) == 0) = false := by rw [beq_eq_false_iff_ne]; omega
            have hκ02 : (κ == 0) = false := by rw [beq_eq_false_iff_ne]; omega
            rw [hst] at hp5
            have hmv : Hid (∀ X Y : Int, -59 ≤ X ∧ X ≤ 59 → -59 ≤ Y ∧ Y ≤ 59 → movB ps 2 0 X Y = false) := fun X Y hX hY => by
              unfold movB
              rw [decide_eq_false_iff_not]
              intro e
              exact absurd e.1 (by decide)
            replace hp5 := Lib.hid hp5
            go_wp2_with fail
            have hX0 := tmod60 (b := b0)
            have hY0 := tmod60 (b := b1)
            generalize b0.tmod 60 = X at hX0 ⊢
            generalize b1.tmod 60 = Y at hY0 ⊢
            have e6 := hmv.out X Y hX0 hY0
            refine (c_drift hp5.out (fun b h => Nat.le_trans hz5.out h) (ofInt_is X (by omega)) (ofInt_is Y (by omega)) (by omega) (by omega) 0).mono ?_
            rintro e w6 ⟨rfl, hk6, hp⟩
            rw [e6] at hp ⊢
            have hl6 : (if false = true then movP ps (Int.toNat 0) X Y else ps).length = j := by
              first
                | (rw [if_pos rfl]; unfold movP; rw [List.length_set]; exact hpl.out)
                | (rw [if_neg (by decide)]; exact hpl.out)
            generalize (if false = true then movP ps (Int.toNat 0) X Y else ps) = ps6 at hp hl6
            have hp6 := Lib.hid hp
            have hb6 := Lib.hid (Cl.Keeps.low hb5.out (fun b h => hlow.out b h) hk6)
            have hz6 := Lib.hid (Nat.le_trans hz5.out hk6.size)
            have hs6 := Lib.hid ((H.out.below hb6.out).more hb6.out.size)
            clear hp hk6 hp5 hb5 hz5 hs5 e6
            go_wp2_with fail
            refine (c_order hp6.out (by decide)).mono ?_
            rintro e w7 ⟨rfl, hb⟩
            obtain ⟨ps7, hp7, hl7⟩ : ∃ ps7, Hid (Page w7 (fun b => w1.heap.size ≤ b) p ps7 ss 2) ∧ ps7.length = j := ⟨ps6, hp6.out.below hb, hl6⟩
            have hb7 := Lib.hid (hb6.out.trans (hb.mono hb6.out.size))
            have hz7 := Lib.hid (Nat.le_trans hz6.out hb.size)
            clear hb
            clear hp6 hb6 hz6 hs6 hl6
            go_wp2_with fail
            refine (c_erase hp7.out (fun b h => Nat.le_trans hz7.out h)).mono ?_
            rintro e w8 ⟨rfl, hk8, ss8, hp⟩
            rw [hl7] at hp
            have hp8 := Lib.hid hp
            have hb8 := Lib.hid (Cl.Keeps.low hb7.out (fun b h => hlow.out b h) hk8)
            have hz8 := Lib.hid (Nat.le_trans hz7.out hk8.size)
            have hs8 := Lib.hid ((H.out.below hb8.out).more hb8.out.size)
            clear hp hk8 hp7 hb7 hz7 hl7
            go_wp2_with fail
            refine (c_prog hp8.out (fun b h => Nat.le_trans hz8.out h) (n := j) hn.out l0.out hs8.out hA.out (by rw [List.length_replicate]; exact hn.out) (by rw [hn.out]; omega) hx.out j (by omega)).mono ?_
            rintro e w9 ⟨rfl, hk9, ss9, hp, hss9⟩
            obtain rfl := hss9 (by omega)
            have hp9 := Lib.hid (show Page w9 (fun b => w1.heap.size ≤ b) p (ss9.map pt) ss9 1 from by
              have e1 : progP (List.replicate j (0, 0)) ss9 (j : Int) = ss9.map pt := by rw [← hn.out]; exact prog_all (by simp)
              rw [e1] at hp
              have e2 : progS ss9.length (j : Int) = 1 := by rw [hn.out]; exact prog_S (by omega)
              rw [e2] at hp
              exact hp)
            have hb9 := Lib.hid (Cl.Keeps.low hb8.out (fun b h => hlow.out b h) hk9)
            have hwn := wrong_none hx.out
            clear hp hss9 hk9 hp8 hb8 hz8 hs8
            go_wp2_with fail
            refine (c_wrong hp9.out (l := []) (n := 0) (by rw [if_pos rfl, hwn]) rfl).mono ?_
            rintro e w10 ⟨A10, c10, rfl, hb, _⟩
            have hb10 := Lib.hid (hb9.out.trans (hb.mono hb9.out.size))
            have hp10 := Lib.hid (hp9.out.below hb)
            clear hb hb9 hp9
            go_wp2_with fail
            refine (c_state hp10.out).mono ?_
            rintro e w11 ⟨rfl, hb⟩
            have hb11 := Lib.hid (hb10.out.trans (hb.mono hb10.out.size))
            clear hb
            go_wp2_with fail
            go_ret
            exact ⟨rfl, hbx.out.trans (hb11.out.mono hbx.out.size)⟩
end Go.Proofs.Ytedpbidijgjkeaa
