/- The law over cells that move there and back. -/
import Derived.Test.YtedpbidijgjkeaaYh
namespace Go.Proofs.Ytedpbidijgjkeaa
open Go.RowKit Go.Gf Go.Fl
set_option linter.unusedVariables false
set_option linter.unusedSimpArgs false
attribute [local go_sem ↓] Cl.quiet_after

theorem tmod60 {b : Int} : -59 ≤ b.tmod 60 ∧ b.tmod 60 ≤ 59 := by
  rcases Int.le_total 0 b with h | h
  · rw [Int.tmod_eq_emod_of_nonneg h]; omega
  · have e : b = -(-b) := by omega
    rw [e, Int.neg_tmod, Int.tmod_eq_emod_of_nonneg (by omega)]; omega
theorem mov_ok {xs : List Nat} {t : Nat} (ht : t < xs.length) {X Y : Int} (hX : -59 ≤ X ∧ X ≤ 59) (hY : -59 ≤ Y ∧ Y ≤ 59) : movB (xs.map pt) 1 t X Y = true := by
  unfold movB
  rw [decide_eq_true_eq, Int.toNat_natCast, ptAt_map ht, List.length_map]
  have := pt_range (syAt xs t)
  omega
theorem movP_at {xs : List Nat} {t : Nat} (ht : t < xs.length) (X Y : Int) : ptAt (movP (xs.map pt) t X Y) t = ((pt (syAt xs t)).1 + X, (pt (syAt xs t)).2 + Y) := by
  unfold movP
  rw [ptAt_map ht]
  conv => lhs; unfold ptAt
  rw [List.getD_eq_getElem?_getD, List.getElem?_set_self (by simpa using ht)]
  rfl
theorem mov_ok2 {xs : List Nat} {t : Nat} (ht : t < xs.length) {X Y : Int} (hX : -59 ≤ X ∧ X ≤ 59) (hY : -59 ≤ Y ∧ Y ≤ 59) : movB (movP (xs.map pt) t X Y) 1 t (-X) (-Y) = true := by
  unfold movB
  rw [decide_eq_true_eq, Int.toNat_natCast, movP_at ht]
  have hl : (movP (xs.map pt) t X Y).length = xs.length := by unfold movP; simp
  rw [hl]
  have := pt_range (syAt xs t)
  dsimp only
  omega
theorem lex4_18 : (Cl.opsAt 18 (Try.f4.body.getD .skip)).map (Region.lexB .any) = some true := by kernel_rfl
set_option maxRecDepth 20000 in
set_option maxHeartbeats 8000000 in
theorem move_law (A0 : Option Addr) (xs : List Nat) (c0 : Nat) (l0 : xs.length ≤ c0) (m0 : c0 ≤ maxLen) (i0 : Int) (hi0 : 0 ≤ i0 ∧ i0 ≤ 255) (b0 b1 : Int) (hb0 : -128 ≤ b0 ∧ b0 ≤ 127) (hb1 : -128 ≤ b1 ∧ b1 ≤ 127) (w : World) (s0 : Sl w w.heap.size A0 xs) :
    Calls Try.prog 4 #[.slice A0 xs.length c0, .int .u8 i0, .agg #[.int .i8 b0, .int .i8 b1]] w (Ans w (.bool true)) := by
  have ca := Lib.hid awake_any
  have H := Lib.hid s0
  obtain ⟨n, hn⟩ : ∃ n, xs.length = n := ⟨_, rfl⟩
  rw [hn] at l0 ⊢
  replace hn := Lib.hid hn
  have hbx := Lib.hid (below_alloc' w (.cells #[.int .i8 b0, .int .i8 b1] 37))
  replace l0 := Lib.hid l0
  clear s0 m0
  by_cases hz : n = 0
  · subst hz
    go_enter Try.func4, Try.ntmps4
    go_wp2_with fail
    refine (ca.out _).mono ?_
    rintro e w1 ⟨rfl, hb1⟩
    have hb := hbx.out.trans (hb1.mono hbx.out.size)
    go_wp2_with fail
    go_ret
    exact ⟨rfl, hb⟩
  by_cases h300 : 300 < n
  · have hI : (300 : Int) < (n : Int) := by omega
    have hI2 : ((n : Int) == 0) = false := by rw [beq_eq_false_iff_ne]; omega
    have hI3 : (n == 0) = false := by rw [beq_eq_false_iff_ne]; omega
    go_enter Try.func4, Try.ntmps4
    go_wp2_with fail
    refine (ca.out _).mono ?_
    rintro e w1 ⟨rfl, hb1⟩
    have hb := hbx.out.trans (hb1.mono hbx.out.size)
    go_wp2_with fail
    go_ret
    exact ⟨rfl, hb⟩
  have hI : ¬ (300 : Int) < (n : Int) := by omega
  have hI2 : ((n : Int) == 0) = false := by rw [beq_eq_false_iff_ne]; omega
  have hI3 : (n == 0) = false := by rw [beq_eq_false_iff_ne]; omega
  go_enter Try.func4, Try.ntmps4
  go_wp2_with fail
  refine (ca.out _).mono ?_
  rintro e w1 ⟨rfl, hb1⟩
  have q0 : w1.cell? ⟨w.heap.size, 0, none⟩ = some (.int .i8 b0) := (hb1.cell (by rw [World.size_alloc]; show w.heap.size < _; omega)).trans (cell_new w _ _ 0)
  have q1 : w1.cell? ⟨w.heap.size, 1, none⟩ = some (.int .i8 b1) := (hb1.cell (by rw [World.size_alloc]; show w.heap.size < _; omega)).trans (cell_new w _ _ 1)
  have hw1 := Lib.hid (show w.heap.size < w1.heap.size from by have := hb1.size; rw [World.size_alloc] at this; omega)
  have hb1 := Lib.hid (hbx.out.trans (hb1.mono hbx.out.size))
  have H1 := Lib.hid (H.out.below hb1.out)
  go_wp2_with fail
  go_loop [7] (fun q => ∃ k : Nat, k ≤ n ∧ q = .int .i64 k ∧ Hid (∀ j, j < k → syAt xs j < 1024)) (fun q => n - (intOf q).toNat)
  case atStart => exact ⟨0, Nat.zero_le _, rfl, Lib.hid (fun j h => absurd h (by omega))⟩
  case round =>
    obtain ⟨k, hk, rfl, hlo⟩ := hrel
    by_cases hlt : k < n
    · have hkI : (k : Int) < (n : Int) := by omega
      have hd : decide (k < n) = true := decide_eq_true hlt
      obtain ⟨a, rfl, hab, hc⟩ := H1.out.at_ (i := k) (by rw [hn.out]; exact hlt)
      rw [← syAt_get (by rw [hn.out]; exact hlt)] at hc
      obtain ⟨X, hX⟩ : ∃ X, Hid (syAt xs k = X) := ⟨_, Lib.hid rfl⟩
      rw [hX.out] at hc
      by_cases hX4 : 1024 ≤ X
      · have hXI : (1024 : Int) ≤ (X : Int) := by omega
        go_wp2_with fail
        go_ret
        exact ⟨rfl, hb1.out⟩
      · have hXI : ¬ (1024 : Int) ≤ (X : Int) := by omega
        go_wp2_with fail
        go_round
        case rel => exact ⟨k + 1, by omega, by go_num, Lib.hid (fun j hj => by
          rcases Nat.lt_or_ge j k with h | h
          · exact hlo.out j h
          · obtain rfl : j = k := by omega
            rw [hX.out]; omega)⟩
        case measure => simp [intOf]; omega
    · obtain rfl : k = n := by omega
      have hd : decide (k < k) = false := decide_eq_false (Nat.lt_irrefl _)
      have hx : Hid (∀ x ∈ xs, x < 1024) := fun x hx => by
        obtain ⟨j, hj, rfl⟩ := List.getElem_of_mem hx
        have := hlo.out j (by rw [← hn.out]; exact hj)
        rwa [syAt_get hj] at this
      clear hlo
      obtain ⟨ad, rfl, had, _⟩ := H.out.at_ (i := 0) (by rw [hn.out]; omega)
      have hX0 := tmod60 (b := b0)
      have hY0 := tmod60 (b := b1)
      go_wp2_with fail
      go_quiet (fail)
      go_wp2_with fail
      generalize b0.tmod 60 = X at hX0 ⊢
      generalize b1.tmod 60 = Y at hY0 ⊢
      have had := Lib.hid had
      clear q0 q1 hb0 hbx
      refine (c_new (w := w1.drewN nq) k k rfl (by omega) (fun b => w1.heap.size ≤ b) (fun b hb => hb)).mono ?_
      rintro e w3 ⟨p, rfl, hb, hp⟩
      have hp3 := Lib.hid hp
      have hz3 := Lib.hid (show w1.heap.size ≤ w3.heap.size from hb.size)
      have hb3 := Lib.hid ((below_drewN hb1.out nq).trans (hb.mono (below_drewN hb1.out nq).size))
      have hs3 := Lib.hid ((H.out.below hb3.out).more hb3.out.size)
      clear hp hb
      go_wp2_with fail
      refine (c_prog hp3.out (fun b h => ?_) (n := k) hn.out l0.out hs3.out (fun a e h => ?_) (by rw [List.length_replicate]; exact hn.out) (by rw [hn.out]; omega) hx.out k (by omega)).mono ?_
      · have := hz3.out; omega
      · injection e with e
        subst e
        have h : w1.heap.size ≤ ad.block := h
        have := had.out
        have := hw1.out
        omega
      rintro e w4 ⟨rfl, hk4, ss, hp, hss⟩
      obtain rfl := hss (by omega)
      have hp4 := Lib.hid (show Page w4 (fun b => w1.heap.size ≤ b) p (ss.map pt) ss 1 from by
        have e1 : progP (List.replicate k (0, 0)) ss (k : Int) = ss.map pt := by rw [← hn.out]; exact prog_all (by simp)
        rw [e1] at hp
        have e2 : progS ss.length (k : Int) = 1 := by rw [hn.out]; exact prog_S (by omega)
        rw [e2] at hp
        exact hp)
      have hlow : Hid (∀ b, w1.heap.size ≤ b → w.heap.size ≤ b) := fun b h => by have := hw1.out; omega
      have hb4 := Lib.hid (Cl.Keeps.low hb3.out (fun b h => hlow.out b h) hk4)
      have hz4 := Lib.hid (Nat.le_trans hz3.out hk4.size)
      clear hp hss hk4 hs3 hp3 hb3
      have hwn := wrong_none hx.out
      go_wp2_with fail
      refine (c_wrong hp4.out (l := []) (n := 0) (by rw [if_pos rfl, hwn]) rfl).mono ?_
      rintro e w5 ⟨A5, c5, rfl, hb, _⟩
      have hb5 := Lib.hid (hb4.out.trans (hb.mono hb4.out.size))
      have hp5 := Lib.hid (hp4.out.below hb)
      have hz5 := Lib.hid (Nat.le_trans hz4.out hb.size)
      obtain ⟨i, rfl⟩ : ∃ i : Nat, i0 = (i : Int) := ⟨i0.toNat, by omega⟩
      have hkI0 : (k : Int) ≠ 0 := by omega
      clear hb hb4 hp4 hz4 hwn
      go_wp2_with fail
      have htI : (i : Int) % (k : Int) = ((i % k : Nat) : Int) := (Int.natCast_emod i k).symm
      have htk : i % k < k := Nat.mod_lt _ (by omega)
      rw [htI]
      clear htI hkI0
      generalize i % k = t at htk ⊢
      have htl : t < ss.length := by rw [hn.out]; exact htk
      have e6 := mov_ok htl hX0 hY0
      refine (c_drift hp5.out (fun b h => ?_) (ofInt_is X (by omega)) (ofInt_is Y (by omega)) (by omega) (by omega) (t : Int)).mono ?_
      · have := hz5.out; omega
      rintro e w6 ⟨rfl, hk6, hp⟩
      rw [e6, if_pos rfl, Int.toNat_natCast] at hp
      rw [e6]
      have hp6 := Lib.hid hp
      have hb6 := Lib.hid (Cl.Keeps.low hb5.out (fun b h => hlow.out b h) hk6)
      have hz6 := Lib.hid (Nat.le_trans hz5.out hk6.size)
      clear hp hk6 hp5 hb5 hz5 e6
      have hpl : (movP (ss.map pt) t X Y).length = k := by unfold movP; rw [List.length_set, List.length_map]; exact hn.out
      have hat := movP_at htl X Y
      go_wp2_with fail
      refine (c_sense hp6.out (n := k) hpl).mono ?_
      rintro e w7 ⟨B, d, rfl, hid, hb, hpt⟩
      have hp7 := Lib.hid (hp6.out.below hb)
      have hb7 := Lib.hid (hb6.out.trans (hb.mono hb6.out.size))
      have hz7 := Lib.hid (Nat.le_trans hz6.out hb.size)
      rcases hpt with hpt | ⟨g7, rfl, hg7, hX7, hP7⟩
      · rw [hpt] at hpl; exact absurd hpl.symm hz
      obtain ⟨x, y, hc, hx1, hy1⟩ := hP7 t (by rw [hpl]; exact htk)
      rw [hat] at hx1 hy1
      have hg7l := hX7.lt
      have htkI : (t : Int) < (k : Int) := by omega
      obtain ⟨S, hS⟩ : ∃ S, syAt ss t = S := ⟨_, rfl⟩
      have hwr := wrong_set hx.out htl ((pt (syAt ss t)).1 + X, (pt (syAt ss t)).2 + Y)
      have hmv : movP (ss.map pt) t X Y = (ss.map pt).set t ((pt (syAt ss t)).1 + X, (pt (syAt ss t)).2 + Y) := by unfold movP; rw [ptAt_map htl]
      rw [← hmv, hS] at hwr
      have hrg := pt_range S
      rw [hS] at hx1 hy1
      have hS4 : S < 1024 := by rw [← hS]; exact syAt_lt hx.out t
      have e7 := mov_ok2 htl hX0 hY0
      have hmb := mov_back htl X Y
      have ha : -1000 ≤ (pt S).1 + X ∧ (pt S).1 + X ≤ 1000 := by omega
      have hbb : -1000 ≤ (pt S).2 + Y ∧ (pt S).2 + Y ≤ 1000 := by omega
      clear hrg hat hmv hpl
      generalize (pt S).1 + X = a at *
      generalize (pt S).2 + Y = b at *
      have hsl := Lib.hid (refslice_any hx1 hy1 (by omega) (by omega))
      have o1 := ord_eq_i hx1 is_zero'
      have o2 := ord_eq_i hy1 is_zero'
      have hbad : bad (a, b) S = ((decide (a = 0) && decide (b = 0)) || decide (slc a b ≠ (S : Int))) := by
        unfold bad
        congr 1
        rw [Bool.eq_iff_iff, Bool.and_eq_true, decide_eq_true_eq, decide_eq_true_eq, decide_eq_true_eq, Prod.mk.injEq]
      have hz := (show (slc a b != (S : Int)) = decide (slc a b ≠ (S : Int)) from by rw [Bool.eq_iff_iff]; simp)
      clear hx1 hy1 ha hbb
      generalize slc a b = SL at *
      generalize decide (a = 0) = O1 at *
      generalize decide (b = 0) = O2 at *
      generalize decide (SL ≠ (S : Int)) = Z at *
      rw [hbad] at hwr
      clear hbad hP7 hX7 hg7 hp6 hb6 hz6
      go_wp2_with fail
      cases hW : ((O1 && O2) || Z)
      · cases Z
        · cases O1
          · cases O2
            all_goals
              refine (c_wrong hp7.out (l := []) (n := 0) (by rw [if_pos rfl, hwr, hW]; rfl) rfl).mono ?_
              rintro e w8 ⟨A8, c8, rfl, hb, hw8⟩
              have hb8 := Lib.hid (hb7.out.trans (hb.mono hb7.out.size))
              have hp8 := hp7.out.below hb
              have hz8 := Lib.hid (Nat.le_trans hz7.out hb.size)
              have hp8 := Lib.hid hp8
              have hlow2 : Hid (∀ b, w1.heap.size ≤ b → w.heap.size ≤ b) := fun b h => hlow.out b h
              have H8 := H.out.below hb8.out
              obtain ⟨a', e', had8, hcs⟩ := H8.at_ htl
              injection e' with e'
              subst e'
              rw [← syAt_get htl, hS] at hcs
              have had8 : ad.block < w8.heap.size := Nat.lt_of_lt_of_le had8 hb8.out.size
              have k1 := fun z : Cl.After w8.heap.size w8 => (show z.w.cell? (ad.add t) = some (.int .u16 (S : Int)) from (z.below.cell (by rw [add_block]; exact had8)).trans hcs)
              clear hb hcs H8 hp7 hb7 hw8
              go_wp2_with fail
              refine Cl.region_after_at w8.heap.size (by kernel_rfl) lex4_18 (by kernel_rfl) ?_
              try simp only [List.append]
              repeat (go_big_quiet_step (first | (go_at_call 15; with_reducible exact Cl.after_same (hsl.out _))))
              refine wpQuiet_nil ?_
              rintro _ ⟨z, rfl⟩
              clear k1
              have hb9 := Lib.hid (hb8.out.trans (z.below.mono hb8.out.size))
              have hp9 := Lib.hid (hp8.out.below z.below)
              have hz9 := Lib.hid (Nat.le_trans hz8.out z.below.size)
              generalize z.w = w9 at *
              clear hb8 hp8 hz8
              go_wp2_with fail
              refine (c_drift hp9.out (fun b h => ?_) (ofInt_is (-X) (by omega)) (ofInt_is (-Y) (by omega)) (by omega) (by omega) (t : Int)).mono ?_
              · have := hz9.out; omega
              rintro e w10 ⟨rfl, hk, hp⟩
              rw [e7, if_pos rfl, Int.toNat_natCast, hmb] at hp
              rw [e7]
              have hp10 := Lib.hid hp
              have hb10 := Lib.hid (Cl.Keeps.low hb9.out (fun b h => hlow2.out b h) hk)
              clear hp hk hp9 hb9 hz9
              have hwn := wrong_none hx.out
              go_wp2_with fail
              refine (c_wrong hp10.out (l := []) (n := 0) (by rw [if_pos rfl, hwn]) rfl).mono ?_
              rintro e w11 ⟨A11, c11, rfl, hb, _⟩
              have hb11 := Lib.hid (hb10.out.trans (hb.mono hb10.out.size))
              clear hb
              go_wp2_with fail
              go_ret
              exact ⟨rfl, hb11.out⟩
          · cases O2
            · 
              refine (c_wrong hp7.out (l := []) (n := 0) (by rw [if_pos rfl, hwr, hW]; rfl) rfl).mono ?_
              rintro e w8 ⟨A8, c8, rfl, hb, hw8⟩
              have hb8 := Lib.hid (hb7.out.trans (hb.mono hb7.out.size))
              have hp8 := hp7.out.below hb
              have hz8 := Lib.hid (Nat.le_trans hz7.out hb.size)
              have hp8 := Lib.hid hp8
              have hlow2 : Hid (∀ b, w1.heap.size ≤ b → w.heap.size ≤ b) := fun b h => hlow.out b h
              have H8 := H.out.below hb8.out
              obtain ⟨a', e', had8, hcs⟩ := H8.at_ htl
              injection e' with e'
              subst e'
              rw [← syAt_get htl, hS] at hcs
              have had8 : ad.block < w8.heap.size := Nat.lt_of_lt_of_le had8 hb8.out.size
              have k1 := fun z : Cl.After w8.heap.size w8 => (show z.w.cell? (ad.add t) = some (.int .u16 (S : Int)) from (z.below.cell (by rw [add_block]; exact had8)).trans hcs)
              clear hb hcs H8 hp7 hb7 hw8
              go_wp2_with fail
              refine Cl.region_after_at w8.heap.size (by kernel_rfl) lex4_18 (by kernel_rfl) ?_
              try simp only [List.append]
              repeat (go_big_quiet_step (first | (go_at_call 15; with_reducible exact Cl.after_same (hsl.out _))))
              refine wpQuiet_nil ?_
              rintro _ ⟨z, rfl⟩
              clear k1
              have hb9 := Lib.hid (hb8.out.trans (z.below.mono hb8.out.size))
              have hp9 := Lib.hid (hp8.out.below z.below)
              have hz9 := Lib.hid (Nat.le_trans hz8.out z.below.size)
              generalize z.w = w9 at *
              clear hb8 hp8 hz8
              go_wp2_with fail
              refine (c_drift hp9.out (fun b h => ?_) (ofInt_is (-X) (by omega)) (ofInt_is (-Y) (by omega)) (by omega) (by omega) (t : Int)).mono ?_
              · have := hz9.out; omega
              rintro e w10 ⟨rfl, hk, hp⟩
              rw [e7, if_pos rfl, Int.toNat_natCast, hmb] at hp
              rw [e7]
              have hp10 := Lib.hid hp
              have hb10 := Lib.hid (Cl.Keeps.low hb9.out (fun b h => hlow2.out b h) hk)
              clear hp hk hp9 hb9 hz9
              have hwn := wrong_none hx.out
              go_wp2_with fail
              refine (c_wrong hp10.out (l := []) (n := 0) (by rw [if_pos rfl, hwn]) rfl).mono ?_
              rintro e w11 ⟨A11, c11, rfl, hb, _⟩
              have hb11 := Lib.hid (hb10.out.trans (hb.mono hb10.out.size))
              clear hb
              go_wp2_with fail
              go_ret
              exact ⟨rfl, hb11.out⟩
            · cases hW
        · cases O1 <;> cases O2 <;> cases hW
      · cases Z
        · cases O1
          · cases O2 <;> cases hW
          · cases O2
            · cases hW
            · 
              refine (c_wrong hp7.out (l := [t]) (n := 1) (by rw [if_pos rfl, hwr, hW]; rfl) rfl).mono ?_
              rintro e w8 ⟨A8, c8, rfl, hb, hw8⟩
              have hb8 := Lib.hid (hb7.out.trans (hb.mono hb7.out.size))
              have hp8 := hp7.out.below hb
              have hz8 := Lib.hid (Nat.le_trans hz7.out hb.size)
              rcases hw8 with hw8 | ⟨a8, rfl, hab, hab2, hw8⟩
              · cases hw8
              have hwc : w8.cell? (a8.add 0) = some (.int .i64 ((t : Nat) : Int)) := hw8 0 (Nat.succ_pos 0)
              rw [add_zero'] at hwc
              have hp8 := Lib.hid ((hp7.out.only (F' := fun b => w1.heap.size ≤ b ∧ b ≠ a8.block) (fun b h1 h2 => ⟨h2, by omega⟩)).below hb)
              have hlow2 : Hid (∀ b, (w1.heap.size ≤ b ∧ b ≠ a8.block) → w.heap.size ≤ b) := fun b h => hlow.out b h.1
              have H8 := H.out.below hb8.out
              obtain ⟨a', e', had8, hcs⟩ := H8.at_ htl
              injection e' with e'
              subst e'
              rw [← syAt_get htl, hS] at hcs
              have had8 : ad.block < w8.heap.size := Nat.lt_of_lt_of_le had8 hb8.out.size
              have k1 := fun z : Cl.After w8.heap.size w8 => (show z.w.cell? (ad.add t) = some (.int .u16 (S : Int)) from (z.below.cell (by rw [add_block]; exact had8)).trans hcs)
              clear hb hcs H8 hp7 hb7 hw8
              go_wp2_with fail
              refine Cl.region_after_at w8.heap.size (by kernel_rfl) lex4_18 (by kernel_rfl) ?_
              try simp only [List.append]
              repeat (go_big_quiet_step (first | (go_at_call 15; with_reducible exact Cl.after_same (hsl.out _))))
              refine wpQuiet_nil ?_
              rintro _ ⟨z, rfl⟩
              clear k1
              have hb9 := Lib.hid (hb8.out.trans (z.below.mono hb8.out.size))
              have hp9 := Lib.hid (hp8.out.below z.below)
              have hz9 := Lib.hid (Nat.le_trans hz8.out z.below.size)
              have hwc9 := (z.below.cell hab2).trans hwc
              have hab9 : a8.block < z.w.heap.size := Nat.lt_of_lt_of_le hab2 z.below.size
              clear hwc
              generalize z.w = w9 at *
              clear hb8 hp8 hz8
              go_wp2_with fail
              refine (c_drift hp9.out (fun b h => ?_) (ofInt_is (-X) (by omega)) (ofInt_is (-Y) (by omega)) (by omega) (by omega) (t : Int)).mono ?_
              · have := hz9.out; exact ⟨by omega, by omega⟩
              rintro e w10 ⟨rfl, hk, hp⟩
              rw [e7, if_pos rfl, Int.toNat_natCast, hmb] at hp
              rw [e7]
              have hp10 := Lib.hid hp
              have hb10 := Lib.hid (Cl.Keeps.low hb9.out (fun b h => hlow2.out b h) hk)
              have hwc10 : w10.cell? a8 = some (.int .i64 (t : Int)) := (World.cell?_of_block (hk.block a8.block hab9 (fun h => h.2 rfl))).trans hwc9
              clear hwc9
              clear hp hk hp9 hb9 hz9
              have hwn := wrong_none hx.out
              go_wp2_with fail
              refine (c_wrong hp10.out (l := []) (n := 0) (by rw [if_pos rfl, hwn]) rfl).mono ?_
              rintro e w11 ⟨A11, c11, rfl, hb, _⟩
              have hb11 := Lib.hid (hb10.out.trans (hb.mono hb10.out.size))
              clear hb
              go_wp2_with fail
              go_ret
              exact ⟨rfl, hb11.out⟩
        · cases O1
          · cases O2
            all_goals
              refine (c_wrong hp7.out (l := [t]) (n := 1) (by rw [if_pos rfl, hwr, hW]; rfl) rfl).mono ?_
              rintro e w8 ⟨A8, c8, rfl, hb, hw8⟩
              have hb8 := Lib.hid (hb7.out.trans (hb.mono hb7.out.size))
              have hp8 := hp7.out.below hb
              have hz8 := Lib.hid (Nat.le_trans hz7.out hb.size)
              rcases hw8 with hw8 | ⟨a8, rfl, hab, hab2, hw8⟩
              · cases hw8
              have hwc : w8.cell? (a8.add 0) = some (.int .i64 ((t : Nat) : Int)) := hw8 0 (Nat.succ_pos 0)
              rw [add_zero'] at hwc
              have hp8 := Lib.hid ((hp7.out.only (F' := fun b => w1.heap.size ≤ b ∧ b ≠ a8.block) (fun b h1 h2 => ⟨h2, by omega⟩)).below hb)
              have hlow2 : Hid (∀ b, (w1.heap.size ≤ b ∧ b ≠ a8.block) → w.heap.size ≤ b) := fun b h => hlow.out b h.1
              have H8 := H.out.below hb8.out
              obtain ⟨a', e', had8, hcs⟩ := H8.at_ htl
              injection e' with e'
              subst e'
              rw [← syAt_get htl, hS] at hcs
              have had8 : ad.block < w8.heap.size := Nat.lt_of_lt_of_le had8 hb8.out.size
              have k1 := fun z : Cl.After w8.heap.size w8 => (show z.w.cell? (ad.add t) = some (.int .u16 (S : Int)) from (z.below.cell (by rw [add_block]; exact had8)).trans hcs)
              clear hb hcs H8 hp7 hb7 hw8
              go_wp2_with fail
              refine Cl.region_after_at w8.heap.size (by kernel_rfl) lex4_18 (by kernel_rfl) ?_
              try simp only [List.append]
              repeat (go_big_quiet_step (first | (go_at_call 15; with_reducible exact Cl.after_same (hsl.out _))))
              refine wpQuiet_nil ?_
              rintro _ ⟨z, rfl⟩
              clear k1
              have hb9 := Lib.hid (hb8.out.trans (z.below.mono hb8.out.size))
              have hp9 := Lib.hid (hp8.out.below z.below)
              have hz9 := Lib.hid (Nat.le_trans hz8.out z.below.size)
              have hwc9 := (z.below.cell hab2).trans hwc
              have hab9 : a8.block < z.w.heap.size := Nat.lt_of_lt_of_le hab2 z.below.size
              clear hwc
              generalize z.w = w9 at *
              clear hb8 hp8 hz8
              go_wp2_with fail
              refine (c_drift hp9.out (fun b h => ?_) (ofInt_is (-X) (by omega)) (ofInt_is (-Y) (by omega)) (by omega) (by omega) (t : Int)).mono ?_
              · have := hz9.out; exact ⟨by omega, by omega⟩
              rintro e w10 ⟨rfl, hk, hp⟩
              rw [e7, if_pos rfl, Int.toNat_natCast, hmb] at hp
              rw [e7]
              have hp10 := Lib.hid hp
              have hb10 := Lib.hid (Cl.Keeps.low hb9.out (fun b h => hlow2.out b h) hk)
              have hwc10 : w10.cell? a8 = some (.int .i64 (t : Int)) := (World.cell?_of_block (hk.block a8.block hab9 (fun h => h.2 rfl))).trans hwc9
              clear hwc9
              clear hp hk hp9 hb9 hz9
              have hwn := wrong_none hx.out
              go_wp2_with fail
              refine (c_wrong hp10.out (l := []) (n := 0) (by rw [if_pos rfl, hwn]) rfl).mono ?_
              rintro e w11 ⟨A11, c11, rfl, hb, _⟩
              have hb11 := Lib.hid (hb10.out.trans (hb.mono hb10.out.size))
              clear hb
              go_wp2_with fail
              go_ret
              exact ⟨rfl, hb11.out⟩
          · cases O2
            all_goals
              refine (c_wrong hp7.out (l := [t]) (n := 1) (by rw [if_pos rfl, hwr, hW]; rfl) rfl).mono ?_
              rintro e w8 ⟨A8, c8, rfl, hb, hw8⟩
              have hb8 := Lib.hid (hb7.out.trans (hb.mono hb7.out.size))
              have hp8 := hp7.out.below hb
              have hz8 := Lib.hid (Nat.le_trans hz7.out hb.size)
              rcases hw8 with hw8 | ⟨a8, rfl, hab, hab2, hw8⟩
              · cases hw8
              have hwc : w8.cell? (a8.add 0) = some (.int .i64 ((t : Nat) : Int)) := hw8 0 (Nat.succ_pos 0)
              rw [add_zero'] at hwc
              have hp8 := Lib.hid ((hp7.out.only (F' := fun b => w1.heap.size ≤ b ∧ b ≠ a8.block) (fun b h1 h2 => ⟨h2, by omega⟩)).below hb)
              have hlow2 : Hid (∀ b, (w1.heap.size ≤ b ∧ b ≠ a8.block) → w.heap.size ≤ b) := fun b h => hlow.out b h.1
              have H8 := H.out.below hb8.out
              obtain ⟨a', e', had8, hcs⟩ := H8.at_ htl
              injection e' with e'
              subst e'
              rw [← syAt_get htl, hS] at hcs
              have had8 : ad.block < w8.heap.size := Nat.lt_of_lt_of_le had8 hb8.out.size
              have k1 := fun z : Cl.After w8.heap.size w8 => (show z.w.cell? (ad.add t) = some (.int .u16 (S : Int)) from (z.below.cell (by rw [add_block]; exact had8)).trans hcs)
              clear hb hcs H8 hp7 hb7 hw8
              go_wp2_with fail
              refine Cl.region_after_at w8.heap.size (by kernel_rfl) lex4_18 (by kernel_rfl) ?_
              try simp only [List.append]
              repeat (go_big_quiet_step (first | (go_at_call 15; with_reducible exact Cl.after_same (hsl.out _))))
              refine wpQuiet_nil ?_
              rintro _ ⟨z, rfl⟩
              clear k1
              have hb9 := Lib.hid (hb8.out.trans (z.below.mono hb8.out.size))
              have hp9 := Lib.hid (hp8.out.below z.below)
              have hz9 := Lib.hid (Nat.le_trans hz8.out z.below.size)
              have hwc9 := (z.below.cell hab2).trans hwc
              have hab9 : a8.block < z.w.heap.size := Nat.lt_of_lt_of_le hab2 z.below.size
              clear hwc
              generalize z.w = w9 at *
              clear hb8 hp8 hz8
              go_wp2_with fail
              refine (c_drift hp9.out (fun b h => ?_) (ofInt_is (-X) (by omega)) (ofInt_is (-Y) (by omega)) (by omega) (by omega) (t : Int)).mono ?_
              · have := hz9.out; exact ⟨by omega, by omega⟩
              rintro e w10 ⟨rfl, hk, hp⟩
              rw [e7, if_pos rfl, Int.toNat_natCast, hmb] at hp
              rw [e7]
              have hp10 := Lib.hid hp
              have hb10 := Lib.hid (Cl.Keeps.low hb9.out (fun b h => hlow2.out b h) hk)
              have hwc10 : w10.cell? a8 = some (.int .i64 (t : Int)) := (World.cell?_of_block (hk.block a8.block hab9 (fun h => h.2 rfl))).trans hwc9
              clear hwc9
              clear hp hk hp9 hb9 hz9
              have hwn := wrong_none hx.out
              go_wp2_with fail
              refine (c_wrong hp10.out (l := []) (n := 0) (by rw [if_pos rfl, hwn]) rfl).mono ?_
              rintro e w11 ⟨A11, c11, rfl, hb, _⟩
              have hb11 := Lib.hid (hb10.out.trans (hb.mono hb10.out.size))
              clear hb
              go_wp2_with fail
              go_ret
              exact ⟨rfl, hb11.out⟩
end Go.Proofs.Ytedpbidijgjkeaa
