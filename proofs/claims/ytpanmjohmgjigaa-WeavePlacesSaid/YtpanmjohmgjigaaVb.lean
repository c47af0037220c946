/- The program's package weave: may, place, unlike, Burst. -/
import Derived.Test.YtpanmjohmgjigaaVa
namespace Go.Proofs.Ytpanmjohmgjigaa
open Go.RowKit Go.Gf

def mayB (W : Int) : Bool := decide (1 ≤ W) && decide (W ≤ 4)
theorem may_any (W : Int) (w : World) : Calls Try.prog 17 #[.int .i64 W] w fun e w' => e = .returned (.bool (mayB W)) ∧ w = w' := by
  obtain ⟨b1, h1⟩ : ∃ b, decide (1 ≤ W) = b := ⟨_, rfl⟩
  obtain ⟨b2, h2⟩ : ∃ b, decide (W ≤ 4) = b := ⟨_, rfl⟩
  have hm : Hid (mayB W = (b1 && b2)) := by unfold Hid mayB; rw [h1, h2]
  generalize mayB W = M at hm
  cases b1
  · go_enter Try.func17, Try.ntmps17
    go_wp2_with fail
    go_ret
    rw [hm.out]
    exact ⟨rfl, rfl⟩
  · go_enter Try.func17, Try.ntmps17
    go_wp2_with fail
    go_ret
    rw [hm.out]
    exact ⟨rfl, rfl⟩
theorem place_any (W i : Nat) (hW : 0 < W) (hi : i ≤ 1000000) (w : World) : Calls Try.prog 19 #[.int .i64 (W : Int), .int .i64 (i : Int)] w fun e w' => e = .returned (.tuple #[.int .i64 ((i % W : Nat) : Int), .int .i64 ((i / W : Nat) : Int)]) ∧ Drawn w w' := by
  have h0 : (W : Int) ≠ 0 := by omega
  have h1 : wrap64 ((i : Int) / (W : Int)) = ((i / W : Nat) : Int) := by
    rw [← Int.natCast_ediv]
    have : i / W ≤ i := Nat.div_le_self _ _
    generalize i / W = q at this
    exact IntWalk.wrap64_in _ (by omega)
  go_enter Try.func19, Try.ntmps19
  go_wp2
  go_quiet (fail)
  go_wp2
  go_ret2
  refine ⟨?_, _, rfl⟩
  show Ending.returned (.tuple #[.int .i64 ((i : Int) % (W : Int)), .int .i64 (wrap64 ((i : Int) / (W : Int)))]) = _
  rw [h1]
  rfl
/-- how long the first row is -/
def wvN (ws : List (List Nat)) : Nat := (ws.getD 0 []).length
/-- has one row another length than the first? -/
def unl (ws : List (List Nat)) : Bool := ws.any fun x => decide (x.length ≠ wvN ws)
theorem unl_true {ws : List (List Nat)} {k : Nat} (hk : k < ws.length) (h : ws[k].length ≠ wvN ws) : unl ws = true := by
  unfold unl
  exact List.any_eq_true.2 ⟨_, List.getElem_mem hk, by simpa using h⟩
theorem unl_false {ws : List (List Nat)} (h : ∀ k (hk : k < ws.length), ws[k].length = wvN ws) : unl ws = false := by
  unfold unl
  rw [List.any_eq_false]
  intro x hx
  obtain ⟨k, hk, rfl⟩ := List.getElem_of_mem hx
  have := h k hk
  simpa using this
theorem wvN_get {ws : List (List Nat)} (h : 0 < ws.length) : ws[0].length = wvN ws := by simp [wvN, h]
set_option maxHeartbeats 2000000 in
theorem unlike_any (A : Option Addr) (c : Nat) (ws : List (List Nat)) (w : World) (h : Sw w w.heap.size A ws) (hl : ws.length ≤ 1000000) : Calls Try.prog 18 #[.slice A ws.length c] w fun e w' => e = .returned (.bool (unl ws)) ∧ w = w' := by
  have H := Lib.hid h
  have h1 : Hid (∀ k (hk : k < ws.length), ws[k].length ≠ wvN ws → unl ws = true) := fun k hk h => unl_true hk h
  have h2 : Hid ((∀ k (hk : k < ws.length), ws[k].length = wvN ws) → unl ws = false) := fun h => unl_false h
  clear h
  generalize unl ws = U at *
  go_enter Try.func18, Try.ntmps18
  go_wp2
  go_loop [7] (fun n => ∃ k : Nat, k ≤ ws.length ∧ Hid (∀ j (h : j < ws.length), j < k → ws[j].length = wvN ws) ∧ n = .int .i64 k) (fun n => ws.length - (intOf n).toNat)
  case atStart => exact ⟨0, Nat.zero_le _, Lib.hid (fun j _ h => absurd h (by omega)), rfl⟩
  case round =>
    obtain ⟨k, hk, HK, rfl⟩ := hrel
    by_cases hlt : k < ws.length
    · have h0 : 0 < ws.length := by omega
      have hkI : (k : Int) < (ws.length : Int) := by omega
      have hd : decide (k < ws.length) = true := decide_eq_true hlt
      obtain ⟨a, D, cD, rfl, hab, hc1, hn1, hs1⟩ := H.out.at_ hlt
      obtain ⟨a', E, cE, e, _, hc2, hn2, hs2⟩ := H.out.at_ h0
      injection e with e
      subst e
      rw [wvN_get h0, add_zero'] at hc2
      by_cases hu : ws[k].length = wvN ws
      · have HK' : Hid (∀ j (h : j < ws.length), j < k + 1 → ws[j].length = wvN ws) := fun j hj hjk => by
          rcases Nat.lt_or_ge j k with h1 | h1
          · exact HK.out j hj h1
          · obtain rfl : j = k := by omega
            exact hu
        have hne : ((ws[k].length : Int) != (wvN ws : Int)) = false := by simp [hu]
        have hne2 : (ws[k].length != wvN ws) = false := by simp [hu]
        obtain ⟨L, hL⟩ : ∃ L, Hid (ws[k].length = L) := ⟨_, Lib.hid rfl⟩
        rw [hL.out] at hc1 hne hne2
        clear hu HK h1 h2 hs1 hs2 hn1 hn2
        go_wp2_with fail
        go_round
        case rel => exact ⟨k + 1, by omega, HK', by go_num⟩
        case measure => simp [intOf]; omega
      · have hU := Lib.hid (h1.out k hlt hu)
        have hne : ((ws[k].length : Int) != (wvN ws : Int)) = true := by simp; omega
        have hne2 : (ws[k].length != wvN ws) = true := by simp [hu]
        obtain ⟨L, hL⟩ : ∃ L, Hid (ws[k].length = L) := ⟨_, Lib.hid rfl⟩
        rw [hL.out] at hc1 hne hne2
        clear hu HK h1 h2 hs1 hs2 hn1 hn2
        go_wp2_with fail
        go_ret
        rw [hU.out]
        exact ⟨rfl, rfl⟩
    · obtain rfl : k = ws.length := by omega
      have hU := Lib.hid (h2.out (fun j hj => HK.out j hj hj))
      have hd : decide (ws.length < ws.length) = false := decide_eq_false (Nat.lt_irrefl _)
      clear h1 h2 HK
      go_wp2_with fail
      go_ret
      rw [hU.out]
      exact ⟨rfl, rfl⟩
/-- how often n in a row come to one of W, at most -/
def burst (W n : Nat) : Nat := (n + W - 1) / W
theorem burst_div {W n : Nat} (hW : 0 < W) : burst W n = n / W + if n % W = 0 then 0 else 1 := by
  unfold burst
  have h := Nat.div_add_mod n W
  have hm := Nat.mod_lt n hW
  generalize n / W = q at *
  generalize n % W = r at *
  split
  · rw [show n + W - 1 = (W - 1) + W * q by omega, Nat.add_mul_div_left _ _ hW, Nat.div_eq_of_lt (by omega)]
    omega
  · rw [show n + W - 1 = (r - 1) + W * (q + 1) by rw [Nat.mul_add]; omega, Nat.add_mul_div_left _ _ hW, Nat.div_eq_of_lt (by omega)]
    omega
def burstI (W f n : Int) : Int := if 1 ≤ W ∧ W ≤ 4 ∧ 0 ≤ f ∧ 0 ≤ n then ((burst W.toNat n.toNat : Nat) : Int) else 0
set_option maxHeartbeats 2000000 in
theorem burst_any (W f n : Int) (w : World) (hn : n ≤ 1000000) : Calls Try.prog 16 #[.int .i64 W, .int .i64 f, .int .i64 n] w fun e w' => e = .returned (.int .i64 (burstI W f n)) ∧ w = w' := by
  have hc := Lib.hid (may_any W w)
  by_cases hm : 1 ≤ W ∧ W ≤ 4
  · have e1 : mayB W = true := by unfold mayB; simp [hm.1, hm.2]
    rw [e1] at hc
    by_cases hf : f < 0
    · have d1 : decide (f < 0) = true := decide_eq_true hf
      have hB : Hid (burstI W f n = 0) := by unfold Hid burstI; rw [if_neg (by omega)]
      clear hf hm e1
      go_enter Try.func16, Try.ntmps16
      go_wp2_with (go_at_call 17; (with_reducible refine hc.out.mono ?_); rintro e w1 ⟨rfl, rfl⟩)
      go_ret
      rw [hB.out]
      exact ⟨rfl, rfl⟩
    · have d1 : decide (f < 0) = false := decide_eq_false hf
      by_cases hn0 : n < 0
      · have d2 : decide (n < 0) = true := decide_eq_true hn0
        have hB : Hid (burstI W f n = 0) := by unfold Hid burstI; rw [if_neg (by omega)]
        clear hf hm e1 hn0
        go_enter Try.func16, Try.ntmps16
        go_wp2_with (go_at_call 17; (with_reducible refine hc.out.mono ?_); rintro e w1 ⟨rfl, rfl⟩)
        go_ret
        rw [hB.out]
        exact ⟨rfl, rfl⟩
      · have d2 : decide (n < 0) = false := decide_eq_false hn0
        obtain ⟨V, rfl⟩ : ∃ V : Nat, W = (V : Int) := ⟨W.toNat, by omega⟩
        obtain ⟨m, rfl⟩ : ∃ m : Nat, n = (m : Int) := ⟨n.toNat, by omega⟩
        have hV : 0 < V := by omega
        have hV0 : (V : Int) ≠ 0 := by omega
        have hB : Hid (burstI (V : Int) f (m : Int) = ((m / V + if m % V = 0 then 0 else 1 : Nat) : Int)) := by
          unfold Hid burstI
          rw [if_pos (by omega), Int.toNat_natCast, Int.toNat_natCast, burst_div hV]
        have hq : m / V ≤ m := Nat.div_le_self _ _
        have hqI : (m : Int) / (V : Int) = ((m / V : Nat) : Int) := (Int.natCast_ediv _ _).symm
        have hrI : (m : Int) % (V : Int) = ((m % V : Nat) : Int) := (Int.natCast_emod _ _).symm
        obtain ⟨q, hqq⟩ : ∃ q, m / V = q := ⟨_, rfl⟩
        obtain ⟨r, hrr⟩ : ∃ r, m % V = r := ⟨_, rfl⟩
        rw [hqq, hrr] at hB
        rw [hqq] at hq hqI
        rw [hrr] at hrI
        have hw : wrap64 ((m : Int) / (V : Int)) = (q : Int) := by rw [hqI]; exact IntWalk.wrap64_in _ (by omega)
        by_cases hr : r = 0
        · have d3 : ((r : Int) != 0) = false := by simp [hr]
          have d4 : ((m : Int) % (V : Int) != 0) = false := by rw [hrI]; exact d3
          rw [if_pos hr] at hB
          clear hf hm e1 hn0 hr hqq hrr hqI
          go_enter Try.func16, Try.ntmps16
          go_wp2_with (go_at_call 17; (with_reducible refine hc.out.mono ?_); rintro e w1 ⟨rfl, rfl⟩)
          go_ret
          rw [hB.out]
          refine ⟨?_, rfl⟩
          show Ending.returned (.int .i64 (wrap64 ((m : Int) / (V : Int)))) = _
          rw [hw]
          rfl
        · have d3 : ((r : Int) != 0) = true := by simp; omega
          have d4 : ((m : Int) % (V : Int) != 0) = true := by rw [hrI]; exact d3
          rw [if_neg hr] at hB
          clear hf hm e1 hn0 hr hqq hrr hqI
          go_enter Try.func16, Try.ntmps16
          go_wp2_with (go_at_call 17; (with_reducible refine hc.out.mono ?_); rintro e w1 ⟨rfl, rfl⟩)
          go_ret
          rw [hB.out]
          exact ⟨rfl, rfl⟩
  · have e1 : mayB W = false := by
      unfold mayB
      rw [Bool.and_eq_false_iff, decide_eq_false_iff_not, decide_eq_false_iff_not]
      omega
    rw [e1] at hc
    have hB : Hid (burstI W f n = 0) := by unfold Hid burstI; rw [if_neg (by omega)]
    clear hm e1
    go_enter Try.func16, Try.ntmps16
    go_wp2_with (go_at_call 17; (with_reducible refine hc.out.mono ?_); rintro e w1 ⟨rfl, rfl⟩)
    go_ret
    rw [hB.out]
    exact ⟨rfl, rfl⟩
end Go.Proofs.Ytpanmjohmgjigaa
