/- Statement WeaveWeaves: for every number, all words and all symbols the law returns true. -/
import Derived.Test.YtpanmjohmgjigaaVj
namespace Go.Proofs.Ytpanmjohmgjigaa
open Go.RowKit Go.Gf

theorem outE_zero {W : Int} {ws : List (List Nat)} (h : outE W ws = 0) : mayB W = true ∧ (ws.length : Int) = W ∧ unl ws = false ∧ wvN ws ≠ 0 := by
  unfold outE at h
  split at h
  · cases h
  · rename_i h1
    split at h
    · cases h
    · rename_i h2
      have h3 : ¬ mayB W = false := fun e => h1 (Or.inl e)
      have h4 : ¬ unl ws = true := fun e => h2 (Or.inl e)
      refine ⟨by simpa using h3, ?_, by simpa using h4, fun e => h2 (Or.inr e)⟩
      exact Classical.byContradiction fun e => h1 (Or.inr e)
theorem outE_nat {W : Int} {ws : List (List Nat)} (h : outE W ws = 0) : 1 ≤ ws.length ∧ ws.length ≤ 4 := by
  obtain ⟨h1, h2, _⟩ := outE_zero h
  rw [← h2] at h1
  exact mayB_nat h1
theorem outW_of {W : Int} {ws : List (List Nat)} (h : outE W ws = 0) : outW W ws = wvOf ws := by unfold outW; rw [if_pos h]
theorem outW_no {W : Int} {ws : List (List Nat)} (h : outE W ws ≠ 0) : outW W ws = [] := by unfold outW; rw [if_neg h]
theorem outW_le {W : Int} {ws : List (List Nat)} (hx : ∀ x ∈ ws, x.length ≤ 100000) : (outW W ws).length ≤ 400000 := by
  rcases Classical.em (outE W ws = 0) with h | h
  · have h4 := outE_nat h
    rw [outW_of h]
    unfold wvOf
    rw [rm_len]
    have : wvN ws ≤ 100000 := by
      have := hx _ (List.getElem_mem (show 0 < ws.length by omega))
      rwa [wvN_get (by omega)] at this
    exact Nat.mul_le_mul h4.2 this
  · rw [outW_no h]; exact Nat.zero_le _
theorem inW_le {W : Int} {s : List Nat} : (inW W s).length ≤ 4 ∧ ∀ x ∈ inW W s, x.length ≤ s.length := by
  unfold inW
  split
  · rename_i h
    have hm : mayB W = true := by
      unfold inE at h
      split at h
      · cases h
      · rename_i h1; simpa using h1
    have hW : W.toNat ≤ 4 := by
      unfold mayB at hm
      rw [Bool.and_eq_true, decide_eq_true_eq, decide_eq_true_eq] at hm
      omega
    refine ⟨by rw [dealt_len]; exact hW, fun x hx => ?_⟩
    obtain ⟨j, hj, rfl⟩ := List.getElem_of_mem hx
    rw [dealt_get, rm_len]
    exact Nat.div_le_self _ _
  · exact ⟨Nat.zero_le _, by simp⟩
/-- dealt out, woven words are what they were -/
theorem dealt_wv {ws : List (List Nat)} (h0 : 0 < ws.length) (hu : unl ws = false) : dealt ws.length (wvOf ws) = ws := by
  have hl : (wvOf ws).length = ws.length * wvN ws := by unfold wvOf; rw [rm_len]
  have hd : (wvOf ws).length / ws.length = wvN ws := by rw [hl, Nat.mul_div_cancel_left _ h0]
  refine lists_eq (dealt_len _ _) fun j h1 h2 => ?_
  rw [dealt_get, hd]
  have hj := unl_len hu h2
  conv => rhs; rw [← rm_at ws[j], hj]
  refine rm_congr fun q hq => ?_
  have hlt : q * ws.length + j < ws.length * wvN ws := by
    have : (q + 1) * ws.length ≤ wvN ws * ws.length := Nat.mul_le_mul_right _ hq
    rw [Nat.add_mul, Nat.mul_comm (wvN ws)] at this
    omega
  unfold wvOf
  rw [at_rm, if_pos hlt]
  unfold wvF
  have := (divmod_eq (W := ws.length) (q := q) (j := j) (i := q * ws.length + j) h2).1 rfl
  rw [← this.1, ← this.2, List.getD_eq_getElem?_getD, List.getElem?_eq_getElem h2, Option.getD_some]
theorem in_out {W : Int} {ws : List (List Nat)} (h : outE W ws = 0) : inE W (outW W ws) = 0 ∧ inW W (outW W ws) = ws := by
  obtain ⟨h1, h2, h3, h4⟩ := outE_zero h
  have hl := (outE_nat h).1
  rw [outW_of h]
  subst h2
  have hE : inE (ws.length : Int) (wvOf ws) = 0 := inE_ok h1 (by
    have : (wvOf ws).length = ws.length * wvN ws := by unfold wvOf; rw [rm_len]
    rw [this, Int.toNat_natCast, Nat.mul_mod_right]
    have : 0 < ws.length * wvN ws := Nat.mul_pos hl (Nat.pos_of_ne_zero h4)
    omega)
  refine ⟨hE, ?_⟩
  unfold inW
  rw [if_pos hE, Int.toNat_natCast]
  exact dealt_wv hl h3
theorem tell_rows {A B : Option Addr} {ca cb : Nat} {xs ys : List (List Nat)} {w : World} {b : Bool} (ha : Sw w w.heap.size A xs) (hb : Sw w w.heap.size B ys) (hla : xs.length ≤ 1000000) (hlb : ys.length ≤ 1000000)
    (hxa : ∀ x ∈ xs, x.length ≤ 1000000) (hxb : ∀ x ∈ ys, x.length ≤ 1000000) (h : decide (xs = ys) = b) :
    Calls Try.prog 14 #[.slice A xs.length ca, .slice B ys.length cb] w (Tells w (.bool b)) := by
  subst h
  exact same_any A B ca cb xs ys w ha hb hla hlb hxa hxb
set_option maxHeartbeats 8000000 in
theorem weaves_law (W : Int) (_wW : (Lit.int .i64 W).wf = true) (A : Option Addr) (ws : List (List Nat)) (ca : Nat) (hca : ws.length ≤ ca) (hx : ca ≤ maxLen) (hxs : ∀ x ∈ ws, x.length ≤ maxLen) (B : Option Addr) (zs : List Nat) (cb : Nat) (hcb : zs.length ≤ cb) (hxb : cb ≤ maxLen)
    (w : World) (hA : Sw w w.heap.size A ws) (hB : Sl w w.heap.size B zs) :
    Calls Try.prog 3 #[.int .i64 W, .slice A ws.length ca, .slice B zs.length cb] w (Tells w (.bool true)) := by
  have mx : (ws.length : Int) ≤ 9223372036854775807 := by unfold maxLen at hx; omega
  have mz : (zs.length : Int) ≤ 9223372036854775807 := by unfold maxLen at hxb; omega
  clear hx hxb
  replace hxs : Hid (∀ x ∈ ws, x.length ≤ 9223372036854775807) := fun x h => Nat.le_trans (hxs x h) (by decide)
  replace hA := Lib.hid hA
  replace hB := Lib.hid hB
  have haw := Lib.hid (wawake_any w)
  obtain ⟨b1, e1⟩ : ∃ b1, decide ((20 : Int) < (ws.length : Int)) = b1 := ⟨_, rfl⟩
  obtain ⟨b2, e2⟩ : ∃ b2, decide ((3000 : Int) < (zs.length : Int)) = b2 := ⟨_, rfl⟩
  by_cases hsz : ws.length ≤ 20 ∧ zs.length ≤ 3000
  · obtain ⟨hl1, hl2⟩ := hsz
    obtain rfl : b1 = false := by rw [← e1, decide_eq_false_iff_not]; omega
    obtain rfl : b2 = false := by rw [← e2, decide_eq_false_iff_not]; omega
    go_enter Try.func3, Try.ntmps3
    go_wp2_with (go_at_call 8; (with_reducible refine haw.out.mono ?_); rintro e w1 ⟨rfl, hb⟩; have hb1 := Lib.hid hb; have hA1 := Lib.hid (hA.out.far hb); have hB1 := Lib.hid (hB.out.far hb); clear hb haw hA hB)
    go_loop [7] (fun q => ∃ k : Nat, k ≤ ws.length ∧ q = .int .i64 k ∧ Hid (∀ j (h : j < ws.length), j < k → ws[j].length ≤ 1000)) (fun q => ws.length - (intOf q).toNat)
    case atStart => exact ⟨0, Nat.zero_le _, rfl, Lib.hid (fun j _ h => absurd h (by omega))⟩
    case round =>
      obtain ⟨k, hk, rfl, HK⟩ := hrel
      by_cases hlt : k < ws.length
      · have hkI : (k : Int) < (ws.length : Int) := by omega
        have hd : decide (k < ws.length) = true := decide_eq_true hlt
        obtain ⟨a, D, cD, rfl, hab, hcw, _, hsD⟩ := hA1.out.at_ hlt
        have hkm := hxs.out _ (List.getElem_mem hlt)
        by_cases hbig : ws[k].length ≤ 1000
        · have d1 : decide ((1000 : Int) < (ws[k].length : Int)) = false := by rw [decide_eq_false_iff_not]; omega
          have HK' : Hid (∀ j (h : j < ws.length), j < k + 1 → ws[j].length ≤ 1000) := fun j hj hjk => by
            rcases Nat.lt_or_ge j k with h1 | h1
            · exact HK.out j hj h1
            · obtain rfl : j = k := by omega
              exact hbig
          obtain ⟨L, hL⟩ : ∃ L, Hid (ws[k].length = L) := ⟨_, Lib.hid rfl⟩
          rw [hL.out] at hcw d1 hkm
          clear hbig HK hsD
          go_wp2_with fail
          go_round
          case rel => exact ⟨k + 1, by omega, by go_num, HK'⟩
          case measure => simp [intOf]; omega
        · have d1 : decide ((1000 : Int) < (ws[k].length : Int)) = true := by rw [decide_eq_true_eq]; omega
          obtain ⟨L, hL⟩ : ∃ L, Hid (ws[k].length = L) := ⟨_, Lib.hid rfl⟩
          rw [hL.out] at hcw d1 hkm
          clear hbig HK hsD
          go_wp2_with fail
          go_ret
          exact ⟨rfl, hb1.out⟩
      · obtain rfl : k = ws.length := by omega
        have hd : decide (ws.length < ws.length) = false := decide_eq_false (Nat.lt_irrefl _)
        have hX : Hid (∀ x ∈ ws, x.length ≤ 100000) := fun x hx => by
          obtain ⟨j, hj, rfl⟩ := List.getElem_of_mem hx
          have := HK.out j hj hj
          omega
        have hc1 : Hid (∀ {A c w}, Sw w w.heap.size A ws → Calls Try.prog 9 #[.int .i64 W, .slice A ws.length c] w (RowV w (outW W ws) (outE W ws))) := fun {A c w} h => out_any W A c ws w h (by omega) hX.out
        have hc2 : Hid (∀ {A c w}, Sw w w.heap.size A ws → Calls Try.prog 10 #[.int .i64 W, .slice A ws.length c] w (RowV w (outW W ws) (outE W ws))) := fun {A c w} h => refout_any W A c ws w h (by omega) hX.out
        have hc3 : Hid (∀ {A c w}, Sl w w.heap.size A zs → Calls Try.prog 11 #[.int .i64 W, .slice A zs.length c] w (RowsV w (inW W zs) (inE W zs))) := fun {A c w} h => in_any W A c zs w h (by omega)
        have hc4 : Hid (∀ {A c w}, Sl w w.heap.size A zs → Calls Try.prog 12 #[.int .i64 W, .slice A zs.length c] w (RowsV w (inW W zs) (inE W zs))) := fun {A c w} h => refin_any W A c zs w h (by omega)
        have hXl := outW_le (W := W) hX.out
        have hUl := inW_le (W := W) (s := zs)
        have hback := Lib.hid (in_out (W := W) (ws := ws))
        generalize outW W ws = X at *
        generalize outE W ws = E at *
        generalize inW W zs = U at *
        generalize inE W zs = G at *
        have hUl2 : Hid (∀ x ∈ U, x.length ≤ 1000000) := fun x hx => by have := hUl.2 x hx; omega
        have hUl1 := hUl.1
        clear hUl
        have hEE : ((E : Int) != (E : Int)) = false := by simp
        have hGG : ((G : Int) != (G : Int)) = false := by simp
        have hEE2 : (E != E) = false := by simp
        have hGG2 : (G != G) = false := by simp
        have hk1 := Lib.hid (hc1.out (c := ca) hA1.out)
        clear HK hxs hc1
        have hX6 : Hid (∀ x ∈ ws, x.length ≤ 1000000) := fun x h => Nat.le_trans (hX.out x h) (by decide)
        by_cases hE0 : E = 0
        · have hz : ((E : Int) != 0) = false := by simp [hE0]
          obtain ⟨g1, g2⟩ := hback.out hE0
          have hin : Hid (∀ {A c w}, Sl w w.heap.size A X → Calls Try.prog 11 #[.int .i64 W, .slice A X.length c] w (RowsV w ws 0)) := fun {A c w} h => in_lit h rfl (by omega) g2 g1
          clear hback g1 g2 hE0
          go_wp2_with (first
            | (go_at_call 9; (with_reducible refine hk1.out.mono ?_); rintro e w2 ⟨v, rfl, ho, hb⟩; obtain ⟨A1, c1, rfl, hcc1, hs⟩ := ho.sl; have hb2 := Lib.hid (hb1.out.trans (hb.mono hb1.out.size)); have hA2 := Lib.hid (hA1.out.far hb); have hB2 := Lib.hid (hB1.out.far hb); have hx2 := Lib.hid hs; have hk2 := Lib.hid (hc2.out (c := ca) hA2.out); clear hb hs ho hk1 hA1 hB1 hb1)
            | (go_at_call 10; (with_reducible refine hk2.out.mono ?_); rintro e w3 ⟨v, rfl, ho, hb⟩; obtain ⟨A2, c2, rfl, hcc2, hs⟩ := ho.sl; have hb3 := Lib.hid (hb2.out.trans (hb.mono hb2.out.size)); have hA3 := Lib.hid (hA2.out.far hb); have hB3 := Lib.hid (hB2.out.far hb); have hx3 := Lib.hid (hx2.out.far hb); have hy3 := Lib.hid hs; have hk3 := Lib.hid (hc3.out (c := cb) hB3.out); clear hb hs ho hk2 hA2 hB2 hb2 hx2)
            | (go_at_call 11; (with_reducible refine hk3.out.mono ?_); intro e w4 hr; obtain ⟨A3, c3, rfl, hcc3, hs, hb⟩ := hr.sw; have hb4 := Lib.hid (hb3.out.trans (hb.mono hb3.out.size)); have hA4 := Lib.hid (hA3.out.far hb); have hB4 := Lib.hid (hB3.out.far hb); have hx4 := Lib.hid (hx3.out.far hb); have hy4 := Lib.hid (hy3.out.far hb); have hu4 := Lib.hid hs; have hk4 := Lib.hid (hc4.out (c := cb) hB4.out); clear hb hs hr hk3 hA3 hB3 hb3 hx3 hy3)
            | (go_at_call 12; (with_reducible refine hk4.out.mono ?_); intro e w5 hr; obtain ⟨A4, c4, rfl, hcc4, hs, hb⟩ := hr.sw; have hb5 := Lib.hid (hb4.out.trans (hb.mono hb4.out.size)); have hA5 := Lib.hid (hA4.out.far hb); have hx5 := Lib.hid (hx4.out.far hb); have hy5 := Lib.hid (hy4.out.far hb); have hu5 := Lib.hid (hu4.out.far hb); have hv5 := Lib.hid hs; have hk5 := Lib.hid (tell_same (ca := c1) (cb := c2) (b := true) hx5.out hy5.out (by omega) (by omega) (decide_eq_true rfl)); clear hb hs hr hk4 hA4 hB4 hb4 hx4 hy4 hu4)
            | (go_at_call 13; (with_reducible refine hk5.out.mono ?_); rintro e w6 ⟨rfl, hb⟩; have hb6 := Lib.hid (hb5.out.trans (hb.mono hb5.out.size)); have hA6 := Lib.hid (hA5.out.far hb); have hx6 := Lib.hid (hx5.out.far hb); have hu6 := Lib.hid (hu5.out.far hb); have hv6 := Lib.hid (hv5.out.far hb); have hk6 := Lib.hid (tell_rows (ca := c3) (cb := c4) (b := true) hu6.out hv6.out (by omega) (by omega) hUl2.out hUl2.out (decide_eq_true rfl)); clear hb hk5 hA5 hx5 hu5 hv5 hb5 hy5)
            | (go_at_call 14; (with_reducible refine hk6.out.mono ?_); rintro e w7 ⟨rfl, hb⟩; have hb7 := Lib.hid (hb6.out.trans (hb.mono hb6.out.size)); have hA7 := Lib.hid (hA6.out.far hb); have hx7 := Lib.hid (hx6.out.far hb); have hk7 := Lib.hid (hin.out (c := c1) hx7.out); clear hb hk6 hA6 hx6 hu6 hv6 hb6)
            | (go_at_call 11; (with_reducible refine hk7.out.mono ?_); intro e w8 hr; obtain ⟨A5, c5, rfl, hcc5, hs, hb⟩ := hr.sw; have hb8 := Lib.hid (hb7.out.trans (hb.mono hb7.out.size)); have hA8 := Lib.hid (hA7.out.far hb); have hs8 := Lib.hid hs; have hk8 := Lib.hid (tell_rows (ca := c5) (cb := ca) (b := true) hs8.out hA8.out (by omega) (by omega) hX6.out hX6.out (decide_eq_true rfl)); clear hb hs hr hk7 hA7 hb7 hx7)
            | (go_at_call 14; (with_reducible refine hk8.out.mono ?_); rintro e w9 ⟨rfl, hb⟩; have hb9 := Lib.hid (hb8.out.trans (hb.mono hb8.out.size)); clear hb hk8 hA8 hs8 hb8))
          go_ret
          exact ⟨rfl, hb9.out⟩
        · have hz : ((E : Int) != 0) = true := by simp; omega
          clear hback hE0
          go_wp2_with (first
            | (go_at_call 9; (with_reducible refine hk1.out.mono ?_); rintro e w2 ⟨v, rfl, ho, hb⟩; obtain ⟨A1, c1, rfl, hcc1, hs⟩ := ho.sl; have hb2 := Lib.hid (hb1.out.trans (hb.mono hb1.out.size)); have hA2 := Lib.hid (hA1.out.far hb); have hB2 := Lib.hid (hB1.out.far hb); have hx2 := Lib.hid hs; have hk2 := Lib.hid (hc2.out (c := ca) hA2.out); clear hb hs ho hk1 hA1 hB1 hb1)
            | (go_at_call 10; (with_reducible refine hk2.out.mono ?_); rintro e w3 ⟨v, rfl, ho, hb⟩; obtain ⟨A2, c2, rfl, hcc2, hs⟩ := ho.sl; have hb3 := Lib.hid (hb2.out.trans (hb.mono hb2.out.size)); have hA3 := Lib.hid (hA2.out.far hb); have hB3 := Lib.hid (hB2.out.far hb); have hx3 := Lib.hid (hx2.out.far hb); have hy3 := Lib.hid hs; have hk3 := Lib.hid (hc3.out (c := cb) hB3.out); clear hb hs ho hk2 hA2 hB2 hb2 hx2)
            | (go_at_call 11; (with_reducible refine hk3.out.mono ?_); intro e w4 hr; obtain ⟨A3, c3, rfl, hcc3, hs, hb⟩ := hr.sw; have hb4 := Lib.hid (hb3.out.trans (hb.mono hb3.out.size)); have hA4 := Lib.hid (hA3.out.far hb); have hB4 := Lib.hid (hB3.out.far hb); have hx4 := Lib.hid (hx3.out.far hb); have hy4 := Lib.hid (hy3.out.far hb); have hu4 := Lib.hid hs; have hk4 := Lib.hid (hc4.out (c := cb) hB4.out); clear hb hs hr hk3 hA3 hB3 hb3 hx3 hy3)
            | (go_at_call 12; (with_reducible refine hk4.out.mono ?_); intro e w5 hr; obtain ⟨A4, c4, rfl, hcc4, hs, hb⟩ := hr.sw; have hb5 := Lib.hid (hb4.out.trans (hb.mono hb4.out.size)); have hA5 := Lib.hid (hA4.out.far hb); have hx5 := Lib.hid (hx4.out.far hb); have hy5 := Lib.hid (hy4.out.far hb); have hu5 := Lib.hid (hu4.out.far hb); have hv5 := Lib.hid hs; have hk5 := Lib.hid (tell_same (ca := c1) (cb := c2) (b := true) hx5.out hy5.out (by omega) (by omega) (decide_eq_true rfl)); clear hb hs hr hk4 hA4 hB4 hb4 hx4 hy4 hu4)
            | (go_at_call 13; (with_reducible refine hk5.out.mono ?_); rintro e w6 ⟨rfl, hb⟩; have hb6 := Lib.hid (hb5.out.trans (hb.mono hb5.out.size)); have hA6 := Lib.hid (hA5.out.far hb); have hx6 := Lib.hid (hx5.out.far hb); have hu6 := Lib.hid (hu5.out.far hb); have hv6 := Lib.hid (hv5.out.far hb); have hk6 := Lib.hid (tell_rows (ca := c3) (cb := c4) (b := true) hu6.out hv6.out (by omega) (by omega) hUl2.out hUl2.out (decide_eq_true rfl)); clear hb hk5 hA5 hx5 hu5 hv5 hb5 hy5)
            | (go_at_call 14; (with_reducible refine hk6.out.mono ?_); rintro e w7 ⟨rfl, hb⟩; have hb7 := Lib.hid (hb6.out.trans (hb.mono hb6.out.size)); have hA7 := Lib.hid (hA6.out.far hb); have hx7 := Lib.hid (hx6.out.far hb); clear hb hk6 hA6 hx6 hu6 hv6 hb6))
          go_ret
          exact ⟨rfl, hb7.out⟩
  · have hor : Hid (b1 = true ∨ b2 = true) := by
      unfold Hid
      rw [← e1, ← e2, decide_eq_true_eq, decide_eq_true_eq]
      omega
    clear hsz
    cases b1
    · obtain rfl : b2 = true := by rcases hor.out with h | h <;> first | exact h | cases h
      go_enter Try.func3, Try.ntmps3
      go_wp2_with (go_at_call 8; (with_reducible refine haw.out.mono ?_); rintro e w1 ⟨rfl, hb⟩)
      go_ret
      exact ⟨rfl, hb⟩
    · go_enter Try.func3, Try.ntmps3
      go_wp2_with (go_at_call 8; (with_reducible refine haw.out.mono ?_); rintro e w1 ⟨rfl, hb⟩)
      go_ret
      exact ⟨rfl, hb⟩
end Go.Proofs.Ytpanmjohmgjigaa
namespace Go.Proofs.Ytpanmjohmgjigaa.weaveWeaves
open Go.ChangeShapes Go.WideShapes Go.ChangeAt Go.RowKit Go.Gf
set_option linter.unusedVariables false

theorem own : ownKnob Try.prog.godebug = none := by kernel_rfl

theorem walk (a0 : Int) (w0 : (Lit.int .i64 a0).wf = true) (A1 : Option Addr) (x1 : List (List Nat)) (c1 : Nat) (l1 : x1.length ≤ c1) (m1 : c1 ≤ maxLen) (n1 : ∀ x ∈ x1, x.length ≤ maxLen) (A2 : Option Addr) (x2 : List Nat) (c2 : Nat) (l2 : x2.length ≤ c2) (m2 : c2 ≤ maxLen) (w : World) (s1 : Sw w w.heap.size A1 x1) (s2 : Sl w w.heap.size A2 x2) :
    Calls Try.prog 3 #[.int .i64 a0, .slice A1 x1.length c1, .slice A2 x2.length c2] w fun e w' => e = .returned (.bool true) ∧ Below w.heap.size w w' := weaves_law a0 w0 A1 x1 c1 l1 m1 n1 A2 x2 c2 l2 m2 w s1 s2

set_option maxRecDepth 100000 in
theorem lifted (os : Os) (started : os.Started) (H : Type) (enc : TypeId × Value → H) :
    ReturnsInHanded {} Try.checked os 3 .any (Rows.weaveWeavesSpec.pre6 enc Try.prog Try.f3 Rows.weaveWeavesRow.domain false) (Rows.weaveWeavesSpec.post enc Try.prog Try.f3 false true false false) := by
  refine returnsInHanded_of_change (C := Try.checked) own started (by kernel_rfl) Try.func3
    (ChangeSpec.witness6 (enc := enc) (C := Try.checked) false ⟨#[], #[.int .i64 0, .slice none 0 0, .slice none 0 0], []⟩ 8 (by kernel_rfl) (by kernel_rfl) (by kernel_rfl) (by kernel_rfl)) ?_
  intro W base args ds gs before hval0 hW hcnd _
  have hval : ∀ (j : Nat) t v, Try.f3.params[j]? = some t → args[j]? = some v → Value.okWide Try.prog W .any base t v := hval0
  have hW' := hW
  obtain ⟨p, q, hA0, hV, rfl, hfz, hnd⟩ := hW
  have hA : DataW.TrodAll enc Try.prog W 0 (fun _ => true) true Try.f3.params.toList args.toList ds p := hA0
  rw [Try.params3] at hA hval
  obtain ⟨v0, vs0, d0, ds0, p0, q0, hargs, rfl, rfl, h0, r0⟩ := trodAll_cons hA
  obtain ⟨v1, vs1, d1, ds1, p1, q1, rfl, rfl, rfl, h1, r1⟩ := trodAll_cons r0
  obtain ⟨v2, vs2, d2, ds2, p2, q2, rfl, rfl, rfl, h2, r2⟩ := trodAll_cons r1
  obtain ⟨rfl, rfl, rfl⟩ := trodAll_nil r2
  obtain rfl : args = #[v0, v1, v2] := by cases args; simp_all
  obtain ⟨rfl, rfl⟩ := trodVars_none hV
  obtain ⟨a0, rfl, rfl, rfl, w0⟩ := open_int Try.underlying3 (hval 0 3 v0 rfl rfl) h0
  obtain ⟨A1, x1, c1, rfl, l1, m1, s1, n1, t1⟩ := open_slw Try.underlying22 Try.underlying23 Try.underlying37 (by kernel_rfl : Try.prog.cellsOf 23 = 1) (by kernel_rfl : Try.prog.cellsOf 37 = 1) (hval 1 22 v1 rfl rfl) h1
  obtain ⟨A2, x2, c2, rfl, l2, m2, s2, t2⟩ := open_sl Try.underlying23 Try.underlying37 (by kernel_rfl : Try.prog.cellsOf 37 = 1) (hval 2 23 v2 rfl rfl) h2
  clear hA0 hval0
  refine (walk a0 w0 A1 x1 c1 l1 m1 n1 A2 x2 c2 l2 m2 W s1 s2).mono fun e W' ⟨he, hg⟩ => ?_
  subst he
  exact ⟨_, rfl, Cl.post_below (pv := []) hW' (fun _ _ _ => (trodAll_cons_mk (shut_bool Try.underlying4 _) trodAll_mk0)) (fun sp hsp => (trodAll_cons_mk (shut_int Try.underlying3 w0) (trodAll_cons_mk (t1 W' hg sp (fun q hq => hsp q (by simp [hq]))) (trodAll_cons_mk (t2 W' hg sp (fun q hq => hsp q (by simp [hq]))) trodAll_mk0)))) (fun _ _ => rfl) rfl
    hg (ok_one (by kernel_rfl) rfl (okWide_bool_mk Try.underlying4 _))⟩

theorem over : Rows.weaveWeavesRow.holds Try.pinned (OpenSpec.ofChange Rows.weaveWeavesSpec) :=
  OpenClaim.holds_of_wide 3 Try.f3 rfl rfl rfl rfl rfl rfl rfl ⟨rfl, rfl, rfl, rfl, rfl⟩ rfl rfl rfl rfl rfl (by kernel_rfl) Try.func3 (by kernel_rfl)
    (of_decide_eq_true (by kernel_rfl)) (by unfold Func.isWrapper; first | (rw [if_pos (by decide +kernel)]; kernel_rfl) | (rw [if_neg (by decide +kernel)]; exact ⟨rfl, rfl⟩))
    (fun os started H enc _ => lifted os started H enc)

/-- THE STATEMENT -/
theorem proved : Rows.WeaveWeavesSaid := over
end Go.Proofs.Ytpanmjohmgjigaa.weaveWeaves
