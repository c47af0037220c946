/- The reference's generator, sums of words, and whether a row is noughts. -/
import Derived.Test.YtciafkobnlfpbaaAp
import Derived.Test.YtciafkobnlfpbaaEa
namespace Go.Proofs.Ytciafkobnlfpbaa
open Go.RowKit Go.Gf

/-- is it all noughts? -/
def cleanB (xs : List Nat) : Bool := xs.all (· == 0)
theorem cleanB_take {xs : List Nat} {k : Nat} (h : k < xs.length) : cleanB (xs.take (k + 1)) = (cleanB (xs.take k) && xs[k] == 0) := by
  unfold cleanB
  rw [take_snoc h, List.all_append]
  simp
theorem cleanB_false {xs : List Nat} {k : Nat} (h : k < xs.length) (h0 : xs[k] ≠ 0) : cleanB xs = false := by
  rw [Bool.eq_false_iff]
  intro e
  have := List.all_eq_true.1 e xs[k] (List.getElem_mem h)
  simp at this; exact h0 this
set_option maxHeartbeats 2000000 in
theorem refclean_any (A : Option Addr) (c : Nat) (xs : List Nat) (w : World) (h : Sl w w.heap.size A xs) (hl : xs.length ≤ 1000000) :
    Calls Try.prog 39 #[.slice A xs.length c] w fun e w' => e = .returned (.bool (cleanB xs)) ∧ w = w' := by
  have H := Lib.hid h
  clear h
  generalize hT : cleanB xs = T
  have HT := Lib.hid hT
  clear hT
  go_enter Try.func39, Try.ntmps39
  go_wp2
  go_loop [3] (fun n => ∃ k : Nat, k ≤ xs.length ∧ Hid (cleanB (xs.take k) = true) ∧ n = .int .i64 k) (fun n => xs.length - (intOf n).toNat)
  case atStart => exact ⟨0, Nat.zero_le _, Lib.hid rfl, rfl⟩
  case round =>
    obtain ⟨k, hk, HK, rfl⟩ := hrel
    by_cases hlt : k < xs.length
    · obtain ⟨a, rfl, hab, hcell⟩ := H.out.at_ hlt
      have hx := H.out.1 xs[k] (List.getElem_mem hlt)
      by_cases h0 : xs[k] = 0
      · have hz : ((xs[k] : Int) != 0) = false := by simp [h0]
        have HK' : Hid (cleanB (xs.take (k + 1)) = true) := by
          unfold Hid; rw [cleanB_take hlt, HK.out]; simp [h0]
        clear h0 HK
        go_wp2
        go_round
        case rel => exact ⟨k + 1, by omega, HK', by go_num⟩
        case measure => simp [intOf]; omega
      · have hz : ((xs[k] : Int) != 0) = true := by simp; omega
        have hf : Hid (T = false) := by rw [← HT.out]; exact Lib.hid (cleanB_false hlt h0)
        clear h0 HK
        go_wp2
        go_ret
        exact ⟨by rw [hf.out]; rfl, rfl⟩
    · obtain rfl : k = xs.length := by omega
      have ht : Hid (T = true) := by
        have := HK.out
        rw [List.take_length] at this
        rw [← HT.out]; exact Lib.hid this
      clear HK
      go_wp2
      go_ret
      exact ⟨by rw [ht.out]; rfl, rfl⟩

theorem pmul_le' (xs ys : List Nat) : (pmul xs ys).length ≤ 4096 := by
  unfold pmul
  split
  · exact Nat.zero_le _
  · refine Nat.le_trans (tr_len _) ?_
    rw [rm_len]; omega
theorem gens_le (k : Nat) : (gens k).length ≤ 4096 := by
  cases k with
  | zero => decide
  | succ k => exact pmul_le' _ _
/-- a slice that holds ys; old memory is as it was -/
def RowC (w : World) (ys : List Nat) (e : Ending) (w' : World) : Prop := ∃ A c, e = .returned (.slice A ys.length c) ∧ ys.length ≤ c ∧ Sl w' w'.heap.size A ys ∧ Below w.heap.size w w'
theorem Gives.rowC {w w' : World} {ys : List Nat} {e : Ending} (h : Gives w ys e w') : RowC w ys e w' := by
  obtain ⟨s, he, hb, hy, h⟩ := h
  rcases h with ⟨rfl, rfl⟩ | ⟨g, hg, rfl, ha⟩
  · exact ⟨none, 0, he, Nat.le_refl _, Sl.nil _ _ _, hb⟩
  · exact ⟨some ⟨g, 0, none⟩, _, he, Nat.le_refl _, ha.sl hy, hb⟩
set_option maxHeartbeats 4000000 in
theorem refgen_any (w : World) : Calls Try.prog 17 #[] w (RowC w (gens 16)) := by
  go_enter Try.func17, Try.ntmps17
  go_wp2_with fail
  have h0 := sl_new w (.cells #[.int .u16 1] 23) [1] w.heap.size rfl rfl (by decide)
  have hb0 := below_alloc w (.cells #[.int .u16 1] 23)
  generalize w.alloc (.cells #[.int .u16 1] 23) = ws at h0 hb0 ⊢
  go_loopw [1, 2] (fun p q wr => ∃ (k : Nat) (A : Option Addr) (c : Nat), k ≤ 16 ∧ q = .int .i64 ((k : Int) + 1) ∧ p = .slice A (gens k).length c ∧ (gens k).length ≤ c ∧ Sl wr wr.heap.size A (gens k) ∧ Below w.heap.size w wr) (fun _ q _ => (17 - intOf q).toNat)
  case atStart => exact ⟨0, _, 1, Nat.zero_le _, rfl, rfl, Nat.le_refl _, h0, hb0⟩
  case round =>
    clear h0 hb0
    obtain ⟨k, A, c, hk, rfl, rfl, hcl, hs, hb⟩ := hrel
    replace hcl := Lib.hid hcl
    have hlen := Lib.hid (gens_le k)
    by_cases hlt : k < 16
    · have hd : decide ((k : Int) + 1 ≤ 16) = true := by rw [decide_eq_true_eq]; omega
      have hE := E_lt (k + 1)
      have hexp : expI ((k : Int) + 1) = ((E (k + 1) : Nat) : Int) := by
        unfold expI
        congr 2
        omega
      have hgen : Hid (gens (k + 1) = pmul (gens k) [E (k + 1), 1]) := rfl
      generalize E (k + 1) = X at *
      generalize hG : gens (k + 1) = G at *
      replace hG := Lib.hid hG
      replace hs := Lib.hid hs
      replace hb := Lib.hid hb
      have hc1 := Lib.hid (refexp_any ((k : Int) + 1) wr)
      rw [hexp] at hc1
      clear hexp
      go_wp2_with fail
      refine hc1.out.mono ?_
      rintro e w1 ⟨rfl, rfl⟩
      go_wp2_with fail
      have hq := sl_new wr (.cells #[.int .u16 (X : Int), .int .u16 1] 23) [X, 1] wr.heap.size rfl rfl (by simp; omega)
      have hp := hs.out.far (below_alloc wr (.cells #[.int .u16 (X : Int), .int .u16 1] 23))
      have hb1 := hb.out.trans ((below_alloc wr (.cells #[.int .u16 (X : Int), .int .u16 1] 23)).mono hb.out.size)
      generalize wr.alloc (.cells #[.int .u16 (X : Int), .int .u16 1] 23) = w2 at hq hp hb1 ⊢
      generalize wr.heap.size = g2 at hq ⊢
      have hc2 := (refpmul_any A (some ⟨g2, 0, none⟩) c 2 (gens k) [X, 1] w2 hp hq (by have := hlen.out; omega) (by simp)).mono fun _ _ h => h.rowC
      rw [← hgen.out] at hc2
      replace hc2 := Lib.hid hc2
      replace hb1 := Lib.hid hb1
      clear hp hq
      refine hc2.out.mono ?_
      rintro e w3 ⟨B, c3, rfl, hcc, h3, hb3⟩
      replace h3 := Lib.hid h3
      replace hcc := Lib.hid hcc
      have hb4 := Lib.hid (hb1.out.trans (hb3.mono hb1.out.size))
      clear hb3 hc1 hc2
      go_wp2_with fail
      go_roundw
      case rel => exact ⟨k + 1, B, c3, by omega, by go_num, by rw [hG.out], by rw [hG.out]; exact hcc.out, by rw [hG.out]; exact h3.out, hb4.out⟩
      case measure => simp [intOf]; omega
    · have hk16 : k = 16 := by omega
      have hd : decide ((k : Int) + 1 ≤ 16) = false := by rw [decide_eq_false_iff_not]; omega
      have hG : Hid (gens k = gens 16) := by rw [hk16]; exact Lib.hid rfl
      generalize gens k = G at *
      replace hs := Lib.hid hs
      replace hb := Lib.hid hb
      clear hk16
      go_wp2_with fail
      go_ret
      exact ⟨A, c, by rw [← hG.out]; rfl, by rw [← hG.out]; exact hcl.out, by rw [← hG.out]; exact hs.out, hb.out⟩

/-- the loop of Syndromes: k sums are laid -/
def SynR (w : World) (xs : List Nat) (v : Value) (k : Nat) (wr : World) : Prop := OwnS w wr v (rm k fun i => hv (E (i + 1)) xs) ∧ Below w.heap.size w wr
set_option maxHeartbeats 4000000 in
theorem refsyn_any (A : Option Addr) (c : Nat) (xs : List Nat) (w : World) (h : Sl w w.heap.size A xs) (hl : xs.length ≤ 1000000) :
    Calls Try.prog 22 #[.slice A xs.length c] w (RowC w (sums xs)) := by
  have H := Lib.hid h
  clear h
  go_enter Try.func22, Try.ntmps22
  go_wp2_with fail
  go_loopw [3, 4, 5] (fun v x q wr => ∃ k : Nat, k ≤ 16 ∧ q = .int .i64 ((k : Int) + 1) ∧ x = .int .u16 ((E k : Nat) : Int) ∧ SynR w xs v k wr) (fun _ _ q _ => (17 - intOf q).toNat)
  case atStart => exact ⟨0, Nat.zero_le _, rfl, rfl, OwnS.nil _ _, Below.refl _ _⟩
  case round =>
    obtain ⟨k, hk, rfl, rfl, HS⟩ := hrel
    replace HS := Lib.hid HS
    by_cases hlt : k < 16
    · have hd : decide ((k : Int) + 1 ≤ 16) = true := by rw [decide_eq_true_eq]; omega
      have hE0 := E_lt k
      have hE := E_lt (k + 1)
      have hmulE : mulI ((E k : Nat) : Int) 2 = ((E (k + 1) : Nat) : Int) := mulI_E k 1
      have hX : Hid (∃ X, X = E (k + 1)) := Lib.hid ⟨_, rfl⟩
      have hc1 := refmul_any ((E k : Nat) : Int) 2 wr (by omega) (by omega) (by omega) (by omega)
      rw [hmulE] at hc1
      replace hc1 := Lib.hid hc1
      clear hmulE
      obtain ⟨Y, hY⟩ : ∃ Y, Hid (E k = Y) := ⟨_, Lib.hid rfl⟩
      generalize E k = Y0 at *
      generalize hXe : E (k + 1) = X at *
      replace hXe := Lib.hid hXe
      go_wp2_with fail
      refine hc1.out.mono ?_
      rintro e w1 ⟨rfl, rfl⟩
      go_wp2_with fail
      go_loopw [6, 7] (fun s i wq => ∃ j : Nat, j ≤ xs.length ∧ i = .int .i64 j ∧ s = .int .u16 ((hv X (xs.take j) : Nat) : Int) ∧ Drawn wr wq) (fun _ i _ => xs.length - (intOf i).toNat)
      case atStart => exact ⟨0, Nat.zero_le _, rfl, rfl, ⟨0, rfl⟩⟩
      case round =>
        clear hc1
        obtain ⟨j, hj, rfl, rfl, HW⟩ := hrel
        by_cases hlt2 : j < xs.length
        · obtain ⟨a, rfl, hab, hcell⟩ := ((H.out.far HS.out.2).drawn HW).at_ hlt2
          have hxm := H.out.1 xs[j] (List.getElem_mem hlt2)
          have hmask := u16_mask (xs[j] : Int) (by omega) (by omega)
          have hev := hv_lt X (xs.take j)
          have hmul := Lib.hid (mulI_nat hev hE)
          have hT := Lib.hid (hv_take (x := X) hlt2)
          have hxor : Hid (bits .xor .u16 (mulI ((hv X (xs.take j) : Nat) : Int) (X : Int)) ((xs[j] : Int) % 1024) = ((hv X (xs.take (j + 1)) : Nat) : Int)) := by
            have g := gm_lt X hev
            unfold Hid
            rw [hmul.out, hT.out, show ((xs[j] : Int) % 1024) = ((xs[j] % 1024 : Nat) : Int) by omega]
            exact u16_xor_nat _ _ (by omega) (by omega)
          generalize hv X (xs.take j) = V at *
          go_wp2
          go_quiet ((go_at_call 28; exact Calls.quiet_of_same ((refmul_any _ _ _ (by omega) (by omega) (by omega) (by omega)).mono fun _ _ h => ⟨h.1, h.2.symm⟩)))
          go_wp2
          go_roundw
          case rel => exact ⟨j + 1, by omega, by go_num, by rw [hxor.out], HW.drewN _⟩
          case measure => simp [intOf]; omega
        · obtain rfl : j = xs.length := by omega
          have HS2 : SynR w xs u3 k wr := ⟨HS.out.1.keep (by obtain ⟨n, rfl⟩ := HW; exact ⟨rfl, rfl, rfl, Nat.le_refl _, fun _ _ => rfl⟩), HS.out.2.trans (by obtain ⟨n, rfl⟩ := HW; exact ⟨rfl, rfl, rfl, Nat.le_refl _, fun _ _ => rfl⟩)⟩
          obtain ⟨L, hL⟩ : ∃ L, Hid ((rm k fun i => hv (E (i + 1)) xs) = L) := ⟨_, Lib.hid rfl⟩
          have hLl : Hid (L.length ≤ 16) := by rw [← hL.out]; exact Lib.hid (by rw [rm_len]; omega)
          have hnew : Hid ((rm (k + 1) fun i => hv (E (i + 1)) xs) = L ++ [hv X xs]) := by
            unfold Hid
            rw [rm_succ, hL.out, hXe.out]
          have hV := hv_lt X xs
          rw [List.take_length]
          unfold SynR at HS2
          rw [hL.out] at HS2
          generalize hv X xs = V at *
          have hown := Lib.hid (HS2.1.keep (below_alloc wr (.cells #[.int .u16 (V : Int)] 23)))
          have hbz := Lib.hid (HS2.2.trans ((below_alloc wr (.cells #[.int .u16 (V : Int)] 23)).mono HS2.2.size))
          have hz := Lib.hid (sl_new wr (.cells #[.int .u16 (V : Int)] 23) [V] wr.heap.size rfl rfl (by simp; omega))
          clear HS HS2 HW
          go_wp2_with (refine app_law rfl (.tmp 29) (.tmp 31) rfl u3 L rfl hown.out hbz.out (some ⟨wr.heap.size, 0, none⟩) 1 [V] 1 rfl rfl hz.out (by simp) (by have := hLl.out; simp; omega) ?_)
          rintro v' w' h1 h2 - -
          replace h1 := Lib.hid h1
          replace h2 := Lib.hid h2
          go_wp2_with fail
          go_roundw
          case rel => exact ⟨k + 1, by omega, by go_num, by rw [hXe.out], by rw [hnew.out]; exact h1.out, h2.out⟩
          case measure => simp [intOf]; omega
    · have hd : decide ((k : Int) + 1 ≤ 16) = false := by rw [decide_eq_false_iff_not]; omega
      have hk16 : k = 16 := by omega
      have HS2 : OwnS w wr u3 (sums xs) := by have := HS.out.1; rw [hk16] at this; exact this
      obtain ⟨B, c2, hv2, hc2, hs2⟩ := HS2.sl
      replace hs2 := Lib.hid hs2
      replace hc2 := Lib.hid hc2
      subst hv2
      clear hk16 HS2
      go_wp2_with fail
      go_ret
      exact ⟨B, c2, rfl, hc2.out, hs2.out, HS.out.2⟩
end Go.Proofs.Ytciafkobnlfpbaa
