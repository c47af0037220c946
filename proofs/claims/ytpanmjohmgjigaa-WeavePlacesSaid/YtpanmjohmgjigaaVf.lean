/- The reference's Out. -/
import Derived.Test.YtpanmjohmgjigaaVe
import Derived.Test.YtpanmjohmgjigaaPm
namespace Go.Proofs.Ytpanmjohmgjigaa
open Go.RowKit Go.Gf

theorem outE_of {W : Int} {ws : List (List Nat)} (h : mayB W = true) (h2 : (ws.length : Int) = W) (k : Nat) (hk : k < ws.length) (h3 : ws[k].length ≠ wvN ws ∨ wvN ws = 0) : outE W ws = 3 :=
  outE_size h h2 (by rcases h3 with h3 | h3
                     · exact Or.inl (unl_true hk h3)
                     · exact Or.inr h3)
set_option maxHeartbeats 4000000 in
theorem refout_any (W : Int) (A : Option Addr) (c : Nat) (ws : List (List Nat)) (w : World) (h : Sw w w.heap.size A ws) (hl : ws.length ≤ 1000000) (hx : ∀ x ∈ ws, x.length ≤ 100000) :
    Calls Try.prog 10 #[.int .i64 W, .slice A ws.length c] w (RowV w (outW W ws) (outE W ws)) := by
  have H := Lib.hid h
  have HX := Lib.hid hx
  clear h hx
  obtain ⟨b1, d1⟩ : ∃ b, decide (W < 1) = b := ⟨_, rfl⟩
  obtain ⟨b2, d2⟩ : ∃ b, decide (4 < W) = b := ⟨_, rfl⟩
  obtain ⟨b3, d3⟩ : ∃ b, ((ws.length : Int) != W) = b := ⟨_, rfl⟩
  by_cases h1 : b1 = false ∧ b2 = false ∧ b3 = false
  · obtain ⟨rfl, rfl, rfl⟩ := h1
    have h2 : (ws.length : Int) = W := by simpa using d3
    rw [decide_eq_false_iff_not] at d1 d2
    have h1 : mayB W = true := by unfold mayB; rw [Bool.and_eq_true, decide_eq_true_eq, decide_eq_true_eq]; omega
    subst h2
    obtain ⟨V, hV⟩ : ∃ V, ws.length = V := ⟨_, rfl⟩
    have hV4 : 1 ≤ V ∧ V ≤ 4 := by rw [← hV]; exact mayB_nat h1
    obtain ⟨a, D0, c0, rfl, ha0, hc0, hn0, hs0⟩ := H.out.at_ (i := 0) (by omega)
    rw [wvN_get (by omega), add_zero'] at hc0
    obtain ⟨n, hn⟩ : ∃ n, Hid (wvN ws = n) := ⟨_, Lib.hid rfl⟩
    rw [hn.out] at hc0
    have hn1 : n ≤ 100000 := by
      have := HX.out _ (List.getElem_mem (show 0 < ws.length by omega))
      rw [wvN_get (by omega), hn.out] at this
      exact this
    have hbad : Hid (∀ k (hk : k < ws.length), ws[k].length ≠ n ∨ n = 0 → outE (ws.length : Int) ws = 3 ∧ outW (ws.length : Int) ws = []) := fun k hk h => by
      have e := outE_of (ws := ws) h1 rfl k hk (by rw [hn.out]; exact h)
      exact ⟨e, by unfold outW; rw [e]; rfl⟩
    have hgood : Hid ((∀ k (hk : k < ws.length), ws[k].length = n) → n ≠ 0 → outE (ws.length : Int) ws = 0 ∧ outW (ws.length : Int) ws = rm (n * V) (wvF ws V)) := fun h h0 => by
      have e := outE_ok (ws := ws) h1 rfl (unl_false fun k hk => by rw [hn.out]; exact h k hk) (by rw [hn.out]; exact h0)
      refine ⟨e, ?_⟩
      unfold outW wvOf
      rw [e, hn.out, hV, Nat.mul_comm]
      rfl
    have hF := Lib.hid (wvF_lt H.out.bd V)
    have d1 : decide ((V : Int) < 1) = false := by rw [decide_eq_false_iff_not]; omega
    have d2 : decide ((4 : Int) < (V : Int)) = false := by rw [decide_eq_false_iff_not]; omega
    have d3 : ((V : Int) != (V : Int)) = false := by simp
    have d4 : (V != V) = false := by simp
    have HH := Lib.hid hV
    generalize outE (ws.length : Int) ws = OE at *
    generalize outW (ws.length : Int) ws = OW at *
    rw [hV]
    clear h1 hs0 hn0
    go_enter Try.func10, Try.ntmps10
    go_wp2_with fail
    go_loop [7] (fun q => ∃ k : Nat, k ≤ V ∧ Hid (∀ j (h : j < ws.length), j < k → ws[j].length = n) ∧ Hid (0 < k → n ≠ 0) ∧ q = .int .i64 k) (fun q => V - (intOf q).toNat)
    case atStart => exact ⟨0, Nat.zero_le _, Lib.hid (fun j _ h => absurd h (by omega)), Lib.hid (fun h => absurd h (by omega)), rfl⟩
    case round =>
      obtain ⟨k, hk, HK, HZ, rfl⟩ := hrel
      by_cases hlt : k < V
      · have hkI : (k : Int) < (V : Int) := by omega
        have hd : decide (k < V) = true := decide_eq_true hlt
        have hkl : k < ws.length := by omega
        obtain ⟨_, D, cD, e, hab, hcw, hcn, hcs⟩ := H.out.at_ hkl
        injection e with e
        subst e
        by_cases hu : ws[k].length = n
        · by_cases h0 : n = 0
          · obtain ⟨e1, e2⟩ := hbad.out k hkl (Or.inr h0)
            rw [e1, e2]
            rw [hu] at hcw
            have z1 : ((n : Int) != (n : Int)) = false := by simp
            have z2 : (n != n) = false := by simp
            have z3 : ((n : Int) == 0) = true := by simp [h0]
            clear hbad hgood HK HZ hu h0 hcs e1 e2
            go_wp2_with fail
            go_ret2
            exact RowV.nil (Below.refl _ _)
          · rw [hu] at hcw
            have z1 : ((n : Int) != (n : Int)) = false := by simp
            have z2 : (n != n) = false := by simp
            have z3 : ((n : Int) == 0) = false := by rw [beq_eq_false_iff_ne]; omega
            have HK' : Hid (∀ j (h : j < ws.length), j < k + 1 → ws[j].length = n) := fun j hj hjk => by
              rcases Nat.lt_or_ge j k with h1 | h1
              · exact HK.out j hj h1
              · obtain rfl : j = k := by omega
                exact hu
            have HZ' : Hid (0 < k + 1 → n ≠ 0) := fun _ => h0
            clear hbad hgood HK HZ hu h0 hcs
            go_wp2_with fail
            go_round
            case rel => exact ⟨k + 1, by omega, HK', HZ', by go_num⟩
            case measure => simp [intOf]; omega
        · obtain ⟨e1, e2⟩ := hbad.out k hkl (Or.inl hu)
          rw [e1, e2]
          have z1 : ((ws[k].length : Int) != (n : Int)) = true := by simp; omega
          have z2 : (ws[k].length != n) = true := by simp [hu]
          obtain ⟨L, hL⟩ : ∃ L, Hid (ws[k].length = L) := ⟨_, Lib.hid rfl⟩
          rw [hL.out] at hcw z1 z2
          clear hbad hgood HK HZ hu hcs e1 e2 hcn
          go_wp2_with fail
          go_ret2
          exact RowV.nil (Below.refl _ _)
      · obtain rfl : k = V := by omega
        have hd : decide (k < k) = false := decide_eq_false (Nat.lt_irrefl _)
        have hall : Hid (∀ j (h : j < ws.length), ws[j].length = n) := fun j hj => HK.out j hj (by rw [← HH.out]; exact hj)
        have hn0 := HZ.out (by omega)
        obtain ⟨e1, e2⟩ := hgood.out hall.out hn0
        replace e1 := Lib.hid e1
        replace e2 := Lib.hid e2
        have hO0 : Hid (OwnS w w (.slice none 0 0) (rm (0 * k) (wvF ws k))) := by
          rw [Nat.zero_mul]
          exact Lib.hid (OwnS.nil w w)
        clear hbad hgood HK HZ hc0
        go_wp2_with fail
        go_loopw [8, 9] (fun v q wr => ∃ t : Nat, t ≤ n ∧ q = .int .i64 t ∧ OwnS w wr v (rm (t * k) (wvF ws k)) ∧ Below w.heap.size w wr) (fun _ q _ => n - (intOf q).toNat)
        case atStart => exact ⟨0, Nat.zero_le _, rfl, hO0.out, Below.refl _ _⟩
        case round =>
          clear hO0
          obtain ⟨t, ht, rfl, HO, HB⟩ := hrel
          by_cases hlt : t < n
          · have htI : (t : Int) < (n : Int) := by omega
            have hd : decide (t < n) = true := decide_eq_true hlt
            replace HO := Lib.hid HO
            replace HB := Lib.hid HB
            go_wp2_with fail
            go_loopw [8, 10] (fun v q wr => ∃ i : Nat, i ≤ k ∧ q = .int .i64 i ∧ OwnS w wr v (rm (t * k + i) (wvF ws k)) ∧ Below w.heap.size w wr) (fun _ q _ => k - (intOf q).toNat)
            case atStart => exact ⟨0, Nat.zero_le _, rfl, HO.out, HB.out⟩
            case round =>
              clear HO HB
              obtain ⟨i, hi, rfl, HO, HB⟩ := hrel
              by_cases hlt2 : i < k
              · have hiI : (i : Int) < (k : Int) := by omega
                have hd2 : decide (i < k) = true := decide_eq_true hlt2
                have hpl : i < ws.length := by rw [HH.out]; exact hlt2
                obtain ⟨_, D, cD, e, hab, hcw, hcn, hcs⟩ := (H.out.below HB).at_ hpl
                injection e with e
                subst e
                have hll := hall.out _ hpl
                obtain ⟨d, rfl, hdb, hcd⟩ := hcs.at_ (i := t) (by rw [hll]; exact hlt)
                have hdm := (divmod_eq (W := k) (q := t) (j := i) (i := t * k + i) hlt2).1 rfl
                have hFe : (ws[i])[t]'(by rw [hll]; exact hlt) = wvF ws k (t * k + i) := by
                  unfold wvF
                  rw [← hdm.1, ← hdm.2, List.getD_eq_getElem?_getD, List.getElem?_eq_getElem hpl, Option.getD_some, at_get (by rw [hll]; exact hlt)]
                rw [hFe] at hcd
                rw [hll] at hcw
                have hFl := hF.out (t * k + i)
                obtain ⟨F, hFF⟩ : ∃ F, Hid (wvF ws k (t * k + i) = F) := ⟨_, Lib.hid rfl⟩
                rw [hFF.out] at hcd hFl
                have hsn := sl_new wr (.cells #[.int .u16 ((F : Nat) : Int)] 37) [F] wr.heap.size rfl rfl (by simp; exact hFl)
                have hba := below_alloc wr (.cells #[.int .u16 ((F : Nat) : Int)] 37)
                have hOa := Lib.hid (HO.alloc (.cells #[.int .u16 ((F : Nat) : Int)] 37))
                have hBa := Lib.hid (HB.trans (hba.mono HB.size))
                have hstep : Hid (rm (t * k + i) (wvF ws k) ++ [F] = rm (t * k + (i + 1)) (wvF ws k)) := by
                  unfold Hid
                  rw [← Nat.add_assoc, rm_succ, hFF.out]
                have hlen : Hid ((rm (t * k + i) (wvF ws k)).length + 1 ≤ 1000000) := by
                  unfold Hid
                  rw [rm_len]
                  have : (t + 1) * k ≤ 100000 * 4 := Nat.mul_le_mul (by omega) hV4.2
                  rw [Nat.add_mul] at this
                  omega
                replace hsn := Lib.hid hsn
                clear HO HB hll hdm hFe hcs hcn hFF hba
                go_wp2_with (refine app_own (w0 := w) rfl (.tmp 53) (.tmp 61) rfl u8 (rm (t * k + i) (wvF ws k)) rfl hOa.out hBa.out.size ⟨wr.heap.size, 0, none⟩ 1 [F] rfl hsn.out hlen.out ?_)
                intro v' w' ho hg _
                rw [hstep.out] at ho
                have hB' := Lib.hid (hBa.out.grown hg hBa.out.size (OwnS.block hOa.out))
                replace ho := Lib.hid ho
                clear hg hOa hBa hsn
                go_wp2_with fail
                go_roundw
                case rel => exact ⟨i + 1, by omega, by go_num, ho.out, hB'.out⟩
                case measure => simp [intOf]; omega
              · obtain rfl : i = k := by omega
                have hd2 : decide (i < i) = false := decide_eq_false (Nat.lt_irrefl _)
                have e : t * i + i = (t + 1) * i := by rw [Nat.add_mul]; omega
                rw [e] at HO
                replace HO := Lib.hid HO
                replace HB := Lib.hid HB
                clear e
                go_wp2_with fail
                go_roundw
                case rel => exact ⟨t + 1, by omega, by go_num, HO.out, HB.out⟩
                case measure => simp [intOf]; omega
          · obtain rfl : t = n := by omega
            have hd : decide (t < t) = false := decide_eq_false (Nat.lt_irrefl _)
            replace HO := Lib.hid HO
            replace HB := Lib.hid HB
            go_wp2_with fail
            go_ret2
            rw [e1.out, e2.out]
            exact ⟨_, rfl, HO.out, HB.out⟩
  · have hor : mayB W = false ∨ (ws.length : Int) ≠ W := by
      rcases Classical.em ((ws.length : Int) = W) with e | e
      · left
        unfold mayB
        rw [Bool.and_eq_false_iff, decide_eq_false_iff_not, decide_eq_false_iff_not]
        have : b3 = false := by rw [← d3, e]; simp
        rcases Classical.em (W < 1) with e2 | e2
        · omega
        · rcases Classical.em (4 < W) with e3 | e3
          · omega
          · exact absurd ⟨by rw [← d1, decide_eq_false_iff_not]; exact e2, by rw [← d2, decide_eq_false_iff_not]; exact e3, this⟩ h1
      · exact Or.inr e
    have hE := Lib.hid (outE_arg hor)
    have hR : Hid (outW W ws = []) := by unfold Hid outW; rw [hE.out]; rfl
    rw [hE.out, hR.out]
    clear hE hR hor
    cases b1
    · cases b2
      · cases b3
        · exact absurd ⟨rfl, rfl, rfl⟩ h1
        · go_enter Try.func10, Try.ntmps10
          go_wp2_with fail
          go_ret2
          exact RowV.nil (Below.refl _ _)
      · go_enter Try.func10, Try.ntmps10
        go_wp2_with fail
        go_ret2
        exact RowV.nil (Below.refl _ _)
    · go_enter Try.func10, Try.ntmps10
      go_wp2_with fail
      go_ret2
      exact RowV.nil (Below.refl _ _)
end Go.Proofs.Ytpanmjohmgjigaa
