/- The program's In, walked. · The reference's Out. · The reference's In. · The reference's In, walked. -/
import Derived.Test.YtmchelbmeajcnaaVd
import Derived.Test.YtmchelbmeajcnaaPm
import Derived.Test.YtmchelbmeajcnaaWy
namespace Go.Proofs.Ytmchelbmeajcnaa
open Go.RowKit Go.Gf

theorem RowsV.nil (w : World) (n : Nat) : RowsV w [] n (.returned (.tuple #[.slice none 0 0, .int .i64 (n : Int)])) w := ⟨Or.inl ⟨rfl, rfl⟩, Below.refl _ _⟩
set_option maxHeartbeats 4000000 in
theorem in_any (W : Int) (A : Option Addr) (c : Nat) (xs : List Nat) (w : World) (h : Sl w w.heap.size A xs) (hl : xs.length ≤ 1000000) :
    Calls Try.prog 57 #[.int .i64 W, .slice A xs.length c] w (RowsV w (inW W xs) (inE W xs)) := by
  have H := Lib.hid h
  clear h
  have hc := Lib.hid (may_any W w)
  by_cases h1 : mayB W = true
  · rw [h1] at hc
    obtain ⟨V, rfl⟩ : ∃ V : Nat, W = (V : Int) := ⟨W.toNat, by unfold mayB at h1; rw [Bool.and_eq_true, decide_eq_true_eq, decide_eq_true_eq] at h1; omega⟩
    have hV4 := mayB_nat h1
    have hV0 : (V : Int) ≠ 0 := by omega
    obtain ⟨r, hr⟩ : ∃ r, xs.length % V = r := ⟨_, rfl⟩
    have hrI : (xs.length : Int) % (V : Int) = (r : Int) := by rw [← hr]; exact (Int.natCast_emod _ _).symm
    by_cases h2 : r ≠ 0 ∨ xs.length = 0
    · have hE := Lib.hid (inE_size (s := xs) h1 (by rw [Int.toNat_natCast, hr]; exact h2))
      have hR : Hid (inW (V : Int) xs = []) := by unfold Hid inW; rw [hE.out]; rfl
      rw [hE.out, hR.out]
      by_cases h3 : r = 0
      · have d1 : ((xs.length : Int) % (V : Int) != 0) = false := by rw [hrI]; simp [h3]
        have d2 : ((xs.length : Int) == 0) = true := by rw [beq_iff_eq]; omega
        clear h1 h2 h3 hE hR hr hrI
        go_enter Try.func57, Try.ntmps57
        go_wp2_with (go_at_call 78; (with_reducible refine hc.out.mono ?_); rintro e w1 ⟨rfl, rfl⟩)
        go_ret2
        exact RowsV.nil _ _
      · have d1 : ((xs.length : Int) % (V : Int) != 0) = true := by rw [hrI]; simp; omega
        clear h1 h2 h3 hE hR hr hrI
        go_enter Try.func57, Try.ntmps57
        go_wp2_with (go_at_call 78; (with_reducible refine hc.out.mono ?_); rintro e w1 ⟨rfl, rfl⟩)
        go_ret2
        exact RowsV.nil _ _
    · have hE := Lib.hid (inE_ok (s := xs) h1 (by rw [Int.toNat_natCast, hr]; exact h2))
      have hR : Hid (inW (V : Int) xs = dealt V xs) := by unfold Hid inW; rw [hE.out]; rfl
      rw [hE.out, hR.out]
      have d1 : ((xs.length : Int) % (V : Int) != 0) = false := by rw [hrI]; simp; omega
      have d2 : ((xs.length : Int) == 0) = false := by rw [beq_eq_false_iff_ne]; omega
      obtain ⟨n, hn⟩ : ∃ n, xs.length / V = n := ⟨_, rfl⟩
      have hnl : n ≤ xs.length := by rw [← hn]; exact Nat.div_le_self _ _
      have hnI : (xs.length : Int) / (V : Int) = (n : Int) := by rw [← hn]; exact (Int.natCast_ediv _ _).symm
      have hwn : wrap64 ((xs.length : Int) / (V : Int)) = (n : Int) := by rw [hnI]; exact IntWalk.wrap64_in _ (by omega)
      have hVn : Hid (V * n ≤ xs.length) := by rw [← hn]; exact Lib.hid (Nat.mul_div_le _ _)
      have hlt2 : Hid (∀ i, i < xs.length → i % V < V ∧ i / V < n) := fun i hi => by
        have : xs.length = V * n := by rw [← hn]; have := Nat.div_add_mod xs.length V; omega
        exact divmod_lt (by omega) (by omega)
      have hmk : ∀ w, (Instr.makeSlice 81 (.int .i64 (V : Int)) (.int .i64 (V : Int))).run Try.prog w = .ok (.slice (some ⟨w.heap.size, 0, none⟩) V V) (w.alloc (.cells (madeCells #[.slice none 0 0] V) 35)) :=
        run_make_row' (P := Try.prog) 81 35 (.slice none 0 0) 24 Try.underlying81 info23w rfl .i64 .i64 V (by omega) (by omega)
      have hmk2 : ∀ w, (Instr.makeSlice 35 (.int .i64 (n : Int)) (.int .i64 (n : Int))).run Try.prog w = .ok (.slice (some ⟨w.heap.size, 0, none⟩) n n) (w.alloc (.cells (madeCells #[.int .u16 0] n) 29)) :=
        run_make_row' (P := Try.prog) 35 29 (.int .u16 0) 2 Try.underlying35 info22 rfl .i64 .i64 n (by omega) (by omega)
      replace hn := Lib.hid hn
      clear h1 h2 hE hR hr hrI hnI
      go_enter Try.func57, Try.ntmps57
      go_wp2_with (go_at_call 78; (with_reducible refine hc.out.mono ?_); rintro e w1 ⟨rfl, rfl⟩)
      go_loopw [31] (fun q wr => ∃ i : Nat, i ≤ V ∧ q = .int .i64 i ∧ Made w wr V n i) (fun q _ => V - (intOf q).toNat)
      case atStart => exact ⟨0, Nat.zero_le _, rfl, Made.start w V n⟩
      case round =>
        obtain ⟨i, hi, rfl, HM⟩ := hrel
        clear hmk
        by_cases hlt : i < V
        · have hiI : (i : Int) < (V : Int) := by omega
          have hd : decide (i < V) = true := decide_eq_true hlt
          have hcl := (HM.vs.alloc (.cells (madeCells #[.int .u16 0] n) 29)).cell hlt
          have hfz := (HM.vs.alloc (.cells (madeCells #[.int .u16 0] n) 29)).frozen i
          have HM' := Lib.hid HM.step
          clear HM
          rw [if_neg (Nat.lt_irrefl _)] at hcl
          go_wp2_with fail
          go_roundw
          case rel => exact ⟨i + 1, by omega, by go_num, HM'.out⟩
          case measure => simp [intOf]; omega
        · obtain rfl : i = V := by omega
          have hd : decide (i < i) = false := decide_eq_false (Nat.lt_irrefl _)
          have HD := Lib.hid (HM.dealt xs)
          clear HM hmk2
          go_wp2_with fail
          go_loopw [45] (fun q wr => ∃ t : Nat, t ≤ xs.length ∧ q = .int .i64 t ∧ Dealt w wr i n xs t) (fun q _ => xs.length - (intOf q).toNat)
          case atStart => exact ⟨0, Nat.zero_le _, rfl, HD.out⟩
          case round =>
            clear HD
            obtain ⟨t, ht, rfl, HT⟩ := hrel
            by_cases hlt : t < xs.length
            · have htI : (t : Int) < (xs.length : Int) := by omega
              have hd : decide (t < xs.length) = true := decide_eq_true hlt
              have HT' := HT.step
              obtain ⟨hp, hq⟩ := hlt2.out t hlt
              have hpc := place_any i t (by omega) (by omega) wr
              have hvc := HT.vs.cell hp
              have hrr := HT.rows (t % i) hp
              obtain ⟨a, rfl, hab, hcell⟩ := (H.out.below HT.be).at_ hlt
              obtain ⟨p, hpp⟩ : ∃ p, t % i = p := ⟨_, rfl⟩
              obtain ⟨q, hqq⟩ : ∃ q, t / i = q := ⟨_, rfl⟩
              rw [hpp] at hpc hp hvc hrr HT'
              rw [hqq] at hpc hq HT'
              rw [at_get hlt] at HT'
              have hrc := hrr.cell (i := q) (by rw [rm_len]; exact hq)
              have hrf := hrr.frozen q
              have hpI : (p : Int) < (i : Int) := by omega
              have hqI : (q : Int) < (n : Int) := by omega
              rw [show rowV w.heap.size n p = .slice (some ⟨w.heap.size + 1 + p, 0, none⟩) n n from rfl] at hvc
              replace hpc := Lib.hid hpc
              replace HT' := Lib.hid HT'
              clear HT hrr hpp hqq
              go_wp2_with (go_at_call 79; (with_reducible refine hpc.out.mono ?_); rintro e w1 ⟨rfl, nd, rfl⟩)
              go_roundw
              case rel => exact ⟨t + 1, by omega, by go_num, HT'.out.drewN _⟩
              case measure => simp [intOf]; omega
            · obtain rfl : t = xs.length := by omega
              have hd : decide (xs.length < xs.length) = false := decide_eq_false (Nat.lt_irrefl _)
              have HR := Lib.hid (HT.done hn.out.symm hVn.out H.out.1 (by omega))
              clear HT
              go_wp2_with fail
              go_ret2
              exact HR.out
  · have e1 : mayB W = false := by simpa using h1
    have hE := Lib.hid (inE_arg (s := xs) e1)
    have hR : Hid (inW W xs = []) := by unfold Hid inW; rw [hE.out]; rfl
    rw [hE.out, hR.out]
    rw [e1] at hc
    clear hE hR h1 e1
    go_enter Try.func57, Try.ntmps57
    go_wp2_with (go_at_call 78; (with_reducible refine hc.out.mono ?_); rintro e w1 ⟨rfl, rfl⟩)
    go_ret2
    exact RowsV.nil _ _
end Go.Proofs.Ytmchelbmeajcnaa
namespace Go.Proofs.Ytmchelbmeajcnaa
open Go.RowKit Go.Gf

theorem outE_of {W : Int} {ws : List (List Nat)} (h : mayB W = true) (h2 : (ws.length : Int) = W) (k : Nat) (hk : k < ws.length) (h3 : ws[k].length ≠ wvN ws ∨ wvN ws = 0) : outE W ws = 3 :=
  outE_size h h2 (by rcases h3 with h3 | h3
                     · exact Or.inl (unl_true hk h3)
                     · exact Or.inr h3)
set_option maxHeartbeats 4000000 in
theorem refout_any (W : Int) (A : Option Addr) (c : Nat) (ws : List (List Nat)) (w : World) (h : Sw w w.heap.size A ws) (hl : ws.length ≤ 1000000) (hx : ∀ x ∈ ws, x.length ≤ 100000) :
    Calls Try.prog 39 #[.int .i64 W, .slice A ws.length c] w (RowV w (outW W ws) (outE W ws)) := by
  have H := Lib.hid h
  have HX := Lib.hid hx
  clear h hx
  obtain ⟨b1, d1⟩ : ∃ b, decide (W < 1) = b := ⟨_, rfl⟩
  obtain ⟨b2, d2⟩ : ∃ b, decide (4 < W) = b := ⟨_, rfl⟩
  obtain ⟨b3, d3⟩ : ∃ b, ((ws.length : Int) != W) = b := ⟨_, rfl⟩
  by_cases h1 : b1 = false ∧ b2 = false ∧ b3 = false
  · obtain ⟨rfl, rfl, rfl⟩ := h1
    have h2 : (ws.length : Int) = W := by simpa using d3
    rw [decide_eq_false_iff_not] at d1 d2
    have h1 : mayB W = true := by unfold mayB; rw [Bool.and_eq_true, decide_eq_true_eq, decide_eq_true_eq]; omega
    subst h2
    obtain ⟨V, hV⟩ : ∃ V, ws.length = V := ⟨_, rfl⟩
    have hV4 : 1 ≤ V ∧ V ≤ 4 := by rw [← hV]; exact mayB_nat h1
    obtain ⟨a, D0, c0, rfl, ha0, hc0, hn0, hs0⟩ := H.out.at_ (i := 0) (by omega)
    rw [wvN_get (by omega), add_zero'] at hc0
    obtain ⟨n, hn⟩ : ∃ n, Hid (wvN ws = n) := ⟨_, Lib.hid rfl⟩
    rw [hn.out] at hc0
    have hn1 : n ≤ 100000 := by
      have := HX.out _ (List.getElem_mem (show 0 < ws.length by omega))
      rw [wvN_get (by omega), hn.out] at this
      exact this
    have hbad : Hid (∀ k (hk : k < ws.length), ws[k].length ≠ n ∨ n = 0 → outE (ws.length : Int) ws = 3 ∧ outW (ws.length : Int) ws = []) := fun k hk h => by
      have e := outE_of (ws := ws) h1 rfl k hk (by rw [hn.out]; exact h)
      exact ⟨e, by unfold outW; rw [e]; rfl⟩
    have hgood : Hid ((∀ k (hk : k < ws.length), ws[k].length = n) → n ≠ 0 → outE (ws.length : Int) ws = 0 ∧ outW (ws.length : Int) ws = rm (n * V) (wvF ws V)) := fun h h0 => by
      have e := outE_ok (ws := ws) h1 rfl (unl_false fun k hk => by rw [hn.out]; exact h k hk) (by rw [hn.out]; exact h0)
      refine ⟨e, ?_⟩
      unfold outW wvOf
      rw [e, hn.out, hV, Nat.mul_comm]
      rfl
    have hF := Lib.hid (wvF_lt H.out.bd V)
    have d1 : decide ((V : Int) < 1) = false := by rw [decide_eq_false_iff_not]; omega
    have d2 : decide ((4 : Int) < (V : Int)) = false := by rw [decide_eq_false_iff_not]; omega
    have d3 : ((V : Int) != (V : Int)) = false := by simp
    have d4 : (V != V) = false := by simp
    have HH := Lib.hid hV
    generalize outE (ws.length : Int) ws = OE at *
    generalize outW (ws.length : Int) ws = OW at *
    rw [hV]
    clear h1 hs0 hn0
    go_enter Try.func39, Try.ntmps39
    go_wp2_with fail
    go_loop [7] (fun q => ∃ k : Nat, k ≤ V ∧ Hid (∀ j (h : j < ws.length), j < k → ws[j].length = n) ∧ Hid (0 < k → n ≠ 0) ∧ q = .int .i64 k) (fun q => V - (intOf q).toNat)
    case atStart => exact ⟨0, Nat.zero_le _, Lib.hid (fun j _ h => absurd h (by omega)), Lib.hid (fun h => absurd h (by omega)), rfl⟩
    case round =>
      obtain ⟨k, hk, HK, HZ, rfl⟩ := hrel
      by_cases hlt : k < V
      · have hkI : (k : Int) < (V : Int) := by omega
        have hd : decide (k < V) = true := decide_eq_true hlt
        have hkl : k < ws.length := by omega
        obtain ⟨_, D, cD, e, hab, hcw, hcn, hcs⟩ := H.out.at_ hkl
        injection e with e
        subst e
        by_cases hu : ws[k].length = n
        · by_cases h0 : n = 0
          · obtain ⟨e1, e2⟩ := hbad.out k hkl (Or.inr h0)
            rw [e1, e2]
            rw [hu] at hcw
            have z1 : ((n : Int) != (n : Int)) = false := by simp
            have z2 : (n != n) = false := by simp
            have z3 : ((n : Int) == 0) = true := by simp [h0]
            clear hbad hgood HK HZ hu h0 hcs e1 e2
            go_wp2_with fail
            go_ret2
            exact RowV.nil (Below.refl _ _)
          · rw [hu] at hcw
            have z1 : ((n : Int) != (n : Int)) = false := by simp
            have z2 : (n != n) = false := by simp
            have z3 : ((n : Int) == 0) = false := by rw [beq_eq_false_iff_ne]; omega
            have HK' : Hid (∀ j (h : j < ws.length), j < k + 1 → ws[j].length = n) := fun j hj hjk => by
              rcases Nat.lt_or_ge j k with h1 | h1
              · exact HK.out j hj h1
              · obtain rfl : j = k := by omega
                exact hu
            have HZ' : Hid (0 < k + 1 → n ≠ 0) := fun _ => h0
            clear hbad hgood HK HZ hu h0 hcs
            go_wp2_with fail
            go_round
            case rel => exact ⟨k + 1, by omega, HK', HZ', by go_num⟩
            case measure => simp [intOf]; omega
        · obtain ⟨e1, e2⟩ := hbad.out k hkl (Or.inl hu)
          rw [e1, e2]
          have z1 : ((ws[k].length : Int) != (n : Int)) = true := by simp; omega
          have z2 : (ws[k].length != n) = true := by simp [hu]
          obtain ⟨L, hL⟩ : ∃ L, Hid (ws[k].length = L) := ⟨_, Lib.hid rfl⟩
          rw [hL.out] at hcw z1 z2
          clear hbad hgood HK HZ hu hcs e1 e2 hcn
          go_wp2_with fail
          go_ret2
          exact RowV.nil (Below.refl _ _)
      · obtain rfl : k = V := by omega
        have hd : decide (k < k) = false := decide_eq_false (Nat.lt_irrefl _)
        have hall : Hid (∀ j (h : j < ws.length), ws[j].length = n) := fun j hj => HK.out j hj (by rw [← HH.out]; exact hj)
        have hn0 := HZ.out (by omega)
        obtain ⟨e1, e2⟩ := hgood.out hall.out hn0
        replace e1 := Lib.hid e1
        replace e2 := Lib.hid e2
        have hO0 : Hid (OwnS w w (.slice none 0 0) (rm (0 * k) (wvF ws k))) := by
          rw [Nat.zero_mul]
          exact Lib.hid (OwnS.nil w w)
        clear hbad hgood HK HZ hc0
        go_wp2_with fail
        go_loopw [8, 9] (fun v q wr => ∃ t : Nat, t ≤ n ∧ q = .int .i64 t ∧ OwnS w wr v (rm (t * k) (wvF ws k)) ∧ Below w.heap.size w wr) (fun _ q _ => n - (intOf q).toNat)
        case atStart => exact ⟨0, Nat.zero_le _, rfl, hO0.out, Below.refl _ _⟩
        case round =>
          clear hO0
          obtain ⟨t, ht, rfl, HO, HB⟩ := hrel
          by_cases hlt : t < n
          · have htI : (t : Int) < (n : Int) := by omega
            have hd : decide (t < n) = true := decide_eq_true hlt
            replace HO := Lib.hid HO
            replace HB := Lib.hid HB
            go_wp2_with fail
            go_loopw [8, 10] (fun v q wr => ∃ i : Nat, i ≤ k ∧ q = .int .i64 i ∧ OwnS w wr v (rm (t * k + i) (wvF ws k)) ∧ Below w.heap.size w wr) (fun _ q _ => k - (intOf q).toNat)
            case atStart => exact ⟨0, Nat.zero_le _, rfl, HO.out, HB.out⟩
            case round =>
              clear HO HB
              obtain ⟨i, hi, rfl, HO, HB⟩ := hrel
              by_cases hlt2 : i < k
              · have hiI : (i : Int) < (k : Int) := by omega
                have hd2 : decide (i < k) = true := decide_eq_true hlt2
                have hpl : i < ws.length := by rw [HH.out]; exact hlt2
                obtain ⟨_, D, cD, e, hab, hcw, hcn, hcs⟩ := (H.out.below HB).at_ hpl
                injection e with e
                subst e
                have hll := hall.out _ hpl
                obtain ⟨d, rfl, hdb, hcd⟩ := hcs.at_ (i := t) (by rw [hll]; exact hlt)
                have hdm := (divmod_eq (W := k) (q := t) (j := i) (i := t * k + i) hlt2).1 rfl
                have hFe : (ws[i])[t]'(by rw [hll]; exact hlt) = wvF ws k (t * k + i) := by
                  unfold wvF
                  rw [← hdm.1, ← hdm.2, List.getD_eq_getElem?_getD, List.getElem?_eq_getElem hpl, Option.getD_some, at_get (by rw [hll]; exact hlt)]
                rw [hFe] at hcd
                rw [hll] at hcw
                have hFl := hF.out (t * k + i)
                obtain ⟨F, hFF⟩ : ∃ F, Hid (wvF ws k (t * k + i) = F) := ⟨_, Lib.hid rfl⟩
                rw [hFF.out] at hcd hFl
                have hsn := sl_new wr (.cells #[.int .u16 ((F : Nat) : Int)] 29) [F] wr.heap.size rfl rfl (by simp; exact hFl)
                have hba := below_alloc wr (.cells #[.int .u16 ((F : Nat) : Int)] 29)
                have hOa := Lib.hid (HO.alloc (.cells #[.int .u16 ((F : Nat) : Int)] 29))
                have hBa := Lib.hid (HB.trans (hba.mono HB.size))
                have hstep : Hid (rm (t * k + i) (wvF ws k) ++ [F] = rm (t * k + (i + 1)) (wvF ws k)) := by
                  unfold Hid
                  rw [← Nat.add_assoc, rm_succ, hFF.out]
                have hlen : Hid ((rm (t * k + i) (wvF ws k)).length + 1 ≤ 1000000) := by
                  unfold Hid
                  rw [rm_len]
                  have : (t + 1) * k ≤ 100000 * 4 := Nat.mul_le_mul (by omega) hV4.2
                  rw [Nat.add_mul] at this
                  omega
                replace hsn := Lib.hid hsn
                clear HO HB hll hdm hFe hcs hcn hFF hba
                go_wp2_with (refine app_own (w0 := w) rfl (.tmp 53) (.tmp 61) rfl u8 (rm (t * k + i) (wvF ws k)) rfl hOa.out hBa.out.size ⟨wr.heap.size, 0, none⟩ 1 [F] rfl hsn.out hlen.out ?_)
                intro v' w' ho hg _
                rw [hstep.out] at ho
                have hB' := Lib.hid (hBa.out.grown hg hBa.out.size (OwnS.block hOa.out))
                replace ho := Lib.hid ho
                clear hg hOa hBa hsn
                go_wp2_with fail
                go_roundw
                case rel => exact ⟨i + 1, by omega, by go_num, ho.out, hB'.out⟩
                case measure => simp [intOf]; omega
              · obtain rfl : i = k := by omega
                have hd2 : decide (i < i) = false := decide_eq_false (Nat.lt_irrefl _)
                have e : t * i + i = (t + 1) * i := by rw [Nat.add_mul]; omega
                rw [e] at HO
                replace HO := Lib.hid HO
                replace HB := Lib.hid HB
                clear e
                go_wp2_with fail
                go_roundw
                case rel => exact ⟨t + 1, by omega, by go_num, HO.out, HB.out⟩
                case measure => simp [intOf]; omega
          · obtain rfl : t = n := by omega
            have hd : decide (t < t) = false := decide_eq_false (Nat.lt_irrefl _)
            replace HO := Lib.hid HO
            replace HB := Lib.hid HB
            go_wp2_with fail
            go_ret2
            rw [e1.out, e2.out]
            exact ⟨_, rfl, HO.out, HB.out⟩
  · have hor : mayB W = false ∨ (ws.length : Int) ≠ W := by
      rcases Classical.em ((ws.length : Int) = W) with e | e
      · left
        unfold mayB
        rw [Bool.and_eq_false_iff, decide_eq_false_iff_not, decide_eq_false_iff_not]
        have : b3 = false := by rw [← d3, e]; simp
        rcases Classical.em (W < 1) with e2 | e2
        · omega
        · rcases Classical.em (4 < W) with e3 | e3
          · omega
          · exact absurd ⟨by rw [← d1, decide_eq_false_iff_not]; exact e2, by rw [← d2, decide_eq_false_iff_not]; exact e3, this⟩ h1
      · exact Or.inr e
    have hE := Lib.hid (outE_arg hor)
    have hR : Hid (outW W ws = []) := by unfold Hid outW; rw [hE.out]; rfl
    rw [hE.out, hR.out]
    clear hE hR hor
    cases b1
    · cases b2
      · cases b3
        · exact absurd ⟨rfl, rfl, rfl⟩ h1
        · go_enter Try.func39, Try.ntmps39
          go_wp2_with fail
          go_ret2
          exact RowV.nil (Below.refl _ _)
      · go_enter Try.func39, Try.ntmps39
        go_wp2_with fail
        go_ret2
        exact RowV.nil (Below.refl _ _)
    · go_enter Try.func39, Try.ntmps39
      go_wp2_with fail
      go_ret2
      exact RowV.nil (Below.refl _ _)
end Go.Proofs.Ytmchelbmeajcnaa
namespace Go.Proofs.Ytmchelbmeajcnaa
open Go.RowKit Go.Gf
attribute [local go_sem ↓] Cl.quiet_since

theorem grown_setCell (w : World) (g i : Nat) (v : Value) : w.grownBy (w.setCell ⟨g, i, none⟩ v) (some g) :=
  ⟨rfl, rfl, rfl, by rw [World.size_setCell]; exact Nat.le_refl _, fun k _ hne => by
    simp only [World.setCell]
    rw [Array.getElem?_modify, if_neg (fun e => hne (by rw [e]))]⟩
section
variable {w0 w w' : World} {g n : Nat} {f : Nat → Value} {ws : Nat → List Nat}
theorem OwnW.grown (h : OwnW w0 w g n f ws) {r : Option Nat} (hg : w.grownBy w' r) (hne : r ≠ some g) (hr : ∀ j, j < n → (f j).ownBlock = none ∨ (f j).ownBlock ≠ r) : OwnW w0 w' g n f ws :=
  ⟨h.at0, h.vs.keep (hg.block g h.vs.lt (Ne.symm hne)), fun j hj => (h.own j hj).grown hg (hr j hj), h.off, h.apart⟩
theorem OwnW.alloc (h : OwnW w0 w g n f ws) (o : Obj) : OwnW w0 (w.alloc o) g n f ws :=
  ⟨h.at0, h.vs.alloc o, fun j hj => (h.own j hj).alloc o, h.off, h.apart⟩
theorem OwnW.keep (h : OwnW w0 w g n f ws) (hb : Below w.heap.size w w') : OwnW w0 w' g n f ws :=
  ⟨h.at0, h.vs.keep (hb.block g h.vs.lt), fun j hj => (h.own j hj).keep hb, h.off, h.apart⟩
theorem OwnW.inHeap (h : OwnW w0 w g n f ws) {j : Nat} (hj : j < n) {k : Nat} (hk : (f j).ownBlock = some k) : k < w.heap.size := (h.own j hj).inHeap hk
/-- one row grows, and is laid back -/
theorem OwnW.step (h : OwnW w0 w g n f ws) {p : Nat} (hp : p < n) {v' : Value} {ys : List Nat} (hv : OwnS w0 w' v' ys) (hg : w.grownBy w' (f p).ownBlock) (hn : v'.ownBlock = (f p).ownBlock ∨ v'.ownBlock = some w.heap.size) :
    OwnW w0 (w'.setCell ⟨g, p, none⟩ v') g n (fun j => if j = p then v' else f j) (fun j => if j = p then ys else ws j) := by
  have hoff : v'.ownBlock ≠ some g := by
    rcases hn with e | e
    · rw [e]; exact h.off p hp
    · rw [e]; intro e2; injection e2 with e2; have := h.vs.lt; omega
  have hap : ∀ j, j < n → j ≠ p → ∀ k, v'.ownBlock = some k → (f j).ownBlock ≠ some k := by
    intro j hj hne k hk
    rcases hn with e | e
    · exact h.apart p j hp hj (Ne.symm hne) k (e.symm.trans hk)
    · intro e2
      have := h.inHeap hj e2
      rw [e] at hk; injection hk with hk; omega
  refine ⟨h.at0, ?_, ?_, ?_, ?_⟩
  · exact (h.vs.keep (hg.block g h.vs.lt (fun e => h.off p hp e.symm))).set_ p v'
  · intro j hj
    show OwnS w0 _ (if j = p then v' else f j) (if j = p then ys else ws j)
    by_cases e : j = p
    · rw [if_pos e, if_pos e]
      exact hv.grown (grown_setCell w' g p v') (Or.inr hoff)
    · rw [if_neg e, if_neg e]
      refine ((h.own j hj).grown hg ?_).grown (grown_setCell w' g p v') (Or.inr (h.off j hj))
      cases e2 : (f j).ownBlock with
      | none => exact Or.inl rfl
      | some k => exact Or.inr fun e3 => h.apart p j hp hj (Ne.symm e) k e3.symm e2
  · intro j hj
    show (if j = p then v' else f j).ownBlock ≠ some g
    by_cases e : j = p
    · rw [if_pos e]; exact hoff
    · rw [if_neg e]; exact h.off j hj
  · intro i j hi hj hne k
    show (if i = p then v' else f i).ownBlock = some k → (if j = p then v' else f j).ownBlock ≠ some k
    by_cases e : i = p
    · rw [if_pos e, if_neg (fun e2 => hne (e.trans e2.symm))]
      exact hap j hj (fun e2 => hne (e.trans e2.symm)) k
    · rw [if_neg e]
      by_cases e2 : j = p
      · rw [if_pos e2]
        intro h1 h2
        exact hap i hi e k h2 h1
      · rw [if_neg e2]
        exact h.apart i j hi hj hne k
theorem OwnW.congr (h : OwnW w0 w g n f ws) {ws' : Nat → List Nat} (e : ∀ j, j < n → ws j = ws' j) : OwnW w0 w g n f ws' :=
  ⟨h.at0, h.vs, fun j hj => by rw [← e j hj]; exact h.own j hj, h.off, h.apart⟩
theorem OwnW.start (w : World) (n : Nat) : OwnW w (w.alloc (.cells (madeCells #[.slice none 0 0] n) 35)) w.heap.size n (fun _ => .slice none 0 0) (fun _ => []) :=
  ⟨Nat.le_refl _, Vs.start w n, fun j _ => OwnS.nil _ _, fun j _ => by simp [Value.ownBlock], fun i j _ _ _ k h => by simp [Value.ownBlock] at h⟩
end
/-- how many of the first i places are row j's, of V rows -/
def cn (V j i : Nat) : Nat := (i + (V - 1 - j)) / V
theorem cn_zero {V j : Nat} (hj : j < V) : cn V j 0 = 0 := by unfold cn; exact Nat.div_eq_of_lt (by omega)
theorem cn_step {V j i : Nat} (hj : j < V) : cn V j (i + 1) = if j = i % V then cn V j i + 1 else cn V j i := by
  unfold cn
  have hV : 0 < V := by omega
  have hd := Nat.div_add_mod i V
  have hm := Nat.mod_lt i hV
  generalize i / V = q at *
  generalize i % V = r at *
  subst hd
  by_cases e : j = r
  · rw [if_pos e]
    subst e
    rw [show V * q + j + 1 + (V - 1 - j) = V * (q + 1) by rw [Nat.mul_add]; omega, Nat.mul_div_cancel_left _ hV, show V * q + j + (V - 1 - j) = (V - 1) + V * q by omega, Nat.add_mul_div_left _ _ hV, Nat.div_eq_of_lt (by omega)]
    omega
  · rw [if_neg e]
    rcases Nat.lt_or_ge j r with h | h
    · rw [show V * q + r + 1 + (V - 1 - j) = (r - j) + V * (q + 1) by rw [Nat.mul_add]; omega, show V * q + r + (V - 1 - j) = (r - j - 1) + V * (q + 1) by rw [Nat.mul_add]; omega, Nat.add_mul_div_left _ _ hV, Nat.add_mul_div_left _ _ hV, Nat.div_eq_of_lt (by omega), Nat.div_eq_of_lt (by omega)]
    · rw [show V * q + r + 1 + (V - 1 - j) = (r + V - j) + V * q by omega, show V * q + r + (V - 1 - j) = (r + V - j - 1) + V * q by omega, Nat.add_mul_div_left _ _ hV, Nat.add_mul_div_left _ _ hV, Nat.div_eq_of_lt (by omega), Nat.div_eq_of_lt (by omega)]
theorem cn_at {V i : Nat} (hV : 0 < V) : cn V (i % V) i = i / V := by
  unfold cn
  have hd := Nat.div_add_mod i V
  have hm := Nat.mod_lt i hV
  generalize i / V = q at *
  generalize i % V = r at *
  subst hd
  rw [show V * q + r + (V - 1 - r) = (V - 1) + V * q by omega, Nat.add_mul_div_left _ _ hV, Nat.div_eq_of_lt (by omega)]
  omega
theorem cn_end {V j n : Nat} (hj : j < V) : cn V j (V * n) = n := by
  unfold cn
  rw [Nat.add_comm, Nat.add_mul_div_left _ _ (by omega), Nat.div_eq_of_lt (by omega)]
  omega
end Go.Proofs.Ytmchelbmeajcnaa
namespace Go.Proofs.Ytmchelbmeajcnaa
open Go.RowKit Go.Gf
attribute [local go_sem ↓] Cl.quiet_since

set_option maxHeartbeats 4000000 in
theorem refin_any (W : Int) (A : Option Addr) (c : Nat) (xs : List Nat) (w : World) (h : Sl w w.heap.size A xs) (hl : xs.length ≤ 1000000) :
    Calls Try.prog 37 #[.int .i64 W, .slice A xs.length c] w (RowsV w (inW W xs) (inE W xs)) := by
  have H := Lib.hid h
  clear h
  obtain ⟨b1, d1⟩ : ∃ b, decide (W < 1) = b := ⟨_, rfl⟩
  obtain ⟨b2, d2⟩ : ∃ b, decide (4 < W) = b := ⟨_, rfl⟩
  by_cases hb : b1 = false ∧ b2 = false
  · obtain ⟨rfl, rfl⟩ := hb
    rw [decide_eq_false_iff_not] at d1 d2
    have h1 : mayB W = true := by unfold mayB; rw [Bool.and_eq_true, decide_eq_true_eq, decide_eq_true_eq]; omega
    obtain ⟨V, rfl⟩ : ∃ V : Nat, W = (V : Int) := ⟨W.toNat, by omega⟩
    have hV4 := mayB_nat h1
    have hV0 : (V : Int) ≠ 0 := by omega
    have d1 : decide ((V : Int) < 1) = false := by rw [decide_eq_false_iff_not]; omega
    have d2 : decide ((4 : Int) < (V : Int)) = false := by rw [decide_eq_false_iff_not]; omega
    obtain ⟨r, hr⟩ : ∃ r, xs.length % V = r := ⟨_, rfl⟩
    have hrI : (xs.length : Int) % (V : Int) = (r : Int) := by rw [← hr]; exact (Int.natCast_emod _ _).symm
    by_cases h2 : r ≠ 0 ∨ xs.length = 0
    · have hE := Lib.hid (inE_size (s := xs) h1 (by rw [Int.toNat_natCast, hr]; exact h2))
      have hR : Hid (inW (V : Int) xs = []) := by unfold Hid inW; rw [hE.out]; rfl
      rw [hE.out, hR.out]
      by_cases h3 : xs.length = 0
      · have z : ((xs.length : Int) == 0) = true := by rw [beq_iff_eq]; omega
        clear h1 h2 h3 hE hR hr hrI
        go_enter Try.func37, Try.ntmps37
        go_wp2_with fail
        go_ret2
        exact RowsV.nil _ _
      · have z : ((xs.length : Int) == 0) = false := by rw [beq_eq_false_iff_ne]; omega
        have z2 : ((xs.length : Int) % (V : Int) != 0) = true := by rw [hrI]; simp; omega
        clear h1 h2 h3 hE hR hr hrI
        go_enter Try.func37, Try.ntmps37
        go_wp2_with fail
        go_ret2
        exact RowsV.nil _ _
    · have hE := Lib.hid (inE_ok (s := xs) h1 (by rw [Int.toNat_natCast, hr]; exact h2))
      have hR : Hid (inW (V : Int) xs = dealt V xs) := by unfold Hid inW; rw [hE.out]; rfl
      rw [hE.out, hR.out]
      have z : ((xs.length : Int) == 0) = false := by rw [beq_eq_false_iff_ne]; omega
      have z2 : ((xs.length : Int) % (V : Int) != 0) = false := by rw [hrI]; simp; omega
      have hVn : Hid (xs.length = V * (xs.length / V)) := by unfold Hid; have := Nat.div_add_mod xs.length V; omega
      have hmk : ∀ w, (Instr.makeSlice 81 (.int .i64 (V : Int)) (.int .i64 (V : Int))).run Try.prog w = .ok (.slice (some ⟨w.heap.size, 0, none⟩) V V) (w.alloc (.cells (madeCells #[.slice none 0 0] V) 35)) :=
        run_make_row' (P := Try.prog) 81 35 (.slice none 0 0) 24 Try.underlying81 info23w rfl .i64 .i64 V (by omega) (by omega)
      clear h1 h2 hE hR hr hrI
      go_enter Try.func37, Try.ntmps37
      go_wp2_with fail
      have hO0 : Hid (OwnW w (w.alloc (.cells (madeCells #[.slice none 0 0] V) 35)) w.heap.size V (fun _ => .slice none 0 0) (fun j => rm (cn V j 0) fun q => at_ xs (q * V + j))) :=
        (OwnW.start w V).congr fun j hj => by rw [cn_zero hj]; rfl
      go_loopw [7] (fun q wr => ∃ i : Nat, i ≤ xs.length ∧ q = .int .i64 i ∧ Below w.heap.size w wr ∧ ∃ f, OwnW w wr w.heap.size V f (fun j => rm (cn V j i) fun q => at_ xs (q * V + j))) (fun q _ => xs.length - (intOf q).toNat)
      case atStart => exact ⟨0, Nat.zero_le _, rfl, below_alloc _ _, _, hO0.out⟩
      case round =>
        clear hO0 hmk
        obtain ⟨i, hi, rfl, HB, f, HO⟩ := hrel
        replace HO := Lib.hid HO
        replace HB := Lib.hid HB
        by_cases hlt : i < xs.length
        · have hiI : (i : Int) < (xs.length : Int) := by omega
          have hd : decide (i < xs.length) = true := decide_eq_true hlt
          have hp := Nat.mod_lt i (show 0 < V by omega)
          obtain ⟨p, hpp⟩ : ∃ p, i % V = p := ⟨_, rfl⟩
          have hpI : (i : Int) % (V : Int) = (p : Int) := by rw [← hpp]; exact (Int.natCast_emod _ _).symm
          have hcs : Hid (cn V p i = i / V) := by rw [← hpp]; exact Lib.hid (cn_at (by omega))
          rw [hpp] at hp
          have hpV : (p : Int) < (V : Int) := by omega
          obtain ⟨a, rfl, hab, hcell⟩ := (H.out.below HB.out).at_ hlt
          have hx16 := H.out.1 xs[i] (List.getElem_mem hlt)
          obtain ⟨X, hX⟩ : ∃ X, Hid (xs[i] = X) := ⟨_, Lib.hid rfl⟩
          rw [hX.out] at hcell hx16
          have hrow : Hid ((rm (cn V p i) fun q => at_ xs (q * V + p)) ++ [X] = rm (cn V p (i + 1)) fun q => at_ xs (q * V + p)) := by
            unfold Hid
            rw [cn_step hp, if_pos hpp.symm, rm_succ, hcs.out, (divmod_eq hp).2 ⟨hpp.symm, rfl⟩, at_get hlt, hX.out]
          have hoth : Hid (∀ j, j < V → j ≠ p → cn V j (i + 1) = cn V j i) := fun j hj hne => by
            rw [cn_step hj, if_neg (fun e => hne (e.trans hpp))]
          have hlen : Hid ((rm (cn V p i) fun q => at_ xs (q * V + p)).length + 1 ≤ 1000000) := by
            unfold Hid
            rw [rm_len, hcs.out]
            have : i / V ≤ i := Nat.div_le_self _ _
            omega
          go_wp2_with fail
          refine Cl.region_way0 (fun b => b ≤ w.heap.size) 17 [(0, .r), (1, .r), (2, .r), (3, .r), (4, .r), (5, .r), (6, .r), (7, .r), (8, .r), (9, .r), (10, .r), (11, .r), (12, .r), (13, .r), (14, .c), (15, .c), (16, .r), (17, .z)] (by kernel_rfl) (by kernel_rfl) ?_
          intro w1 hks
          have HO1 := Lib.hid (HO.out.keep (Cl.Keeps.below hks))
          have HB1 := Lib.hid (HB.out.trans ((Cl.Keeps.below hks).mono HB.out.size))
          have hcS : ∀ y : Cl.Since (fun b => b ≤ w.heap.size) w1, y.w.cell? (a.add i) = some (.int .u16 ((X : Nat) : Int)) := fun y => by
            rw [y.cell (by rw [add_block]; have := HB1.out.size; omega) (by rw [add_block]; omega), HB1.out.cell (by rw [add_block]; exact hab), ← HB.out.cell (by rw [add_block]; exact hab)]
            exact hcell
          have hcO : ∀ y : Cl.Since (fun b => b ≤ w.heap.size) w1, y.w.cell? ⟨w.heap.size, p, none⟩ = some (f p) := fun y => by
            rw [y.cell HO1.out.vs.lt (Nat.le_refl _)]
            exact HO1.out.vs.cell hp
          iterate 14 (refine Cl.way_r rfl ?_; go_big_quiet_step (fail); refine wpQuiet_nil ?_)
          clear hks hcS hcO HO HB
          refine Cl.way_c rfl ?_
          have hq := Lib.hid (sl_new w1 (.cells #[.int .u16 ((X : Nat) : Int)] 29) [X] w1.heap.size rfl rfl (by simp; exact hx16))
          have hb2 := Lib.hid (below_alloc w1 (.cells #[.int .u16 ((X : Nat) : Int)] 29))
          have HO2 := Lib.hid (HO1.out.alloc (.cells #[.int .u16 ((X : Nat) : Int)] 29))
          have HB2 := Lib.hid (HB1.out.trans (hb2.out.mono HB1.out.size))
          go_wp2_with fail
          refine Cl.way_on (Cl.Keeps.of_below hb2.out) ?_
          generalize w1.alloc (.cells #[.int .u16 ((X : Nat) : Int)] 29) = w2 at hq hb2 HO2 HB2 ⊢
          generalize w1.heap.size = gx at hq ⊢
          refine Cl.way_c rfl ?_
          refine app_own (w0 := w) rfl (.tmp 41) (.tmp 46) rfl (f p) _ rfl (HO2.out.own p hp) HB2.out.size ⟨gx, 0, none⟩ 1 [X] rfl hq.out hlen.out ?_
          intro v' w3 hv hg hn
          obtain ⟨A', c', rfl, _, _⟩ := hv.sl
          have hoff : (f p).ownBlock ≠ some w.heap.size := HO2.out.off p hp
          have hge : ∀ k, (f p).ownBlock = some k → w.heap.size ≤ k := OwnS.block (HO2.out.own p hp)
          have hvs3 : Vs w3 w.heap.size V f := HO2.out.vs.keep (hg.block _ HO2.out.vs.lt (fun e => hoff e.symm))
          have hK : Hid (Cl.Keeps (fun b => b ≤ w.heap.size) w2 w3) := ⟨hg.os, hg.tape, hg.output, hg.size, fun b hb hk => hg.block b hb fun e => by
            have h1 := hge b e.symm
            exact hoff (by rw [← e, show b = w.heap.size by omega])⟩
          have HB3 := Lib.hid ((HB2.out.grown hg HB2.out.size hge).setCell (p := ⟨w.heap.size, p, none⟩) (Nat.le_refl _) (.slice A' ((rm (cn V p i) fun q => at_ xs (q * V + p)) ++ [X]).length c'))
          have HO3 := Lib.hid ((HO2.out.step hp hv hg hn).congr (ws' := fun j => rm (cn V j (i + 1)) fun q => at_ xs (q * V + j)) (fun j hj => by
            show (if j = p then _ else _) = _
            by_cases e : j = p
            · rw [if_pos e, hrow.out, e]
            · rw [if_neg e, hoth.out j hj e]))
          have hc3 := hvs3.cell hp
          generalize ((rm (cn V p i) fun q => at_ xs (q * V + p)) ++ [X]).length = L at HB3 HO3 ⊢
          have hf3 := hvs3.frozen p
          clear hv hg hn hoff hge hvs3 HO2 HB2 hq hb2 HO1 HB1
          go_wp2_with fail
          refine Cl.way_on hK.out ?_
          refine Cl.way_r rfl ?_
          go_big_quiet_step (fail)
          refine wpQuiet_nil ?_
          refine Cl.way_z rfl ?_
          clear hK
          go_wp2_with fail
          refine Cl.Calm.normal ?_
          go_wp2_with fail
          go_roundw
          case rel => exact ⟨i + 1, by omega, by go_num, HB3.out, _, HO3.out⟩
          case measure => simp [intOf]; omega
        · obtain rfl : i = xs.length := by omega
          have hd : decide (xs.length < xs.length) = false := decide_eq_false (Nat.lt_irrefl _)
          have HO2 : Hid (OwnW w wr w.heap.size V f (fun j => (dealt V xs).getD j [])) := HO.out.congr fun j hj => by
            rw [dealt_at hj]
            have e := cn_end (n := xs.length / V) hj
            rw [← hVn.out] at e
            rw [e]
          clear HO
          go_wp2_with fail
          go_ret2
          refine ⟨Or.inr ⟨w.heap.size, f, by rw [dealt_len]; rfl, by rw [dealt_len]; exact HO2.out⟩, HB.out⟩
  · have hor : mayB W = false := by
      unfold mayB
      rw [Bool.and_eq_false_iff, decide_eq_false_iff_not, decide_eq_false_iff_not]
      rcases Classical.em (W < 1) with e2 | e2
      · omega
      · rcases Classical.em (4 < W) with e3 | e3
        · omega
        · exact absurd ⟨by rw [← d1, decide_eq_false_iff_not]; exact e2, by rw [← d2, decide_eq_false_iff_not]; exact e3⟩ hb
    have hE := Lib.hid (inE_arg (s := xs) hor)
    have hR : Hid (inW W xs = []) := by unfold Hid inW; rw [hE.out]; rfl
    rw [hE.out, hR.out]
    clear hE hR hor
    cases b1
    · cases b2
      · exact absurd ⟨rfl, rfl⟩ hb
      · go_enter Try.func37, Try.ntmps37
        go_wp2_with fail
        go_ret2
        exact RowsV.nil _ _
    · go_enter Try.func37, Try.ntmps37
      go_wp2_with fail
      go_ret2
      exact RowsV.nil _ _
end Go.Proofs.Ytmchelbmeajcnaa
