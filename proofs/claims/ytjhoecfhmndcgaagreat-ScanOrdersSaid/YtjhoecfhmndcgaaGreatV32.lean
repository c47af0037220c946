/- The reference's Out. · The reference's In. · The program's frame: points: which are nought, what they are nearest to, those of one codeword, how many of them are nought. · The program's frame: the points of one codeword, and how many of them are nought where its symbol is right. · The reference's In, walked. -/
import Derived.Test.YtjhoecfhmndcgaaGreatV25
import Derived.Test.YtjhoecfhmndcgaaGreatV16
import Derived.Test.YtjhoecfhmndcgaaGreatV06
import Derived.Test.YtjhoecfhmndcgaaGreatV07
import Derived.Test.YtjhoecfhmndcgaaGreatV13
import Derived.Test.YtjhoecfhmndcgaaGreatV24
import Derived.Maps.AppendAt
namespace Go.Proofs.YtjhoecfhmndcgaaGreat
open Go.RowKit Go.Gf

theorem outE_of {W : Int} {ws : List (List Nat)} (h : mayB W = true) (h2 : (ws.length : Int) = W) (k : Nat) (hk : k < ws.length) (h3 : ws[k].length ≠ wvN ws ∨ wvN ws = 0) : outE W ws = 3 :=
  outE_size h h2 (by rcases h3 with h3 | h3
                     · exact Or.inl (unl_true hk h3)
                     · exact Or.inr h3)
set_option maxHeartbeats 4000000 in
theorem refout_any (W : Int) (A : Option Addr) (c : Nat) (ws : List (List Nat)) (w : World) (h : Sw w w.heap.size A ws) (hl : ws.length ≤ 1000000) (hx : ∀ x ∈ ws, x.length ≤ 100000) :
    Calls Tryz.prog 35 #[.int .i64 W, .slice A ws.length c] w (RowV w (outW W ws) (outE W ws)) := by
  have H := Lib.hid h
  have HX := Lib.hid hx
  clear h hx
  obtain ⟨b1, d1⟩ : ∃ b, decide (W < 1) = b := ⟨_, rfl⟩
  obtain ⟨b2, d2⟩ : ∃ b, decide (4 < W) = b := ⟨_, rfl⟩
  obtain ⟨b3, d3⟩ : ∃ b, ((ws.length : Int) != W) = b := ⟨_, rfl⟩
  by_cases h1 : b1 = false ∧ b2 = false ∧ b3 = false
  · obtain ⟨rfl, rfl, rfl⟩ := h1
    have h2 : (ws.length : Int) = W := by simpa using d3
    rw [decide_eq_false_iff_not] at d1 d2
    have h1 : mayB W = true := by unfold mayB; rw [Bool.and_eq_true, decide_eq_true_eq, decide_eq_true_eq]; omega
    subst h2
    obtain ⟨V, hV⟩ : ∃ V, ws.length = V := ⟨_, rfl⟩
    have hV4 : 1 ≤ V ∧ V ≤ 4 := by rw [← hV]; exact mayB_nat h1
    obtain ⟨a, D0, c0, rfl, ha0, hc0, hn0, hs0⟩ := H.out.at_ (i := 0) (by omega)
    rw [wvN_get (by omega), add_zero'] at hc0
    obtain ⟨n, hn⟩ : ∃ n, Hid (wvN ws = n) := ⟨_, Lib.hid rfl⟩
    rw [hn.out] at hc0
    have hn1 : n ≤ 100000 := by
      have := HX.out _ (List.getElem_mem (show 0 < ws.length by omega))
      rw [wvN_get (by omega), hn.out] at this
      exact this
    have hbad : Hid (∀ k (hk : k < ws.length), ws[k].length ≠ n ∨ n = 0 → outE (ws.length : Int) ws = 3 ∧ outW (ws.length : Int) ws = []) := fun k hk h => by
      have e := outE_of (ws := ws) h1 rfl k hk (by rw [hn.out]; exact h)
      exact ⟨e, by unfold outW; rw [e]; rfl⟩
    have hgood : Hid ((∀ k (hk : k < ws.length), ws[k].length = n) → n ≠ 0 → outE (ws.length : Int) ws = 0 ∧ outW (ws.length : Int) ws = rm (n * V) (wvF ws V)) := fun h h0 => by
      have e := outE_ok (ws := ws) h1 rfl (unl_false fun k hk => by rw [hn.out]; exact h k hk) (by rw [hn.out]; exact h0)
      refine ⟨e, ?_⟩
      unfold outW wvOf
      rw [e, hn.out, hV, Nat.mul_comm]
      rfl
    have hF := Lib.hid (wvF_lt H.out.bd V)
    have d1 : decide ((V : Int) < 1) = false := by rw [decide_eq_false_iff_not]; omega
    have d2 : decide ((4 : Int) < (V : Int)) = false := by rw [decide_eq_false_iff_not]; omega
    have d3 : ((V : Int) != (V : Int)) = false := by simp
    have d4 : (V != V) = false := by simp
    have HH := Lib.hid hV
    generalize outE (ws.length : Int) ws = OE at *
    generalize outW (ws.length : Int) ws = OW at *
    rw [hV]
    clear h1 hs0 hn0
    go_enter Tryz.func35, Tryz.ntmps35
    go_wp2_with fail
    go_loop [7] (fun q => ∃ k : Nat, k ≤ V ∧ Hid (∀ j (h : j < ws.length), j < k → ws[j].length = n) ∧ Hid (0 < k → n ≠ 0) ∧ q = .int .i64 k) (fun q => V - (intOf q).toNat)
    case atStart => exact ⟨0, Nat.zero_le _, Lib.hid (fun j _ h => absurd h (by omega)), Lib.hid (fun h => absurd h (by omega)), rfl⟩
    case round =>
      obtain ⟨k, hk, HK, HZ, rfl⟩ := hrel
      by_cases hlt : k < V
      · have hkI : (k : Int) < (V : Int) := by omega
        have hd : decide (k < V) = true := decide_eq_true hlt
        have hkl : k < ws.length := by omega
        obtain ⟨_, D, cD, e, hab, hcw, hcn, hcs⟩ := H.out.at_ hkl
        injection e with e
        subst e
        by_cases hu : ws[k].length = n
        · by_cases h0 : n = 0
          · obtain ⟨e1, e2⟩ := hbad.out k hkl (Or.inr h0)
            rw [e1, e2]
            rw [hu] at hcw
            have z1 : ((n : Int) != (n : Int)) = false := by simp
            have z2 : (n != n) = false := by simp
            have z3 : ((n : Int) == 0) = true := by simp [h0]
            clear hbad hgood HK HZ hu h0 hcs e1 e2
            go_wp2_with fail
            go_ret2
            exact RowV.nil (Below.refl _ _)
          · rw [hu] at hcw
            have z1 : ((n : Int) != (n : Int)) = false := by simp
            have z2 : (n != n) = false := by simp
            have z3 : ((n : Int) == 0) = false := by rw [beq_eq_false_iff_ne]; omega
            have HK' : Hid (∀ j (h : j < ws.length), j < k + 1 → ws[j].length = n) := fun j hj hjk => by
              rcases Nat.lt_or_ge j k with h1 | h1
              · exact HK.out j hj h1
              · obtain rfl : j = k := by omega
                exact hu
            have HZ' : Hid (0 < k + 1 → n ≠ 0) := fun _ => h0
            clear hbad hgood HK HZ hu h0 hcs
            go_wp2_with fail
            go_round
            case rel => exact ⟨k + 1, by omega, HK', HZ', by go_num⟩
            case measure => simp [intOf]; omega
        · obtain ⟨e1, e2⟩ := hbad.out k hkl (Or.inl hu)
          rw [e1, e2]
          have z1 : ((ws[k].length : Int) != (n : Int)) = true := by simp; omega
          have z2 : (ws[k].length != n) = true := by simp [hu]
          obtain ⟨L, hL⟩ : ∃ L, Hid (ws[k].length = L) := ⟨_, Lib.hid rfl⟩
          rw [hL.out] at hcw z1 z2
          clear hbad hgood HK HZ hu hcs e1 e2 hcn
          go_wp2_with fail
          go_ret2
          exact RowV.nil (Below.refl _ _)
      · obtain rfl : k = V := by omega
        have hd : decide (k < k) = false := decide_eq_false (Nat.lt_irrefl _)
        have hall : Hid (∀ j (h : j < ws.length), ws[j].length = n) := fun j hj => HK.out j hj (by rw [← HH.out]; exact hj)
        have hn0 := HZ.out (by omega)
        obtain ⟨e1, e2⟩ := hgood.out hall.out hn0
        replace e1 := Lib.hid e1
        replace e2 := Lib.hid e2
        have hO0 : Hid (OwnS w w (.slice none 0 0) (rm (0 * k) (wvF ws k))) := by
          rw [Nat.zero_mul]
          exact Lib.hid (OwnS.nil w w)
        clear hbad hgood HK HZ hc0
        go_wp2_with fail
        go_loopw [8, 9] (fun v q wr => ∃ t : Nat, t ≤ n ∧ q = .int .i64 t ∧ OwnS w wr v (rm (t * k) (wvF ws k)) ∧ Below w.heap.size w wr) (fun _ q _ => n - (intOf q).toNat)
        case atStart => exact ⟨0, Nat.zero_le _, rfl, hO0.out, Below.refl _ _⟩
        case round =>
          clear hO0
          obtain ⟨t, ht, rfl, HO, HB⟩ := hrel
          by_cases hlt : t < n
          · have htI : (t : Int) < (n : Int) := by omega
            have hd : decide (t < n) = true := decide_eq_true hlt
            replace HO := Lib.hid HO
            replace HB := Lib.hid HB
            go_wp2_with fail
            go_loopw [8, 10] (fun v q wr => ∃ i : Nat, i ≤ k ∧ q = .int .i64 i ∧ OwnS w wr v (rm (t * k + i) (wvF ws k)) ∧ Below w.heap.size w wr) (fun _ q _ => k - (intOf q).toNat)
            case atStart => exact ⟨0, Nat.zero_le _, rfl, HO.out, HB.out⟩
            case round =>
              clear HO HB
              obtain ⟨i, hi, rfl, HO, HB⟩ := hrel
              by_cases hlt2 : i < k
              · have hiI : (i : Int) < (k : Int) := by omega
                have hd2 : decide (i < k) = true := decide_eq_true hlt2
                have hpl : i < ws.length := by rw [HH.out]; exact hlt2
                obtain ⟨_, D, cD, e, hab, hcw, hcn, hcs⟩ := (H.out.below HB).at_ hpl
                injection e with e
                subst e
                have hll := hall.out _ hpl
                obtain ⟨d, rfl, hdb, hcd⟩ := hcs.at_ (i := t) (by rw [hll]; exact hlt)
                have hdm := (divmod_eq (W := k) (q := t) (j := i) (i := t * k + i) hlt2).1 rfl
                have hFe : (ws[i])[t]'(by rw [hll]; exact hlt) = wvF ws k (t * k + i) := by
                  unfold wvF
                  rw [← hdm.1, ← hdm.2, List.getD_eq_getElem?_getD, List.getElem?_eq_getElem hpl, Option.getD_some, at_get (by rw [hll]; exact hlt)]
                rw [hFe] at hcd
                rw [hll] at hcw
                have hFl := hF.out (t * k + i)
                obtain ⟨F, hFF⟩ : ∃ F, Hid (wvF ws k (t * k + i) = F) := ⟨_, Lib.hid rfl⟩
                rw [hFF.out] at hcd hFl
                have hsn := sl_new wr (.cells #[.int .u16 ((F : Nat) : Int)] 46) [F] wr.heap.size rfl rfl (by simp; exact hFl)
                have hba := below_alloc wr (.cells #[.int .u16 ((F : Nat) : Int)] 46)
                have hOa := Lib.hid (HO.alloc (.cells #[.int .u16 ((F : Nat) : Int)] 46))
                have hBa := Lib.hid (HB.trans (hba.mono HB.size))
                have hstep : Hid (rm (t * k + i) (wvF ws k) ++ [F] = rm (t * k + (i + 1)) (wvF ws k)) := by
                  unfold Hid
                  rw [← Nat.add_assoc, rm_succ, hFF.out]
                have hlen : Hid ((rm (t * k + i) (wvF ws k)).length + 1 ≤ 1000000) := by
                  unfold Hid
                  rw [rm_len]
                  have : (t + 1) * k ≤ 100000 * 4 := Nat.mul_le_mul (by omega) hV4.2
                  rw [Nat.add_mul] at this
                  omega
                replace hsn := Lib.hid hsn
                clear HO HB hll hdm hFe hcs hcn hFF hba
                go_wp2_with (refine app_own (w0 := w) rfl (.tmp 53) (.tmp 61) rfl u8 (rm (t * k + i) (wvF ws k)) rfl hOa.out hBa.out.size ⟨wr.heap.size, 0, none⟩ 1 [F] rfl hsn.out hlen.out ?_)
                intro v' w' ho hg _
                rw [hstep.out] at ho
                have hB' := Lib.hid (hBa.out.grown hg hBa.out.size (OwnS.block hOa.out))
                replace ho := Lib.hid ho
                clear hg hOa hBa hsn
                go_wp2_with fail
                go_roundw
                case rel => exact ⟨i + 1, by omega, by go_num, ho.out, hB'.out⟩
                case measure => simp [intOf]; omega
              · obtain rfl : i = k := by omega
                have hd2 : decide (i < i) = false := decide_eq_false (Nat.lt_irrefl _)
                have e : t * i + i = (t + 1) * i := by rw [Nat.add_mul]; omega
                rw [e] at HO
                replace HO := Lib.hid HO
                replace HB := Lib.hid HB
                clear e
                go_wp2_with fail
                go_roundw
                case rel => exact ⟨t + 1, by omega, by go_num, HO.out, HB.out⟩
                case measure => simp [intOf]; omega
          · obtain rfl : t = n := by omega
            have hd : decide (t < t) = false := decide_eq_false (Nat.lt_irrefl _)
            replace HO := Lib.hid HO
            replace HB := Lib.hid HB
            go_wp2_with fail
            go_ret2
            rw [e1.out, e2.out]
            exact ⟨_, rfl, HO.out, HB.out⟩
  · have hor : mayB W = false ∨ (ws.length : Int) ≠ W := by
      rcases Classical.em ((ws.length : Int) = W) with e | e
      · left
        unfold mayB
        rw [Bool.and_eq_false_iff, decide_eq_false_iff_not, decide_eq_false_iff_not]
        have : b3 = false := by rw [← d3, e]; simp
        rcases Classical.em (W < 1) with e2 | e2
        · omega
        · rcases Classical.em (4 < W) with e3 | e3
          · omega
          · exact absurd ⟨by rw [← d1, decide_eq_false_iff_not]; exact e2, by rw [← d2, decide_eq_false_iff_not]; exact e3, this⟩ h1
      · exact Or.inr e
    have hE := Lib.hid (outE_arg hor)
    have hR : Hid (outW W ws = []) := by unfold Hid outW; rw [hE.out]; rfl
    rw [hE.out, hR.out]
    clear hE hR hor
    cases b1
    · cases b2
      · cases b3
        · exact absurd ⟨rfl, rfl, rfl⟩ h1
        · go_enter Tryz.func35, Tryz.ntmps35
          go_wp2_with fail
          go_ret2
          exact RowV.nil (Below.refl _ _)
      · go_enter Tryz.func35, Tryz.ntmps35
        go_wp2_with fail
        go_ret2
        exact RowV.nil (Below.refl _ _)
    · go_enter Tryz.func35, Tryz.ntmps35
      go_wp2_with fail
      go_ret2
      exact RowV.nil (Below.refl _ _)
end Go.Proofs.YtjhoecfhmndcgaaGreat
namespace Go.Proofs.YtjhoecfhmndcgaaGreat
open Go.RowKit Go.Gf
attribute [local go_sem ↓] Cl.quiet_since

theorem grown_setCell (w : World) (g i : Nat) (v : Value) : w.grownBy (w.setCell ⟨g, i, none⟩ v) (some g) :=
  ⟨rfl, rfl, rfl, by rw [World.size_setCell]; exact Nat.le_refl _, fun k _ hne => by
    simp only [World.setCell]
    rw [Array.getElem?_modify, if_neg (fun e => hne (by rw [e]))]⟩
section
variable {w0 w w' : World} {g n : Nat} {f : Nat → Value} {ws : Nat → List Nat}
theorem OwnW.alloc (h : OwnW w0 w g n f ws) (o : Obj) : OwnW w0 (w.alloc o) g n f ws :=
  ⟨h.at0, h.vs.alloc o, fun j hj => (h.own j hj).alloc o, h.off, h.apart⟩
theorem OwnW.keep (h : OwnW w0 w g n f ws) (hb : Below w.heap.size w w') : OwnW w0 w' g n f ws :=
  ⟨h.at0, h.vs.keep (hb.block g h.vs.lt), fun j hj => (h.own j hj).keep hb, h.off, h.apart⟩
theorem OwnW.inHeap (h : OwnW w0 w g n f ws) {j : Nat} (hj : j < n) {k : Nat} (hk : (f j).ownBlock = some k) : k < w.heap.size := (h.own j hj).inHeap hk
/-- one row grows, and is laid back -/
theorem OwnW.step (h : OwnW w0 w g n f ws) {p : Nat} (hp : p < n) {v' : Value} {ys : List Nat} (hv : OwnS w0 w' v' ys) (hg : w.grownBy w' (f p).ownBlock) (hn : v'.ownBlock = (f p).ownBlock ∨ v'.ownBlock = some w.heap.size) :
    OwnW w0 (w'.setCell ⟨g, p, none⟩ v') g n (fun j => if j = p then v' else f j) (fun j => if j = p then ys else ws j) := by
  have hoff : v'.ownBlock ≠ some g := by
    rcases hn with e | e
    · rw [e]; exact h.off p hp
    · rw [e]; intro e2; injection e2 with e2; have := h.vs.lt; omega
  have hap : ∀ j, j < n → j ≠ p → ∀ k, v'.ownBlock = some k → (f j).ownBlock ≠ some k := by
    intro j hj hne k hk
    rcases hn with e | e
    · exact h.apart p j hp hj (Ne.symm hne) k (e.symm.trans hk)
    · intro e2
      have := h.inHeap hj e2
      rw [e] at hk; injection hk with hk; omega
  refine ⟨h.at0, ?_, ?_, ?_, ?_⟩
  · exact (h.vs.keep (hg.block g h.vs.lt (fun e => h.off p hp e.symm))).set_ p v'
  · intro j hj
    show OwnS w0 _ (if j = p then v' else f j) (if j = p then ys else ws j)
    by_cases e : j = p
    · rw [if_pos e, if_pos e]
      exact hv.grown (grown_setCell w' g p v') (Or.inr hoff)
    · rw [if_neg e, if_neg e]
      refine ((h.own j hj).grown hg ?_).grown (grown_setCell w' g p v') (Or.inr (h.off j hj))
      cases e2 : (f j).ownBlock with
      | none => exact Or.inl rfl
      | some k => exact Or.inr fun e3 => h.apart p j hp hj (Ne.symm e) k e3.symm e2
  · intro j hj
    show (if j = p then v' else f j).ownBlock ≠ some g
    by_cases e : j = p
    · rw [if_pos e]; exact hoff
    · rw [if_neg e]; exact h.off j hj
  · intro i j hi hj hne k
    show (if i = p then v' else f i).ownBlock = some k → (if j = p then v' else f j).ownBlock ≠ some k
    by_cases e : i = p
    · rw [if_pos e, if_neg (fun e2 => hne (e.trans e2.symm))]
      exact hap j hj (fun e2 => hne (e.trans e2.symm)) k
    · rw [if_neg e]
      by_cases e2 : j = p
      · rw [if_pos e2]
        intro h1 h2
        exact hap i hi e k h2 h1
      · rw [if_neg e2]
        exact h.apart i j hi hj hne k
theorem OwnW.congr (h : OwnW w0 w g n f ws) {ws' : Nat → List Nat} (e : ∀ j, j < n → ws j = ws' j) : OwnW w0 w g n f ws' :=
  ⟨h.at0, h.vs, fun j hj => by rw [← e j hj]; exact h.own j hj, h.off, h.apart⟩
theorem OwnW.start (w : World) (n : Nat) : OwnW w (w.alloc (.cells (madeCells #[.slice none 0 0] n) 41)) w.heap.size n (fun _ => .slice none 0 0) (fun _ => []) :=
  ⟨Nat.le_refl _, Vs.start w n, fun j _ => OwnS.nil _ _, fun j _ => by simp [Value.ownBlock], fun i j _ _ _ k h => by simp [Value.ownBlock] at h⟩
end
/-- how many of the first i places are row j's, of V rows -/
def cn (V j i : Nat) : Nat := (i + (V - 1 - j)) / V
theorem cn_zero {V j : Nat} (hj : j < V) : cn V j 0 = 0 := by unfold cn; exact Nat.div_eq_of_lt (by omega)
theorem cn_step {V j i : Nat} (hj : j < V) : cn V j (i + 1) = if j = i % V then cn V j i + 1 else cn V j i := by
  unfold cn
  have hV : 0 < V := by omega
  have hd := Nat.div_add_mod i V
  have hm := Nat.mod_lt i hV
  generalize i / V = q at *
  generalize i % V = r at *
  subst hd
  by_cases e : j = r
  · rw [if_pos e]
    subst e
    rw [show V * q + j + 1 + (V - 1 - j) = V * (q + 1) by rw [Nat.mul_add]; omega, Nat.mul_div_cancel_left _ hV, show V * q + j + (V - 1 - j) = (V - 1) + V * q by omega, Nat.add_mul_div_left _ _ hV, Nat.div_eq_of_lt (by omega)]
    omega
  · rw [if_neg e]
    rcases Nat.lt_or_ge j r with h | h
    · rw [show V * q + r + 1 + (V - 1 - j) = (r - j) + V * (q + 1) by rw [Nat.mul_add]; omega, show V * q + r + (V - 1 - j) = (r - j - 1) + V * (q + 1) by rw [Nat.mul_add]; omega, Nat.add_mul_div_left _ _ hV, Nat.add_mul_div_left _ _ hV, Nat.div_eq_of_lt (by omega), Nat.div_eq_of_lt (by omega)]
    · rw [show V * q + r + 1 + (V - 1 - j) = (r + V - j) + V * q by omega, show V * q + r + (V - 1 - j) = (r + V - j - 1) + V * q by omega, Nat.add_mul_div_left _ _ hV, Nat.add_mul_div_left _ _ hV, Nat.div_eq_of_lt (by omega), Nat.div_eq_of_lt (by omega)]
theorem cn_at {V i : Nat} (hV : 0 < V) : cn V (i % V) i = i / V := by
  unfold cn
  have hd := Nat.div_add_mod i V
  have hm := Nat.mod_lt i hV
  generalize i / V = q at *
  generalize i % V = r at *
  subst hd
  rw [show V * q + r + (V - 1 - r) = (V - 1) + V * q by omega, Nat.add_mul_div_left _ _ hV, Nat.div_eq_of_lt (by omega)]
  omega
theorem cn_end {V j n : Nat} (hj : j < V) : cn V j (V * n) = n := by
  unfold cn
  rw [Nat.add_comm, Nat.add_mul_div_left _ _ (by omega), Nat.div_eq_of_lt (by omega)]
  omega
end Go.Proofs.YtjhoecfhmndcgaaGreat
namespace Go.Proofs.YtjhoecfhmndcgaaGreat
open Go.RowKit Go.Gf Go.Fl
set_option linter.unusedVariables false
set_option linter.unusedSimpArgs false
set_option maxRecDepth 20000
attribute [local go_sem ↓] Cl.quiet_since

/-- the two floats of a point, as a value -/
def cpx (x : Nat × Nat) : Value := .complex .f64 x.1 x.2
/-- the slice with address A holds the points xs, below block B -/
def Cx (w : World) (B : Nat) (A : Option Addr) (xs : List (Nat × Nat)) : Prop := xs = [] ∨ ∃ a, A = some a ∧ a.block < B ∧ ∀ i (h : i < xs.length), w.cell? (a.add i) = some (cpx xs[i])
/-- is a point just nought? -/
def zP (x : Nat × Nat) : Bool := (FloatKind.f64.format.order x.1 0 == some .eq) && (FloatKind.f64.format.order x.2 0 == some .eq)
/-- the i-th point -/
def xA (xs : List (Nat × Nat)) (i : Nat) : Nat × Nat := xs.getD i (0, 0)
section
variable {w w' : World} {B B' : Nat} {A : Option Addr} {xs : List (Nat × Nat)}
theorem xA_get {i : Nat} (h : i < xs.length) : xA xs i = xs[i] := by simp [xA, h]
theorem Cx.keep (h : Cx w B A xs) (hk : ∀ p : Addr, p.block < B → w'.cell? p = w.cell? p) : Cx w' B A xs := by
  rcases h with h | ⟨a, e, hb, hc⟩
  · exact Or.inl h
  · exact Or.inr ⟨a, e, hb, fun i hi => (hk _ (by rw [add_block]; exact hb)).trans (hc i hi)⟩
theorem Cx.more (h : Cx w B A xs) (hB : B ≤ B') : Cx w B' A xs := by
  rcases h with h | ⟨a, e, hb, hc⟩
  · exact Or.inl h
  · exact Or.inr ⟨a, e, by omega, hc⟩
theorem Cx.below (h : Cx w B A xs) (hb : Below B w w') : Cx w' B A xs := h.keep fun _ hp => hb.cell hp
theorem Cx.far (h : Cx w w.heap.size A xs) (hb : Below w.heap.size w w') : Cx w' w'.heap.size A xs := (h.below hb).more hb.size
theorem Cx.at_ {i : Nat} (h : Cx w B A xs) (hi : i < xs.length) : ∃ a, A = some a ∧ a.block < B ∧ w.cell? (a.add i) = some (.complex .f64 (xA xs i).1 (xA xs i).2) := by
  rcases h with h | ⟨a, e, hb, hc⟩
  · rw [h] at hi; exact absurd hi (by simp)
  · exact ⟨a, e, hb, by rw [xA_get hi]; exact hc i hi⟩
end
/-- are all points nought? -/
def blkB (xs : List (Nat × Nat)) : Bool := xs.all zP
theorem blkB_true {xs : List (Nat × Nat)} : blkB xs = true ↔ ∀ i, i < xs.length → zP (xA xs i) = true := by
  unfold blkB
  rw [List.all_eq_true]
  constructor
  · intro h i hi
    rw [xA_get hi]
    exact h _ (List.getElem_mem hi)
  · intro h x hx
    obtain ⟨i, hi, rfl⟩ := List.getElem_of_mem hx
    rw [← xA_get hi]
    exact h i hi
theorem charged_any (x : Nat × Nat) (w : World) : Calls Tryz.prog 82 #[.complex .f64 x.1 x.2] w fun e w' => e = .returned (.bool (!zP x)) ∧ w = w' := by
  obtain ⟨x, y⟩ := x
  have hz : zP (x, y) = ((FloatKind.f64.format.order x 0 == some .eq) && (FloatKind.f64.format.order y 0 == some .eq)) := rfl
  obtain ⟨b1, h1⟩ : ∃ b, (FloatKind.f64.format.order x 0 == some .eq) = b := ⟨_, rfl⟩
  obtain ⟨b2, h2⟩ : ∃ b, (FloatKind.f64.format.order y 0 == some .eq) = b := ⟨_, rfl⟩
  rw [h1, h2] at hz
  rw [hz]
  clear hz
  go_enter Tryz.func82, Tryz.ntmps82
  go_wp2_with fail
  go_ret
  exact ⟨by cases b1 <;> cases b2 <;> rfl, rfl⟩
set_option maxHeartbeats 2000000 in
theorem cindex_any (A : Option Addr) (c : Nat) (xs : List (Nat × Nat)) (w : World) (h : Cx w w.heap.size A xs) (hl : xs.length ≤ 1000000) :
    Calls Tryz.prog 113 #[.slice A xs.length c, .func (.func 82) #[] #[]] w fun e w' => (∃ j : Int, e = .returned (.int .i64 j) ∧ decide (0 ≤ j) = !blkB xs) ∧ w = w' := by
  have H := Lib.hid h
  clear h
  go_enter Tryz.func113, Tryz.ntmps113
  go_wp2_with fail
  go_loop [8] (fun n => ∃ k : Nat, k ≤ xs.length ∧ Hid (∀ j, j < xs.length → j < k → zP (xA xs j) = true) ∧ n = .int .i64 k) (fun n => xs.length - (intOf n).toNat)
  case atStart => exact ⟨0, Nat.zero_le _, Lib.hid (fun j _ h => absurd h (by omega)), rfl⟩
  case round =>
    obtain ⟨k, hk, HK, rfl⟩ := hrel
    by_cases hlt : k < xs.length
    · obtain ⟨a, rfl, hab, hcell⟩ := H.out.at_ hlt
      have hc := Lib.hid (charged_any (xA xs k) w)
      cases hb : zP (xA xs k)
      · have hs : Hid (blkB xs = false) := by
          unfold Hid
          rw [Bool.eq_false_iff]
          intro e
          have := blkB_true.1 e k hlt
          rw [hb] at this; cases this
        rw [hb] at hc
        clear hb
        go_wp2_with (go_at_call 82; (with_reducible refine hc.out.mono ?_); rintro e w' ⟨rfl, rfl⟩)
        go_ret
        exact ⟨⟨_, rfl, by rw [hs.out]; simp⟩, rfl⟩
      · have HK' : Hid (∀ j, j < xs.length → j < k + 1 → zP (xA xs j) = true) := fun j hj hjk => by
          rcases Nat.lt_or_ge j k with h1 | h1
          · exact HK.out j hj h1
          · obtain rfl : j = k := by omega
            exact hb
        rw [hb] at hc
        clear hb HK
        go_wp2_with (go_at_call 82; (with_reducible refine hc.out.mono ?_); rintro e w' ⟨rfl, rfl⟩)
        go_round
        case rel => exact ⟨k + 1, by omega, HK', by go_num⟩
        case measure => simp [intOf]; omega
    · obtain rfl : k = xs.length := by omega
      have hs : Hid (blkB xs = true) := blkB_true.2 fun j hj => HK.out j hj hj
      clear HK
      go_wp2_with fail
      go_ret
      exact ⟨⟨_, rfl, by rw [hs.out]; decide⟩, rfl⟩
theorem ccontains_any (A : Option Addr) (c : Nat) (xs : List (Nat × Nat)) (w : World) (h : Cx w w.heap.size A xs) (hl : xs.length ≤ 1000000) :
    Calls Tryz.prog 81 #[.slice A xs.length c, .func (.func 82) #[] #[]] w fun e w' => e = .returned (.bool (!blkB xs)) ∧ w = w' := by
  have hc := Lib.hid (cindex_any A c xs w h hl)
  clear h
  go_enter Tryz.func81, Tryz.ntmps81
  go_wp2_with (go_at_call 113; (with_reducible refine hc.out.mono ?_); rintro e w' ⟨⟨j, rfl, hj⟩, rfl⟩)
  go_ret
  exact ⟨rfl, rfl⟩
/-- Blank -/
theorem blank_any (A : Option Addr) (c : Nat) (xs : List (Nat × Nat)) (w : World) (h : Cx w w.heap.size A xs) (hl : xs.length ≤ 1000000) :
    Calls Tryz.prog 64 #[.slice A xs.length c] w fun e w' => e = .returned (.bool (blkB xs)) ∧ w = w' := by
  have hc := Lib.hid (ccontains_any A c xs w h hl)
  clear h
  generalize blkB xs = T at hc ⊢
  go_enter Tryz.func64, Tryz.ntmps64
  go_wp2_with (go_at_call 81; (with_reducible refine hc.out.mono ?_); rintro e w' ⟨rfl, rfl⟩)
  go_ret
  exact ⟨by cases T <;> rfl, rfl⟩
/-- s is the symbol that a point is nearest to -/
def SlcIs (x : Nat × Nat) (s : Nat) : Prop := ∀ w : World, Calls Tryz.prog 117 #[.complex .f64 x.1 x.2] w fun e w' => e = .returned (.int .u16 (s : Int)) ∧ w = w'
set_option maxHeartbeats 2000000 in
theorem sliced_any (A : Option Addr) (c : Nat) (xs : List (Nat × Nat)) (ss : List Nat) (w : World) (h : Cx w w.heap.size A xs) (hl : xs.length ≤ 1000000) (hn : ss.length = xs.length) (hs : ∀ i, i < xs.length → SlcIs (xA xs i) (at_ ss i)) (hb : ∀ y ∈ ss, y < 65536) :
    Calls Tryz.prog 85 #[.slice A xs.length c] w (RowP w ss) := by
  have H := Lib.hid h
  have HS := Lib.hid hs
  have HN := Lib.hid hn
  have HB := Lib.hid hb
  clear h hs hn hb
  obtain ⟨n, hxn⟩ : ∃ n, xs.length = n := ⟨_, rfl⟩
  have hmk := run_make_row' (P := Tryz.prog) 41 46 (.int .u16 0) 2 Tryz.underlying41 info22 rfl .i64 .i64 n (by omega) (by omega)
  have HX := Lib.hid hxn
  rw [hxn] at hl ⊢
  clear hxn
  go_enter Tryz.func85, Tryz.ntmps85
  go_wp2_with fail
  go_loopw [11] (fun q wr => ∃ i : Nat, i ≤ n ∧ q = .int .i64 i ∧ Own w wr w.heap.size n (fun j => if j < i then at_ ss j else 0)) (fun q _ => n - (intOf q).toNat)
  case atStart => exact ⟨0, Nat.zero_le _, rfl, (own_start w n).congr (fun j _ => by rw [if_neg (by omega)])⟩
  case round =>
    obtain ⟨i, hi, rfl, HO⟩ := hrel
    clear hmk
    by_cases hlt : i < n
    · have hiI : (i : Int) < (n : Int) := by omega
      obtain ⟨a, rfl, hab, hcell⟩ := (H.out.below HO.2.1).at_ (i := i) (by rw [HX.out]; exact hlt)
      have hc := HS.out i (by rw [HX.out]; exact hlt)
      obtain ⟨F, hF⟩ : ∃ F, Hid (at_ ss i = F) := ⟨_, Lib.hid rfl⟩
      unfold SlcIs at hc
      generalize xA xs i = p at *
      obtain ⟨px, py⟩ := p
      dsimp only at hc hcell
      have hFb : F < 65536 := by rw [← hF.out]; exact at_lt HB.out (by decide)
      rw [hF.out] at hc
      replace hc := Lib.hid hc
      obtain ⟨V, hc1⟩ : ∃ V, wr.cell? ⟨w.heap.size, i, none⟩ = some V := ⟨_, HO.cell hlt⟩
      have hf1 := HO.2.2.frozen i
      have HO' := Lib.hid ((HO.set_ i F).congr (f' := fun j => if j < i + 1 then at_ ss j else 0) (by
        intro j hj
        show (if j = i then F else if j < i then at_ ss j else 0) = if j < i + 1 then at_ ss j else 0
        by_cases e : j = i
        · subst e; rw [if_pos rfl, if_pos (by omega), hF.out]
        · rw [if_neg e]
          by_cases h : j < i
          · rw [if_pos h, if_pos (by omega)]
          · rw [if_neg h, if_neg (by omega)]))
      clear HO hF
      go_wp2_with (go_at_call 117; (with_reducible refine (hc.out _).mono ?_); rintro e w1 ⟨rfl, rfl⟩)
      go_roundw
      case rel => exact ⟨i + 1, by omega, by go_num, HO'.out⟩
      case measure => simp [intOf]; omega
    · obtain rfl : i = n := by omega
      have hd : decide (i < i) = false := decide_eq_false (Nat.lt_irrefl _)
      have HR := (HO.congr (f' := at_ ss) (fun j hj => by rw [if_pos hj])).owns (fun j _ => at_lt HB.out (by decide)) (by omega)
      have e : rm i (at_ ss) = ss := by
        have := rm_at ss
        rwa [HN.out, HX.out] at this
      rw [e] at HR
      have hB := Lib.hid HO.2.1
      replace HR := Lib.hid HR
      clear HO
      go_wp2_with fail
      go_ret
      exact ⟨_, rfl, HR.out, hB.out⟩
end Go.Proofs.YtjhoecfhmndcgaaGreat
namespace Go.Proofs.YtjhoecfhmndcgaaGreat
open Go.RowKit Go.Gf Go.Fl
set_option linter.unusedVariables false
set_option linter.unusedSimpArgs false
set_option maxRecDepth 20000
attribute [local go_sem ↓] Cl.quiet_since

theorem run_store_cpx {P : Program} {w : World} {a : Addr} {m : Mode} (k : FloatKind) (x y : Nat) : (store a (.complex k x y) m).run P w = stored P w a (.complex k x y) m := run_store P w a _ m rfl
/-- a row of points of one's own (or nil), made since w0 -/
def OwnC (w0 w : World) (v : Value) (l : List (Nat × Nat)) : Prop := w.ownsRow w0.heap.size 150 1 v l.length (l.map cpx)
section
variable {w0 w w' : World} {v : Value} {l : List (Nat × Nat)}
theorem OwnC.blk (h : OwnC w0 w v l) : ∀ k, v.ownBlock = some k → w0.heap.size ≤ k := by
  intro k hk
  obtain ⟨_, h⟩ := h
  rcases h with ⟨rfl, _⟩ | ⟨g, cap, cur, rfl, hg, _⟩
  · cases hk
  · simp [Value.ownBlock] at hk; omega
theorem OwnC.alloc (h : OwnC w0 w v l) (o : Obj) : OwnC w0 (w.alloc o) v l := World.ownsRow.alloc h o
theorem OwnC.cx (h : OwnC w0 w v l) : ∃ A c, v = .slice A l.length c ∧ l.length ≤ c ∧ Cx w w.heap.size A l := by
  obtain ⟨hl, h2⟩ := h
  rcases h2 with ⟨rfl, h0⟩ | ⟨g, cap, cur, rfl, hg, hh, hn, hcap, hcs, htk⟩
  · obtain rfl : l = [] := List.eq_nil_of_length_eq_zero h0
    exact ⟨none, 0, rfl, Nat.le_refl _, Or.inl rfl⟩
  · have hlt : g < w.heap.size := by
      rcases Nat.lt_or_ge g w.heap.size with hlt | hge
      · exact hlt
      · rw [Array.getElem?_eq_none hge] at hh; cases hh
    refine ⟨_, cap, rfl, hn, Or.inr ⟨_, rfl, hlt, fun j hj => ?_⟩⟩
    have e : (⟨g, 0, none⟩ : Addr).add j = ⟨g, j, none⟩ := by unfold Addr.add; split <;> simp_all
    have e2 : (cur.toList.take (l.length * 1))[j]? = (l.map cpx)[j]? := by rw [htk]
    rw [List.getElem?_take, if_pos (by omega), Array.getElem?_toList, List.getElem?_map, List.getElem?_eq_getElem hj] at e2
    rw [e, cell_of_row w g j _ 150 (0, 0) hh, e2]
    rfl
end
theorem infoCx : (Tryz.prog.info? 150).map (fun i => (i.zero, i.size, i.bytes)) = some (some (.complex .f64 0 0), 1, 16) := by kernel_rfl
/-- append of one point, which lies in a block of its own -/
theorem app_cpx {w0 w : World} {ops : Array Oper} {rest : List Oper} {o : Oper} {a : Act} {Q : Exit → Act → World → Prop} (hgd : o.guard = none) (s x : Operand)
    (ho : o.op = .call { callee := .builtin .append, args := #[s, x], argTypes := #[97, 97] }) (v : Value) (l : List (Nat × Nat)) (hs : a.eval s = v) (hown : OwnC w0 w v l) (hb : w0.heap.size ≤ w.heap.size)
    (g : Nat) (hx : a.eval x = .slice (some ⟨g, 0, none⟩) 1 1) (p q : Nat) (hy : w.cell? ⟨g, 0, none⟩ = some (.complex .f64 p q)) (h63 : l.length ≤ 1000000)
    (h : ∀ v' w', OwnC w0 w' v' (l ++ [(p, q)]) → w.grownBy w' v.ownBlock → wpList Tryz.prog ops Q rest (a.put o.dst v') w') :
    wpList Tryz.prog ops Q (o :: rest) a w := by
  have hi0 := infoCx
  obtain ⟨i, hi, hrest⟩ := Option.map_eq_some_iff.1 hi0
  simp only [Prod.mk.injEq] at hrest
  obtain ⟨i1, i2, i3⟩ := hrest
  refine wpList_append_own_at w hgd s x 97 ho w0.heap.size 150 i (.complex .f64 0 0) 1 16 Tryz.underlying97 hi i1 i2 i3 rfl (by decide) v l.length (l.map cpx) hs hown ⟨g, 0, none⟩ 1 1 [cpx (p, q)] hx rfl (fun j u hu => ?_) (fun u hu => ?_) (by unfold maxLen; omega) (by omega) hb (fun v' w' h1 h2 _ _ => ?_)
  · match j, hu with
    | 0, hu =>
      simp at hu
      rw [← hu, add_zero']
      exact hy
    | j + 1, hu => simp at hu
  · simp at hu
    rw [hu]; rfl
  · refine h v' w' ?_ h2
    unfold OwnC
    rw [List.length_append, List.map_append]
    exact h1
/-- make([]complex128, 0, n) -/
theorem make_cx0 (n : Nat) (hn : n ≤ 1000000) (w : World) : (Instr.makeSlice 97 (.int .i64 0) (.int .i64 (n : Int))).run Tryz.prog w = .ok (.slice (some ⟨w.heap.size, 0, none⟩) 0 n) (w.alloc (.cells (madeCells #[.complex .f64 0 0] n) 150)) := by
  have hi0 := infoCx
  obtain ⟨i, hi, hrest⟩ := Option.map_eq_some_iff.1 hi0
  simp only [Prod.mk.injEq] at hrest
  obtain ⟨i1, i2, i3⟩ := hrest
  have := run_make (P := Tryz.prog) w 97 150 i (.complex .f64 0 0) Tryz.underlying97 hi i1 .i64 .i64 0 (n : Int) (Int.le_refl _) (by omega) (by rw [i3]; omega) (by omega)
  rw [i2] at this
  rw [show (Value.complex FloatKind.f64 0 0).cells = #[Value.complex FloatKind.f64 0 0] from rfl] at this
  simpa using this
theorem OwnC.empty (n : Nat) (hn : n ≤ 1000000) (w : World) : OwnC w (w.alloc (.cells (madeCells #[.complex .f64 0 0] n) 150)) (.slice (some ⟨w.heap.size, 0, none⟩) 0 n) [] :=
  World.ownsRow_made w _ n (Nat.le_refl _) (by unfold maxLen; omega) (by rw [size_madeCells, Nat.mul_one])
/-- the points of codeword j: n of them, of W codewords -/
def colX (xs : List (Nat × Nat)) (W j n : Nat) : List (Nat × Nat) := (List.range n).map fun q => xA xs (q * W + j)
theorem colX_len (xs : List (Nat × Nat)) (W j n : Nat) : (colX xs W j n).length = n := by unfold colX; simp
theorem colX_succ (xs : List (Nat × Nat)) (W j n : Nat) : colX xs W j (n + 1) = colX xs W j n ++ [xA xs (n * W + j)] := by
  unfold colX
  rw [List.range_succ, List.map_append]
  rfl
theorem colX_at {xs : List (Nat × Nat)} {W j n q : Nat} (h : q < n) : xA (colX xs W j n) q = xA xs (q * W + j) := by
  rw [xA_get (by rw [colX_len]; exact h)]
  unfold colX
  simp
attribute [local go_sem] run_store_cpx
set_option maxHeartbeats 4000000 in
theorem points_any {B P : Int} {W K : Nat} {A : Option Addr} {c : Nat} {xs : List (Nat × Nat)} {j : Nat} {w : World} (hW : 1 ≤ W ∧ W ≤ 4) (hK : 1 ≤ K ∧ K ≤ 64) (hj : j < W) (hs : Cx w w.heap.size A xs) (hl : xs.length = W * (K + 16)) :
    Calls Tryz.prog 87 #[.agg #[.int .i64 B, .int .i64 P, .int .i64 (W : Int), .int .i64 (K : Int)], .slice A xs.length c, .int .i64 (j : Int)] w
      fun e w' => ∃ A' c', e = .returned (.slice A' (K + 16) c') ∧ Cx w' w'.heap.size A' (colX xs W j (K + 16)) ∧ Below w.heap.size w w' := by
  have H := Lib.hid hs
  obtain ⟨wb, hwb⟩ : ∃ wb, wb = w.alloc (.cells #[.int .i64 B, .int .i64 P, .int .i64 (W : Int), .int .i64 (K : Int)] 34) := ⟨_, rfl⟩
  have hbb : Below w.heap.size w wb := by rw [hwb]; exact Ge.below_alloc w _
  have hz : wb.heap.size = w.heap.size + 1 := by rw [hwb, World.size_alloc]
  have hX : Ge.Box wb w.heap.size B P W K := by
    have := Ge.Box.new w B P W K
    rwa [← hwb] at this
  have hmk := make_cx0 (K + 16) (by omega)
  have hK16 : (K : Int) + 16 = ((K + 16 : Nat) : Int) := by push_cast; rfl
  obtain ⟨n, hn⟩ : ∃ n, K + 16 = n := ⟨_, rfl⟩
  rw [hn] at hl hmk hK16 ⊢
  have hE := OwnC.empty n (by omega) wb
  have hB0 := Ge.below_alloc wb (.cells (madeCells #[.complex .f64 0 0] n) 150)
  obtain ⟨L, hL⟩ : ∃ L, xs.length = L := ⟨_, rfl⟩
  have hn80 : n ≤ 80 := by omega
  have hLN : L = W * n := by rw [← hL, hl]
  have hL4 : L ≤ 320 := by rw [hLN]; exact Nat.mul_le_mul hW.2 hn80
  have HL := Lib.hid hL
  replace hLN := Lib.hid hLN
  rw [hL]
  clear hl hL hs
  obtain ⟨x1, x2, x3, x4, x5⟩ := id hX
  rw [hwb] at x2 x3 x4 x5
  go_enter Tryz.func87, Tryz.ntmps87
  go_wp2_with fail
  rw [← hwb, ← hz]
  clear hwb x1 x2 x3 x4 x5
  replace hz := Lib.hid hz
  go_loopw [2, 7] (fun p v wr => ∃ q : Nat, q ≤ n ∧ p = .int .i64 ((q * W + j : Nat) : Int) ∧ OwnC wb wr v (colX xs W j q) ∧ Below wb.heap.size wb wr) (fun p _ _ => (W * n + W) - (intOf p).toNat)
  case atStart => exact ⟨0, Nat.zero_le _, by simp, hE, hB0⟩
  case round =>
    clear hE hB0 hmk
    obtain ⟨q, hq, rfl, hO, hB⟩ := hrel
    have hXr := hX.keep hB
    obtain ⟨y1, y2, y3, y4, y5⟩ := id hXr
    by_cases hlt : q < n
    · have hin := place_lt hj hlt
      obtain ⟨i, hi⟩ : ∃ i, q * W + j = i := ⟨_, rfl⟩
      have hnx : (q + 1) * W + j = i + W := by rw [Nat.add_mul]; omega
      rw [hi] at hin ⊢
      have hiL : i < L := by rw [hLN.out]; exact hin
      have hiI : (i : Int) < (L : Int) := by omega
      have hd : decide (i < L) = true := decide_eq_true hiL
      have hst := colX_succ xs W j q
      rw [hi] at hst
      obtain ⟨a, rfl, hab, hcell⟩ := (H.out.below (hbb.trans (hB.mono hbb.size))).at_ (i := i) (by rw [HL.out]; exact hiL)
      obtain ⟨⟨px, py⟩, hp⟩ : ∃ p, xA xs i = p := ⟨_, rfl⟩
      rw [hp] at hcell hst
      dsimp only at hcell
      have hO3 := Lib.hid (hO.alloc (.cells #[.complex .f64 px py] 150))
      have hA3 := Ge.below_alloc wr (.cells #[.complex .f64 px py] 150)
      have hB3 := Lib.hid (hB.trans (hA3.mono hB.size))
      have hyc := Lib.hid (show (wr.alloc (.cells #[.complex .f64 px py] 150)).cell? ⟨wr.heap.size, 0, none⟩ = some (.complex .f64 px py) from Ge.cell_of (heap_alloc_new wr _) 0)
      have hlen := Lib.hid (show (colX xs W j q).length ≤ 1000000 from by rw [colX_len]; omega)
      clear hO hA3 hB hp hi
      go_wp2_with (refine app_cpx (w0 := wb) rfl (.tmp 20) (.tmp 25) rfl _ _ rfl hO3.out hB3.out.size wr.heap.size rfl px py hyc.out hlen.out ?_)
      intro v' w' ho hg'
      rw [← hst] at ho
      have hO4 := Lib.hid ho
      have hB4 := hB3.out.grown hg' hB3.out.size (OwnC.blk hO3.out)
      obtain ⟨z1, z2, z3, z4, z5⟩ := hX.keep hB4
      replace hB4 := Lib.hid hB4
      clear ho hg' hO3 hB3 hyc hXr y1 y2 y3 y4 y5
      go_wp2_with fail
      go_roundw
      case rel => exact ⟨q + 1, by omega, by rw [hnx]; go_num, hO4.out, hB4.out⟩
      case measure => simp [intOf]; omega
    · obtain rfl : q = n := by omega
      have hge : L ≤ q * W + j := by rw [hLN.out, Nat.mul_comm]; omega
      obtain ⟨i, hi⟩ : ∃ i, q * W + j = i := ⟨_, rfl⟩
      rw [hi] at hge ⊢
      have hd : decide (i < L) = false := decide_eq_false (by omega)
      obtain ⟨A', c', rfl, hc', hx'⟩ := hO.cx
      rw [colX_len]
      replace hx' := Lib.hid hx'
      have hB5 := Lib.hid (hbb.trans (hB.mono hbb.size))
      clear hO hB hXr
      go_wp2_with fail
      go_ret
      exact ⟨A', c', rfl, hx'.out, hB5.out⟩
/-- how many of the first n points are nought where the symbols are alike -/
def uncN (z : Nat → Bool) (r y : List Nat) : Nat → Nat := bc fun q => z q && decide (at_ r q = at_ y q)
set_option maxHeartbeats 4000000 in
theorem uncharged_any {A B C : Option Addr} {ca cb cc n : Nat} {r y : List Nat} {xs : List (Nat × Nat)} {w : World} (ha : Sl w w.heap.size A r) (hb : Sl w w.heap.size B y) (hc : Cx w w.heap.size C xs) (hr : r.length = n) (hy : y.length = n) (hx : xs.length = n) (h6 : n ≤ 1000000) :
    Calls Tryz.prog 119 #[.slice A n ca, .slice B n cb, .slice C n cc] w fun e w' => e = .returned (.int .i64 ((uncN (fun q => zP (xA xs q)) r y n : Nat) : Int)) ∧ Below w.heap.size w w' := by
  have HA := Lib.hid ha
  have HB := Lib.hid hb
  have HC := Lib.hid hc
  replace hr := Lib.hid hr
  replace hy := Lib.hid hy
  replace hx := Lib.hid hx
  clear ha hb hc
  go_enter Tryz.func119, Tryz.ntmps119
  go_wp2_with fail
  go_loopw [7, 12] (fun m p wr => ∃ q : Nat, q ≤ n ∧ p = .int .i64 q ∧ m = .int .i64 ((uncN (fun q => zP (xA xs q)) r y q : Nat) : Int) ∧ Below w.heap.size w wr) (fun _ p _ => n - (intOf p).toNat)
  case atStart => exact ⟨0, Nat.zero_le _, rfl, rfl, Below.refl _ _⟩
  case round =>
    obtain ⟨q, hq, rfl, rfl, hB⟩ := hrel
    have hle : uncN (fun q => zP (xA xs q)) r y q ≤ q := bc_le _ _
    by_cases hlt : q < n
    · have hqI : (q : Int) < (n : Int) := by omega
      have hd : decide (q < n) = true := decide_eq_true hlt
      obtain ⟨a, rfl, hab, hca⟩ := (HA.out.below hB).at_ (i := q) (by rw [hr.out]; exact hlt)
      obtain ⟨b, rfl, hbb, hcb⟩ := (HB.out.below hB).at_ (i := q) (by rw [hy.out]; exact hlt)
      obtain ⟨x, rfl, hxb, hcx⟩ := (HC.out.below hB).at_ (i := q) (by rw [hx.out]; exact hlt)
      rw [← at_get (by rw [hr.out]; exact hlt)] at hca
      rw [← at_get (by rw [hy.out]; exact hlt)] at hcb
      have hstep : Hid (uncN (fun q => zP (xA xs q)) r y (q + 1) = uncN (fun q => zP (xA xs q)) r y q + if (zP (xA xs q) && decide (at_ r q = at_ y q)) = true then 1 else 0) := Lib.hid rfl
      obtain ⟨⟨px, py⟩, hp⟩ : ∃ p, xA xs q = p := ⟨_, rfl⟩
      rw [hp] at hcx hstep
      dsimp only at hcx
      have hz : zP (px, py) = ((FloatKind.f64.format.order px 0 == some .eq) && (FloatKind.f64.format.order py 0 == some .eq)) := rfl
      obtain ⟨b1, h1⟩ : ∃ b, (FloatKind.f64.format.order px 0 == some .eq) = b := ⟨_, rfl⟩
      obtain ⟨b2, h2⟩ : ∃ b, (FloatKind.f64.format.order py 0 == some .eq) = b := ⟨_, rfl⟩
      rw [h1, h2] at hz
      rw [hz] at hstep
      obtain ⟨s, hs⟩ : ∃ s, at_ r q = s := ⟨_, rfl⟩
      obtain ⟨t, ht⟩ : ∃ t, at_ y q = t := ⟨_, rfl⟩
      rw [hs, ht] at hstep
      rw [hs] at hca
      rw [ht] at hcb
      have hst : ((s : Int) == (t : Int)) = decide (s = t) := by rw [Bool.eq_iff_iff, beq_iff_eq, decide_eq_true_eq]; omega
      obtain ⟨b3, h3⟩ : ∃ b, decide (s = t) = b := ⟨_, rfl⟩
      rw [h3] at hst hstep
      obtain ⟨u, hu⟩ : ∃ u, Hid (uncN (fun q => zP (xA xs q)) r y q = u) := ⟨_, Lib.hid rfl⟩
      rw [hu.out] at hle hstep ⊢
      clear hu hz hs ht hp h3
      have hBd : ∀ k, Below w.heap.size w (wr.drewN k) := fun k => below_drewN hB k
      replace hBd := Lib.hid hBd
      clear hB
      cases b1 <;> cases b2 <;> cases b3
      all_goals
        go_wp2_with fail
        go_quiet (fail)
        go_wp2_with fail
        go_roundw
        case rel => exact ⟨q + 1, by omega, by go_num, by rw [hstep.out]; go_num, by first | exact hBd.out _ | exact hBd.out 0⟩
        case measure => simp [intOf]; omega
    · obtain rfl : q = n := by omega
      have hd : decide (q < q) = false := decide_eq_false (Nat.lt_irrefl _)
      replace hB := Lib.hid hB
      go_wp2_with fail
      go_ret
      exact ⟨rfl, hB.out⟩
end Go.Proofs.YtjhoecfhmndcgaaGreat
namespace Go.Proofs.YtjhoecfhmndcgaaGreat
open Go.RowKit Go.Gf
attribute [local go_sem ↓] Cl.quiet_since

set_option maxHeartbeats 4000000 in
theorem refin_any (W : Int) (A : Option Addr) (c : Nat) (xs : List Nat) (w : World) (h : Sl w w.heap.size A xs) (hl : xs.length ≤ 1000000) :
    Calls Tryz.prog 33 #[.int .i64 W, .slice A xs.length c] w (RowsV w (inW W xs) (inE W xs)) := by
  have H := Lib.hid h
  clear h
  obtain ⟨b1, d1⟩ : ∃ b, decide (W < 1) = b := ⟨_, rfl⟩
  obtain ⟨b2, d2⟩ : ∃ b, decide (4 < W) = b := ⟨_, rfl⟩
  by_cases hb : b1 = false ∧ b2 = false
  · obtain ⟨rfl, rfl⟩ := hb
    rw [decide_eq_false_iff_not] at d1 d2
    have h1 : mayB W = true := by unfold mayB; rw [Bool.and_eq_true, decide_eq_true_eq, decide_eq_true_eq]; omega
    obtain ⟨V, rfl⟩ : ∃ V : Nat, W = (V : Int) := ⟨W.toNat, by omega⟩
    have hV4 := mayB_nat h1
    have hV0 : (V : Int) ≠ 0 := by omega
    have d1 : decide ((V : Int) < 1) = false := by rw [decide_eq_false_iff_not]; omega
    have d2 : decide ((4 : Int) < (V : Int)) = false := by rw [decide_eq_false_iff_not]; omega
    obtain ⟨r, hr⟩ : ∃ r, xs.length % V = r := ⟨_, rfl⟩
    have hrI : (xs.length : Int) % (V : Int) = (r : Int) := by rw [← hr]; exact (Int.natCast_emod _ _).symm
    by_cases h2 : r ≠ 0 ∨ xs.length = 0
    · have hE := Lib.hid (inE_size (s := xs) h1 (by rw [Int.toNat_natCast, hr]; exact h2))
      have hR : Hid (inW (V : Int) xs = []) := by unfold Hid inW; rw [hE.out]; rfl
      rw [hE.out, hR.out]
      by_cases h3 : xs.length = 0
      · have z : ((xs.length : Int) == 0) = true := by rw [beq_iff_eq]; omega
        clear h1 h2 h3 hE hR hr hrI
        go_enter Tryz.func33, Tryz.ntmps33
        go_wp2_with fail
        go_ret2
        exact RowsV.nil _ _
      · have z : ((xs.length : Int) == 0) = false := by rw [beq_eq_false_iff_ne]; omega
        have z2 : ((xs.length : Int) % (V : Int) != 0) = true := by rw [hrI]; simp; omega
        clear h1 h2 h3 hE hR hr hrI
        go_enter Tryz.func33, Tryz.ntmps33
        go_wp2_with fail
        go_ret2
        exact RowsV.nil _ _
    · have hE := Lib.hid (inE_ok (s := xs) h1 (by rw [Int.toNat_natCast, hr]; exact h2))
      have hR : Hid (inW (V : Int) xs = dealt V xs) := by unfold Hid inW; rw [hE.out]; rfl
      rw [hE.out, hR.out]
      have z : ((xs.length : Int) == 0) = false := by rw [beq_eq_false_iff_ne]; omega
      have z2 : ((xs.length : Int) % (V : Int) != 0) = false := by rw [hrI]; simp; omega
      have hVn : Hid (xs.length = V * (xs.length / V)) := by unfold Hid; have := Nat.div_add_mod xs.length V; omega
      have hmk : ∀ w, (Instr.makeSlice 84 (.int .i64 (V : Int)) (.int .i64 (V : Int))).run Tryz.prog w = .ok (.slice (some ⟨w.heap.size, 0, none⟩) V V) (w.alloc (.cells (madeCells #[.slice none 0 0] V) 41)) :=
        run_make_row' (P := Tryz.prog) 84 41 (.slice none 0 0) 24 Tryz.underlying84 info23w rfl .i64 .i64 V (by omega) (by omega)
      clear h1 h2 hE hR hr hrI
      go_enter Tryz.func33, Tryz.ntmps33
      go_wp2_with fail
      have hO0 : Hid (OwnW w (w.alloc (.cells (madeCells #[.slice none 0 0] V) 41)) w.heap.size V (fun _ => .slice none 0 0) (fun j => rm (cn V j 0) fun q => at_ xs (q * V + j))) :=
        (OwnW.start w V).congr fun j hj => by rw [cn_zero hj]; rfl
      go_loopw [7] (fun q wr => ∃ i : Nat, i ≤ xs.length ∧ q = .int .i64 i ∧ Below w.heap.size w wr ∧ ∃ f, OwnW w wr w.heap.size V f (fun j => rm (cn V j i) fun q => at_ xs (q * V + j))) (fun q _ => xs.length - (intOf q).toNat)
      case atStart => exact ⟨0, Nat.zero_le _, rfl, below_alloc _ _, _, hO0.out⟩
      case round =>
        clear hO0 hmk
        obtain ⟨i, hi, rfl, HB, f, HO⟩ := hrel
        replace HO := Lib.hid HO
        replace HB := Lib.hid HB
        by_cases hlt : i < xs.length
        · have hiI : (i : Int) < (xs.length : Int) := by omega
          have hd : decide (i < xs.length) = true := decide_eq_true hlt
          have hp := Nat.mod_lt i (show 0 < V by omega)
          obtain ⟨p, hpp⟩ : ∃ p, i % V = p := ⟨_, rfl⟩
          have hpI : (i : Int) % (V : Int) = (p : Int) := by rw [← hpp]; exact (Int.natCast_emod _ _).symm
          have hcs : Hid (cn V p i = i / V) := by rw [← hpp]; exact Lib.hid (cn_at (by omega))
          rw [hpp] at hp
          have hpV : (p : Int) < (V : Int) := by omega
          obtain ⟨a, rfl, hab, hcell⟩ := (H.out.below HB.out).at_ hlt
          have hx16 := H.out.1 xs[i] (List.getElem_mem hlt)
          obtain ⟨X, hX⟩ : ∃ X, Hid (xs[i] = X) := ⟨_, Lib.hid rfl⟩
          rw [hX.out] at hcell hx16
          have hrow : Hid ((rm (cn V p i) fun q => at_ xs (q * V + p)) ++ [X] = rm (cn V p (i + 1)) fun q => at_ xs (q * V + p)) := by
            unfold Hid
            rw [cn_step hp, if_pos hpp.symm, rm_succ, hcs.out, (divmod_eq hp).2 ⟨hpp.symm, rfl⟩, at_get hlt, hX.out]
          have hoth : Hid (∀ j, j < V → j ≠ p → cn V j (i + 1) = cn V j i) := fun j hj hne => by
            rw [cn_step hj, if_neg (fun e => hne (e.trans hpp))]
          have hlen : Hid ((rm (cn V p i) fun q => at_ xs (q * V + p)).length + 1 ≤ 1000000) := by
            unfold Hid
            rw [rm_len, hcs.out]
            have : i / V ≤ i := Nat.div_le_self _ _
            omega
          go_wp2_with fail
          refine Cl.region_way0 (fun b => b ≤ w.heap.size) 17 [(0, .r), (1, .r), (2, .r), (3, .r), (4, .r), (5, .r), (6, .r), (7, .r), (8, .r), (9, .r), (10, .r), (11, .r), (12, .r), (13, .r), (14, .c), (15, .c), (16, .r), (17, .z)] (by kernel_rfl) (by kernel_rfl) ?_
          intro w1 hks
          have HO1 := Lib.hid (HO.out.keep (Cl.Keeps.below hks))
          have HB1 := Lib.hid (HB.out.trans ((Cl.Keeps.below hks).mono HB.out.size))
          have hcS : ∀ y : Cl.Since (fun b => b ≤ w.heap.size) w1, y.w.cell? (a.add i) = some (.int .u16 ((X : Nat) : Int)) := fun y => by
            rw [y.cell (by rw [add_block]; have := HB1.out.size; omega) (by rw [add_block]; omega), HB1.out.cell (by rw [add_block]; exact hab), ← HB.out.cell (by rw [add_block]; exact hab)]
            exact hcell
          have hcO : ∀ y : Cl.Since (fun b => b ≤ w.heap.size) w1, y.w.cell? ⟨w.heap.size, p, none⟩ = some (f p) := fun y => by
            rw [y.cell HO1.out.vs.lt (Nat.le_refl _)]
            exact HO1.out.vs.cell hp
          iterate 14 (refine Cl.way_r rfl ?_; go_big_quiet_step (fail); refine wpQuiet_nil ?_)
          clear hks hcS hcO HO HB
          refine Cl.way_c rfl ?_
          have hq := Lib.hid (sl_new w1 (.cells #[.int .u16 ((X : Nat) : Int)] 46) [X] w1.heap.size rfl rfl (by simp; exact hx16))
          have hb2 := Lib.hid (below_alloc w1 (.cells #[.int .u16 ((X : Nat) : Int)] 46))
          have HO2 := Lib.hid (HO1.out.alloc (.cells #[.int .u16 ((X : Nat) : Int)] 46))
          have HB2 := Lib.hid (HB1.out.trans (hb2.out.mono HB1.out.size))
          go_wp2_with fail
          refine Cl.way_on (Cl.Keeps.of_below hb2.out) ?_
          generalize w1.alloc (.cells #[.int .u16 ((X : Nat) : Int)] 46) = w2 at hq hb2 HO2 HB2 ⊢
          generalize w1.heap.size = gx at hq ⊢
          refine Cl.way_c rfl ?_
          refine app_own (w0 := w) rfl (.tmp 41) (.tmp 46) rfl (f p) _ rfl (HO2.out.own p hp) HB2.out.size ⟨gx, 0, none⟩ 1 [X] rfl hq.out hlen.out ?_
          intro v' w3 hv hg hn
          obtain ⟨A', c', rfl, _, _⟩ := hv.sl
          have hoff : (f p).ownBlock ≠ some w.heap.size := HO2.out.off p hp
          have hge : ∀ k, (f p).ownBlock = some k → w.heap.size ≤ k := OwnS.block (HO2.out.own p hp)
          have hvs3 : Vs w3 w.heap.size V f := HO2.out.vs.keep (hg.block _ HO2.out.vs.lt (fun e => hoff e.symm))
          have hK : Hid (Cl.Keeps (fun b => b ≤ w.heap.size) w2 w3) := ⟨hg.os, hg.tape, hg.output, hg.size, fun b hb hk => hg.block b hb fun e => by
            have h1 := hge b e.symm
            exact hoff (by rw [← e, show b = w.heap.size by omega])⟩
          have HB3 := Lib.hid ((HB2.out.grown hg HB2.out.size hge).setCell (p := ⟨w.heap.size, p, none⟩) (Nat.le_refl _) (.slice A' ((rm (cn V p i) fun q => at_ xs (q * V + p)) ++ [X]).length c'))
          have HO3 := Lib.hid ((HO2.out.step hp hv hg hn).congr (ws' := fun j => rm (cn V j (i + 1)) fun q => at_ xs (q * V + j)) (fun j hj => by
            show (if j = p then _ else _) = _
            by_cases e : j = p
            · rw [if_pos e, hrow.out, e]
            · rw [if_neg e, hoth.out j hj e]))
          have hc3 := hvs3.cell hp
          generalize ((rm (cn V p i) fun q => at_ xs (q * V + p)) ++ [X]).length = L at HB3 HO3 ⊢
          have hf3 := hvs3.frozen p
          clear hv hg hn hoff hge hvs3 HO2 HB2 hq hb2 HO1 HB1
          go_wp2_with fail
          refine Cl.way_on hK.out ?_
          refine Cl.way_r rfl ?_
          go_big_quiet_step (fail)
          refine wpQuiet_nil ?_
          refine Cl.way_z rfl ?_
          clear hK
          go_wp2_with fail
          refine Cl.Calm.normal ?_
          go_wp2_with fail
          go_roundw
          case rel => exact ⟨i + 1, by omega, by go_num, HB3.out, _, HO3.out⟩
          case measure => simp [intOf]; omega
        · obtain rfl : i = xs.length := by omega
          have hd : decide (xs.length < xs.length) = false := decide_eq_false (Nat.lt_irrefl _)
          have HO2 : Hid (OwnW w wr w.heap.size V f (fun j => (dealt V xs).getD j [])) := HO.out.congr fun j hj => by
            rw [dealt_at hj]
            have e := cn_end (n := xs.length / V) hj
            rw [← hVn.out] at e
            rw [e]
          clear HO
          go_wp2_with fail
          go_ret2
          refine ⟨Or.inr ⟨w.heap.size, f, by rw [dealt_len]; rfl, by rw [dealt_len]; exact HO2.out⟩, HB.out⟩
  · have hor : mayB W = false := by
      unfold mayB
      rw [Bool.and_eq_false_iff, decide_eq_false_iff_not, decide_eq_false_iff_not]
      rcases Classical.em (W < 1) with e2 | e2
      · omega
      · rcases Classical.em (4 < W) with e3 | e3
        · omega
        · exact absurd ⟨by rw [← d1, decide_eq_false_iff_not]; exact e2, by rw [← d2, decide_eq_false_iff_not]; exact e3⟩ hb
    have hE := Lib.hid (inE_arg (s := xs) hor)
    have hR : Hid (inW W xs = []) := by unfold Hid inW; rw [hE.out]; rfl
    rw [hE.out, hR.out]
    clear hE hR hor
    cases b1
    · cases b2
      · exact absurd ⟨rfl, rfl⟩ hb
      · go_enter Tryz.func33, Tryz.ntmps33
        go_wp2_with fail
        go_ret2
        exact RowsV.nil _ _
    · go_enter Tryz.func33, Tryz.ntmps33
      go_wp2_with fail
      go_ret2
      exact RowsV.nil _ _
end Go.Proofs.YtjhoecfhmndcgaaGreat
