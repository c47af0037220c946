/- PatrolRounds walked, for whatever is a patrol. -/
import Derived.Test.YtmmpcgmhcaianaaPta
import Derived.Test.YtmmpcgmhcaianaaWrv
namespace Go.Proofs.Ytmmpcgmhcaianaa.Pt
open Go.RowKit Go.Proofs.Ytmmpcgmhcaianaa.Ge
set_option linter.unusedVariables false
set_option linter.unusedSimpArgs false
attribute [local go_sem ↓] Cl.quiet_since
/-- block g is that geometry -/
def G4 (w : World) (g : Nat) (B P W K : Int) : Prop := w.heap[g]? = some (.cells #[.int .i64 B, .int .i64 P, .int .i64 W, .int .i64 K] 23 (0, 0))
section
variable {w w' : World} {g : Nat} {B P W K : Int}
theorem G4.lt (h : G4 w g B P W K) : g < w.heap.size := by
  rcases Nat.lt_or_ge g w.heap.size with hlt | hge
  · exact hlt
  · unfold G4 at h; rw [Array.getElem?_eq_none hge] at h; cases h
theorem G4.new (w : World) (B P W K : Int) : G4 (w.alloc (.cells #[.int .i64 B, .int .i64 P, .int .i64 W, .int .i64 K] 23)) w.heap.size B P W K := heap_alloc_new w _
theorem G4.cells (h : G4 w g B P W K) : w.cell? ⟨g, 0, none⟩ = some (.int .i64 B) ∧ w.cell? ⟨g, 1, none⟩ = some (.int .i64 P) ∧ w.cell? ⟨g, 2, none⟩ = some (.int .i64 W) ∧ w.cell? ⟨g, 3, none⟩ = some (.int .i64 K) :=
  ⟨cell_of_row w g 0 _ _ _ h, cell_of_row w g 1 _ _ _ h, cell_of_row w g 2 _ _ _ h, cell_of_row w g 3 _ _ _ h⟩
theorem G4.keep (h : G4 w g B P W K) (hb : w'.heap[g]? = w.heap[g]?) : G4 w' g B P W K := hb.trans h
theorem G4.below (h : G4 w g B P W K) (hb : Below w.heap.size w w') : G4 w' g B P W K := h.keep (hb.block g h.lt)
theorem G4.out {lo hi : Nat} (h : G4 w g B P W K) (k : Cl.Keeps (Out lo hi) w w') (hg : g < lo) : G4 w' g B P W K := h.keep (k.block g h.lt (by unfold Out; omega))
end
theorem may_nat {B P W K : Int} (h : mayG B P W K = true) : ∃ x y : Nat, B = (x : Int) ∧ P = (y : Int) ∧ 4 ≤ x ∧ x ≤ 64 ∧ 2 ≤ y ∧ y ≤ 32 := by
  unfold mayG at h
  obtain ⟨h1, h2, h3, h4, _⟩ := of_decide_eq_true h
  exact ⟨B.toNat, P.toNat, by omega, by omega, by omega, by omega, by omega, by omega⟩
theorem visN {x y : Nat} {W K : Int} (hm : mayG (x : Int) (y : Int) W K = true) (k : Nat) : visI (x : Int) (y : Int) W K (k : Int) = (((k % (x * y) / y : Nat) : Int), ((k % (x * y) % y : Nat) : Int)) := by
  unfold visI
  rw [if_pos ⟨hm, by omega⟩, ← Int.natCast_mul, ← Int.natCast_emod, ← Int.natCast_ediv, ← Int.natCast_emod]
/-- the k-th page's block and place, and what the laws reckon of them -/
theorem vis_place {x y n q : Nat} (hy : 2 ≤ y) (hx2 : x ≤ 64) (hy2 : y ≤ 32) (hn : x * y = n) (hq : q < n) : ∃ b r m : Nat, q / y = b ∧ q % y = r ∧ b < x ∧ r < y ∧ m + r = q ∧ wrap64 ((b : Int) * (y : Int)) = (m : Int) ∧ wrap64 ((m : Int) + (r : Int)) = (q : Int) := by
  have h1 : q / y < x := Nat.div_lt_of_lt_mul (by rw [Nat.mul_comm, hn]; exact hq)
  have h2 : q % y < y := Nat.mod_lt _ (by omega)
  have h3 : q / y * y + q % y = q := Nat.div_add_mod' q y
  have h5 : n ≤ 2048 := by rw [← hn]; exact Nat.le_trans (Nat.mul_le_mul hx2 hy2) (by decide)
  refine ⟨_, _, q / y * y, rfl, rfl, h1, h2, h3, ?_, ?_⟩
  · rw [← Int.natCast_mul]
    generalize q / y * y = m at *
    exact IntWalk.wrap64_in _ (by omega)
  · generalize q / y * y = m at *
    generalize q % y = r at *
    rw [IntWalk.wrap64_in _ (by omega)]
    omega
/-- .. all of it, for the k-th call -/
theorem vis_at {x y n k : Nat} {W K : Int} (hm : mayG (x : Int) (y : Int) W K = true) (hy : 2 ≤ y) (hx2 : x ≤ 64) (hy2 : y ≤ 32) (hn : x * y = n) (h0 : 0 < n) : ∃ q b r m : Nat, Hid (k % n = q) ∧ Hid (q < n) ∧ Hid (visI (x : Int) (y : Int) W K (k : Int) = ((b : Int), (r : Int))) ∧
    wrap64 ((b : Int) * (y : Int)) = (m : Int) ∧ wrap64 ((m : Int) + (r : Int)) = (q : Int) ∧ decide ((b : Int) < 0) = false ∧ decide (x ≤ b) = false ∧ decide ((x : Int) ≤ (b : Int)) = false ∧ decide ((r : Int) < 0) = false ∧ decide (y ≤ r) = false ∧ decide ((y : Int) ≤ (r : Int)) = false ∧ (q : Int) < (n : Int) := by
  have hq := Nat.mod_lt k h0
  obtain ⟨b, r, m, e1, e2, hb, hr, _, e3, e4⟩ := vis_place hy hx2 hy2 hn hq
  refine ⟨k % n, b, r, m, Lib.hid rfl, Lib.hid hq, Lib.hid ?_, e3, e4, decide_eq_false (Int.not_lt.mpr (Int.natCast_nonneg b)), decide_eq_false (Nat.not_le.mpr hb), decide_eq_false (Int.not_le.mpr (Int.ofNat_lt.mpr hb)), decide_eq_false (Int.not_lt.mpr (Int.natCast_nonneg r)), decide_eq_false (Nat.not_le.mpr hr), decide_eq_false (Int.not_le.mpr (Int.ofNat_lt.mpr hr)), Int.ofNat_lt.mpr hq⟩
  rw [visN hm k, hn, e1, e2]
/-- which were seen in the first i calls from the f-th on -/
def seenF (f n : Nat) : Nat → Nat → Bool
  | 0, _ => false
  | i + 1, j => seenF f n i j || decide ((f + i) % n = j)
theorem seen_not {f n : Nat} : ∀ i j, (∀ t, t < i → (f + t) % n ≠ j) → seenF f n i j = false
  | 0, _, _ => rfl
  | i + 1, j, h => by
    unfold seenF
    rw [seen_not i j (fun t ht => h t (by omega)), decide_eq_false (h i (by omega))]
    rfl
theorem seen_next {f n i : Nat} (hi : i < n) : seenF f n i ((f + i) % n) = false := seen_not i _ fun t ht e => by
  have h1 : ((f + i) - (f + t)) % n = 0 := Nat.sub_mod_eq_zero_of_mod_eq e.symm
  rw [show (f + i) - (f + t) = i - t by omega, Nat.mod_eq_of_lt (by omega)] at h1
  omega
theorem seen_set (f n i q j : Nat) (hq : (f + i) % n = q) : (if j = q then Value.bool true else We.bF (seenF f n i) j) = We.bF (seenF f n (i + 1)) j := by
  unfold We.bF
  show _ = Value.bool (seenF f n i j || decide ((f + i) % n = j))
  rw [hq]
  by_cases h : j = q
  · rw [if_pos h, h, decide_eq_true rfl, Bool.or_true]
  · rw [if_neg h, decide_eq_false (fun e => h e.symm), Bool.or_false]
section
variable {Q : World → Nat → Nat → Nat → Int → Int → Int → Int → Nat → Prop}
set_option maxRecDepth 20000 in
set_option maxHeartbeats 8000000 in
theorem rounds_law (C : PC Q) (B P W K : Int) (N : Nat) (hN : N < 256) (w : World) :
    Calls Try.prog 4 #[.agg #[.int .i64 B, .int .i64 P, .int .i64 W, .int .i64 K], .int .u8 (N : Int)] w (We.Ans w (.bool true)) := by
  have bx := Lib.hid (G4.new w B P W K)
  have hb := Lib.hid (We.below_alloc w (.cells #[.int .i64 B, .int .i64 P, .int .i64 W, .int .i64 K] 23))
  have ha := Lib.hid (awake_any C (w.alloc (.cells #[.int .i64 B, .int .i64 P, .int .i64 W, .int .i64 K] 23)))
  have hr := fun w => refmay_any B P W K w
  have hn := Lib.hid (fun w => C.new w B P W K)
  have C' := Lib.hid C
  clear C
  cases hm : mayG B P W K
  · rw [hm] at hr
    replace hr := Lib.hid hr
    go_enter Try.func4, Try.ntmps4
    go_wp2_with (go_at_call 7; (with_reducible refine ha.out.mono ?_); clear ha; rintro e w1 ⟨rfl, hb1⟩; have b1 := Lib.hid (bx.out.below hb1); obtain ⟨c0, c1, c2, c3⟩ := b1.out.cells; replace hb1 := Lib.hid (We.below_trans hb.out hb1))
    go_wp2_with (go_at_call 9; (with_reducible refine (hr.out _).mono ?_); clear hr; rintro e w2 ⟨rfl, hb2⟩; replace hb2 := Lib.hid (We.below_trans hb1.out hb2); clear c0 c1 c2 c3)
    go_ret
    exact ⟨rfl, hb2.out⟩
  · rw [hm] at hr
    replace hr := Lib.hid hr
    obtain ⟨x, y, rfl, rfl, hx1, hx2, hy1, hy2⟩ := may_nat hm
    have hm' := Lib.hid hm
    clear hm
    obtain ⟨f, hf⟩ : ∃ f, N % 50 = f := ⟨_, rfl⟩
    have hf5 : f < 50 := by rw [← hf]; exact Nat.mod_lt _ (by decide)
    have g1 : (N : Int).tmod 50 = (f : Int) := by rw [← hf]; rfl
    have g2 : (N : Int) % 50 = (f : Int) := by rw [← hf]; exact (Int.natCast_emod _ _).symm
    clear hf
    obtain ⟨n, hxy⟩ : ∃ n, x * y = n := ⟨_, rfl⟩
    have hn2 : 8 ≤ n ∧ n ≤ 2048 := by
      rw [← hxy]
      exact ⟨Nat.le_trans (by decide) (Nat.mul_le_mul hx1 hy1), Nat.le_trans (Nat.mul_le_mul hx2 hy2) (by decide)⟩
    have g3 : wrap64 ((x : Int) * (y : Int)) = (n : Int) := by rw [← Int.natCast_mul, hxy]; exact IntWalk.wrap64_in _ (by omega)
    have mk := Lib.hid (fun w => We.run_makeF w n (by omega))
    replace hxy := Lib.hid hxy
    replace hn2 := Lib.hid hn2
    replace hx1 := Lib.hid hx1
    replace hx2 := Lib.hid hx2
    replace hy1 := Lib.hid hy1
    replace hy2 := Lib.hid hy2
    replace hf5 := Lib.hid hf5
    go_enter Try.func4, Try.ntmps4
    go_wp2_with (go_at_call 7; (with_reducible refine ha.out.mono ?_); clear ha; rintro e w1 ⟨rfl, hb1⟩; have b1 := Lib.hid (bx.out.below hb1); obtain ⟨c0, c1, c2, c3⟩ := b1.out.cells; replace hb1 := Lib.hid (We.below_trans hb.out hb1); clear bx hb)
    go_wp2_with (go_at_call 9; (with_reducible refine (hr.out _).mono ?_); clear hr; rintro e w2 ⟨rfl, hb2⟩; have b2 := Lib.hid (b1.out.below hb2); clear c0 c1 c2 c3; obtain ⟨c0, c1, c2, c3⟩ := b2.out.cells; replace hb2 := Lib.hid (We.below_trans hb1.out hb2); clear b1 hb1)
    go_wp2_with (go_at_call 8; (with_reducible refine (hn.out _).mono ?_); clear hn; rintro e w3 ⟨G, rfl, hb3, f3⟩; have b3 := Lib.hid (b2.out.below hb3); have hgl := Lib.hid b2.out.lt; have hlo := Lib.hid hb2.out.size; have hsz := Lib.hid hb3.size; replace hb3 := Lib.hid (We.below_trans hb2.out hb3); replace f3 := Lib.hid f3; clear c0 c1 c2 c3 b2 hb2; obtain ⟨c0, c1, c2, c3⟩ := b3.out.cells)
    have hlo2 := Lib.hid (show w.heap.size ≤ w2.heap.size from hlo.out)
    clear c0 c1 c2 c3
    have hhi := Lib.hid (Nat.le_refl w3.heap.size)
    generalize w2.heap.size = lo at *
    obtain ⟨hi, hhi⟩ : ∃ hi, Hid (hi = w3.heap.size) := ⟨_, Lib.hid rfl⟩
    rw [← hhi.out] at f3 hsz
    rw [g3]
    go_loopw [7] (fun q wr => ∃ k : Nat, q = .int .i64 (k : Int) ∧ k ≤ f ∧ Hid (Q wr lo hi G (x : Int) (y : Int) W K k) ∧ Hid (G4 wr w.heap.size (x : Int) (y : Int) W K) ∧ Hid (Below w.heap.size w wr) ∧ Hid (hi ≤ wr.heap.size)) (fun q _ => f - (intOf q).toNat)
    case atStart => exact ⟨0, rfl, Nat.zero_le _, f3, b3, hb3, Lib.hid (Nat.le_of_eq hhi.out)⟩
    case round =>
      obtain ⟨k, rfl, hkf, fr, br, Br, hr⟩ := hrel
      clear f3 b3 hb3
      by_cases hk : k < f
      · have d1 : decide (k < f) = true := decide_eq_true hk
        have d2 : decide ((k : Int) < (f : Int)) = true := decide_eq_true (by omega)
        have hk1 : wrap64 ((k : Int) + 1) = ((k + 1 : Nat) : Int) := by have := hf5.out; rw [IntWalk.wrap64_in _ (by omega)]; omega
        have hc := Lib.hid (next_lit C'.out Br.out hlo.out fr.out (by have := hf5.out; omega) _ _ rfl)
        go_wp2_with (go_at_call 10; (with_reducible refine hc.out.mono ?_); clear hc; rintro e w7 ⟨rfl, B7, F7, k7⟩; have b7 := Lib.hid (br.out.out k7 hgl.out); have h7 := Lib.hid (Nat.le_trans hr.out k7.size); replace B7 := Lib.hid B7; replace F7 := Lib.hid F7; clear fr br Br k7)
        go_roundw
        case rel => exact ⟨k + 1, rfl, by omega, F7, b7, B7, h7⟩
        case measure => simp only [intOf]; omega
      · obtain rfl : k = f := by omega
        have d1 : decide (k < k) = false := decide_eq_false (by omega)
        have d2 : decide ((k : Int) < (k : Int)) = false := decide_eq_false (by omega)
        have mk4 := mk.out wr
        clear mk
        go_wp2_with fail
        have hba := We.below_alloc wr (.cells (We.zF n) 4)
        have p1 := Lib.hid (We.PV.bools wr n)
        have fa := Lib.hid (PC.below C'.out fr.out hba)
        have ba := Lib.hid (br.out.below hba)
        have Ba := Lib.hid (We.below_trans Br.out hba)
        have hg := Lib.hid (show hi ≤ wr.heap.size ∧ w.heap.size < wr.heap.size ∧ w.heap.size ≤ wr.heap.size from ⟨hr.out, br.out.lt, Nat.le_of_lt br.out.lt⟩)
        clear mk4 hba fr br Br hr g1 g2 d1 d2 hk hkf
        generalize wr.alloc (.cells (We.zF n) 4) = wa at *
        generalize wr.heap.size = gs at *
        go_loopw [9] (fun q wb => ∃ i : Nat, q = .int .i64 (i : Int) ∧ i ≤ n ∧ Hid (Q wb lo hi G (x : Int) (y : Int) W K (k + i)) ∧ Hid (G4 wb w.heap.size (x : Int) (y : Int) W K) ∧ Hid (Below w.heap.size w wb) ∧ Hid (We.PV wb 4 gs n (We.bF (seenF k n i)))) (fun q _ => n - (intOf q).toNat)
        case atStart => exact ⟨0, rfl, Nat.zero_le _, fa, ba, Ba, p1⟩
        case round =>
          obtain ⟨i, rfl, hin, fr, br, Br, pr⟩ := hrel
          clear fa ba Ba p1
          by_cases hi' : i < n
          · have d1 : decide (i < n) = true := decide_eq_true hi'
            have d2 : decide ((i : Int) < (n : Int)) = true := decide_eq_true (by omega)
            have hk1 : wrap64 ((i : Int) + 1) = ((i + 1 : Nat) : Int) := by have := hn2.out; rw [IntWalk.wrap64_in _ (by omega)]; omega
            have hki : k + i ≤ 1000000 := by have := hf5.out; have := hn2.out; omega
            have hnl : 0 < n := Nat.lt_of_lt_of_le (by decide) hn2.out.1
            obtain ⟨q, b, r, m, hq, hqh, hv, e3, e4, t1, t2, t3, t4, t5, t6, hqI⟩ := vis_at (k := k + i) hm'.out hy1.out hx2.out hy2.out hxy.out hnl
            have hc := Lib.hid (next_lit C'.out Br.out hlo.out fr.out hki _ _ hv.out)
            have hsn := Lib.hid (seen_next (f := k) hi')
            have hst := Lib.hid (fun j => seen_set k n i q j hq.out)
            rw [hq.out] at hsn
            clear hv hq hki hnl
            go_wp2_with (go_at_call 10; (with_reducible refine hc.out.mono ?_); clear hc; rintro e w7 ⟨rfl, B7, F7, k7⟩; have b7 := Lib.hid (br.out.out k7 hgl.out); have p7 := Lib.hid (pr.out.keep (k7.block gs pr.out.lt (fun h => by have := hg.out.1; omega))); have s7 : w7.cell? ⟨gs, q, none⟩ = some (.bool false) := (p7.out.cell hqh.out).trans (congrArg (fun v => some (Value.bool v)) hsn.out); have s8 := p7.out.frozen q; obtain ⟨c0, c1, c2, c3⟩ := b7.out.cells; replace B7 := Lib.hid B7; replace F7 := Lib.hid F7; clear fr br Br k7 pr)
            have hset := Lib.hid ((p7.out.set_ q (.bool true)).congr fun j _ => hst.out j)
            have Fs := Lib.hid (C'.out.keep F7.out (w' := w7.setCell ⟨gs, q, none⟩ (.bool true)) fun c _ h2 _ => We.setCell_block w7 _ (by have := hg.out.1; omega))
            have bs := Lib.hid (b7.out.keep (w' := w7.setCell ⟨gs, q, none⟩ (.bool true)) (We.setCell_block w7 _ (by have := hg.out.2.1; omega)))
            have Bs := Lib.hid (We.below_set B7.out hg.out.2.2 (i := q) (.bool true))
            go_roundw
            case rel => exact ⟨i + 1, by rw [hk1], hi', Fs, bs, Bs, hset⟩
            case measure => rw [hk1]; simp only [intOf, Int.toNat_natCast]; exact Nat.sub_lt_sub_left hi' (Nat.lt_succ_self i)
          · obtain rfl : i = n := by omega
            have d1 : decide (i < i) = false := decide_eq_false (by omega)
            have d2 : decide ((i : Int) < (i : Int)) = false := decide_eq_false (by omega)
            go_wp2_with fail
            go_ret
            exact ⟨rfl, Br.out⟩
end
end Go.Proofs.Ytmmpcgmhcaianaa.Pt
