/- Drift moves one cell. -/
import Derived.Test.YtnndhbppgmnefaaYf
namespace Go.Proofs.Ytnndhbppgmnefaa
open Go.RowKit Go.Gf Go.Fl
set_option linter.unusedVariables false
set_option linter.unusedSimpArgs false
section
variable {w w' : World} {F F' : Nat → Prop} {p : Addr} {ps : List (Int × Int)} {ss : List Nat} {st : Int}
/-- what is refused moves nothing -/
theorem drift_not (h : Page w F p ps ss st) (i : Int) {x y : Nat} {B : Bool} (hm : ∀ w, Calls Try.prog 48 #[.complex .f64 x y, .func (.func 49) #[] #[]] w fun e w' => e = .returned (.bool B) ∧ w = w') (hno : st ≠ 1 ∨ i < 0 ∨ (ps.length : Int) ≤ i ∨ B = false) :
    Calls Try.prog 32 #[.pointer (some p), .int .i64 i, .complex .f64 x y] w fun e w' => e = .returned (.bool false) ∧ w = w' := by
  obtain ⟨⟨g, k, d, rfl, hg, hgl, hk', hkl, hgk, hfr, c0, c1, hr, hc⟩, hbd, hsm⟩ := h
  clear hr hc hbd
  generalize ps.length = n at *
  replace hm := Lib.hid hm
  have b1 : (st != 1) = !decide (st = 1) := by rfl
  by_cases h1 : st = 1
  · subst h1
    by_cases h2 : i < 0
    · clear hno
      go_enter Try.func32, Try.ntmps32
      go_wp2_with (go_at_call 48; (with_reducible refine (hm.out _).mono ?_); rintro e w1 ⟨rfl, rfl⟩)
      go_ret
      exact ⟨rfl, rfl⟩
    · by_cases h3 : (n : Int) ≤ i
      · clear hno
        go_enter Try.func32, Try.ntmps32
        go_wp2_with (go_at_call 48; (with_reducible refine (hm.out _).mono ?_); rintro e w1 ⟨rfl, rfl⟩)
        go_ret
        exact ⟨rfl, rfl⟩
      · obtain rfl : B = false := by
          rcases hno with e | e | e | e
          · exact absurd rfl e
          · exact absurd e h2
          · exact absurd e h3
          · exact e
        clear hno
        go_enter Try.func32, Try.ntmps32
        go_wp2_with (go_at_call 48; (with_reducible refine (hm.out _).mono ?_); rintro e w1 ⟨rfl, rfl⟩)
        go_ret
        exact ⟨rfl, rfl⟩
  · rw [decide_eq_false h1] at b1
    clear hno
    go_enter Try.func32, Try.ntmps32
    go_wp2_with (go_at_call 48; (with_reducible refine (hm.out _).mono ?_); rintro e w1 ⟨rfl, rfl⟩)
    go_ret
    exact ⟨rfl, rfl⟩
theorem move_whole {x : Nat} {a : Int} (hx : Is x (a : Rat)) (ha : -1000000 ≤ a ∧ a ≤ 1000000) (w : World) : Calls Try.prog 49 #[.float .f64 x] w fun e w' => e = .returned (.bool (decide (-62 ≤ a ∧ a ≤ 62))) ∧ w = w' := by
  refine move_any hx ?_ ?_ _ ?_ w
  · have h1 : ((-4503599627370496 : Int) : Rat) ≤ (a : Rat) := Rat.intCast_le_intCast.2 (by omega)
    have e : ((-4503599627370496 : Int) : Rat) = -4503599627370496 := rfl
    rw [e] at h1; exact h1
  · have h1 : (a : Rat) ≤ ((4503599627370496 : Int) : Rat) := Rat.intCast_le_intCast.2 (by omega)
    have e : ((4503599627370496 : Int) : Rat) = 4503599627370496 := rfl
    rw [e] at h1; exact h1
  · rw [decide_eq_true_eq]
    constructor
    · exact fun h => ⟨a, rfl, h⟩
    · rintro ⟨b, hb, h⟩
      obtain rfl := Rat.intCast_inj.1 hb
      exact h
theorem add_whole {x y : Nat} {a b : Int} (hx : Is x (a : Rat)) (hy : Is y (b : Rat)) (ha : -1000000 ≤ a ∧ a ≤ 1000000) (hb : -1000000 ≤ b ∧ b ≤ 1000000) : ∃ r, floatBits .add .f64 x y = some r ∧ Is r ((a + b : Int) : Rat) :=
  add_exact hx hy (Rat.intCast_add a b).symm (rep_int _ (by omega))
attribute [local go_sem] run_store_cx
set_option maxHeartbeats 2000000 in
theorem drift_go (h : Page w F p ps ss 1) (hF : ∀ b, w.heap.size ≤ b → F b) {i : Nat} (hi : i < ps.length) {x y : Nat} {a b : Int} (hx : Is x (a : Rat)) (hy : Is y (b : Rat)) (ha : -62 ≤ a ∧ a ≤ 62) (hb : -62 ≤ b ∧ b ≤ 62) :
    Calls Try.prog 32 #[.pointer (some p), .int .i64 (i : Int), .complex .f64 x y] w fun e w' => e = .returned (.bool (decide (-1000 ≤ (ptAt ps i).1 + a ∧ (ptAt ps i).1 + a ≤ 1000) && decide (-1000 ≤ (ptAt ps i).2 + b ∧ (ptAt ps i).2 + b ≤ 1000))) ∧ Cl.Keeps (fun b => ¬ F b) w w' ∧
      Page w' F p (if (decide (-1000 ≤ (ptAt ps i).1 + a ∧ (ptAt ps i).1 + a ≤ 1000) && decide (-1000 ≤ (ptAt ps i).2 + b ∧ (ptAt ps i).2 + b ≤ 1000)) = true then movP ps i a b else ps) ss 1 := by
  have hpage := h
  obtain ⟨⟨g, k, d, rfl, hg, hgl, hk', hkl, hgk, hfr, c0, c1, hr, hc⟩, hbd, hsm⟩ := h
  have hm := Lib.hid (each_any (f := 49) (fun w => move_whole hx (by omega) w) (fun _ w => move_whole hy (by omega) w) (Or.inl rfl))
  rw [decide_eq_true ha, decide_eq_true hb] at hm
  obtain ⟨⟨x0, y0, hxy, hx0, hy0⟩, s0, hs0, hs0x⟩ := hc i hi
  have hbi := hbd i
  obtain ⟨n, hn⟩ : ∃ n, ps.length = n := ⟨_, rfl⟩
  rw [hn] at c0 hr hi
  obtain ⟨q, hq⟩ : ∃ q, ptAt ps i = q := ⟨_, rfl⟩
  rw [hq] at hx0 hy0 hbi ⊢
  obtain ⟨u, v⟩ := q
  dsimp only at hx0 hy0 hbi ⊢
  obtain ⟨re, hre, hire⟩ := add_whole hx0 hx (by omega) (by omega)
  obtain ⟨im, him, hiim⟩ := add_whole hy0 hy (by omega) (by omega)
  have hcs : cSumBits .add .f64 x0 y0 x y = some (re, im) := by unfold cSumBits; rw [hre, him]; rfl
  have hop := fun t w => run_complex_sum (P := Try.prog) w .add (Or.inl rfl) t .f64 _ _ _ _ re im hcs
  have hn2 := Lib.hid (each_any (f := 50) (fun w => near_any hire w) (fun _ w => near_any hiim w) (Or.inr rfl))
  generalize hB1 : decide (-1000 ≤ u + a ∧ u + a ≤ 1000) = B1 at *
  generalize hB2 : decide (-1000 ≤ v + b ∧ v + b ≤ 1000) = B2 at *
  generalize hB : (B1 && B2) = B at *
  have hfrk := hr.frozen (i * 2)
  have hiI : (i : Int) < (n : Int) := by omega
  have h6 : i < 65536 := by omega
  replace hr := Lib.hid hr
  replace hc := Lib.hid hc
  replace hbd := Lib.hid hbd
  replace hn := Lib.hid hn
  replace hq := Lib.hid hq
  replace hB1 := Lib.hid hB1
  replace hB2 := Lib.hid hB2
  replace hB := Lib.hid hB
  replace hs0x := Lib.hid hs0x
  replace hpage := Lib.hid hpage
  clear hcs hre him hx0 hy0 hx hy
  cases B
  · clear hc hr hbd hs0
    go_enter Try.func32, Try.ntmps32
    go_wp2_with (first | (go_at_call 48; (with_reducible refine (hm.out _).mono ?_); rintro e w1 ⟨rfl, rfl⟩) | simp only [hop] | (go_at_call 48; (with_reducible refine (hn2.out _).mono ?_); rintro e w1 ⟨rfl, rfl⟩))
    go_ret
    exact ⟨rfl, Cl.Keeps.refl _ _, hpage.out⟩
  · clear hpage
    go_enter Try.func32, Try.ntmps32
    go_wp2_with (first | (go_at_call 48; (with_reducible refine (hm.out _).mono ?_); rintro e w1 ⟨rfl, rfl⟩) | simp only [hop] | (go_at_call 48; (with_reducible refine (hn2.out _).mono ?_); rintro e w1 ⟨rfl, rfl⟩))
    go_ret
    have hK2 : Cl.Keeps (fun b => ¬ F b) w (w.setCell ⟨k, i * 2, none⟩ (.complex .f64 re im)) := keeps_put (Cl.Keeps.refl _ _) (fun h => h hk')
    have hgr : (w.setCell ⟨k, i * 2, none⟩ (.complex .f64 re im)).heap[g]? = w.heap[g]? := Below.heap_setCell _ _ _ _ (by show g ≠ k; exact hgk)
    have hsz := hK2.size
    have hB := hB.out
    rw [Bool.and_eq_true, ← hB1.out, ← hB2.out, decide_eq_true_eq, decide_eq_true_eq] at hB
    have hlen : (movP ps i a b).length = n := by unfold movP; rw [List.length_set]; exact hn.out
    have hat : ∀ j, ptAt (movP ps i a b) j = if j = i then (u + a, v + b) else ptAt ps j := fun j => by
      unfold movP
      rw [hq.out]
      by_cases e : j = i
      · subst e
        rw [if_pos rfl]
        unfold ptAt
        rw [List.getD_eq_getElem?_getD, List.getElem?_set_self (by rw [hn.out]; exact hi)]; rfl
      · rw [if_neg e]
        unfold ptAt
        rw [List.getD_eq_getElem?_getD, List.getElem?_set_ne (fun h => e h.symm), List.getD_eq_getElem?_getD]
    refine ⟨rfl, hK2, ⟨⟨g, k, d, rfl, hg, by omega, hk', by omega, hgk, fun j => ?_, ?_, ?_, ?_, fun j hj => ?_⟩, fun j => ?_, ?_⟩⟩
    · rw [World.frozen?_setCell]; exact hfr j
    · rw [hlen, World.cell?_of_block hgr]; exact c0
    · rw [World.cell?_of_block hgr]; exact c1
    · rw [hlen]; exact hr.out.set_ _ _
    · rw [hlen] at hj
      rw [hat]
      by_cases e : j = i
      · subst e
        rw [if_pos rfl]
        exact ⟨⟨re, im, World.cell?_setCell_same _ _ _ hxy, hire, hiim⟩, s0, (World.cell?_setCell_other _ _ _ _ (by intro e; injection e; omega)).trans hs0, fun _ => hs0x.out trivial⟩
      · rw [if_neg e]
        obtain ⟨⟨x1, y1, q1, q2, q3⟩, s1, q4, q5⟩ := hc.out j (by rw [hn.out]; exact hj)
        exact ⟨⟨x1, y1, (World.cell?_setCell_other _ _ _ _ (by intro e; injection e; omega)).trans q1, q2, q3⟩, s1, (World.cell?_setCell_other _ _ _ _ (by intro e; injection e; omega)).trans q4, q5⟩
    · rw [hat]
      split
      · dsimp only; omega
      · exact hbd.out j
    · rw [hlen, ← hn.out]; exact hsm
theorem p_drift (h : Page w F p ps ss st) (hF : ∀ b, w.heap.size ≤ b → F b) {x y : Nat} {a b : Int} (hx : Is x (a : Rat)) (hy : Is y (b : Rat)) (ha : -1000000 ≤ a ∧ a ≤ 1000000) (hb : -1000000 ≤ b ∧ b ≤ 1000000) (i : Int) :
    Calls Try.prog 32 #[.pointer (some p), .int .i64 i, .complex .f64 x y] w fun e w' => e = .returned (.bool (movB ps st i a b)) ∧ Cl.Keeps (fun b => ¬ F b) w w' ∧ Page w' F p (if movB ps st i a b = true then movP ps i.toNat a b else ps) ss st := by
  by_cases hgo : st = 1 ∧ 0 ≤ i ∧ i < (ps.length : Int) ∧ -62 ≤ a ∧ a ≤ 62 ∧ -62 ≤ b ∧ b ≤ 62
  · obtain ⟨rfl, h0, hl, ha1, ha2, hb1, hb2⟩ := hgo
    obtain ⟨j, rfl⟩ : ∃ j : Nat, i = (j : Int) := ⟨i.toNat, by omega⟩
    have e : movB ps 1 (j : Int) a b = (decide (-1000 ≤ (ptAt ps j).1 + a ∧ (ptAt ps j).1 + a ≤ 1000) && decide (-1000 ≤ (ptAt ps j).2 + b ∧ (ptAt ps j).2 + b ≤ 1000)) := by
      unfold movB
      rw [Int.toNat_natCast, Bool.eq_iff_iff, Bool.and_eq_true, decide_eq_true_eq, decide_eq_true_eq, decide_eq_true_eq]
      omega
    rw [e, Int.toNat_natCast]
    exact drift_go h hF (by omega) hx hy ⟨ha1, ha2⟩ ⟨hb1, hb2⟩
  · have e : movB ps st i a b = false := by
      unfold movB
      rw [decide_eq_false_iff_not]
      intro h
      exact hgo ⟨h.1, h.2.1, h.2.2.1, h.2.2.2.1, h.2.2.2.2.1, h.2.2.2.2.2.1, h.2.2.2.2.2.2.1⟩
    rw [e]
    refine (drift_not h i (each_any (f := 49) (fun w => move_whole hx ha w) (fun _ w => move_whole hy hb w) (Or.inl rfl)) ?_).mono ?_
    · by_cases h1 : st = 1
      · by_cases h2 : i < 0
        · exact Or.inr (Or.inl h2)
        · by_cases h3 : (ps.length : Int) ≤ i
          · exact Or.inr (Or.inr (Or.inl h3))
          · refine Or.inr (Or.inr (Or.inr ?_))
            rw [Bool.and_eq_false_iff, decide_eq_false_iff_not, decide_eq_false_iff_not]
            by_cases h4 : -62 ≤ a ∧ a ≤ 62
            · exact Or.inr fun h5 => hgo ⟨h1, by omega, by omega, h4.1, h4.2, h5.1, h5.2⟩
            · exact Or.inl h4
      · exact Or.inl h1
    · rintro e w' ⟨rfl, rfl⟩
      rw [if_neg (by decide)]
      exact ⟨rfl, Cl.Keeps.refl _ _, h⟩
/-- moved by what is not whole -/
theorem p_part (h : Page w F p ps ss st) {x y : Nat} {q r : Rat} (hx : Is x q) (hy : Is y r) (hq : ∀ n : Int, q ≠ (n : Rat)) (b1 : -4503599627370496 ≤ q) (b2 : q ≤ 4503599627370496) (i : Int) : Calls Try.prog 32 #[.pointer (some p), .int .i64 i, .complex .f64 x y] w (Ans w (.bool false)) := by
  refine (drift_not (B := false) h i (each_any (f := 49) (B1 := false) (B2 := false) (fun w => move_any hx b1 b2 false (by
    constructor
    · intro h; cases h
    · rintro ⟨a, h, _⟩; exact absurd h (hq a)) w) (fun h => by cases h) (Or.inl rfl)) (Or.inr (Or.inr (Or.inr rfl)))).mono ?_
  rintro e w' ⟨rfl, rfl⟩
  exact ⟨rfl, Below.refl _ _⟩
end
end Go.Proofs.Ytnndhbppgmnefaa
