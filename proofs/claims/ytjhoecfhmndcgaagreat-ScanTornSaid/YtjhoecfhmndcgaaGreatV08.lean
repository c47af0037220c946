/- What orders fates, and what may not befall: the program's small functions. · Whether one of a row may not befall, and whether two side by side befall one operation. -/
import Derived.Test.YtjhoecfhmndcgaaGreatV07
import Derived.Sort.Grow
namespace Go.Proofs.YtjhoecfhmndcgaaGreat.Ft
open Go.RowKit
set_option linter.unusedVariables false
set_option linter.unusedSimpArgs false

def cmpI (x y : Int) : Int := if x < y then -1 else if y < x then 1 else 0
theorem cmpI_lt (x y : Int) : cmpI x y < 0 ↔ x < y := by unfold cmpI; split <;> (try split) <;> omega
theorem cmpI_eq (x y : Int) : cmpI x y = 0 ↔ x = y := by unfold cmpI; split <;> (try split) <;> omega
theorem isnan_any (x : Int) (w : World) : Calls Tryz.prog 70 #[.int .i64 x] w fun e w' => e = .returned (.bool false) ∧ w = w' := by
  have h : (x != x) = false := by simp
  go_enter Tryz.func70, Tryz.ntmps70
  go_wp2_with fail
  go_ret
  exact ⟨rfl, rfl⟩
set_option maxHeartbeats 1000000 in
theorem cmp_any (x y : Int) (w : World) : Calls Tryz.prog 45 #[.int .i64 x, .int .i64 y] w fun e w' => e = .returned (.int .i64 (cmpI x y)) ∧ w = w' := by
  have hx := Lib.hid (isnan_any x w)
  have hy := Lib.hid (isnan_any y w)
  rcases Int.lt_trichotomy x y with h | h | h
  · have e : cmpI x y = -1 := by unfold cmpI; rw [if_pos h]
    rw [e]
    go_enter Tryz.func45, Tryz.ntmps45
    go_wp2_with (go_at_call 70; (first | (with_reducible refine hx.out.mono ?_) | (with_reducible refine hy.out.mono ?_)); rintro e w1 ⟨rfl, rfl⟩)
    go_ret
    exact ⟨rfl, rfl⟩
  · have e : cmpI x y = 0 := by unfold cmpI; rw [if_neg (by omega), if_neg (by omega)]
    rw [e]
    have h1 : ¬ x < y := by omega
    have h2 : ¬ y < x := by omega
    clear h e
    go_enter Tryz.func45, Tryz.ntmps45
    go_wp2_with (go_at_call 70; (first | (with_reducible refine hx.out.mono ?_) | (with_reducible refine hy.out.mono ?_)); rintro e w1 ⟨rfl, rfl⟩)
    go_ret
    exact ⟨rfl, rfl⟩
  · have e : cmpI x y = 1 := by unfold cmpI; rw [if_neg (by omega), if_pos h]
    rw [e]
    have h1 : ¬ x < y := by omega
    go_enter Tryz.func45, Tryz.ntmps45
    go_wp2_with (go_at_call 70; (first | (with_reducible refine hx.out.mono ?_) | (with_reducible refine hy.out.mono ?_)); rintro e w1 ⟨rfl, rfl⟩)
    go_ret
    exact ⟨rfl, rfl⟩
set_option maxHeartbeats 1000000 in
theorem earlier_any (x y : Int × Int × Int) (W : World) : Calls Tryz.prog 53 #[.agg #[.int .i64 x.1, .int .i64 x.2.1, .int .i64 x.2.2], .agg #[.int .i64 y.1, .int .i64 y.2.1, .int .i64 y.2.2]] W fun e w' => e = .returned (.int .i64 (cmpI x.1 y.1)) ∧ ∃ q os', w' = Sort.grow (W.drewN q) os' := by
  have hcon := fun W' => Lib.hid (cmp_any x.1 y.1 W')
  generalize cmpI x.1 y.1 = r at *
  go_enter Tryz.func53, Tryz.ntmps53
  go_wp2_with (go_at_call 45; (with_reducible refine (hcon _).out.mono ?_); rintro e w1 ⟨rfl, rfl⟩)
  go_ret
  exact ⟨rfl, 0, _, by rw [Sort.alloc_eq_grow, Sort.alloc_eq_grow, Sort.grow_grow]; rfl⟩
theorem against_any (x : Int × Int × Int) (n : Int) (W : World) : Calls Tryz.prog 107 #[.agg #[.int .i64 x.1, .int .i64 x.2.1, .int .i64 x.2.2], .int .i64 n] W (Ans W (.int .i64 (cmpI x.1 n))) := by
  have hcon := fun W' => Lib.hid (cmp_any x.1 n W')
  generalize cmpI x.1 n = r at *
  go_enter Tryz.func107, Tryz.ntmps107
  go_wp2_with (go_at_call 45; (with_reducible refine (hcon _).out.mono ?_); rintro e w1 ⟨rfl, rfl⟩)
  go_ret
  exact ⟨rfl, below_alloc _ _⟩
set_option maxHeartbeats 1000000 in
theorem never_any (x : Int × Int × Int) (W : World) : Calls Tryz.prog 50 #[.agg #[.int .i64 x.1, .int .i64 x.2.1, .int .i64 x.2.2]] W (Ans W (.bool (!okT x))) := by
  obtain ⟨P, Q, R⟩ := x
  have hb := fun T => Lib.hid (below_alloc W (.cells #[.int .i64 P, .int .i64 Q, .int .i64 R] T))
  rcases Int.lt_or_le P 0 with h1 | h1
  · rw [show okT (P, Q, R) = false from decide_eq_false (by intro h; omega)]
    go_enter Tryz.func50, Tryz.ntmps50
    go_wp2_with fail
    go_ret
    exact ⟨rfl, (hb _).out⟩
  rcases Int.lt_or_le 1099511627776 P with h2 | h2
  · rw [show okT (P, Q, R) = false from decide_eq_false (by intro h; omega)]
    go_enter Tryz.func50, Tryz.ntmps50
    go_wp2_with fail
    go_ret
    exact ⟨rfl, (hb _).out⟩
  rcases Int.lt_or_le R 0 with h3 | h3
  · rw [show okT (P, Q, R) = false from decide_eq_false (by intro h; have := h.2.2.2; dsimp only at this; omega)]
    rcases (by omega : Q = 1 ∨ Q ≠ 1) with rfl | h4
    · go_enter Tryz.func50, Tryz.ntmps50
      go_wp2_with fail
      go_ret
      exact ⟨rfl, (hb _).out⟩
    · have e4 : (Q != 1) = true := by simpa using h4
      rcases (by omega : Q = 2 ∨ Q ≠ 2) with rfl | h5
      · go_enter Tryz.func50, Tryz.ntmps50
        go_wp2_with fail
        go_ret
        exact ⟨rfl, (hb _).out⟩
      · have e5 : (Q != 2) = true := by simpa using h5
        go_enter Tryz.func50, Tryz.ntmps50
        go_wp2_with fail
        go_ret
        exact ⟨rfl, (hb _).out⟩
  · have d1 : decide (P < 0) = false := decide_eq_false (by omega)
    have d2 : decide (1099511627776 < P) = false := decide_eq_false (by omega)
    have d3 : decide (R < 0) = false := decide_eq_false (by omega)
    rcases (by omega : Q = 1 ∨ Q ≠ 1) with rfl | h4
    · rw [show okT (P, 1, R) = true from decide_eq_true ⟨h1, h2, Or.inl rfl, h3⟩]
      go_enter Tryz.func50, Tryz.ntmps50
      go_wp2_with fail
      go_ret
      exact ⟨rfl, (hb _).out⟩
    · have e4 : (Q != 1) = true := by simpa using h4
      rcases (by omega : Q = 2 ∨ Q ≠ 2) with rfl | h5
      · rw [show okT (P, 2, R) = true from decide_eq_true ⟨h1, h2, Or.inr rfl, h3⟩]
        clear h4 e4
        go_enter Tryz.func50, Tryz.ntmps50
        go_wp2_with fail
        go_ret
        exact ⟨rfl, (hb _).out⟩
      · rw [show okT (P, Q, R) = false from decide_eq_false (fun h => by
                                                                              rcases h.2.2.1 with h | h
                                                                              · exact h4 h
                                                                              · exact h5 h)]
        have e5 : (Q != 2) = true := by simpa using h5
        go_enter Tryz.func50, Tryz.ntmps50
        go_wp2_with fail
        go_ret
        exact ⟨rfl, (hb _).out⟩
end Go.Proofs.YtjhoecfhmndcgaaGreat.Ft
namespace Go.Proofs.YtjhoecfhmndcgaaGreat.Ft
open Go.RowKit
set_option linter.unusedVariables false
set_option linter.unusedSimpArgs false

/-- one of them may not be -/
def badT (ts : List (Int × Int × Int)) : Bool := (List.range ts.length).any fun i => !okT (tAt ts i)
theorem bad_none {ts : List (Int × Int × Int)} (h : ∀ k, k < ts.length → okT (tAt ts k) = true) : badT ts = false := by
  rw [Bool.eq_false_iff]
  intro e
  obtain ⟨i, hi, h2⟩ := List.any_eq_true.1 e
  rw [h i (List.mem_range.1 hi)] at h2
  cases h2
theorem bad_some {ts : List (Int × Int × Int)} {k : Nat} (hk : k < ts.length) (h : okT (tAt ts k) = false) : badT ts = true :=
  List.any_eq_true.2 ⟨k, List.mem_range.2 hk, by rw [h]; rfl⟩
theorem ok_of_bad {ts : List (Int × Int × Int)} (h : badT ts = false) {k : Nat} (hk : k < ts.length) : okT (tAt ts k) = true := by
  cases e : okT (tAt ts k)
  · rw [bad_some hk e] at h; cases h
  · rfl
set_option maxHeartbeats 2000000 in
theorem index_any (A : Option Addr) (c n : Nat) (ts : List (Int × Int × Int)) (w : World) (h : S3 w w.heap.size A ts) (hn : ts.length = n) (hl : n ≤ 1000000) :
    Calls Tryz.prog 71 #[.slice A n c, .func (.func 50) #[] #[]] w fun e w' => (∃ k : Int, e = .returned (.int .i64 k) ∧ badT ts = decide (0 ≤ k)) ∧ Below w.heap.size w w' := by
  have H := Lib.hid h
  clear h
  have hno : Hid ((∀ k, k < n → okT (tAt ts k) = true) → badT ts = false) := fun h => bad_none (by rw [hn]; exact h)
  have hyes : Hid (∀ {k : Nat} (hk : k < n), okT (tAt ts k) = false → badT ts = true) := fun hk h => bad_some (by rw [hn]; exact hk) h
  replace hn := Lib.hid hn
  generalize badT ts = T at *
  go_enter Tryz.func71, Tryz.ntmps71
  go_wp2_with fail
  go_loopw [8] (fun q wr => ∃ k : Nat, k ≤ n ∧ Hid (∀ j, j < k → okT (tAt ts j) = true) ∧ q = .int .i64 k ∧ Below w.heap.size w wr) (fun q _ => n - (intOf q).toNat)
  case atStart => exact ⟨0, Nat.zero_le _, Lib.hid (fun j h => absurd h (by omega)), rfl, Below.refl _ _⟩
  case round =>
    obtain ⟨k, hk, HK, rfl, hB⟩ := hrel
    by_cases hlt : k < n
    · have hltI : (k : Int) < (n : Int) := by omega
      obtain ⟨a, rfl, hab, c0, c1, c2⟩ := (H.out.below hB).at_ (i := k) (by rw [hn.out]; exact hlt)
      obtain ⟨X, hX⟩ : ∃ X, Hid (tAt ts k = X) := ⟨_, Lib.hid rfl⟩
      rw [hX.out] at c0 c1 c2
      have hc := never_any X wr
      cases hb : okT X
      · obtain rfl := hyes.out hlt (by rw [hX.out]; exact hb)
        rw [hb] at hc
        replace hc := Lib.hid hc
        replace hB := Lib.hid hB
        clear hb
        go_wp2_with (go_at_call 50; (with_reducible refine hc.out.mono ?_); rintro e w1 ⟨rfl, hb1⟩; have hb1 := Lib.hid (hB.out.trans (hb1.mono hB.out.size)))
        go_ret
        exact ⟨⟨_, rfl, by rw [eq_comm, decide_eq_true_eq]; omega⟩, hb1.out⟩
      · rw [hb] at hc
        replace hc := Lib.hid hc
        have HK' : Hid (∀ j, j < k + 1 → okT (tAt ts j) = true) := fun j hjk => by
          rcases Nat.lt_or_ge j k with h1 | h1
          · exact HK.out j h1
          · obtain rfl : j = k := by omega
            rw [hX.out]; exact hb
        replace hB := Lib.hid hB
        clear hb HK
        go_wp2_with (go_at_call 50; (with_reducible refine hc.out.mono ?_); rintro e w1 ⟨rfl, hb1⟩; have hb1 := Lib.hid (hB.out.trans (hb1.mono hB.out.size)))
        go_round
        case rel => exact ⟨k + 1, by omega, HK', by go_num, hb1.out⟩
        case measure => simp [intOf]; omega
    · obtain rfl : k = n := by omega
      obtain rfl := hno.out (fun j hj => HK.out j hj)
      clear HK
      go_wp2_with fail
      go_ret
      exact ⟨⟨-1, rfl, by decide⟩, hB⟩
set_option maxHeartbeats 1000000 in
theorem contains_any (A : Option Addr) (c n : Nat) (ts : List (Int × Int × Int)) (w : World) (h : S3 w w.heap.size A ts) (hn : ts.length = n) (hl : n ≤ 1000000) :
    Calls Tryz.prog 49 #[.slice A n c, .func (.func 50) #[] #[]] w (Ans w (.bool (badT ts))) := by
  have hc := Lib.hid (index_any A c n ts w h hn hl)
  clear h hn
  generalize badT ts = T at *
  go_enter Tryz.func49, Tryz.ntmps49
  go_wp2_with (go_at_call 71; (with_reducible refine hc.out.mono ?_); rintro e w1 ⟨⟨k, rfl, hk⟩, hb⟩; have hb := Lib.hid hb)
  go_ret
  exact ⟨by rw [hk]; rfl, hb.out⟩
/-- two side by side befall one operation -/
def twT (ts : List (Int × Int × Int)) : Bool := (List.range (ts.length - 1)).any fun i => decide ((tAt ts (i + 1)).1 = (tAt ts i).1)
theorem tw_none {ts : List (Int × Int × Int)} (h : ∀ k, k + 1 < ts.length → (tAt ts (k + 1)).1 ≠ (tAt ts k).1) : twT ts = false := by
  rw [Bool.eq_false_iff]
  intro e
  obtain ⟨i, hi, h2⟩ := List.any_eq_true.1 e
  exact h i (by have := List.mem_range.1 hi; omega) (of_decide_eq_true h2)
theorem tw_some {ts : List (Int × Int × Int)} {k : Nat} (hk : k + 1 < ts.length) (h : (tAt ts (k + 1)).1 = (tAt ts k).1) : twT ts = true :=
  List.any_eq_true.2 ⟨k, List.mem_range.2 (by omega), decide_eq_true h⟩
set_option maxHeartbeats 2000000 in
theorem twice_any (A : Option Addr) (c n : Nat) (ts : List (Int × Int × Int)) (w : World) (h : S3 w w.heap.size A ts) (hn : ts.length = n) (hl : n ≤ 1000000) :
    Calls Tryz.prog 54 #[.slice A n c] w (Ans w (.bool (twT ts))) := by
  have H := Lib.hid h
  clear h
  have hno : Hid ((∀ k, k + 1 < n → (tAt ts (k + 1)).1 ≠ (tAt ts k).1) → twT ts = false) := fun h => tw_none (by rw [hn]; exact h)
  have hyes : Hid (∀ {k : Nat} (hk : k + 1 < n), (tAt ts (k + 1)).1 = (tAt ts k).1 → twT ts = true) := fun hk h => tw_some (by rw [hn]; exact hk) h
  replace hn := Lib.hid hn
  generalize twT ts = T at *
  go_enter Tryz.func54, Tryz.ntmps54
  go_wp2_with fail
  go_loopw [3] (fun q wr => ∃ k : Nat, (k < n ∨ k = 0) ∧ Hid (∀ j, j < k → (tAt ts (j + 1)).1 ≠ (tAt ts j).1) ∧ q = .int .i64 ((k + 1 : Nat) : Int) ∧ Below w.heap.size w wr) (fun q _ => n + 1 - (intOf q).toNat)
  case atStart => exact ⟨0, Or.inr rfl, Lib.hid (fun j h => absurd h (by omega)), rfl, Below.refl _ _⟩
  case round =>
    obtain ⟨k, hk, HK, rfl, hB⟩ := hrel
    obtain ⟨m, hm⟩ : ∃ m, m = k + 1 := ⟨_, rfl⟩
    rw [← hm]
    by_cases hlt : m < n
    · have hltI : (m : Int) < (n : Int) := by omega
      have hm1 : (m : Int) - 1 = (k : Int) := by omega
      have hkI : (k : Int) < (n : Int) := by omega
      have hkn : k < n := by omega
      obtain ⟨a, rfl, hab, c0, _, _⟩ := (H.out.below hB).at_ (i := m) (by rw [hn.out]; exact hlt)
      obtain ⟨a', e, _, d0, _, _⟩ := (H.out.below hB).at_ (i := k) (by rw [hn.out]; omega)
      injection e with e
      subst e
      obtain ⟨X, hX⟩ : ∃ X, Hid ((tAt ts m).1 = X) := ⟨_, Lib.hid rfl⟩
      obtain ⟨Y, hY⟩ : ∃ Y, Hid ((tAt ts k).1 = Y) := ⟨_, Lib.hid rfl⟩
      rw [hX.out] at c0
      rw [hY.out] at d0
      by_cases hXY : X = Y
      · obtain rfl := hyes.out (k := k) (by omega) (by rw [← hm, hX.out, hY.out]; exact hXY)
        have e1 : (X == Y) = true := by simpa using hXY
        replace hB := Lib.hid hB
        replace hm := Lib.hid hm
        clear hXY HK
        go_wp2_with fail
        go_quiet (fail)
        go_wp2_with fail
        go_ret
        exact ⟨rfl, (below_drewN hB.out _)⟩
      · have e1 : (X == Y) = false := by simpa using hXY
        have HK' : Hid (∀ j, j < m → (tAt ts (j + 1)).1 ≠ (tAt ts j).1) := fun j hj => by
          rcases Nat.lt_or_ge j k with h1 | h1
          · exact HK.out j h1
          · obtain rfl : j = k := by omega
            rw [← hm, hX.out, hY.out]; exact hXY
        replace hB := Lib.hid hB
        replace hm := Lib.hid hm
        clear hXY HK
        go_wp2_with fail
        go_quiet (fail)
        go_wp2_with fail
        go_round
        case rel => exact ⟨m, Or.inl hlt, HK', by go_num, below_drewN hB.out _⟩
        case measure => simp [intOf]; omega
    · have hnI : ¬ (m : Int) < (n : Int) := by omega
      obtain rfl := hno.out (fun j hj => HK.out j (by omega))
      replace hm := Lib.hid hm
      clear HK
      go_wp2_with fail
      go_ret
      exact ⟨rfl, hB⟩
end Go.Proofs.YtjhoecfhmndcgaaGreat.Ft
