/- Whether one of a row may not befall, and whether two side by side befall one operation. -/
import Derived.Test.YtfohnffhcfiliaaZi
namespace Go.Proofs.Ytfohnffhcfiliaa
open Go.RowKit
set_option linter.unusedVariables false
set_option linter.unusedSimpArgs false

/-- one of them may not be -/
def badT (ts : List (Int × Int × Int)) : Bool := (List.range ts.length).any fun i => !okT (tAt ts i)
theorem bad_none {ts : List (Int × Int × Int)} (h : ∀ k, k < ts.length → okT (tAt ts k) = true) : badT ts = false := by
  rw [Bool.eq_false_iff]
  intro e
  obtain ⟨i, hi, h2⟩ := List.any_eq_true.1 e
  rw [h i (List.mem_range.1 hi)] at h2
  cases h2
theorem bad_some {ts : List (Int × Int × Int)} {k : Nat} (hk : k < ts.length) (h : okT (tAt ts k) = false) : badT ts = true :=
  List.any_eq_true.2 ⟨k, List.mem_range.2 hk, by rw [h]; rfl⟩
theorem ok_of_bad {ts : List (Int × Int × Int)} (h : badT ts = false) {k : Nat} (hk : k < ts.length) : okT (tAt ts k) = true := by
  cases e : okT (tAt ts k)
  · rw [bad_some hk e] at h; cases h
  · rfl
set_option maxHeartbeats 2000000 in
theorem index_any (A : Option Addr) (c n : Nat) (ts : List (Int × Int × Int)) (w : World) (h : S3 w w.heap.size A ts) (hn : ts.length = n) (hl : n ≤ 1000000) :
    Calls Try.prog 18 #[.slice A n c, .func (.func 12) #[] #[]] w fun e w' => (∃ k : Int, e = .returned (.int .i64 k) ∧ badT ts = decide (0 ≤ k)) ∧ Below w.heap.size w w' := by
  have H := Lib.hid h
  clear h
  have hno : Hid ((∀ k, k < n → okT (tAt ts k) = true) → badT ts = false) := fun h => bad_none (by rw [hn]; exact h)
  have hyes : Hid (∀ {k : Nat} (hk : k < n), okT (tAt ts k) = false → badT ts = true) := fun hk h => bad_some (by rw [hn]; exact hk) h
  replace hn := Lib.hid hn
  generalize badT ts = T at *
  go_enter Try.func18, Try.ntmps18
  go_wp2_with fail
  go_loopw [8] (fun q wr => ∃ k : Nat, k ≤ n ∧ Hid (∀ j, j < k → okT (tAt ts j) = true) ∧ q = .int .i64 k ∧ Below w.heap.size w wr) (fun q _ => n - (intOf q).toNat)
  case atStart => exact ⟨0, Nat.zero_le _, Lib.hid (fun j h => absurd h (by omega)), rfl, Below.refl _ _⟩
  case round =>
    obtain ⟨k, hk, HK, rfl, hB⟩ := hrel
    by_cases hlt : k < n
    · have hltI : (k : Int) < (n : Int) := by omega
      obtain ⟨a, rfl, hab, c0, c1, c2⟩ := (H.out.below hB).at_ (i := k) (by rw [hn.out]; exact hlt)
      obtain ⟨X, hX⟩ : ∃ X, Hid (tAt ts k = X) := ⟨_, Lib.hid rfl⟩
      rw [hX.out] at c0 c1 c2
      have hc := never_any X wr
      cases hb : okT X
      · obtain rfl := hyes.out hlt (by rw [hX.out]; exact hb)
        rw [hb] at hc
        replace hc := Lib.hid hc
        replace hB := Lib.hid hB
        clear hb
        go_wp2_with (go_at_call 12; (with_reducible refine hc.out.mono ?_); rintro e w1 ⟨rfl, hb1⟩; have hb1 := Lib.hid (hB.out.trans (hb1.mono hB.out.size)))
        go_ret
        exact ⟨⟨_, rfl, by rw [eq_comm, decide_eq_true_eq]; omega⟩, hb1.out⟩
      · rw [hb] at hc
        replace hc := Lib.hid hc
        have HK' : Hid (∀ j, j < k + 1 → okT (tAt ts j) = true) := fun j hjk => by
          rcases Nat.lt_or_ge j k with h1 | h1
          · exact HK.out j h1
          · obtain rfl : j = k := by omega
            rw [hX.out]; exact hb
        replace hB := Lib.hid hB
        clear hb HK
        go_wp2_with (go_at_call 12; (with_reducible refine hc.out.mono ?_); rintro e w1 ⟨rfl, hb1⟩; have hb1 := Lib.hid (hB.out.trans (hb1.mono hB.out.size)))
        go_round
        case rel => exact ⟨k + 1, by omega, HK', by go_num, hb1.out⟩
        case measure => simp [intOf]; omega
    · obtain rfl : k = n := by omega
      obtain rfl := hno.out (fun j hj => HK.out j hj)
      clear HK
      go_wp2_with fail
      go_ret
      exact ⟨⟨-1, rfl, by decide⟩, hB⟩
set_option maxHeartbeats 1000000 in
theorem contains_any (A : Option Addr) (c n : Nat) (ts : List (Int × Int × Int)) (w : World) (h : S3 w w.heap.size A ts) (hn : ts.length = n) (hl : n ≤ 1000000) :
    Calls Try.prog 11 #[.slice A n c, .func (.func 12) #[] #[]] w (Ans w (.bool (badT ts))) := by
  have hc := Lib.hid (index_any A c n ts w h hn hl)
  clear h hn
  generalize badT ts = T at *
  go_enter Try.func11, Try.ntmps11
  go_wp2_with (go_at_call 18; (with_reducible refine hc.out.mono ?_); rintro e w1 ⟨⟨k, rfl, hk⟩, hb⟩; have hb := Lib.hid hb)
  go_ret
  exact ⟨by rw [hk]; rfl, hb.out⟩
/-- two side by side befall one operation -/
def twT (ts : List (Int × Int × Int)) : Bool := (List.range (ts.length - 1)).any fun i => decide ((tAt ts (i + 1)).1 = (tAt ts i).1)
theorem tw_none {ts : List (Int × Int × Int)} (h : ∀ k, k + 1 < ts.length → (tAt ts (k + 1)).1 ≠ (tAt ts k).1) : twT ts = false := by
  rw [Bool.eq_false_iff]
  intro e
  obtain ⟨i, hi, h2⟩ := List.any_eq_true.1 e
  exact h i (by have := List.mem_range.1 hi; omega) (of_decide_eq_true h2)
theorem tw_some {ts : List (Int × Int × Int)} {k : Nat} (hk : k + 1 < ts.length) (h : (tAt ts (k + 1)).1 = (tAt ts k).1) : twT ts = true :=
  List.any_eq_true.2 ⟨k, List.mem_range.2 (by omega), decide_eq_true h⟩
set_option maxHeartbeats 2000000 in
theorem twice_any (A : Option Addr) (c n : Nat) (ts : List (Int × Int × Int)) (w : World) (h : S3 w w.heap.size A ts) (hn : ts.length = n) (hl : n ≤ 1000000) :
    Calls Try.prog 16 #[.slice A n c] w (Ans w (.bool (twT ts))) := by
  have H := Lib.hid h
  clear h
  have hno : Hid ((∀ k, k + 1 < n → (tAt ts (k + 1)).1 ≠ (tAt ts k).1) → twT ts = false) := fun h => tw_none (by rw [hn]; exact h)
  have hyes : Hid (∀ {k : Nat} (hk : k + 1 < n), (tAt ts (k + 1)).1 = (tAt ts k).1 → twT ts = true) := fun hk h => tw_some (by rw [hn]; exact hk) h
  replace hn := Lib.hid hn
  generalize twT ts = T at *
  go_enter Try.func16, Try.ntmps16
  go_wp2_with fail
  go_loopw [3] (fun q wr => ∃ k : Nat, (k < n ∨ k = 0) ∧ Hid (∀ j, j < k → (tAt ts (j + 1)).1 ≠ (tAt ts j).1) ∧ q = .int .i64 ((k + 1 : Nat) : Int) ∧ Below w.heap.size w wr) (fun q _ => n + 1 - (intOf q).toNat)
  case atStart => exact ⟨0, Or.inr rfl, Lib.hid (fun j h => absurd h (by omega)), rfl, Below.refl _ _⟩
  case round =>
    obtain ⟨k, hk, HK, rfl, hB⟩ := hrel
    obtain ⟨m, hm⟩ : ∃ m, m = k + 1 := ⟨_, rfl⟩
    rw [← hm]
    by_cases hlt : m < n
    · have hltI : (m : Int) < (n : Int) := by omega
      have hm1 : (m : Int) - 1 = (k : Int) := by omega
      have hkI : (k : Int) < (n : Int) := by omega
      have hkn : k < n := by omega
      obtain ⟨a, rfl, hab, c0, _, _⟩ := (H.out.below hB).at_ (i := m) (by rw [hn.out]; exact hlt)
      obtain ⟨a', e, _, d0, _, _⟩ := (H.out.below hB).at_ (i := k) (by rw [hn.out]; omega)
      injection e with e
      subst e
      obtain ⟨X, hX⟩ : ∃ X, Hid ((tAt ts m).1 = X) := ⟨_, Lib.hid rfl⟩
      obtain ⟨Y, hY⟩ : ∃ Y, Hid ((tAt ts k).1 = Y) := ⟨_, Lib.hid rfl⟩
      rw [hX.out] at c0
      rw [hY.out] at d0
      by_cases hXY : X = Y
      · obtain rfl := hyes.out (k := k) (by omega) (by rw [← hm, hX.out, hY.out]; exact hXY)
        have e1 : (X == Y) = true := by simpa using hXY
        replace hB := Lib.hid hB
        replace hm := Lib.hid hm
        clear hXY HK
        go_wp2_with fail
        go_quiet (fail)
        go_wp2_with fail
        go_ret
        exact ⟨rfl, (below_drewN hB.out _)⟩
      · have e1 : (X == Y) = false := by simpa using hXY
        have HK' : Hid (∀ j, j < m → (tAt ts (j + 1)).1 ≠ (tAt ts j).1) := fun j hj => by
          rcases Nat.lt_or_ge j k with h1 | h1
          · exact HK.out j h1
          · obtain rfl : j = k := by omega
            rw [← hm, hX.out, hY.out]; exact hXY
        replace hB := Lib.hid hB
        replace hm := Lib.hid hm
        clear hXY HK
        go_wp2_with fail
        go_quiet (fail)
        go_wp2_with fail
        go_round
        case rel => exact ⟨m, Or.inl hlt, HK', by go_num, below_drewN hB.out _⟩
        case measure => simp [intOf]; omega
    · have hnI : ¬ (m : Int) < (n : Int) := by omega
      obtain rfl := hno.out (fun j hj => HK.out j (by omega))
      replace hm := Lib.hid hm
      clear HK
      go_wp2_with fail
      go_ret
      exact ⟨rfl, hB⟩
end Go.Proofs.Ytfohnffhcfiliaa
