/- Where the fates from an operation on begin. -/
import Derived.Test.YtfohnffhcfiliaaZk
namespace Go.Proofs.Ytfohnffhcfiliaa
open Go.RowKit Go.Deep
set_option linter.unusedVariables false
set_option linter.unusedSimpArgs false

set_option maxHeartbeats 2000000 in
theorem search_any (A : Option Addr) (c n : Nat) (ts : List (Int × Int × Int)) (x : Int) (w : World) (h : S3 w w.heap.size A ts) (hn : ts.length = n) (hl : n ≤ 1000000)
    (hso : ∀ i j, i < j → j < n → (tAt ts i).1 ≤ (tAt ts j).1) :
    Calls Try.prog 22 #[.slice A n c, .int .i64 x, .func (.func 23) #[] #[]] w fun e w' => ∃ (m : Nat) (b : Bool), e = .returned (.tuple #[.int .i64 (m : Int), .bool b]) ∧ m ≤ n ∧ (∀ t, t < m → (tAt ts t).1 < x) ∧ (∀ t, m ≤ t → t < n → x ≤ (tAt ts t).1) ∧ Below w.heap.size w w' := by
  have H := Lib.hid h
  clear h
  replace hn := Lib.hid hn
  replace hso := Lib.hid hso
  go_enter Try.func22, Try.ntmps22
  go_wp2_with fail
  go_loopw [9, 10] (fun q r wr => ∃ lo hi : Nat, lo ≤ hi ∧ hi ≤ n ∧ Hid ((∀ t, t < lo → (tAt ts t).1 < x) ∧ (∀ t, hi ≤ t → t < n → x ≤ (tAt ts t).1)) ∧ q = .int .i64 lo ∧ r = .int .i64 hi ∧ Below w.heap.size w wr) (fun q r _ => (intOf r).toNat - (intOf q).toNat)
  case atStart => exact ⟨0, n, Nat.zero_le _, Nat.le_refl _, Lib.hid ⟨fun t h => absurd h (by omega), fun t h h2 => absurd h (by omega)⟩, rfl, rfl, Below.refl _ _⟩
  case round =>
    obtain ⟨lo, hi, hlh, hin, HK, rfl, rfl, hB⟩ := hrel
    by_cases hlt : lo < hi
    · have hltI : (lo : Int) < (hi : Int) := by omega
      have hdl : decide (lo < hi) = true := decide_eq_true hlt
      obtain ⟨m, hm⟩ : ∃ m, (lo + hi) / 2 = m := ⟨_, rfl⟩
      have hmn : m < n := by omega
      have hmI : (m : Int) < (n : Int) := by omega
      obtain ⟨a, rfl, hab, c0, c1, c2⟩ := (H.out.below hB).at_ (i := m) (by rw [hn.out]; exact hmn)
      obtain ⟨X, hX⟩ : ∃ X, Hid (tAt ts m = X) := ⟨_, Lib.hid rfl⟩
      rw [hX.out] at c0 c1 c2
      have hc := Lib.hid (against_any X x wr)
      have e1 : ((lo : Int) + (hi : Int)) / 2 = (m : Int) := by omega
      have e2 : IntKind.i64.wrap ((lo : Int) + (hi : Int)) = (lo : Int) + (hi : Int) := by simp [IntKind.wrap, IntKind.bits, IntKind.signed]; omega
      have e3 : IntKind.u64.wrap ((lo : Int) + (hi : Int)) = (lo : Int) + (hi : Int) := by simp [IntKind.wrap, IntKind.bits, IntKind.signed]; omega
      have e4 : IntKind.i64.wrap (m : Int) = (m : Int) := by simp [IntKind.wrap, IntKind.bits, IntKind.signed]; omega
      replace hB := Lib.hid hB
      by_cases hXx : X.1 < x
      · have hq : cmpI X.1 x < 0 := (cmpI_lt _ _).2 hXx
        have HK' : Hid ((∀ t, t < m + 1 → (tAt ts t).1 < x) ∧ (∀ t, hi ≤ t → t < n → x ≤ (tAt ts t).1)) := by
          refine ⟨fun t ht => ?_, HK.out.2⟩
          rcases (by omega : t < m ∨ t = m) with h1 | rfl
          · have := hso.out t m h1 hmn
            rw [hX.out] at this
            omega
          · rw [hX.out]; exact hXx
        generalize cmpI X.1 x = K at *
        clear hXx HK
        go_wp2_with (go_at_call 23; (with_reducible refine hc.out.mono ?_); rintro e w1 ⟨rfl, hb1⟩; have hb1 := Lib.hid (hB.out.trans (hb1.mono hB.out.size)))
        go_round
        case rel => exact ⟨m + 1, hi, by omega, hin, HK', by go_num, rfl, hb1.out⟩
        case measure => simp [intOf]; omega
      · have hq : ¬ cmpI X.1 x < 0 := fun h => hXx ((cmpI_lt _ _).1 h)
        have HK' : Hid ((∀ t, t < lo → (tAt ts t).1 < x) ∧ (∀ t, m ≤ t → t < n → x ≤ (tAt ts t).1)) := by
          refine ⟨HK.out.1, fun t ht htn => ?_⟩
          rcases (by omega : m < t ∨ t = m) with h1 | rfl
          · have := hso.out m t h1 htn
            rw [hX.out] at this
            omega
          · rw [hX.out]; omega
        generalize cmpI X.1 x = K at *
        clear hXx HK
        go_wp2_with (go_at_call 23; (with_reducible refine hc.out.mono ?_); rintro e w1 ⟨rfl, hb1⟩; have hb1 := Lib.hid (hB.out.trans (hb1.mono hB.out.size)))
        go_round
        case rel => exact ⟨lo, m, by omega, by omega, HK', rfl, rfl, hb1.out⟩
        case measure => simp [intOf]; omega
    · obtain rfl : lo = hi := by omega
      have hdl : decide (lo < lo) = false := decide_eq_false hlt
      replace hB := Lib.hid hB
      by_cases hln : lo < n
      · have hlI : (lo : Int) < (n : Int) := by omega
        obtain ⟨a, rfl, hab, c0, c1, c2⟩ := (H.out.below hB.out).at_ (i := lo) (by rw [hn.out]; exact hln)
        generalize tAt ts lo = X at c0 c1 c2
        have hc := Lib.hid (against_any X x wr)
        generalize cmpI X.1 x = K at *
        go_wp2_with (go_at_call 23; (with_reducible refine hc.out.mono ?_); rintro e w1 ⟨rfl, hb1⟩; have hb1 := Lib.hid (hB.out.trans (hb1.mono hB.out.size)))
        go_ret2
        exact ⟨lo, _, rfl, hin, HK.out.1, HK.out.2, hb1.out⟩
      · have hlI : ¬ (lo : Int) < (n : Int) := by omega
        have hd : decide (lo < n) = false := decide_eq_false hln
        go_wp2_with fail
        go_ret2
        exact ⟨lo, Or.inl rfl, hin, HK.out.1, HK.out.2, hB.out⟩
end Go.Proofs.Ytfohnffhcfiliaa
