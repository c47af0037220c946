/- Whether fates may be, by the reference. -/
import Derived.Test.YtfohnffhcfiliaaZa
namespace Go.Proofs.Ytfohnffhcfiliaa
open Go.RowKit
set_option linter.unusedVariables false
set_option linter.unusedSimpArgs false

theorem cell_of {w : World} {g : Nat} {cs : Array Value} {t : TypeId} (h : w.heap[g]? = some (.cells cs t)) (i : Nat) : w.cell? ⟨g, i, none⟩ = cs[i]? := by simp [World.cell?, h]
theorem cell_new (w : World) (cs : Array Value) (t : TypeId) (i : Nat) : (w.alloc (.cells cs t)).cell? ⟨w.heap.size, i, none⟩ = cs[i]? := cell_of (heap_alloc_new w (.cells cs t)) i
set_option maxRecDepth 20000 in
set_option maxHeartbeats 4000000 in
theorem refmay_any (A : Option Addr) (c : Nat) (ts : List (Int × Int × Int)) (w : World) (h : S3 w w.heap.size A ts) : Calls Try.prog 8 #[.slice A ts.length c] w (Ans w (.bool (mayF ts))) := by
  have H := Lib.hid h
  clear h
  obtain ⟨n, hn⟩ : ∃ n, ts.length = n := ⟨_, rfl⟩
  rw [hn]
  replace hn := Lib.hid hn
  by_cases h256 : 256 < n
  · have hI : (256 : Int) < (n : Int) := by omega
    have hm : mayF ts = false := by unfold mayF; rw [hn.out, decide_eq_false (by omega)]; rfl
    rw [hm]
    go_enter Try.func8, Try.ntmps8
    go_wp2_with fail
    go_ret
    exact ⟨rfl, Below.refl _ _⟩
  have hI : ¬ (256 : Int) < (n : Int) := by omega
  have hnot : Hid (∀ i, i < n → newT ts i = false → mayF ts = false) := fun i hi h => mayF_not (by rw [hn.out]; exact hi) h
  have hyes : Hid ((∀ i, i < n → newT ts i = true) → mayF ts = true) := fun h => mayF_yes (by rw [hn.out]; omega) (by rw [hn.out]; exact h)
  generalize mayF ts = M at *
  go_enter Try.func8, Try.ntmps8
  go_wp2_with fail
  go_loopw [3] (fun q wr => ∃ i : Nat, i ≤ n ∧ q = .int .i64 i ∧ Below w.heap.size w wr ∧ Hid (∀ j, j < i → newT ts j = true)) (fun q _ => n - (intOf q).toNat)
  case atStart => exact ⟨0, Nat.zero_le _, rfl, Below.refl _ _, Lib.hid (fun j h => absurd h (by omega))⟩
  case round =>
    obtain ⟨i, hi, rfl, hB, hlo⟩ := hrel
    by_cases hin : i < n
    · have hiI : (i : Int) < (n : Int) := by omega
      have hdi : decide (i < n) = true := decide_eq_true hin
      obtain ⟨a, rfl, hab, c0, c1, c2⟩ := (H.out.below hB).at_ (i := i) (by rw [hn.out]; exact hin)
      obtain ⟨X, hX⟩ : ∃ X, tAt ts i = X := ⟨_, rfl⟩
      rw [hX] at c0 c1 c2
      obtain ⟨P, Q, R⟩ := X
      dsimp only at c0 c1 c2
      have habw : a.block < wr.heap.size := Nat.lt_of_lt_of_le hab hB.size
      have hbA := below_alloc wr (.cells #[.int .i64 P, .int .i64 Q, .int .i64 R] 30)
      have hbw := Lib.hid (hB.trans (hbA.mono hB.size))
      have hbA := Lib.hid hbA
      cases hok : okT (P, Q, R)
      · have hM : M = false := hnot.out i hin (newT_bad (by rw [hX]; exact hok))
        rw [hM]
        unfold okT at hok
        rw [decide_eq_false_iff_not] at hok
        dsimp only at hok
        have hB := Lib.hid hB
        rcases Int.lt_or_le P 0 with h1 | h1
        · go_wp2_with fail
          go_ret
          exact ⟨rfl, hbw.out⟩
        rcases Int.lt_or_le 1099511627776 P with h2 | h2
        · go_wp2_with fail
          go_ret
          exact ⟨rfl, hbw.out⟩
        rcases Int.lt_or_le R 0 with h3 | h3
        · rcases (by omega : Q = 1 ∨ Q ≠ 1) with rfl | h4
          · go_wp2_with fail
            go_ret
            exact ⟨rfl, hbw.out⟩
          · rcases (by omega : Q = 2 ∨ Q ≠ 2) with rfl | h5
            · go_wp2_with fail
              go_ret
              exact ⟨rfl, hbw.out⟩
            · have e4 : (Q != 1) = true := by simpa using h4
              have e5 : (Q != 2) = true := by simpa using h5
              go_wp2_with fail
              go_ret
              exact ⟨rfl, hbw.out⟩
        · have h4 : Q ≠ 1 := fun e => hok ⟨h1, h2, Or.inl e, h3⟩
          have h5 : Q ≠ 2 := fun e => hok ⟨h1, h2, Or.inr e, h3⟩
          have e4 : (Q != 1) = true := by simpa using h4
          have e5 : (Q != 2) = true := by simpa using h5
          clear hok
          go_wp2_with fail
          go_ret
          exact ⟨rfl, hbw.out⟩
      · have hok2 := hok
        unfold okT at hok2
        rw [decide_eq_true_eq] at hok2
        obtain ⟨h1, h2, h3, h4⟩ := hok2
        dsimp only at h1 h2 h3 h4
        have hB := Lib.hid hB
        rcases h3 with rfl | rfl
        · have hx0 := Lib.hid (cell_new wr #[.int .i64 P, .int .i64 1, .int .i64 R] 30 0)
          have hxl := Lib.hid (show wr.heap.size < (wr.alloc (.cells #[.int .i64 P, .int .i64 1, .int .i64 R] 30)).heap.size from by rw [World.size_alloc]; omega)
          go_wp2_with fail
          generalize wr.alloc (.cells #[.int .i64 P, .int .i64 1, .int .i64 R] 30) = wx at *
          clear c0 c1 c2
          have hxs := Lib.hid (fun (ws : World) (hS : Below wx.heap.size wx ws) => (show ws.cell? ⟨wr.heap.size, 0, none⟩ = some (.int .i64 P) from (hS.cell (p := ⟨wr.heap.size, 0, none⟩) hxl.out).trans hx0.out))
          go_loopw [5] (fun q ws => ∃ k : Nat, k ≤ i ∧ q = .int .i64 k ∧ Below wx.heap.size wx ws ∧ Hid (∀ j, j < k → (tAt ts j).1 ≠ P)) (fun q _ => i - (intOf q).toNat)
          case atStart => exact ⟨0, Nat.zero_le _, rfl, Below.refl _ _, Lib.hid (fun j h => absurd h (by omega))⟩
          case round =>
            obtain ⟨k, hk, rfl, hS, hdis⟩ := hrel
            by_cases hki : k < i
            · have hkI : (k : Int) < (i : Int) := by omega
              have hdk : decide (k < i) = true := decide_eq_true hki
              obtain ⟨a', e, _, d0, _, _⟩ := (H.out.below (hbw.out.trans (hS.mono hbw.out.size))).at_ (i := k) (by rw [hn.out]; omega)
              injection e with e
              subst e
              have hx := hxs.out _ hS
              obtain ⟨Z, hZ⟩ : ∃ Z, Hid ((tAt ts k).1 = Z) := ⟨_, Lib.hid rfl⟩
              rw [hZ.out] at d0
              have hbs := Lib.hid (hbw.out.trans (hS.mono hbw.out.size))
              have hS := Lib.hid hS
              by_cases hZP : Z = P
              · have hM : M = false := hnot.out i hin (newT_twice hki (by rw [hZ.out, hX]; exact hZP))
                have e1 : (Z == P) = true := by simpa using hZP
                have hM := Lib.hid hM
                clear hZP
                go_wp2_with fail
                go_quiet (fail)
                go_wp2_with fail
                go_ret
                exact ⟨congrArg (fun b => Ending.returned (.bool b)) hM.out.symm, below_drewN hbs.out _⟩
              · have e1 : (Z == P) = false := by simpa using hZP
                go_wp2_with fail
                go_quiet (fail)
                go_wp2_with fail
                go_roundw
                case rel => exact ⟨k + 1, by omega, by go_num, below_drewN hS.out _, Lib.hid (fun j hj => by
                  rcases Nat.lt_or_ge j k with h | h
                  · exact hdis.out j h
                  · obtain rfl : j = k := by omega
                    rw [hZ.out]; exact hZP)⟩
                case measure => simp [intOf]; omega
            · obtain rfl : k = i := by omega
              have hdk : decide (k < k) = false := decide_eq_false (Nat.lt_irrefl _)
              have hnew : newT ts k = true := newT_ok (by rw [hX]; exact hok) (by rw [hX]; exact hdis.out)
              have hbs := Lib.hid (hbw.out.trans (hS.mono hbw.out.size))
              have hS := Lib.hid hS
              go_wp2_with fail
              go_roundw
              case rel => exact ⟨k + 1, by omega, by go_num, hbs.out, Lib.hid (fun j hj => by
                rcases Nat.lt_or_ge j k with h | h
                · exact hlo.out j h
                · obtain rfl : j = k := by omega
                  exact hnew)⟩
              case measure => simp [intOf]; omega
        · have hx0 := Lib.hid (cell_new wr #[.int .i64 P, .int .i64 2, .int .i64 R] 30 0)
          have hxl := Lib.hid (show wr.heap.size < (wr.alloc (.cells #[.int .i64 P, .int .i64 2, .int .i64 R] 30)).heap.size from by rw [World.size_alloc]; omega)
          go_wp2_with fail
          generalize wr.alloc (.cells #[.int .i64 P, .int .i64 2, .int .i64 R] 30) = wx at *
          clear c0 c1 c2
          have hxs := Lib.hid (fun (ws : World) (hS : Below wx.heap.size wx ws) => (show ws.cell? ⟨wr.heap.size, 0, none⟩ = some (.int .i64 P) from (hS.cell (p := ⟨wr.heap.size, 0, none⟩) hxl.out).trans hx0.out))
          go_loopw [5] (fun q ws => ∃ k : Nat, k ≤ i ∧ q = .int .i64 k ∧ Below wx.heap.size wx ws ∧ Hid (∀ j, j < k → (tAt ts j).1 ≠ P)) (fun q _ => i - (intOf q).toNat)
          case atStart => exact ⟨0, Nat.zero_le _, rfl, Below.refl _ _, Lib.hid (fun j h => absurd h (by omega))⟩
          case round =>
            obtain ⟨k, hk, rfl, hS, hdis⟩ := hrel
            by_cases hki : k < i
            · have hkI : (k : Int) < (i : Int) := by omega
              have hdk : decide (k < i) = true := decide_eq_true hki
              obtain ⟨a', e, _, d0, _, _⟩ := (H.out.below (hbw.out.trans (hS.mono hbw.out.size))).at_ (i := k) (by rw [hn.out]; omega)
              injection e with e
              subst e
              have hx := hxs.out _ hS
              obtain ⟨Z, hZ⟩ : ∃ Z, Hid ((tAt ts k).1 = Z) := ⟨_, Lib.hid rfl⟩
              rw [hZ.out] at d0
              have hbs := Lib.hid (hbw.out.trans (hS.mono hbw.out.size))
              have hS := Lib.hid hS
              by_cases hZP : Z = P
              · have hM : M = false := hnot.out i hin (newT_twice hki (by rw [hZ.out, hX]; exact hZP))
                have e1 : (Z == P) = true := by simpa using hZP
                have hM := Lib.hid hM
                clear hZP
                go_wp2_with fail
                go_quiet (fail)
                go_wp2_with fail
                go_ret
                exact ⟨congrArg (fun b => Ending.returned (.bool b)) hM.out.symm, below_drewN hbs.out _⟩
              · have e1 : (Z == P) = false := by simpa using hZP
                go_wp2_with fail
                go_quiet (fail)
                go_wp2_with fail
                go_roundw
                case rel => exact ⟨k + 1, by omega, by go_num, below_drewN hS.out _, Lib.hid (fun j hj => by
                  rcases Nat.lt_or_ge j k with h | h
                  · exact hdis.out j h
                  · obtain rfl : j = k := by omega
                    rw [hZ.out]; exact hZP)⟩
                case measure => simp [intOf]; omega
            · obtain rfl : k = i := by omega
              have hdk : decide (k < k) = false := decide_eq_false (Nat.lt_irrefl _)
              have hnew : newT ts k = true := newT_ok (by rw [hX]; exact hok) (by rw [hX]; exact hdis.out)
              have hbs := Lib.hid (hbw.out.trans (hS.mono hbw.out.size))
              have hS := Lib.hid hS
              go_wp2_with fail
              go_roundw
              case rel => exact ⟨k + 1, by omega, by go_num, hbs.out, Lib.hid (fun j hj => by
                rcases Nat.lt_or_ge j k with h | h
                · exact hlo.out j h
                · obtain rfl : j = k := by omega
                  exact hnew)⟩
              case measure => simp [intOf]; omega
    · obtain rfl : i = n := by omega
      have hdi : decide (i < i) = false := decide_eq_false (Nat.lt_irrefl _)
      have hM := Lib.hid (hyes.out hlo.out)
      have hB := Lib.hid hB
      go_wp2_with fail
      go_ret
      exact ⟨congrArg (fun b => Ending.returned (.bool b)) hM.out.symm, hB.out⟩
end Go.Proofs.Ytfohnffhcfiliaa
