/- The program's Symbols, Bytes, and whether something is no symbol. -/
import Derived.Test.YtoogdhnkihdkgaaBd
import Derived.Test.YtoogdhnkihdkgaaKs
namespace Go.Proofs.Ytoogdhnkihdkgaa
open Go.RowKit Go.Gf

set_option maxHeartbeats 1000000 in
theorem within_any (n : Int) (w : World) : Calls Try.prog 24 #[.int .i64 n] w fun e w' => e = .returned (.int .i64 ((clampN n : Nat) : Int)) ∧ w = w' := by
  have h : ((clampN n : Nat) : Int) = min (max n 0) 1099511627776 := by unfold clampN; omega
  rw [h]
  clear h
  go_enter Try.func24, Try.ntmps24
  go_wp2_with fail
  all_goals (go_ret; refine ⟨congrArg (fun z => Ending.returned (.int .i64 z)) ?_, rfl⟩; split at * <;> omega)
set_option maxHeartbeats 1000000 in
theorem paksymbols_any (n : Int) (w : World) : Calls Try.prog 14 #[.int .i64 n] w fun e w' => e = .returned (.int .i64 ((symN (clampN n) : Nat) : Int)) ∧ w = w' := by
  have hc := Lib.hid (within_any n w)
  have hm1 : clampN n ≤ 1099511627776 := by unfold clampN; omega
  generalize clampN n = m at *
  have hs : ((symN m : Nat) : Int) = (8 * (m : Int) + 10 - 1) / 10 := by unfold symN; omega
  rw [hs]
  clear hs
  go_enter Try.func14, Try.ntmps14
  go_wp2_with (go_at_call 24; (with_reducible refine hc.out.mono ?_); rintro e w1 ⟨rfl, rfl⟩)
  go_ret
  exact ⟨rfl, rfl⟩
set_option maxHeartbeats 1000000 in
theorem pakbytes_any (n : Int) (w : World) : Calls Try.prog 16 #[.int .i64 n] w fun e w' => e = .returned (.int .i64 ((bytN (clampN n) : Nat) : Int)) ∧ w = w' := by
  have hc := Lib.hid (within_any n w)
  have hm1 : clampN n ≤ 1099511627776 := by unfold clampN; omega
  generalize clampN n = m at *
  have hs : ((bytN m : Nat) : Int) = 10 * (m : Int) / 8 := by unfold bytN; omega
  rw [hs]
  clear hs
  go_enter Try.func16, Try.ntmps16
  go_wp2_with (go_at_call 24; (with_reducible refine hc.out.mono ?_); rintro e w1 ⟨rfl, rfl⟩)
  go_ret
  exact ⟨rfl, rfl⟩
theorem pak_symbols {n : Int} {w : World} : Calls Try.prog 14 #[.int .i64 n] w (Ans w (.int .i64 ((symN (clampN n) : Nat) : Int))) := (paksymbols_any n w).mono fun _ _ h => ⟨h.1, by rw [h.2]; exact Below.refl _ _⟩
theorem pak_bytes {n : Int} {w : World} : Calls Try.prog 16 #[.int .i64 n] w (Ans w (.int .i64 ((bytN (clampN n) : Nat) : Int))) := (pakbytes_any n w).mono fun _ _ h => ⟨h.1, by rw [h.2]; exact Below.refl _ _⟩
theorem beyond_any (x : Nat) (w : World) : Calls Try.prog 21 #[.int .u16 (x : Int)] w fun e w' => e = .returned (.bool (decide (1024 ≤ x))) ∧ w = w' := by
  have h : decide ((1024 : Int) ≤ (x : Int)) = decide (1024 ≤ x) := by rw [decide_eq_decide]; omega
  go_enter Try.func21, Try.ntmps21
  go_wp2_with fail
  go_ret
  exact ⟨rfl, rfl⟩

/-- is there one from k on that is no symbol? -/
def idxI (xs : List Nat) : Bool := xs.any fun x => decide (1024 ≤ x)
theorem idx_none {xs : List Nat} (h : ∀ k (h : k < xs.length), xs[k] < 1024) : idxI xs = false := by
  rw [Bool.eq_false_iff]
  intro e
  obtain ⟨x, hx, h2⟩ := List.any_eq_true.1 e
  obtain ⟨k, hk, rfl⟩ := List.getElem_of_mem hx
  have := h k hk
  simp at h2; omega
theorem idx_some {xs : List Nat} {k : Nat} (hk : k < xs.length) (h : 1024 ≤ xs[k]) : idxI xs = true :=
  List.any_eq_true.2 ⟨xs[k], List.getElem_mem hk, by simpa using h⟩
set_option maxHeartbeats 2000000 in
theorem index_any (A : Option Addr) (c : Nat) (xs : List Nat) (w : World) (h : Sl w w.heap.size A xs) (hl : xs.length ≤ 1000000) :
    Calls Try.prog 25 #[.slice A xs.length c, .func (.func 21) #[] #[]] w fun e w' => (∃ k : Int, e = .returned (.int .i64 k) ∧ idxI xs = decide (0 ≤ k)) ∧ w = w' := by
  have H := Lib.hid h
  clear h
  have hno : Hid ((∀ k (h : k < xs.length), xs[k] < 1024) → idxI xs = false) := idx_none
  have hyes : Hid (∀ {k : Nat} (hk : k < xs.length), 1024 ≤ xs[k] → idxI xs = true) := idx_some
  generalize idxI xs = T at *
  go_enter Try.func25, Try.ntmps25
  go_wp2_with fail
  go_loop [8] (fun n => ∃ k : Nat, k ≤ xs.length ∧ Hid (∀ j (h : j < xs.length), j < k → xs[j] < 1024) ∧ n = .int .i64 k) (fun n => xs.length - (intOf n).toNat)
  case atStart => exact ⟨0, Nat.zero_le _, Lib.hid (fun j _ h => absurd h (by omega)), rfl⟩
  case round =>
    obtain ⟨k, hk, HK, rfl⟩ := hrel
    by_cases hlt : k < xs.length
    · obtain ⟨a, rfl, hab, hcell⟩ := H.out.at_ hlt
      have hx := H.out.1 xs[k] (List.getElem_mem hlt)
      have hc := beyond_any xs[k] w
      by_cases hb : 1024 ≤ xs[k]
      · obtain rfl := hyes.out hlt hb
        rw [decide_eq_true hb] at hc
        replace hc := Lib.hid hc
        clear hb
        go_wp2_with (go_at_call 21; (with_reducible refine hc.out.mono ?_); rintro e w1 ⟨rfl, rfl⟩)
        go_ret
        exact ⟨⟨_, rfl, by rw [eq_comm, decide_eq_true_eq]; omega⟩, rfl⟩
      · rw [decide_eq_false hb] at hc
        replace hc := Lib.hid hc
        have HK' : Hid (∀ j (h : j < xs.length), j < k + 1 → xs[j] < 1024) := fun j hj hjk => by
          rcases Nat.lt_or_ge j k with h1 | h1
          · exact HK.out j hj h1
          · obtain rfl : j = k := by omega
            omega
        clear hb HK
        go_wp2_with (go_at_call 21; (with_reducible refine hc.out.mono ?_); rintro e w1 ⟨rfl, rfl⟩)
        go_round
        case rel => exact ⟨k + 1, by omega, HK', by go_num⟩
        case measure => simp [intOf]; omega
    · obtain rfl : k = xs.length := by omega
      obtain rfl := hno.out (fun j hj => HK.out j hj hj)
      clear HK
      go_wp2_with fail
      go_ret
      exact ⟨⟨-1, rfl, by decide⟩, rfl⟩
set_option maxHeartbeats 1000000 in
theorem contains_any (A : Option Addr) (c : Nat) (xs : List Nat) (w : World) (h : Sl w w.heap.size A xs) (hl : xs.length ≤ 1000000) :
    Calls Try.prog 20 #[.slice A xs.length c, .func (.func 21) #[] #[]] w fun e w' => e = .returned (.bool (idxI xs)) ∧ w = w' := by
  have hc := Lib.hid (index_any A c xs w h hl)
  clear h
  generalize idxI xs = T at *
  go_enter Try.func20, Try.ntmps20
  go_wp2_with (go_at_call 25; (with_reducible refine hc.out.mono ?_); rintro e w1 ⟨⟨k, rfl, hk⟩, rfl⟩)
  go_ret
  exact ⟨by rw [hk]; rfl, rfl⟩
end Go.Proofs.Ytoogdhnkihdkgaa
