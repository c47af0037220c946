/- The program's package poly: the length of a polynomial, and Trim. -/
import Derived.Test.YtciafkobnlfpbaaPq
namespace Go.Proofs.Ytciafkobnlfpbaa
open Go.RowKit Go.Gf

set_option maxHeartbeats 2000000 in
theorem plen_any (A : Option Addr) (c : Nat) (xs : List Nat) (w : World) (h : Sl w w.heap.size A xs) (hl : xs.length ≤ 1000000) :
    Calls Try.prog 49 #[.slice A xs.length c] w fun e w' => e = .returned (.int .i64 (((tr xs).length : Nat) : Int)) ∧ w = w' := by
  have H := Lib.hid h
  clear h
  generalize hT : (tr xs).length = T
  have HT := Lib.hid hT
  clear hT
  go_enter Try.func49, Try.ntmps49
  go_wp2
  go_loop [3] (fun n => ∃ k : Nat, k ≤ xs.length ∧ Hid (tr (xs.take k) = tr xs) ∧ n = .int .i64 k) (fun n => (intOf n).toNat)
  case atStart => exact ⟨xs.length, Nat.le_refl _, by unfold Hid; rw [List.take_length], rfl⟩
  case round =>
    obtain ⟨k, hk, HK, rfl⟩ := hrel
    by_cases h0 : k = 0
    · subst h0
      have HL : Hid (T = 0) := by rw [← HT.out, ← HK.out]; rfl
      clear HK
      go_wp2
      go_ret
      exact ⟨by rw [HL.out]; rfl, rfl⟩
    · obtain ⟨m, rfl⟩ : ∃ m, k = m + 1 := ⟨k - 1, by omega⟩
      have hi : m < xs.length := by omega
      have hjj : ((m + 1 : Nat) : Int) - 1 = (m : Int) := by omega
      obtain ⟨a, rfl, hab, hcell⟩ := H.out.at_ hi
      have hx := H.out.1 xs[m] (List.getElem_mem hi)
      by_cases hz : xs[m] % 1024 = 0
      · have hz' : ((xs[m] : Int) % 1024 == 0) = true := by simp; omega
        have HK' : Hid (tr (xs.take m) = tr xs) := by
          have := HK.out; rw [tr_take hi, if_pos hz] at this; exact this
        clear HK hz
        go_wp2
        go_round
        case rel => exact ⟨m, by omega, HK', by first | rfl | go_num⟩
        case measure => simp [intOf]
      · have HL : Hid (T = m + 1) := by
          unfold Hid
          rw [← HT.out, ← HK.out, tr_take hi, if_neg hz]
          simp; omega
        have hz' : ((xs[m] : Int) % 1024 == 0) = false := by simp; omega
        clear HK hz
        go_wp2
        go_ret
        exact ⟨by rw [HL.out]; first | rfl | go_num, rfl⟩

set_option maxHeartbeats 2000000 in
theorem ptrim_blk (A : Option Addr) (c : Nat) (xs : List Nat) (w : World) (h : Sl w w.heap.size A xs) (hl : xs.length ≤ 1000000) :
    Calls Try.prog 51 #[.slice A xs.length c] w (GivesB w (tr xs)) := by
  have H := Lib.hid h
  have HC := Lib.hid (plen_any A c xs w h hl)
  clear h
  have HL := Lib.hid (tr_self xs)
  generalize hK : (tr xs).length = K at HC HL
  have HK := Lib.hid hK
  clear hK
  have hKl : K ≤ 1000000 := Nat.le_trans HL.out.2 hl
  have hmk := run_make_row' (P := Try.prog) 22 23 (.int .u16 0) 2 Try.underlying22 info22 rfl .i64 .i64 K (by omega) (by omega)
  go_enter Try.func51, Try.ntmps51
  go_wp2_with (go_at_call 49; (with_reducible refine HC.out.mono ?_); rintro e w' ⟨rfl, rfl⟩)
  go_loopw [10] (fun q wr => ∃ j : Nat, j ≤ K ∧ q = .int .i64 j ∧ Fill w wr xs K j) (fun q _ => K - (intOf q).toNat)
  case atStart => exact ⟨0, Nat.zero_le _, rfl, fill_start w xs K⟩
  case round =>
    clear hmk
    obtain ⟨j, hj, rfl, HF⟩ := hrel
    by_cases hlt : j < K
    · have hjx : j < xs.length := by have := HL.out.2; omega
      obtain ⟨ad, rfl, hab2, hcell2⟩ := (H.out.below HF.1).at_ hjx
      have hx := H.out.1 xs[j] (List.getElem_mem hjx)
      have hc0 := HF.2.cell (i := j) (by simp; omega)
      have hfz := HF.2.frozen j
      have HF' := Lib.hid (fill_step hlt hjx HF)
      clear HF
      go_wp2
      go_roundw
      case rel => exact ⟨j + 1, by omega, by go_num, HF'.out⟩
      case measure => simp [intOf]; omega
    · obtain rfl : j = K := by omega
      have HF' := Lib.hid (fill_end HL.out HF)
      clear HF
      go_wp2
      go_ret
      exact HF'.out
end Go.Proofs.Ytciafkobnlfpbaa
