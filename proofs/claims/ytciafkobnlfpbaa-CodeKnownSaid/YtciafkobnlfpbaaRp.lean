/- The reference's sums of polynomials. -/
import Derived.Test.YtciafkobnlfpbaaRu
namespace Go.Proofs.Ytciafkobnlfpbaa
open Go.RowKit Go.Gf

/-- the sum, not yet without noughts at its end: of the second the first m laid -/
def addF (xs ys : List Nat) (m j : Nat) : Nat := if j < m then at_ xs j ^^^ at_ ys j else at_ xs j
def padd (xs ys : List Nat) : List Nat := tr (rm (max xs.length ys.length) fun j => at_ xs j ^^^ at_ ys j)

set_option maxHeartbeats 4000000 in
theorem refadd_any (A B : Option Addr) (ca cb : Nat) (xs ys : List Nat) (w : World) (ha : Sl w w.heap.size A xs) (hb : Sl w w.heap.size B ys) (hla : xs.length ≤ 1000000) (hlb : ys.length ≤ 1000000) :
    Calls Try.prog 42 #[.slice A xs.length ca, .slice B ys.length cb] w (Gives w (padd xs ys)) := by
  have HA := Lib.hid ha
  have HB := Lib.hid hb
  have HX : Hid (∀ x ∈ xs, x < 65536) := ha.1
  have HY : Hid (∀ x ∈ ys, x < 65536) := hb.1
  clear ha hb
  rcases Nat.lt_trichotomy xs.length ys.length with hle | hle | hle
  · have HT : Hid (padd xs ys = tr (rm ys.length fun j => at_ xs j ^^^ at_ ys j)) := by unfold Hid padd; congr 2; omega
    generalize padd xs ys = T at HT
    have hmk := run_make_row' (P := Try.prog) 22 23 (.int .u16 0) 2 Try.underlying22 info22 rfl .i64 .i64 ys.length (by omega) (by omega)
    go_enter Try.func42, Try.ntmps42
    go_wp2
    go_loopw [6] (fun q wr => ∃ k : Nat, k ≤ xs.length ∧ q = .int .i64 k ∧ Own w wr w.heap.size ys.length (fun j => if j < k then at_ xs j else 0)) (fun q _ => xs.length - (intOf q).toNat)
    case atStart => exact ⟨0, Nat.zero_le _, rfl, (own_start w ys.length).congr (fun j _ => by simp)⟩
    case round =>
      clear hmk
      obtain ⟨k, hk, rfl, HO⟩ := hrel
      by_cases hlt : k < xs.length
      · obtain ⟨a, rfl, hab, hcell⟩ := (HA.out.below HO.2.1).at_ hlt
        have hc0 := HO.cell (i := k) (by omega)
        have hfz := HO.2.2.frozen k
        have HO' := Lib.hid ((HO.set_ k xs[k]).congr (f' := fun j => if j < k + 1 then at_ xs j else 0) (by
          intro j hj
          by_cases h1 : j = k
          · subst h1; rw [if_pos rfl, if_pos (by omega), at_get hlt]
          · rw [if_neg h1]; by_cases h2 : j < k
            · rw [if_pos h2, if_pos (by omega)]
            · rw [if_neg h2, if_neg (by omega)]))
        clear HO
        go_wp2
        go_roundw
        case rel => exact ⟨k + 1, by omega, by go_num, HO'.out⟩
        case measure => simp [intOf]; omega
      · obtain rfl : k = xs.length := by omega
        have HS := Lib.hid (HO.congr (f' := addF xs ys 0) (by
          intro j hj
          unfold addF
          rw [if_neg (Nat.not_lt_zero j)]
          by_cases h2 : j < xs.length
          · rw [if_pos h2]
          · rw [if_neg h2, at_far (by omega)]))
        clear HO
        go_wp2
        go_loopw [7] (fun q wr => ∃ m : Nat, m ≤ ys.length ∧ q = .int .i64 m ∧ Own w wr w.heap.size ys.length (addF xs ys m)) (fun q _ => ys.length - (intOf q).toNat)
        case atStart => exact ⟨0, Nat.zero_le _, rfl, HS.out⟩
        case round =>
          obtain ⟨m, hm, rfl, HO⟩ := hrel
          clear HS
          by_cases hlt2 : m < ys.length
          · obtain ⟨b, rfl, hbb, hcellb⟩ := (HB.out.below HO.2.1).at_ hlt2
            have _hmN : m < ys.length := by omega
            have hc0 := HO.cell (i := m) (by omega)
            have hfz := HO.2.2.frozen m
            have hx1 := at_lt (j := m) HX.out (by decide)
            have hy1 := HY.out ys[m] (List.getElem_mem hlt2)
            have e0 : addF xs ys m m = at_ xs m := by unfold addF; rw [if_neg (by omega)]
            rw [e0] at hc0
            have hxor := u16_xor_nat (at_ xs m) ys[m] hx1 hy1
            have HO' := Lib.hid ((HO.set_ m (at_ xs m ^^^ ys[m])).congr (f' := addF xs ys (m + 1)) (by
              intro j hj
              unfold addF
              by_cases h1 : j = m
              · subst h1; rw [if_pos rfl, if_pos (by omega), at_get hlt2]
              · rw [if_neg h1]; by_cases h2 : j < m
                · rw [if_pos h2, if_pos (by omega)]
                · rw [if_neg h2, if_neg (by omega)]))
            clear HO e0 hx1 hy1
            generalize at_ xs m ^^^ ys[m] = V at hxor HO'
            go_wp2
            go_still_tail 12, (by kernel_rfl)
            go_wp2
            go_roundw
            case rel => exact ⟨m + 1, by omega, by go_num, by first | exact HO'.out | exact HO'.out.drewN _⟩
            case measure => simp [intOf]; omega
          · obtain rfl : m = ys.length := by omega
            have HS := Lib.hid (HO.congr (f' := fun j => at_ xs j ^^^ at_ ys j) (by
              intro j hj
              unfold addF
              by_cases h1 : j < ys.length
              · rw [if_pos h1]
              · rw [if_neg h1, at_far (xs := ys) (by omega), Nat.xor_zero]))
            have HC := Lib.hid (reftrim_any (some ⟨w.heap.size, 0, none⟩) ys.length _ wr (HS.out.sl (fun j _ => Nat.xor_lt_two_pow (n := 16) (at_lt HX.out (by decide)) (at_lt HY.out (by decide)))) (by rw [rm_len]; omega))
            rw [rm_len] at HC
            have HW := Lib.hid HO.2.1
            clear HO
            go_wp2_with (go_at_call 40; refine HC.out.mono ?_; rintro e w' ⟨s, rfl, HF⟩)
            go_ret
            exact ⟨s, by rw [HT.out]; exact ⟨rfl, HF.since HW.out⟩⟩
  · have h1 : xs.length ≤ ys.length := by omega
    have h2 : ys.length ≤ xs.length := by omega
    clear hle
    have HT : Hid (padd xs ys = tr (rm xs.length fun j => at_ xs j ^^^ at_ ys j)) := by unfold Hid padd; congr 2; omega
    generalize padd xs ys = T at HT
    have hmk := run_make_row' (P := Try.prog) 22 23 (.int .u16 0) 2 Try.underlying22 info22 rfl .i64 .i64 xs.length (by omega) (by omega)
    go_enter Try.func42, Try.ntmps42
    go_wp2
    go_loopw [6] (fun q wr => ∃ k : Nat, k ≤ xs.length ∧ q = .int .i64 k ∧ Own w wr w.heap.size xs.length (fun j => if j < k then at_ xs j else 0)) (fun q _ => xs.length - (intOf q).toNat)
    case atStart => exact ⟨0, Nat.zero_le _, rfl, (own_start w xs.length).congr (fun j _ => by simp)⟩
    case round =>
      clear hmk
      obtain ⟨k, hk, rfl, HO⟩ := hrel
      by_cases hlt : k < xs.length
      · obtain ⟨a, rfl, hab, hcell⟩ := (HA.out.below HO.2.1).at_ hlt
        have hc0 := HO.cell (i := k) (by omega)
        have hfz := HO.2.2.frozen k
        have HO' := Lib.hid ((HO.set_ k xs[k]).congr (f' := fun j => if j < k + 1 then at_ xs j else 0) (by
          intro j hj
          by_cases h1 : j = k
          · subst h1; rw [if_pos rfl, if_pos (by omega), at_get hlt]
          · rw [if_neg h1]; by_cases h2 : j < k
            · rw [if_pos h2, if_pos (by omega)]
            · rw [if_neg h2, if_neg (by omega)]))
        clear HO
        go_wp2
        go_roundw
        case rel => exact ⟨k + 1, by omega, by go_num, HO'.out⟩
        case measure => simp [intOf]; omega
      · obtain rfl : k = xs.length := by omega
        have HS := Lib.hid (HO.congr (f' := addF xs ys 0) (by
          intro j hj
          unfold addF
          rw [if_neg (Nat.not_lt_zero j)]
          by_cases h2 : j < xs.length
          · rw [if_pos h2]
          · rw [if_neg h2, at_far (by omega)]))
        clear HO
        go_wp2
        go_loopw [7] (fun q wr => ∃ m : Nat, m ≤ ys.length ∧ q = .int .i64 m ∧ Own w wr w.heap.size xs.length (addF xs ys m)) (fun q _ => ys.length - (intOf q).toNat)
        case atStart => exact ⟨0, Nat.zero_le _, rfl, HS.out⟩
        case round =>
          obtain ⟨m, hm, rfl, HO⟩ := hrel
          clear HS
          by_cases hlt2 : m < ys.length
          · obtain ⟨b, rfl, hbb, hcellb⟩ := (HB.out.below HO.2.1).at_ hlt2
            have _hmN : m < xs.length := by omega
            have hc0 := HO.cell (i := m) (by omega)
            have hfz := HO.2.2.frozen m
            have hx1 := at_lt (j := m) HX.out (by decide)
            have hy1 := HY.out ys[m] (List.getElem_mem hlt2)
            have e0 : addF xs ys m m = at_ xs m := by unfold addF; rw [if_neg (by omega)]
            rw [e0] at hc0
            have hxor := u16_xor_nat (at_ xs m) ys[m] hx1 hy1
            have HO' := Lib.hid ((HO.set_ m (at_ xs m ^^^ ys[m])).congr (f' := addF xs ys (m + 1)) (by
              intro j hj
              unfold addF
              by_cases h1 : j = m
              · subst h1; rw [if_pos rfl, if_pos (by omega), at_get hlt2]
              · rw [if_neg h1]; by_cases h2 : j < m
                · rw [if_pos h2, if_pos (by omega)]
                · rw [if_neg h2, if_neg (by omega)]))
            clear HO e0 hx1 hy1
            generalize at_ xs m ^^^ ys[m] = V at hxor HO'
            go_wp2
            go_still_tail 12, (by kernel_rfl)
            go_wp2
            go_roundw
            case rel => exact ⟨m + 1, by omega, by go_num, by first | exact HO'.out | exact HO'.out.drewN _⟩
            case measure => simp [intOf]; omega
          · obtain rfl : m = ys.length := by omega
            have HS := Lib.hid (HO.congr (f' := fun j => at_ xs j ^^^ at_ ys j) (by
              intro j hj
              unfold addF
              by_cases h1 : j < ys.length
              · rw [if_pos h1]
              · rw [if_neg h1, at_far (xs := ys) (by omega), Nat.xor_zero]))
            have HC := Lib.hid (reftrim_any (some ⟨w.heap.size, 0, none⟩) xs.length _ wr (HS.out.sl (fun j _ => Nat.xor_lt_two_pow (n := 16) (at_lt HX.out (by decide)) (at_lt HY.out (by decide)))) (by rw [rm_len]; omega))
            rw [rm_len] at HC
            have HW := Lib.hid HO.2.1
            clear HO
            go_wp2_with (go_at_call 40; refine HC.out.mono ?_; rintro e w' ⟨s, rfl, HF⟩)
            go_ret
            exact ⟨s, by rw [HT.out]; exact ⟨rfl, HF.since HW.out⟩⟩
  · have HT : Hid (padd xs ys = tr (rm xs.length fun j => at_ xs j ^^^ at_ ys j)) := by unfold Hid padd; congr 2; omega
    generalize padd xs ys = T at HT
    have hmk := run_make_row' (P := Try.prog) 22 23 (.int .u16 0) 2 Try.underlying22 info22 rfl .i64 .i64 xs.length (by omega) (by omega)
    go_enter Try.func42, Try.ntmps42
    go_wp2
    go_loopw [6] (fun q wr => ∃ k : Nat, k ≤ xs.length ∧ q = .int .i64 k ∧ Own w wr w.heap.size xs.length (fun j => if j < k then at_ xs j else 0)) (fun q _ => xs.length - (intOf q).toNat)
    case atStart => exact ⟨0, Nat.zero_le _, rfl, (own_start w xs.length).congr (fun j _ => by simp)⟩
    case round =>
      clear hmk
      obtain ⟨k, hk, rfl, HO⟩ := hrel
      by_cases hlt : k < xs.length
      · obtain ⟨a, rfl, hab, hcell⟩ := (HA.out.below HO.2.1).at_ hlt
        have hc0 := HO.cell (i := k) (by omega)
        have hfz := HO.2.2.frozen k
        have HO' := Lib.hid ((HO.set_ k xs[k]).congr (f' := fun j => if j < k + 1 then at_ xs j else 0) (by
          intro j hj
          by_cases h1 : j = k
          · subst h1; rw [if_pos rfl, if_pos (by omega), at_get hlt]
          · rw [if_neg h1]; by_cases h2 : j < k
            · rw [if_pos h2, if_pos (by omega)]
            · rw [if_neg h2, if_neg (by omega)]))
        clear HO
        go_wp2
        go_roundw
        case rel => exact ⟨k + 1, by omega, by go_num, HO'.out⟩
        case measure => simp [intOf]; omega
      · obtain rfl : k = xs.length := by omega
        have HS := Lib.hid (HO.congr (f' := addF xs ys 0) (by
          intro j hj
          unfold addF
          rw [if_neg (Nat.not_lt_zero j)]
          by_cases h2 : j < xs.length
          · rw [if_pos h2]
          · rw [if_neg h2, at_far (by omega)]))
        clear HO
        go_wp2
        go_loopw [7] (fun q wr => ∃ m : Nat, m ≤ ys.length ∧ q = .int .i64 m ∧ Own w wr w.heap.size xs.length (addF xs ys m)) (fun q _ => ys.length - (intOf q).toNat)
        case atStart => exact ⟨0, Nat.zero_le _, rfl, HS.out⟩
        case round =>
          obtain ⟨m, hm, rfl, HO⟩ := hrel
          clear HS
          by_cases hlt2 : m < ys.length
          · obtain ⟨b, rfl, hbb, hcellb⟩ := (HB.out.below HO.2.1).at_ hlt2
            have _hmN : m < xs.length := by omega
            have hc0 := HO.cell (i := m) (by omega)
            have hfz := HO.2.2.frozen m
            have hx1 := at_lt (j := m) HX.out (by decide)
            have hy1 := HY.out ys[m] (List.getElem_mem hlt2)
            have e0 : addF xs ys m m = at_ xs m := by unfold addF; rw [if_neg (by omega)]
            rw [e0] at hc0
            have hxor := u16_xor_nat (at_ xs m) ys[m] hx1 hy1
            have HO' := Lib.hid ((HO.set_ m (at_ xs m ^^^ ys[m])).congr (f' := addF xs ys (m + 1)) (by
              intro j hj
              unfold addF
              by_cases h1 : j = m
              · subst h1; rw [if_pos rfl, if_pos (by omega), at_get hlt2]
              · rw [if_neg h1]; by_cases h2 : j < m
                · rw [if_pos h2, if_pos (by omega)]
                · rw [if_neg h2, if_neg (by omega)]))
            clear HO e0 hx1 hy1
            generalize at_ xs m ^^^ ys[m] = V at hxor HO'
            go_wp2
            go_still_tail 12, (by kernel_rfl)
            go_wp2
            go_roundw
            case rel => exact ⟨m + 1, by omega, by go_num, by first | exact HO'.out | exact HO'.out.drewN _⟩
            case measure => simp [intOf]; omega
          · obtain rfl : m = ys.length := by omega
            have HS := Lib.hid (HO.congr (f' := fun j => at_ xs j ^^^ at_ ys j) (by
              intro j hj
              unfold addF
              by_cases h1 : j < ys.length
              · rw [if_pos h1]
              · rw [if_neg h1, at_far (xs := ys) (by omega), Nat.xor_zero]))
            have HC := Lib.hid (reftrim_any (some ⟨w.heap.size, 0, none⟩) xs.length _ wr (HS.out.sl (fun j _ => Nat.xor_lt_two_pow (n := 16) (at_lt HX.out (by decide)) (at_lt HY.out (by decide)))) (by rw [rm_len]; omega))
            rw [rm_len] at HC
            have HW := Lib.hid HO.2.1
            clear HO
            go_wp2_with (go_at_call 40; refine HC.out.mono ?_; rintro e w' ⟨s, rfl, HF⟩)
            go_ret
            exact ⟨s, by rw [HT.out]; exact ⟨rfl, HF.since HW.out⟩⟩
end Go.Proofs.Ytciafkobnlfpbaa
