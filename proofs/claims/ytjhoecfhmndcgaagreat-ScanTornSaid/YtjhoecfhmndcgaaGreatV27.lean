/- The program's package poly: Slope and Add. -/
import Derived.Test.YtjhoecfhmndcgaaGreatV18
import Derived.Test.YtjhoecfhmndcgaaGreatV26
import Derived.Test.YtjhoecfhmndcgaaGreatV17
namespace Go.Proofs.YtjhoecfhmndcgaaGreat
open Go.RowKit Go.Gf

theorem GivesB.since {w w1 w2 : World} {ys : List Nat} {e : Ending} (h : GivesB w1 ys e w2) (hb : Below w.heap.size w w1) : GivesB w ys e w2 := by
  obtain ⟨g, hg, he, ha, hb2, hy⟩ := h
  exact ⟨g, Nat.le_trans hb.size hg, he, ha, hb.trans (hb2.mono hb.size), hy⟩

set_option maxHeartbeats 2000000 in
theorem pslope_blk (A : Option Addr) (c : Nat) (xs : List Nat) (w : World) (h : Sl w w.heap.size A xs) (hl : xs.length ≤ 1000000) :
    Calls Tryz.prog 160 #[.slice A xs.length c] w (GivesB w (slope xs)) := by
  have H := Lib.hid h
  have HX : Hid (∀ x ∈ xs, x < 65536) := h.1
  clear h
  have hmk := run_make_row' (P := Tryz.prog) 41 46 (.int .u16 0) 2 Tryz.underlying41 info22 rfl .i64 .i64 xs.length (by omega) (by omega)
  go_enter Tryz.func160, Tryz.ntmps160
  go_wp2
  go_loopw [4] (fun q wr => ∃ p : Nat, p % 2 = 0 ∧ p ≤ xs.length + 1 ∧ q = .int .i64 ((p : Int) + 1) ∧ Own w wr w.heap.size xs.length (slopeF xs p)) (fun q _ => xs.length + 2 - (intOf q).toNat)
  case atStart => exact ⟨0, rfl, by omega, rfl, (own_start w xs.length).congr (fun j _ => by simp [slopeF])⟩
  case round =>
    clear hmk
    obtain ⟨p, hp, hk, rfl, HO⟩ := hrel
    by_cases hlt : p + 1 < xs.length
    · obtain ⟨a, rfl, hab, hcell⟩ := (H.out.below HO.2.1).at_ hlt
      rw [add_pos a (p + 1) (by omega)] at hcell
      have hc0 := HO.cell (i := p) (by omega)
      have hfz := HO.2.2.frozen p
      have HO' := Lib.hid ((HO.set_ p xs[p + 1]).congr (f' := slopeF xs (p + 2)) (by
        intro j hj
        unfold slopeF
        by_cases h1 : j = p
        · subst h1; rw [if_pos rfl, if_pos ⟨by omega, by omega⟩, at_get hlt]
        · rw [if_neg h1]
          by_cases h2 : j % 2 = 0 ∧ j < p
          · rw [if_pos h2, if_pos ⟨h2.1, by omega⟩]
          · rw [if_neg h2, if_neg (by omega)]))
      have hp2 := Lib.hid hp
      clear HO hp
      go_wp2
      go_roundw
      case rel => exact ⟨p + 2, by have := hp2.out; omega, by omega, by go_num, HO'.out⟩
      case measure => simp [intOf]; omega
    · have hlt' : decide ((p : Int) + 1 < (xs.length : Int)) = false := by rw [decide_eq_false_iff_not]; omega
      have HS := Lib.hid (HO.congr (f' := fun j => if j % 2 = 0 then at_ xs (j + 1) else 0) (by
        intro j hj
        unfold slopeF
        by_cases h1 : j % 2 = 0
        · by_cases h2 : j < p
          · rw [if_pos ⟨h1, h2⟩, if_pos h1]
          · rw [if_neg (by omega), if_pos h1, at_far (by omega)]
        · rw [if_neg (by omega), if_neg h1]))
      have HC := Lib.hid (ptrim_blk (some ⟨w.heap.size, 0, none⟩) xs.length _ wr (HS.out.sl (fun j _ => by
        by_cases h1 : j % 2 = 0
        · rw [if_pos h1]; exact at_lt HX.out (by decide)
        · rw [if_neg h1]; decide)) (by rw [rm_len]; exact hl))
      rw [rm_len] at HC
      have HB := Lib.hid HO.2.1
      clear HO hp
      go_wp2_with (go_at_call 156; refine HC.out.mono ?_; rintro e w' ⟨g, hg, rfl, HF⟩)
      go_ret
      exact GivesB.since ⟨g, hg, rfl, HF⟩ HB.out

/-- the program's sum, not yet without noughts at its end: of the second the first m added -/
def addP (xs ys : List Nat) (m j : Nat) : Nat := if j < m then (at_ xs j ^^^ at_ ys j) % 1024 else at_ xs j
set_option maxHeartbeats 4000000 in
theorem padd_blk (A B : Option Addr) (ca cb : Nat) (xs ys : List Nat) (w : World) (ha : Sl w w.heap.size A xs) (hb : Sl w w.heap.size B ys) (hla : xs.length ≤ 1000000) (hlb : ys.length ≤ 1000000) :
    Calls Tryz.prog 158 #[.slice A xs.length ca, .slice B ys.length cb] w (GivesB w (padd xs ys)) := by
  have HA := Lib.hid ha
  have HB := Lib.hid hb
  have HX : Hid (∀ x ∈ xs, x < 65536) := ha.1
  have HY : Hid (∀ x ∈ ys, x < 65536) := hb.1
  clear ha hb
  have key : ∀ n : Nat, xs.length ≤ n → ys.length ≤ n → n ≤ 1000000 → (n = xs.length ∨ n = ys.length) → Calls Tryz.prog 158 #[.slice A xs.length ca, .slice B ys.length cb] w (GivesB w (padd xs ys)) := by
    intro n hxn hyn hn6 hmax
    have HT : Hid (padd xs ys = tr (rm n fun j => at_ xs j ^^^ at_ ys j)) := by unfold Hid padd; congr 2; omega
    generalize padd xs ys = T at HT
    have hmk := run_make_row' (P := Tryz.prog) 41 46 (.int .u16 0) 2 Tryz.underlying41 info22 rfl .i64 .i64 n (by omega) (by omega)
    have hmx : (if xs.length < ys.length then (ys.length : Int) else (xs.length : Int)) = (n : Int) := by split <;> omega
    have HXN := Lib.hid hxn
    have HYN := Lib.hid hyn
    clear hmax
    go_enter Tryz.func158, Tryz.ntmps158
    go_wp2_with (refine wpList_copy_splice rfl (.tmp 14) (.tmp 15) 41 41 rfl 46 Tryz.underlying41 size23 (some ⟨w.heap.size, 0, none⟩) A n n xs.length ca rfl rfl w.heap.size 0 ((List.replicate n 0).map uv) 46 (by have := heap_alloc_new w (.cells (madeCells #[.int .u16 0] n) 46); rw [made_uv] at this; rw [made_uv]; exact this) (xs.map uv) (by have := HXN.out; rw [List.length_map]; exact (Nat.min_eq_left this).symm) (by
        intro hp
        rw [List.length_map] at hp
        refine ⟨rfl, ?_⟩
        obtain ⟨a, e, hab, hcell⟩ := ((HA.out.far (own_start w n).2.1).2.resolve_left (by intro e; rw [e] at hp; exact absurd hp (by decide)))
        refine ⟨a, e, fun j v hv => ?_⟩
        rw [List.getElem?_map] at hv
        rcases Nat.lt_or_ge j xs.length with hj | hj
        · rw [List.getElem?_eq_getElem hj] at hv
          injection hv with hv
          rw [← hv]; exact hcell j hj
        · rw [List.getElem?_eq_none hj] at hv; cases hv) (by have := HXN.out; simp; exact this) (by intro v hv; obtain ⟨x, _, rfl⟩ := List.mem_map.1 hv; rfl) w.heap.size w (own_start w n).2.1 (Nat.le_refl _) ?_)
    rintro w1 HC1 HB1
    have HO1 : Own w w1 w.heap.size n (addP xs ys 0) := by
      refine ⟨Nat.le_refl _, HB1, ?_⟩
      have e := HC1.out
      rw [← List.map_replicate, splice_own xs n HXN.out] at e
      unfold Arr
      rw [e]
      congr 5
    clear HC1 HB1 hmk hmx
    go_wp2
    go_loopw [19] (fun q wr => ∃ m : Nat, m ≤ ys.length ∧ q = .int .i64 m ∧ Own w wr w.heap.size n (addP xs ys m)) (fun q _ => ys.length - (intOf q).toNat)
    case atStart => exact ⟨0, Nat.zero_le _, rfl, HO1⟩
    case round =>
      clear HO1
      obtain ⟨m, hm, rfl, HO⟩ := hrel
      by_cases hlt2 : m < ys.length
      · obtain ⟨b, rfl, hbb, hcellb⟩ := (HB.out.below HO.2.1).at_ hlt2
        have hmn : m < n := by have := HYN.out; omega
        have hc0 := HO.cell (i := m) hmn
        have hfz := HO.2.2.frozen m
        have hx1 := at_lt (j := m) HX.out (by decide)
        have hy1 := HY.out ys[m] (List.getElem_mem hlt2)
        have e0 : addP xs ys m m = at_ xs m := by unfold addP; rw [if_neg (by omega)]
        rw [e0] at hc0
        have HO' := Lib.hid ((HO.set_ m ((at_ xs m ^^^ ys[m]) % 1024)).congr (f' := addP xs ys (m + 1)) (by
          intro j hj
          unfold addP
          by_cases h1 : j = m
          · subst h1; rw [if_pos rfl, if_pos (by omega), at_get hlt2]
          · rw [if_neg h1]; by_cases h2 : j < m
            · rw [if_pos h2, if_pos (by omega)]
            · rw [if_neg h2, if_neg (by omega)]))
        clear HO e0
        generalize at_ xs m = V at hc0 HO' hx1
        go_wp2_with (go_at_call 161; (with_reducible refine (add_any _ _ _ (by omega) (by omega) (by omega) (by omega)).mono ?_); rintro e w' ⟨rfl, rfl⟩)
        go_roundw
        case rel => exact ⟨m + 1, by omega, by go_num, HO'.out⟩
        case measure => simp [intOf]; omega
      · obtain rfl : m = ys.length := by omega
        have HS := Lib.hid (HO.congr (f' := addP xs ys ys.length) (fun j _ => rfl))
        have HE : Hid (tr (rm n (addP xs ys ys.length)) = T) := by
          unfold Hid
          rw [HT.out]
          apply tr_ext
          intro j
          rw [at_rm, at_rm]
          by_cases h0 : j < n
          · rw [if_pos h0, if_pos h0]
            unfold addP
            by_cases h1 : j < ys.length
            · rw [if_pos h1]; omega
            · rw [if_neg h1, at_far (xs := ys) (by omega), Nat.xor_zero]
          · rw [if_neg h0, if_neg h0]
        have HC := Lib.hid (ptrim_blk (some ⟨w.heap.size, 0, none⟩) n _ wr (HS.out.sl (fun j _ => by
          unfold addP
          by_cases h1 : j < ys.length
          · rw [if_pos h1]; omega
          · rw [if_neg h1]; exact at_lt HX.out (by decide))) (by rw [rm_len]; omega))
        rw [rm_len, HE.out] at HC
        have HW := Lib.hid HO.2.1
        clear HO
        go_wp2_with (go_at_call 156; (with_reducible refine HC.out.mono ?_); rintro e w' ⟨g, hg, rfl, HF⟩)
        go_ret
        exact GivesB.since ⟨g, hg, rfl, HF⟩ HW.out
  rcases Nat.le_total xs.length ys.length with h | h
  · exact key ys.length h (Nat.le_refl _) hlb (Or.inr rfl)
  · exact key xs.length (Nat.le_refl _) h hla (Or.inl rfl)
end Go.Proofs.YtjhoecfhmndcgaaGreat
