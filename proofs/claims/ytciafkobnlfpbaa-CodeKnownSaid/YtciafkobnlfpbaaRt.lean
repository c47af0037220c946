/- The reference's polynomials: what they answer, said of lists. -/
import Derived.Test.YtciafkobnlfpbaaSl
namespace Go.Proofs.Ytciafkobnlfpbaa
open Go.RowKit Go.Gf

theorem info22 : (Try.prog.info? 23).map (fun i => (i.zero, i.size, i.bytes)) = some (some (.int .u16 0), 1, 2) := by kernel_rfl

/-- each modulo 1024, without noughts at the end -/
def tr (xs : List Nat) : List Nat := ((xs.map (· % 1024)).reverse.dropWhile (· == 0)).reverse
theorem tr_snoc (l : List Nat) (x : Nat) : tr (l ++ [x]) = if x % 1024 = 0 then tr l else (l ++ [x]).map (· % 1024) := by
  unfold tr
  rw [List.map_append, List.reverse_append]
  simp only [List.map_cons, List.map_nil, List.reverse_cons, List.reverse_nil, List.nil_append, List.singleton_append, List.dropWhile_cons]
  by_cases h : x % 1024 = 0
  · simp [h]
  · simp [h]
theorem take_snoc {xs : List Nat} {k : Nat} (h : k < xs.length) : xs.take (k + 1) = xs.take k ++ [xs[k]] := by
  rw [List.take_succ_eq_append_getElem h]
theorem tr_take {xs : List Nat} {k : Nat} (h : k < xs.length) : tr (xs.take (k + 1)) = if xs[k] % 1024 = 0 then tr (xs.take k) else (xs.take (k + 1)).map (· % 1024) := by
  rw [take_snoc h, tr_snoc]

/-- a call's ending: a slice of its own make that holds ys -/
def Gives (w : World) (ys : List Nat) (e : Ending) (w' : World) : Prop := ∃ s, e = .returned s ∧ Fresh w w' s ys
/-- likewise, and it is no nil slice -/
def GivesB (w : World) (ys : List Nat) (e : Ending) (w' : World) : Prop := ∃ g, w.heap.size ≤ g ∧ e = .returned (.slice (some ⟨g, 0, none⟩) ys.length ys.length) ∧ Arr w' g ys ∧ Below w.heap.size w w' ∧ ∀ y ∈ ys, y < 65536
theorem GivesB.gives {w w' : World} {ys : List Nat} {e : Ending} (h : GivesB w ys e w') : Gives w ys e w' := by
  obtain ⟨g, hg, he, ha, hb, hy⟩ := h
  exact ⟨_, he, hb, hy, Or.inr ⟨g, hg, rfl, ha⟩⟩
/-- the first j of k numbers are laid, each modulo 1024 -/
def Fill (w wr : World) (xs : List Nat) (k j : Nat) : Prop := Below w.heap.size w wr ∧ Arr wr w.heap.size ((xs.take j).map (· % 1024) ++ List.replicate (k - j) 0)
theorem fill_start (w : World) (xs : List Nat) (k : Nat) : Fill w (w.alloc (.cells (madeCells #[.int .u16 0] k) 23)) xs k 0 := by
  refine ⟨(Below.refl _ _).alloc (Nat.le_refl _) _, ?_⟩
  rw [made_uv]
  exact Arr.new w _
theorem fill_step {w wr : World} {xs : List Nat} {k j : Nat} (hj : j < k) (hx : j < xs.length) (h : Fill w wr xs k j) :
    Fill w (wr.setCell ⟨w.heap.size, j, none⟩ (.int .u16 ((xs[j] : Int) % 1024))) xs k (j + 1) := by
  refine ⟨h.1.setCell (by simp) _, ?_⟩
  have := h.2.set_ j (xs[j] % 1024)
  have e : ((xs.take j).map (· % 1024) ++ List.replicate (k - j) 0).set j (xs[j] % 1024) = (xs.take (j + 1)).map (· % 1024) ++ List.replicate (k - (j + 1)) 0 := by
    rw [take_snoc hx, List.map_append, List.append_assoc]
    obtain ⟨m, hm⟩ : ∃ m, k - j = m + 1 := ⟨k - j - 1, by omega⟩
    rw [hm, List.replicate_succ, show k - (j + 1) = m by omega]
    rw [List.set_append_right _ _ (by simp; omega)]
    simp [Nat.min_eq_left (Nat.le_of_lt hx)]
  rw [e] at this
  exact this
theorem fill_end {w wr : World} {xs : List Nat} {k : Nat} (ht : (xs.take k).map (· % 1024) = tr xs ∧ k ≤ xs.length) (h : Fill w wr xs k k) : GivesB w (tr xs) (.returned (.slice (some ⟨w.heap.size, 0, none⟩) k k)) wr := by
  obtain ⟨h1, h2⟩ := h
  rw [Nat.sub_self, List.replicate_zero, List.append_nil, ht.1] at h2
  have hlen : (tr xs).length = k := by rw [← ht.1]; simp; omega
  refine ⟨w.heap.size, Nat.le_refl _, by rw [hlen], h2, h1, ?_⟩
  intro y hy
  rw [← ht.1] at hy
  obtain ⟨x, _, rfl⟩ := List.mem_map.1 hy
  omega

set_option maxHeartbeats 2000000 in
theorem reftrim_blk (A : Option Addr) (c : Nat) (xs : List Nat) (w : World) (h : Sl w w.heap.size A xs) (hl : xs.length ≤ 1000000) :
    Calls Try.prog 40 #[.slice A xs.length c] w (GivesB w (tr xs)) := by
  have H := Lib.hid h
  clear h
  go_enter Try.func40, Try.ntmps40
  go_wp2
  go_loop [3] (fun n => ∃ k : Nat, k ≤ xs.length ∧ Hid (tr (xs.take k) = tr xs) ∧ n = .int .i64 k) (fun n => (intOf n).toNat)
  case atStart => exact ⟨xs.length, Nat.le_refl _, by unfold Hid; rw [List.take_length], rfl⟩
  case round =>
    obtain ⟨k, hk, HK, rfl⟩ := hrel
    by_cases h0 : k = 0
    · subst h0
      have HL : Hid ((xs.take 0).map (· % 1024) = tr xs ∧ 0 ≤ xs.length) := ⟨by rw [← HK.out]; rfl, hk⟩
      clear HK
      have hmk : ∀ w, (Instr.makeSlice 22 (.int .i64 0) (.int .i64 0)).run Try.prog w = .ok (.slice (some ⟨w.heap.size, 0, none⟩) 0 0) (w.alloc (.cells (madeCells #[.int .u16 0] 0) 23)) := run_make_row' (P := Try.prog) 22 23 (.int .u16 0) 2 Try.underlying22 info22 rfl .i64 .i64 0 (by omega) (by omega)
      go_wp2
      go_loopw [5] (fun q wr => ∃ j : Nat, j ≤ 0 ∧ q = .int .i64 j ∧ Fill w wr xs 0 j) (fun q _ => 0 - (intOf q).toNat)
      case atStart => exact ⟨0, Nat.zero_le _, rfl, fill_start w xs 0⟩
      case round =>
        clear hmk
        obtain ⟨j, hj, rfl, HF⟩ := hrel
        by_cases hlt : j < 0
        · exact absurd hlt (by omega)
        · obtain rfl : j = 0 := by omega
          have HF' := Lib.hid (fill_end HL.out HF)
          clear HF
          go_wp2
          go_ret
          exact HF'.out
    · obtain ⟨m, rfl⟩ : ∃ m, k = m + 1 := ⟨k - 1, by omega⟩
      have hi : m < xs.length := by omega
      have hjj : ((m + 1 : Nat) : Int) - 1 = (m : Int) := by omega
      by_cases hz : xs[m] % 1024 = 0
      · obtain ⟨a, rfl, hab, hcell⟩ := H.out.at_ hi
        have hx := H.out.1 xs[m] (List.getElem_mem hi)
        have hmask := u16_mask (xs[m] : Int) (by omega) (by omega)
        have hz' : ((xs[m] : Int) % 1024 == 0) = true := by simp; omega
        have HK' : Hid (tr (xs.take m) = tr xs) := by
          have := HK.out; rw [tr_take hi, if_pos hz] at this; exact this
        clear HK hz
        go_wp2
        go_round
        case rel => exact ⟨m, by omega, HK', by first | rfl | go_num⟩
        case measure => simp [intOf]
      · have HL : Hid ((xs.take (m + 1)).map (· % 1024) = tr xs ∧ m + 1 ≤ xs.length) := ⟨by rw [← HK.out, tr_take hi, if_neg hz], hk⟩
        clear HK
        obtain ⟨a, hA, hab, hcell⟩ := H.out.at_ hi
        have hx := H.out.1 xs[m] (List.getElem_mem hi)
        have hmask := u16_mask (xs[m] : Int) (by omega) (by omega)
        have hz' : ((xs[m] : Int) % 1024 == 0) = false := by simp; omega
        subst hA
        have hmk : ∀ w, (Instr.makeSlice 22 (.int .i64 ((m : Int) + 1)) (.int .i64 ((m : Int) + 1))).run Try.prog w = .ok (.slice (some ⟨w.heap.size, 0, none⟩) (m + 1) (m + 1)) (w.alloc (.cells (madeCells #[.int .u16 0] (m + 1)) 23)) := run_make_row' (P := Try.prog) 22 23 (.int .u16 0) 2 Try.underlying22 info22 rfl .i64 .i64 (m + 1) (by omega) (by omega)
        go_wp2
        go_loopw [5] (fun q wr => ∃ j : Nat, j ≤ (m + 1) ∧ q = .int .i64 j ∧ Fill w wr xs (m + 1) j) (fun q _ => (m + 1) - (intOf q).toNat)
        case atStart => exact ⟨0, Nat.zero_le _, rfl, fill_start w xs (m + 1)⟩
        case round =>
          clear hmk
          obtain ⟨j, hj, rfl, HF⟩ := hrel
          by_cases hlt : j < (m + 1)
          · have hjx : j < xs.length := by omega
            obtain ⟨ad, hA, hab2, hcell2⟩ := (H.out.below HF.1).at_ hjx
            have hx := H.out.1 xs[j] (List.getElem_mem hjx)
            have hmask := u16_mask (xs[j] : Int) (by omega) (by omega)
            have hc0 := HF.2.cell (i := j) (by simp; omega)
            have hfz := HF.2.frozen j
            have HF' := Lib.hid (fill_step hlt hjx HF)
            clear HF
            go_wp2
            go_roundw
            case rel => exact ⟨j + 1, by omega, by go_num, HF'.out⟩
            case measure => simp [intOf]; omega
          · obtain rfl : j = (m + 1) := by omega
            have HF' := Lib.hid (fill_end HL.out HF)
            clear HF
            go_wp2
            go_ret
            exact HF'.out
theorem reftrim_any (A : Option Addr) (c : Nat) (xs : List Nat) (w : World) (h : Sl w w.heap.size A xs) (hl : xs.length ≤ 1000000) :
    Calls Try.prog 40 #[.slice A xs.length c] w (Gives w (tr xs)) := (reftrim_blk A c xs w h hl).mono fun _ _ h => h.gives
end Go.Proofs.Ytciafkobnlfpbaa
