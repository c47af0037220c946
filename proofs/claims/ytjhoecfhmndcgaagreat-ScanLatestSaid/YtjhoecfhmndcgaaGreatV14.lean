/- Slices of 16-bit numbers that are read as lists, and those that a call makes (words for memory, of our own). · The reference's polynomials: what they answer, said of lists. -/
import Derived.Test.YtjhoecfhmndcgaaGreatV13
import Derived.Below
import Derived.Laws.OwnMore
import Derived.Deep.OwnRows
import Derived.Deep.Draws
import Derived.Laws.Rows
namespace Go.Proofs.YtjhoecfhmndcgaaGreat
open Go.RowKit

/-- a number as a value -/
def uv (n : Nat) : Value := .int .u16 (n : Int)
/-- the slice with address A holds xs, below block B -/
def Sl (w : World) (B : Nat) (A : Option Addr) (xs : List Nat) : Prop :=
  (∀ x ∈ xs, x < 65536) ∧ (xs = [] ∨ ∃ a, A = some a ∧ a.block < B ∧ ∀ i (h : i < xs.length), w.cell? (a.add i) = some (uv xs[i]))
/-- block g is just the numbers cs, and may be written -/
def Arr (w : World) (g : Nat) (cs : List Nat) : Prop := w.heap[g]? = some (.cells (cs.map uv).toArray 46 (0, 0))

theorem below_drewN {B : Nat} {w w1 : World} (h : Below B w w1) (n : Nat) : Below B w (w1.drewN n) := ⟨h.os, h.tape, h.output, h.size, h.block⟩
theorem add_block (a : Addr) (n : Nat) : (a.add n).block = a.block := by unfold Addr.add; split <;> rfl
section
variable {w w' : World} {B B' g : Nat} {A : Option Addr} {xs cs : List Nat}
theorem Sl.nil (w : World) (B : Nat) (A : Option Addr) : Sl w B A [] := ⟨by simp, Or.inl rfl⟩
theorem Sl.keep (h : Sl w B A xs) (hk : ∀ p : Addr, p.block < B → w'.cell? p = w.cell? p) : Sl w' B A xs := by
  refine ⟨h.1, ?_⟩
  rcases h.2 with h | ⟨a, e, hb, hc⟩
  · exact Or.inl h
  · exact Or.inr ⟨a, e, hb, fun i hi => (hk _ (by rw [add_block]; exact hb)).trans (hc i hi)⟩
theorem Sl.more (h : Sl w B A xs) (hB : B ≤ B') : Sl w B' A xs := by
  refine ⟨h.1, ?_⟩
  rcases h.2 with h | ⟨a, e, hb, hc⟩
  · exact Or.inl h
  · exact Or.inr ⟨a, e, by omega, hc⟩
theorem Sl.below (h : Sl w B A xs) (hb : Below B w w') : Sl w' B A xs := h.keep fun _ hp => hb.cell hp
theorem Sl.at_ {i : Nat} (h : Sl w B A xs) (hi : i < xs.length) : ∃ a, A = some a ∧ a.block < B ∧ w.cell? (a.add i) = some (.int .u16 ((xs[i] : Nat) : Int)) := by
  rcases h.2 with h | ⟨a, e, hb, hc⟩
  · rw [h] at hi; exact absurd hi (by simp)
  · exact ⟨a, e, hb, hc i hi⟩
theorem Arr.lt (h : Arr w g cs) : g < w.heap.size := by
  rcases Nat.lt_or_ge g w.heap.size with hlt | hge
  · exact hlt
  · unfold Arr at h; rw [Array.getElem?_eq_none hge] at h; cases h
theorem Arr.cell (h : Arr w g cs) {i : Nat} (hi : i < cs.length) : w.cell? ⟨g, i, none⟩ = some (.int .u16 ((cs[i] : Nat) : Int)) := by
  rw [cell_of_row w g i _ 46 (0, 0) h]
  simp [hi, uv]
theorem Arr.frozen (h : Arr w g cs) (i : Nat) : w.frozen? ⟨g, i, none⟩ = false := by
  unfold Arr at h
  simp [World.frozen?, h]
theorem Arr.new (w : World) (cs : List Nat) : Arr (w.alloc (.cells (cs.map uv).toArray 46)) w.heap.size cs := heap_alloc_new w _
theorem Arr.set_ (h : Arr w g cs) (i n : Nat) : Arr (w.setCell ⟨g, i, none⟩ (.int .u16 (n : Int))) g (cs.set i n) := by
  unfold Arr at h ⊢
  simp only [World.setCell]
  rw [Array.getElem?_modify, h]
  simp [List.map_set, uv]
theorem Arr.alloc (h : Arr w g cs) (o : Obj) : Arr (w.alloc o) g cs := (Below.heap_alloc w o g h.lt).trans h
theorem Arr.below (h : Arr w g cs) (hb : Below B w w') (hg : g < B) : Arr w' g cs := (hb.block g hg).trans h
theorem Arr.sl (h : Arr w g cs) (hc : ∀ x ∈ cs, x < 65536) : Sl w w.heap.size (some ⟨g, 0, none⟩) cs := by
  refine ⟨hc, Or.inr ⟨_, rfl, h.lt, fun i hi => ?_⟩⟩
  have e : (⟨g, 0, none⟩ : Addr).add i = ⟨g, i, none⟩ := by unfold Addr.add; split <;> simp_all
  rw [e]; exact h.cell hi
theorem made_uv (n : Nat) : madeCells #[.int .u16 0] n = ((List.replicate n 0).map uv).toArray := by
  unfold madeCells
  apply Array.ext
  · simp
  · intro i h1 h2
    simp [uv, Nat.mod_one]
end

/-- a slice that a call made for its caller, or nil -/
def Fresh (w w' : World) (s : Value) (ys : List Nat) : Prop :=
  Below w.heap.size w w' ∧ (∀ y ∈ ys, y < 65536) ∧ ((s = .slice none 0 0 ∧ ys = []) ∨ ∃ g, w.heap.size ≤ g ∧ s = .slice (some ⟨g, 0, none⟩) ys.length ys.length ∧ Arr w' g ys)
end Go.Proofs.YtjhoecfhmndcgaaGreat
namespace Go.Proofs.YtjhoecfhmndcgaaGreat
open Go.RowKit Go.Gf

theorem info22 : (Tryz.prog.info? 46).map (fun i => (i.zero, i.size, i.bytes)) = some (some (.int .u16 0), 1, 2) := by kernel_rfl

/-- each modulo 1024, without noughts at the end -/
def tr (xs : List Nat) : List Nat := ((xs.map (· % 1024)).reverse.dropWhile (· == 0)).reverse
theorem tr_snoc (l : List Nat) (x : Nat) : tr (l ++ [x]) = if x % 1024 = 0 then tr l else (l ++ [x]).map (· % 1024) := by
  unfold tr
  rw [List.map_append, List.reverse_append]
  simp only [List.map_cons, List.map_nil, List.reverse_cons, List.reverse_nil, List.nil_append, List.singleton_append, List.dropWhile_cons]
  by_cases h : x % 1024 = 0
  · simp [h]
  · simp [h]
theorem take_snoc {xs : List Nat} {k : Nat} (h : k < xs.length) : xs.take (k + 1) = xs.take k ++ [xs[k]] := by
  rw [List.take_succ_eq_append_getElem h]
theorem tr_take {xs : List Nat} {k : Nat} (h : k < xs.length) : tr (xs.take (k + 1)) = if xs[k] % 1024 = 0 then tr (xs.take k) else (xs.take (k + 1)).map (· % 1024) := by
  rw [take_snoc h, tr_snoc]

/-- a call's ending: a slice of its own make that holds ys -/
def Gives (w : World) (ys : List Nat) (e : Ending) (w' : World) : Prop := ∃ s, e = .returned s ∧ Fresh w w' s ys
/-- likewise, and it is no nil slice -/
def GivesB (w : World) (ys : List Nat) (e : Ending) (w' : World) : Prop := ∃ g, w.heap.size ≤ g ∧ e = .returned (.slice (some ⟨g, 0, none⟩) ys.length ys.length) ∧ Arr w' g ys ∧ Below w.heap.size w w' ∧ ∀ y ∈ ys, y < 65536
theorem GivesB.gives {w w' : World} {ys : List Nat} {e : Ending} (h : GivesB w ys e w') : Gives w ys e w' := by
  obtain ⟨g, hg, he, ha, hb, hy⟩ := h
  exact ⟨_, he, hb, hy, Or.inr ⟨g, hg, rfl, ha⟩⟩
/-- the first j of k numbers are laid, each modulo 1024 -/
def Fill (w wr : World) (xs : List Nat) (k j : Nat) : Prop := Below w.heap.size w wr ∧ Arr wr w.heap.size ((xs.take j).map (· % 1024) ++ List.replicate (k - j) 0)
theorem fill_start (w : World) (xs : List Nat) (k : Nat) : Fill w (w.alloc (.cells (madeCells #[.int .u16 0] k) 46)) xs k 0 := by
  refine ⟨(Below.refl _ _).alloc (Nat.le_refl _) _, ?_⟩
  rw [made_uv]
  exact Arr.new w _
theorem fill_step {w wr : World} {xs : List Nat} {k j : Nat} (hj : j < k) (hx : j < xs.length) (h : Fill w wr xs k j) :
    Fill w (wr.setCell ⟨w.heap.size, j, none⟩ (.int .u16 ((xs[j] : Int) % 1024))) xs k (j + 1) := by
  refine ⟨h.1.setCell (by simp) _, ?_⟩
  have := h.2.set_ j (xs[j] % 1024)
  have e : ((xs.take j).map (· % 1024) ++ List.replicate (k - j) 0).set j (xs[j] % 1024) = (xs.take (j + 1)).map (· % 1024) ++ List.replicate (k - (j + 1)) 0 := by
    rw [take_snoc hx, List.map_append, List.append_assoc]
    obtain ⟨m, hm⟩ : ∃ m, k - j = m + 1 := ⟨k - j - 1, by omega⟩
    rw [hm, List.replicate_succ, show k - (j + 1) = m by omega]
    rw [List.set_append_right _ _ (by simp; omega)]
    simp [Nat.min_eq_left (Nat.le_of_lt hx)]
  rw [e] at this
  exact this
theorem fill_end {w wr : World} {xs : List Nat} {k : Nat} (ht : (xs.take k).map (· % 1024) = tr xs ∧ k ≤ xs.length) (h : Fill w wr xs k k) : GivesB w (tr xs) (.returned (.slice (some ⟨w.heap.size, 0, none⟩) k k)) wr := by
  obtain ⟨h1, h2⟩ := h
  rw [Nat.sub_self, List.replicate_zero, List.append_nil, ht.1] at h2
  have hlen : (tr xs).length = k := by rw [← ht.1]; simp; omega
  refine ⟨w.heap.size, Nat.le_refl _, by rw [hlen], h2, h1, ?_⟩
  intro y hy
  rw [← ht.1] at hy
  obtain ⟨x, _, rfl⟩ := List.mem_map.1 hy
  omega

set_option maxHeartbeats 2000000 in
theorem reftrim_blk (A : Option Addr) (c : Nat) (xs : List Nat) (w : World) (h : Sl w w.heap.size A xs) (hl : xs.length ≤ 1000000) :
    Calls Tryz.prog 105 #[.slice A xs.length c] w (GivesB w (tr xs)) := by
  have H := Lib.hid h
  clear h
  go_enter Tryz.func105, Tryz.ntmps105
  go_wp2
  go_loop [3] (fun n => ∃ k : Nat, k ≤ xs.length ∧ Hid (tr (xs.take k) = tr xs) ∧ n = .int .i64 k) (fun n => (intOf n).toNat)
  case atStart => exact ⟨xs.length, Nat.le_refl _, by unfold Hid; rw [List.take_length], rfl⟩
  case round =>
    obtain ⟨k, hk, HK, rfl⟩ := hrel
    by_cases h0 : k = 0
    · subst h0
      have HL : Hid ((xs.take 0).map (· % 1024) = tr xs ∧ 0 ≤ xs.length) := ⟨by rw [← HK.out]; rfl, hk⟩
      clear HK
      have hmk : ∀ w, (Instr.makeSlice 41 (.int .i64 0) (.int .i64 0)).run Tryz.prog w = .ok (.slice (some ⟨w.heap.size, 0, none⟩) 0 0) (w.alloc (.cells (madeCells #[.int .u16 0] 0) 46)) := run_make_row' (P := Tryz.prog) 41 46 (.int .u16 0) 2 Tryz.underlying41 info22 rfl .i64 .i64 0 (by omega) (by omega)
      go_wp2
      go_loopw [5] (fun q wr => ∃ j : Nat, j ≤ 0 ∧ q = .int .i64 j ∧ Fill w wr xs 0 j) (fun q _ => 0 - (intOf q).toNat)
      case atStart => exact ⟨0, Nat.zero_le _, rfl, fill_start w xs 0⟩
      case round =>
        clear hmk
        obtain ⟨j, hj, rfl, HF⟩ := hrel
        by_cases hlt : j < 0
        · exact absurd hlt (by omega)
        · obtain rfl : j = 0 := by omega
          have HF' := Lib.hid (fill_end HL.out HF)
          clear HF
          go_wp2
          go_ret
          exact HF'.out
    · obtain ⟨m, rfl⟩ : ∃ m, k = m + 1 := ⟨k - 1, by omega⟩
      have hi : m < xs.length := by omega
      have hjj : ((m + 1 : Nat) : Int) - 1 = (m : Int) := by omega
      by_cases hz : xs[m] % 1024 = 0
      · obtain ⟨a, rfl, hab, hcell⟩ := H.out.at_ hi
        have hx := H.out.1 xs[m] (List.getElem_mem hi)
        have hmask := u16_mask (xs[m] : Int) (by omega) (by omega)
        have hz' : ((xs[m] : Int) % 1024 == 0) = true := by simp; omega
        have HK' : Hid (tr (xs.take m) = tr xs) := by
          have := HK.out; rw [tr_take hi, if_pos hz] at this; exact this
        clear HK hz
        go_wp2
        go_round
        case rel => exact ⟨m, by omega, HK', by first | rfl | go_num⟩
        case measure => simp [intOf]
      · have HL : Hid ((xs.take (m + 1)).map (· % 1024) = tr xs ∧ m + 1 ≤ xs.length) := ⟨by rw [← HK.out, tr_take hi, if_neg hz], hk⟩
        clear HK
        obtain ⟨a, hA, hab, hcell⟩ := H.out.at_ hi
        have hx := H.out.1 xs[m] (List.getElem_mem hi)
        have hmask := u16_mask (xs[m] : Int) (by omega) (by omega)
        have hz' : ((xs[m] : Int) % 1024 == 0) = false := by simp; omega
        subst hA
        have hmk : ∀ w, (Instr.makeSlice 41 (.int .i64 ((m : Int) + 1)) (.int .i64 ((m : Int) + 1))).run Tryz.prog w = .ok (.slice (some ⟨w.heap.size, 0, none⟩) (m + 1) (m + 1)) (w.alloc (.cells (madeCells #[.int .u16 0] (m + 1)) 46)) := run_make_row' (P := Tryz.prog) 41 46 (.int .u16 0) 2 Tryz.underlying41 info22 rfl .i64 .i64 (m + 1) (by omega) (by omega)
        go_wp2
        go_loopw [5] (fun q wr => ∃ j : Nat, j ≤ (m + 1) ∧ q = .int .i64 j ∧ Fill w wr xs (m + 1) j) (fun q _ => (m + 1) - (intOf q).toNat)
        case atStart => exact ⟨0, Nat.zero_le _, rfl, fill_start w xs (m + 1)⟩
        case round =>
          clear hmk
          obtain ⟨j, hj, rfl, HF⟩ := hrel
          by_cases hlt : j < (m + 1)
          · have hjx : j < xs.length := by omega
            obtain ⟨ad, hA, hab2, hcell2⟩ := (H.out.below HF.1).at_ hjx
            have hx := H.out.1 xs[j] (List.getElem_mem hjx)
            have hmask := u16_mask (xs[j] : Int) (by omega) (by omega)
            have hc0 := HF.2.cell (i := j) (by simp; omega)
            have hfz := HF.2.frozen j
            have HF' := Lib.hid (fill_step hlt hjx HF)
            clear HF
            go_wp2
            go_roundw
            case rel => exact ⟨j + 1, by omega, by go_num, HF'.out⟩
            case measure => simp [intOf]; omega
          · obtain rfl : j = (m + 1) := by omega
            have HF' := Lib.hid (fill_end HL.out HF)
            clear HF
            go_wp2
            go_ret
            exact HF'.out
theorem reftrim_any (A : Option Addr) (c : Nat) (xs : List Nat) (w : World) (h : Sl w w.heap.size A xs) (hl : xs.length ≤ 1000000) :
    Calls Tryz.prog 105 #[.slice A xs.length c] w (Gives w (tr xs)) := (reftrim_blk A c xs w h hl).mono fun _ _ h => h.gives
end Go.Proofs.YtjhoecfhmndcgaaGreat
