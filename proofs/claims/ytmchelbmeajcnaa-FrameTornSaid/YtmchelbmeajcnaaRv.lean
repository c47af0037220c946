/- The reference's polynomials: what they answer, said of lists. · The reference's values of polynomials, and how two rows of symbols part. · Whether two rows are the same, as the reference says it. · The reference's slopes and sums of polynomials. · The reference's sums of polynomials. · The reference's products of polynomials. · The reference's quotients of polynomials. -/
import Derived.Test.YtmchelbmeajcnaaSl
import Derived.Deep.QuietTactic
import Derived.BigQuiet
import Derived.StillTailTactics
namespace Go.Proofs.Ytmchelbmeajcnaa
open Go.RowKit Go.Gf

theorem info22 : (Try.prog.info? 29).map (fun i => (i.zero, i.size, i.bytes)) = some (some (.int .u16 0), 1, 2) := by kernel_rfl

/-- each modulo 1024, without noughts at the end -/
def tr (xs : List Nat) : List Nat := ((xs.map (· % 1024)).reverse.dropWhile (· == 0)).reverse
theorem tr_snoc (l : List Nat) (x : Nat) : tr (l ++ [x]) = if x % 1024 = 0 then tr l else (l ++ [x]).map (· % 1024) := by
  unfold tr
  rw [List.map_append, List.reverse_append]
  simp only [List.map_cons, List.map_nil, List.reverse_cons, List.reverse_nil, List.nil_append, List.singleton_append, List.dropWhile_cons]
  by_cases h : x % 1024 = 0
  · simp [h]
  · simp [h]
theorem take_snoc {xs : List Nat} {k : Nat} (h : k < xs.length) : xs.take (k + 1) = xs.take k ++ [xs[k]] := by
  rw [List.take_succ_eq_append_getElem h]
theorem tr_take {xs : List Nat} {k : Nat} (h : k < xs.length) : tr (xs.take (k + 1)) = if xs[k] % 1024 = 0 then tr (xs.take k) else (xs.take (k + 1)).map (· % 1024) := by
  rw [take_snoc h, tr_snoc]

/-- a call's ending: a slice of its own make that holds ys -/
def Gives (w : World) (ys : List Nat) (e : Ending) (w' : World) : Prop := ∃ s, e = .returned s ∧ Fresh w w' s ys
/-- likewise, and it is no nil slice -/
def GivesB (w : World) (ys : List Nat) (e : Ending) (w' : World) : Prop := ∃ g, w.heap.size ≤ g ∧ e = .returned (.slice (some ⟨g, 0, none⟩) ys.length ys.length) ∧ Arr w' g ys ∧ Below w.heap.size w w' ∧ ∀ y ∈ ys, y < 65536
theorem GivesB.gives {w w' : World} {ys : List Nat} {e : Ending} (h : GivesB w ys e w') : Gives w ys e w' := by
  obtain ⟨g, hg, he, ha, hb, hy⟩ := h
  exact ⟨_, he, hb, hy, Or.inr ⟨g, hg, rfl, ha⟩⟩
/-- the first j of k numbers are laid, each modulo 1024 -/
def Fill (w wr : World) (xs : List Nat) (k j : Nat) : Prop := Below w.heap.size w wr ∧ Arr wr w.heap.size ((xs.take j).map (· % 1024) ++ List.replicate (k - j) 0)
theorem fill_start (w : World) (xs : List Nat) (k : Nat) : Fill w (w.alloc (.cells (madeCells #[.int .u16 0] k) 29)) xs k 0 := by
  refine ⟨(Below.refl _ _).alloc (Nat.le_refl _) _, ?_⟩
  rw [made_uv]
  exact Arr.new w _
theorem fill_step {w wr : World} {xs : List Nat} {k j : Nat} (hj : j < k) (hx : j < xs.length) (h : Fill w wr xs k j) :
    Fill w (wr.setCell ⟨w.heap.size, j, none⟩ (.int .u16 ((xs[j] : Int) % 1024))) xs k (j + 1) := by
  refine ⟨h.1.setCell (by simp) _, ?_⟩
  have := h.2.set_ j (xs[j] % 1024)
  have e : ((xs.take j).map (· % 1024) ++ List.replicate (k - j) 0).set j (xs[j] % 1024) = (xs.take (j + 1)).map (· % 1024) ++ List.replicate (k - (j + 1)) 0 := by
    rw [take_snoc hx, List.map_append, List.append_assoc]
    obtain ⟨m, hm⟩ : ∃ m, k - j = m + 1 := ⟨k - j - 1, by omega⟩
    rw [hm, List.replicate_succ, show k - (j + 1) = m by omega]
    rw [List.set_append_right _ _ (by simp; omega)]
    simp [Nat.min_eq_left (Nat.le_of_lt hx)]
  rw [e] at this
  exact this
theorem fill_end {w wr : World} {xs : List Nat} {k : Nat} (ht : (xs.take k).map (· % 1024) = tr xs ∧ k ≤ xs.length) (h : Fill w wr xs k k) : GivesB w (tr xs) (.returned (.slice (some ⟨w.heap.size, 0, none⟩) k k)) wr := by
  obtain ⟨h1, h2⟩ := h
  rw [Nat.sub_self, List.replicate_zero, List.append_nil, ht.1] at h2
  have hlen : (tr xs).length = k := by rw [← ht.1]; simp; omega
  refine ⟨w.heap.size, Nat.le_refl _, by rw [hlen], h2, h1, ?_⟩
  intro y hy
  rw [← ht.1] at hy
  obtain ⟨x, _, rfl⟩ := List.mem_map.1 hy
  omega

set_option maxHeartbeats 2000000 in
theorem reftrim_blk (A : Option Addr) (c : Nat) (xs : List Nat) (w : World) (h : Sl w w.heap.size A xs) (hl : xs.length ≤ 1000000) :
    Calls Try.prog 106 #[.slice A xs.length c] w (GivesB w (tr xs)) := by
  have H := Lib.hid h
  clear h
  go_enter Try.func106, Try.ntmps106
  go_wp2
  go_loop [3] (fun n => ∃ k : Nat, k ≤ xs.length ∧ Hid (tr (xs.take k) = tr xs) ∧ n = .int .i64 k) (fun n => (intOf n).toNat)
  case atStart => exact ⟨xs.length, Nat.le_refl _, by unfold Hid; rw [List.take_length], rfl⟩
  case round =>
    obtain ⟨k, hk, HK, rfl⟩ := hrel
    by_cases h0 : k = 0
    · subst h0
      have HL : Hid ((xs.take 0).map (· % 1024) = tr xs ∧ 0 ≤ xs.length) := ⟨by rw [← HK.out]; rfl, hk⟩
      clear HK
      have hmk : ∀ w, (Instr.makeSlice 35 (.int .i64 0) (.int .i64 0)).run Try.prog w = .ok (.slice (some ⟨w.heap.size, 0, none⟩) 0 0) (w.alloc (.cells (madeCells #[.int .u16 0] 0) 29)) := run_make_row' (P := Try.prog) 35 29 (.int .u16 0) 2 Try.underlying35 info22 rfl .i64 .i64 0 (by omega) (by omega)
      go_wp2
      go_loopw [5] (fun q wr => ∃ j : Nat, j ≤ 0 ∧ q = .int .i64 j ∧ Fill w wr xs 0 j) (fun q _ => 0 - (intOf q).toNat)
      case atStart => exact ⟨0, Nat.zero_le _, rfl, fill_start w xs 0⟩
      case round =>
        clear hmk
        obtain ⟨j, hj, rfl, HF⟩ := hrel
        by_cases hlt : j < 0
        · exact absurd hlt (by omega)
        · obtain rfl : j = 0 := by omega
          have HF' := Lib.hid (fill_end HL.out HF)
          clear HF
          go_wp2
          go_ret
          exact HF'.out
    · obtain ⟨m, rfl⟩ : ∃ m, k = m + 1 := ⟨k - 1, by omega⟩
      have hi : m < xs.length := by omega
      have hjj : ((m + 1 : Nat) : Int) - 1 = (m : Int) := by omega
      by_cases hz : xs[m] % 1024 = 0
      · obtain ⟨a, rfl, hab, hcell⟩ := H.out.at_ hi
        have hx := H.out.1 xs[m] (List.getElem_mem hi)
        have hmask := u16_mask (xs[m] : Int) (by omega) (by omega)
        have hz' : ((xs[m] : Int) % 1024 == 0) = true := by simp; omega
        have HK' : Hid (tr (xs.take m) = tr xs) := by
          have := HK.out; rw [tr_take hi, if_pos hz] at this; exact this
        clear HK hz
        go_wp2
        go_round
        case rel => exact ⟨m, by omega, HK', by first | rfl | go_num⟩
        case measure => simp [intOf]
      · have HL : Hid ((xs.take (m + 1)).map (· % 1024) = tr xs ∧ m + 1 ≤ xs.length) := ⟨by rw [← HK.out, tr_take hi, if_neg hz], hk⟩
        clear HK
        obtain ⟨a, hA, hab, hcell⟩ := H.out.at_ hi
        have hx := H.out.1 xs[m] (List.getElem_mem hi)
        have hmask := u16_mask (xs[m] : Int) (by omega) (by omega)
        have hz' : ((xs[m] : Int) % 1024 == 0) = false := by simp; omega
        subst hA
        have hmk : ∀ w, (Instr.makeSlice 35 (.int .i64 ((m : Int) + 1)) (.int .i64 ((m : Int) + 1))).run Try.prog w = .ok (.slice (some ⟨w.heap.size, 0, none⟩) (m + 1) (m + 1)) (w.alloc (.cells (madeCells #[.int .u16 0] (m + 1)) 29)) := run_make_row' (P := Try.prog) 35 29 (.int .u16 0) 2 Try.underlying35 info22 rfl .i64 .i64 (m + 1) (by omega) (by omega)
        go_wp2
        go_loopw [5] (fun q wr => ∃ j : Nat, j ≤ (m + 1) ∧ q = .int .i64 j ∧ Fill w wr xs (m + 1) j) (fun q _ => (m + 1) - (intOf q).toNat)
        case atStart => exact ⟨0, Nat.zero_le _, rfl, fill_start w xs (m + 1)⟩
        case round =>
          clear hmk
          obtain ⟨j, hj, rfl, HF⟩ := hrel
          by_cases hlt : j < (m + 1)
          · have hjx : j < xs.length := by omega
            obtain ⟨ad, hA, hab2, hcell2⟩ := (H.out.below HF.1).at_ hjx
            have hx := H.out.1 xs[j] (List.getElem_mem hjx)
            have hmask := u16_mask (xs[j] : Int) (by omega) (by omega)
            have hc0 := HF.2.cell (i := j) (by simp; omega)
            have hfz := HF.2.frozen j
            have HF' := Lib.hid (fill_step hlt hjx HF)
            clear HF
            go_wp2
            go_roundw
            case rel => exact ⟨j + 1, by omega, by go_num, HF'.out⟩
            case measure => simp [intOf]; omega
          · obtain rfl : j = (m + 1) := by omega
            have HF' := Lib.hid (fill_end HL.out HF)
            clear HF
            go_wp2
            go_ret
            exact HF'.out
theorem reftrim_any (A : Option Addr) (c : Nat) (xs : List Nat) (w : World) (h : Sl w w.heap.size A xs) (hl : xs.length ≤ 1000000) :
    Calls Try.prog 106 #[.slice A xs.length c] w (Gives w (tr xs)) := (reftrim_blk A c xs w h hl).mono fun _ _ h => h.gives
end Go.Proofs.Ytmchelbmeajcnaa
namespace Go.Proofs.Ytmchelbmeajcnaa
open Go.RowKit Go.Gf

/-- the value of a polynomial at x -/
def ev (x : Nat) : List Nat → Nat
  | [] => 0
  | c :: p => gm (ev x p) x ^^^ (c % 1024)
theorem ev_lt (x : Nat) (p : List Nat) : ev x p < 1024 := by
  induction p with
  | nil => show 0 < 1024; decide
  | cons c p ih => exact xor_lt (gm_lt _ ih) (Nat.mod_lt _ (by decide))
theorem ev_drop {x : Nat} {xs : List Nat} {k : Nat} (h : k < xs.length) : ev x (xs.drop k) = gm (ev x (xs.drop (k + 1))) x ^^^ (xs[k] % 1024) := by
  rw [List.drop_eq_getElem_cons h]; rfl
theorem drewN_zero (w : World) : w.drewN 0 = w := rfl
/-- wr is w but for draws -/
def Drawn (w wr : World) : Prop := ∃ n, wr = w.drewN n
theorem Drawn.drewN {w wr : World} (h : Drawn w wr) (k : Nat) : Drawn w (wr.drewN k) := by
  obtain ⟨n, rfl⟩ := h
  exact ⟨n + k, by rw [World.drewN_drewN]⟩
theorem Sl.drawn {w wr : World} {B : Nat} {A : Option Addr} {xs : List Nat} (h : Sl w B A xs) (hd : Drawn w wr) : Sl wr B A xs := by
  obtain ⟨n, rfl⟩ := hd; exact h
/-- a call answers v, and at most draws -/
def Quietly (w : World) (v : Value) (e : Ending) (w' : World) : Prop := e = .returned v ∧ Drawn w w'


/-- in how many places two rows part -/
def dl (a b : List Nat) : Nat := (max a.length b.length - min a.length b.length) + (a.zip b).countP fun p => p.1 != p.2
def cnt (a b : List Nat) (k : Nat) : Nat := ((a.zip b).take k).countP fun p => p.1 != p.2
theorem cnt_zero (a b : List Nat) : cnt a b 0 = 0 := rfl
theorem cnt_step {a b : List Nat} {k : Nat} (ha : k < a.length) (hb : k < b.length) : cnt a b (k + 1) = cnt a b k + if a[k] = b[k] then 0 else 1 := by
  unfold cnt
  rw [List.take_succ_eq_append_getElem (by simp; omega), List.countP_append]
  by_cases h : a[k] = b[k] <;> simp [h]
theorem cnt_le (a b : List Nat) (k : Nat) : cnt a b k ≤ k := by
  unfold cnt
  refine Nat.le_trans List.countP_le_length ?_
  simp; omega
theorem cnt_end {a b : List Nat} {k : Nat} (h : min a.length b.length ≤ k) : cnt a b k = (a.zip b).countP fun p => p.1 != p.2 := by
  unfold cnt
  rw [List.take_of_length_le (by simp; omega)]

set_option maxHeartbeats 2000000 in
theorem refdistance_any (A B : Option Addr) (ca cb : Nat) (xs ys : List Nat) (w : World) (ha : Sl w w.heap.size A xs) (hb : Sl w w.heap.size B ys) (hla : xs.length ≤ 1000000) (hlb : ys.length ≤ 1000000) :
    Calls Try.prog 40 #[.slice A xs.length ca, .slice B ys.length cb] w (Quietly w (.int .i64 ((dl xs ys : Nat) : Int))) := by
  have HA := Lib.hid ha
  have HB := Lib.hid hb
  clear ha hb
  rcases Nat.lt_trichotomy xs.length ys.length with hle | hle | hle
  · have HD : Hid (dl xs ys = (ys.length - xs.length) + cnt xs ys xs.length) := by
      unfold Hid dl; rw [cnt_end (by omega)]; congr 1; omega
    generalize dl xs ys = T at HD
    go_enter Try.func40, Try.ntmps40
    go_wp2
    go_loopw [5, 6] (fun n i wr => ∃ k : Nat, k ≤ xs.length ∧ i = .int .i64 k ∧ n = .int .i64 (((ys.length - xs.length) + cnt xs ys k : Nat) : Int) ∧ Drawn w wr) (fun _ i _ => xs.length - (intOf i).toNat)
    case atStart => exact ⟨0, Nat.zero_le _, rfl, by rw [cnt_zero]; first | rfl | (congr 1; omega), ⟨0, rfl⟩⟩
    case round =>
      obtain ⟨k, hk, rfl, rfl, HW⟩ := hrel
      have hck := cnt_le xs ys k
      by_cases hlt : k < xs.length
      · have hk1 : k < xs.length := by omega
        have hk2 : k < ys.length := by omega
        obtain ⟨a, hAe, hab, hcell⟩ := (HA.out.drawn HW).at_ hk1
        obtain ⟨b, hBe, hbb, hcellb⟩ := (HB.out.drawn HW).at_ hk2
        subst hAe hBe
        have hst := cnt_step hk1 hk2
        by_cases he : xs[k] = ys[k]
        · rw [if_pos he] at hst
          have hne : ((xs[k] : Int) != (ys[k] : Int)) = false := by simp [he]
          have HS := Lib.hid hst
          clear hst he
          go_wp2
          go_quiet (fail)
          go_wp2
          go_roundw
          case rel => exact ⟨k + 1, by omega, by go_num, by rw [HS.out]; rfl, HW.drewN _⟩
          case measure => simp [intOf]; omega
        · rw [if_neg he] at hst
          have hne : ((xs[k] : Int) != (ys[k] : Int)) = true := by simp; omega
          have HS := Lib.hid hst
          clear hst he
          go_wp2
          go_quiet (fail)
          go_wp2
          go_roundw
          case rel => exact ⟨k + 1, by omega, by go_num, by rw [HS.out]; go_num, HW.drewN _⟩
          case measure => simp [intOf]; omega
      · obtain rfl : k = xs.length := by omega
        have HD' := HD.out
        subst HD'
        go_wp2
        go_ret
        exact ⟨rfl, HW⟩
  · have HD : Hid (dl xs ys = 0 + cnt xs ys xs.length) := by
      unfold Hid dl; rw [cnt_end (by omega)]; congr 1; omega
    have h1 : xs.length ≤ ys.length := by omega
    have h2 : ys.length ≤ xs.length := by omega
    clear hle
    generalize dl xs ys = T at HD
    go_enter Try.func40, Try.ntmps40
    go_wp2
    go_loopw [5, 6] (fun n i wr => ∃ k : Nat, k ≤ xs.length ∧ i = .int .i64 k ∧ n = .int .i64 ((0 + cnt xs ys k : Nat) : Int) ∧ Drawn w wr) (fun _ i _ => xs.length - (intOf i).toNat)
    case atStart => exact ⟨0, Nat.zero_le _, rfl, by rw [cnt_zero]; first | rfl | (congr 1; omega), ⟨0, rfl⟩⟩
    case round =>
      obtain ⟨k, hk, rfl, rfl, HW⟩ := hrel
      have hck := cnt_le xs ys k
      by_cases hlt : k < xs.length
      · have hk1 : k < xs.length := by omega
        have hk2 : k < ys.length := by omega
        obtain ⟨a, hAe, hab, hcell⟩ := (HA.out.drawn HW).at_ hk1
        obtain ⟨b, hBe, hbb, hcellb⟩ := (HB.out.drawn HW).at_ hk2
        subst hAe hBe
        have hst := cnt_step hk1 hk2
        by_cases he : xs[k] = ys[k]
        · rw [if_pos he] at hst
          have hne : ((xs[k] : Int) != (ys[k] : Int)) = false := by simp [he]
          have HS := Lib.hid hst
          clear hst he
          go_wp2
          go_quiet (fail)
          go_wp2
          go_roundw
          case rel => exact ⟨k + 1, by omega, by go_num, by rw [HS.out]; rfl, HW.drewN _⟩
          case measure => simp [intOf]; omega
        · rw [if_neg he] at hst
          have hne : ((xs[k] : Int) != (ys[k] : Int)) = true := by simp; omega
          have HS := Lib.hid hst
          clear hst he
          go_wp2
          go_quiet (fail)
          go_wp2
          go_roundw
          case rel => exact ⟨k + 1, by omega, by go_num, by rw [HS.out]; go_num, HW.drewN _⟩
          case measure => simp [intOf]; omega
      · obtain rfl : k = xs.length := by omega
        have HD' := HD.out
        subst HD'
        go_wp2
        go_ret
        exact ⟨rfl, HW⟩
  · have HD : Hid (dl xs ys = (xs.length - ys.length) + cnt xs ys ys.length) := by
      unfold Hid dl; rw [cnt_end (by omega)]; congr 1; omega
    generalize dl xs ys = T at HD
    go_enter Try.func40, Try.ntmps40
    go_wp2
    go_loopw [5, 6] (fun n i wr => ∃ k : Nat, k ≤ ys.length ∧ i = .int .i64 k ∧ n = .int .i64 (((xs.length - ys.length) + cnt xs ys k : Nat) : Int) ∧ Drawn w wr) (fun _ i _ => ys.length - (intOf i).toNat)
    case atStart => exact ⟨0, Nat.zero_le _, rfl, by rw [cnt_zero]; first | rfl | (congr 1; omega), ⟨0, rfl⟩⟩
    case round =>
      obtain ⟨k, hk, rfl, rfl, HW⟩ := hrel
      have hck := cnt_le xs ys k
      by_cases hlt : k < ys.length
      · have hk1 : k < xs.length := by omega
        have hk2 : k < ys.length := by omega
        obtain ⟨a, hAe, hab, hcell⟩ := (HA.out.drawn HW).at_ hk1
        obtain ⟨b, hBe, hbb, hcellb⟩ := (HB.out.drawn HW).at_ hk2
        subst hAe hBe
        have hst := cnt_step hk1 hk2
        by_cases he : xs[k] = ys[k]
        · rw [if_pos he] at hst
          have hne : ((xs[k] : Int) != (ys[k] : Int)) = false := by simp [he]
          have HS := Lib.hid hst
          clear hst he
          go_wp2
          go_quiet (fail)
          go_wp2
          go_roundw
          case rel => exact ⟨k + 1, by omega, by go_num, by rw [HS.out]; rfl, HW.drewN _⟩
          case measure => simp [intOf]; omega
        · rw [if_neg he] at hst
          have hne : ((xs[k] : Int) != (ys[k] : Int)) = true := by simp; omega
          have HS := Lib.hid hst
          clear hst he
          go_wp2
          go_quiet (fail)
          go_wp2
          go_roundw
          case rel => exact ⟨k + 1, by omega, by go_num, by rw [HS.out]; go_num, HW.drewN _⟩
          case measure => simp [intOf]; omega
      · obtain rfl : k = ys.length := by omega
        have HD' := HD.out
        subst HD'
        go_wp2
        go_ret
        exact ⟨rfl, HW⟩
end Go.Proofs.Ytmchelbmeajcnaa
namespace Go.Proofs.Ytmchelbmeajcnaa
open Go.RowKit Go.Gf

theorem dl_zero {a b : List Nat} (h : a.length = b.length) : dl a b = 0 ↔ a = b := by
  unfold dl
  rw [h, Nat.max_self, Nat.min_self, Nat.sub_self, Nat.zero_add]
  induction a generalizing b with
  | nil => cases b with
    | nil => simp
    | cons y b => simp at h
  | cons x a ih => cases b with
    | nil => simp at h
    | cons y b =>
      have := ih (b := b) (by simpa using h)
      simp only [List.zip_cons_cons, List.countP_cons, List.cons.injEq]
      by_cases hxy : x = y
      · simpa [hxy] using this
      · simp [hxy]

set_option maxHeartbeats 2000000 in
theorem refsame_any (A B : Option Addr) (ca cb : Nat) (xs ys : List Nat) (w : World) (ha : Sl w w.heap.size A xs) (hb : Sl w w.heap.size B ys) (hla : xs.length ≤ 1000000) (hlb : ys.length ≤ 1000000) :
    Calls Try.prog 18 #[.slice A xs.length ca, .slice B ys.length cb] w (Quietly w (.bool (decide (xs = ys)))) := by
  have hc := Lib.hid (refdistance_any A B ca cb xs ys w ha hb hla hlb)
  clear ha hb
  by_cases hl : xs.length = ys.length
  · have HD := Lib.hid (dl_zero hl)
    have hl1 : ((xs.length : Int) == (ys.length : Int)) = true := by simp; omega
    have hl2 := Lib.hid hl
    clear hl
    by_cases he : xs = ys
    · have hz : ((dl xs ys : Nat) : Int) = 0 := by rw [HD.out.2 he]; rfl
      have HT : Hid (decide (xs = ys) = true) := by unfold Hid; simp [he]
      clear he
      generalize decide (xs = ys) = T at HT
      go_enter Try.func18, Try.ntmps18
      go_wp2_with (go_at_call 40; refine hc.out.mono ?_; rintro e w' ⟨rfl, HW⟩)
      go_ret
      exact ⟨by rw [HT.out]; rfl, HW⟩
    · have hz : (((dl xs ys : Nat) : Int) == 0) = false := by
        have := mt HD.out.1 he
        simp; omega
      have HT : Hid (decide (xs = ys) = false) := by unfold Hid; simp [he]
      clear he
      generalize decide (xs = ys) = T at HT
      go_enter Try.func18, Try.ntmps18
      go_wp2_with (go_at_call 40; refine hc.out.mono ?_; rintro e w' ⟨rfl, HW⟩)
      go_ret
      exact ⟨by rw [HT.out]; rfl, HW⟩
  · have hl1 : ((xs.length : Int) == (ys.length : Int)) = false := by simp; omega
    have HT : Hid (decide (xs = ys) = false) := by unfold Hid; simp; rintro rfl; exact hl rfl
    clear hl
    generalize decide (xs = ys) = T at HT
    go_enter Try.func18, Try.ntmps18
    go_wp2
    go_ret
    exact ⟨by rw [HT.out]; rfl, ⟨0, rfl⟩⟩
end Go.Proofs.Ytmchelbmeajcnaa
namespace Go.Proofs.Ytmchelbmeajcnaa
open Go.RowKit Go.Gf

/-- the row of n numbers that f says -/
def rm (n : Nat) (f : Nat → Nat) : List Nat := (List.range n).map f
theorem rm_len (n : Nat) (f : Nat → Nat) : (rm n f).length = n := by simp [rm]
theorem rm_get {n : Nat} {f : Nat → Nat} {i : Nat} (h : i < (rm n f).length) : (rm n f)[i] = f i := by simp [rm]
theorem rm_congr {n : Nat} {f g : Nat → Nat} (h : ∀ j, j < n → f j = g j) : rm n f = rm n g := by
  unfold rm
  exact List.map_congr_left fun j hj => h j (List.mem_range.1 hj)
theorem rm_set (n : Nat) (f : Nat → Nat) (i v : Nat) : (rm n f).set i v = rm n (fun j => if j = i then v else f j) := by
  apply List.ext_getElem
  · simp [rm]
  · intro j h1 h2
    simp [rm, List.getElem_set]
    by_cases h : i = j
    · simp [h]
    · simp [h, Ne.symm h]
theorem rm_zero (n : Nat) : List.replicate n 0 = rm n (fun _ => 0) := by
  apply List.ext_getElem
  · simp [rm]
  · intro j h1 h2; simp [rm]
theorem rm_mem {n : Nat} {f : Nat → Nat} {b : Nat} (h : ∀ j, j < n → f j < b) : ∀ x ∈ rm n f, x < b := by
  intro x hx
  obtain ⟨j, hj, rfl⟩ := List.mem_map.1 hx
  exact h j (List.mem_range.1 hj)
theorem add_pos (a : Addr) (n : Nat) (h : n ≠ 0) : a.add n = ⟨a.block, a.off + n, none⟩ := by unfold Addr.add; rw [if_neg h]
/-- the call's own row, which f says -/
def Own (w wr : World) (g n : Nat) (f : Nat → Nat) : Prop := w.heap.size ≤ g ∧ Below w.heap.size w wr ∧ Arr wr g (rm n f)
theorem own_start (w : World) (n : Nat) : Own w (w.alloc (.cells (madeCells #[.int .u16 0] n) 29)) w.heap.size n (fun _ => 0) := by
  refine ⟨Nat.le_refl _, (Below.refl _ _).alloc (Nat.le_refl _) _, ?_⟩
  rw [made_uv, rm_zero]
  exact Arr.new w _
theorem Own.set_ {w wr : World} {g n : Nat} {f : Nat → Nat} (h : Own w wr g n f) (i v : Nat) : Own w (wr.setCell ⟨g, i, none⟩ (.int .u16 (v : Int))) g n (fun j => if j = i then v else f j) := by
  refine ⟨h.1, h.2.1.setCell h.1 _, ?_⟩
  rw [← rm_set]; exact h.2.2.set_ i v
theorem Own.congr {w wr : World} {g n : Nat} {f f' : Nat → Nat} (h : Own w wr g n f) (e : ∀ j, j < n → f j = f' j) : Own w wr g n f' := by
  refine ⟨h.1, h.2.1, ?_⟩
  rw [← rm_congr e]; exact h.2.2
theorem Own.drewN {w wr : World} {g n : Nat} {f : Nat → Nat} (h : Own w wr g n f) (k : Nat) : Own w (wr.drewN k) g n f := ⟨h.1, below_drewN h.2.1 k, h.2.2⟩
theorem Own.cell {w wr : World} {g n : Nat} {f : Nat → Nat} (h : Own w wr g n f) {i : Nat} (hi : i < n) : wr.cell? ⟨g, i, none⟩ = some (.int .u16 ((f i : Nat) : Int)) := by
  have := h.2.2.cell (i := i) (by rw [rm_len]; exact hi)
  rw [rm_get] at this; exact this
theorem Own.sl {w wr : World} {g n : Nat} {f : Nat → Nat} (h : Own w wr g n f) (hf : ∀ j, j < n → f j < 65536) : Sl wr wr.heap.size (some ⟨g, 0, none⟩) (rm n f) := h.2.2.sl (rm_mem hf)
theorem Fresh.since {w w1 w2 : World} {s : Value} {ys : List Nat} (h : Fresh w1 w2 s ys) (hb : Below w.heap.size w w1) : Fresh w w2 s ys := by
  obtain ⟨b, hy, h3⟩ := h
  refine ⟨hb.trans (b.mono hb.size), hy, ?_⟩
  rcases h3 with h3 | ⟨g, hg, h4, h5⟩
  · exact Or.inl h3
  · exact Or.inr ⟨g, Nat.le_trans hb.size hg, h4, h5⟩
/-- the row's numbers, noughts behind it -/
def at_ (xs : List Nat) (j : Nat) : Nat := xs.getD j 0
theorem at_get {xs : List Nat} {j : Nat} (h : j < xs.length) : at_ xs j = xs[j] := by simp [at_, h]
theorem at_far {xs : List Nat} {j : Nat} (h : xs.length ≤ j) : at_ xs j = 0 := by simp [at_, h]
theorem at_lt {xs : List Nat} {b j : Nat} (h : ∀ x ∈ xs, x < b) (hb : 0 < b) : at_ xs j < b := by
  rcases Nat.lt_or_ge j xs.length with hj | hj
  · rw [at_get hj]; exact h _ (List.getElem_mem hj)
  · rw [at_far hj]; exact hb

/-- the formal slope, not yet without noughts at its end: the places below p laid -/
def slopeF (xs : List Nat) (p j : Nat) : Nat := if j % 2 = 0 ∧ j < p then at_ xs (j + 1) else 0
def slope (xs : List Nat) : List Nat := tr (rm xs.length fun j => if j % 2 = 0 then at_ xs (j + 1) else 0)

end Go.Proofs.Ytmchelbmeajcnaa
namespace Go.Proofs.Ytmchelbmeajcnaa
open Go.RowKit Go.Gf
set_option maxRecDepth 20000

/-- the sum, not yet without noughts at its end: of the second the first m laid -/
def addF (xs ys : List Nat) (m j : Nat) : Nat := if j < m then at_ xs j ^^^ at_ ys j else at_ xs j
def padd (xs ys : List Nat) : List Nat := tr (rm (max xs.length ys.length) fun j => at_ xs j ^^^ at_ ys j)

end Go.Proofs.Ytmchelbmeajcnaa
namespace Go.Proofs.Ytmchelbmeajcnaa
open Go.RowKit Go.Gf
set_option maxRecDepth 20000

theorem tr_bd (xs : List Nat) : ∀ x ∈ tr xs, x < 1024 := by
  intro x hx
  unfold tr at hx
  have h1 := List.mem_reverse.1 hx
  have h2 := (List.dropWhile_suffix (fun x => x == 0)).subset h1
  have h3 := List.mem_reverse.1 h2
  obtain ⟨y, _, rfl⟩ := List.mem_map.1 h3
  omega
theorem tr_len (xs : List Nat) : (tr xs).length ≤ xs.length := by
  unfold tr
  rw [List.length_reverse]
  have := (List.dropWhile_suffix (fun x : Nat => x == 0) (l := (xs.map (· % 1024)).reverse)).length_le
  simpa using this
theorem Fresh.sl {w w' : World} {s : Value} {ys : List Nat} (h : Fresh w w' s ys) : ∃ A c, s = .slice A ys.length c ∧ Sl w' w'.heap.size A ys ∧ Below w.heap.size w w' := by
  obtain ⟨hb, hy, h3⟩ := h
  rcases h3 with ⟨rfl, rfl⟩ | ⟨g, hg, rfl, ha⟩
  · exact ⟨none, 0, rfl, Sl.nil _ _ _, hb⟩
  · exact ⟨_, _, rfl, ha.sl hy, hb⟩
theorem Sl.far {w w' : World} {A : Option Addr} {xs : List Nat} (h : Sl w w.heap.size A xs) (hb : Below w.heap.size w w') : Sl w' w'.heap.size A xs := (h.below hb).more hb.size

/-- a slice that holds xs, made when the heap had at least lo blocks -/
def SlF (w : World) (lo : Nat) (A : Option Addr) (xs : List Nat) : Prop := Sl w w.heap.size A xs ∧ (xs = [] ∨ ∃ a, A = some a ∧ lo ≤ a.block)
theorem SlF.far {w w' : World} {lo : Nat} {A : Option Addr} {xs : List Nat} (h : SlF w lo A xs) (hb : Below w.heap.size w w') : SlF w' lo A xs := ⟨h.1.far hb, h.2⟩
theorem SlF.lo {w : World} {lo lo' : Nat} {A : Option Addr} {xs : List Nat} (h : SlF w lo A xs) (hl : lo' ≤ lo) : SlF w lo' A xs := by
  refine ⟨h.1, ?_⟩
  rcases h.2 with e | ⟨a, e, h2⟩
  · exact Or.inl e
  · exact Or.inr ⟨a, e, by omega⟩
theorem Fresh.slf {w w' : World} {s : Value} {ys : List Nat} (h : Fresh w w' s ys) : ∃ A c, s = .slice A ys.length c ∧ SlF w' w.heap.size A ys ∧ Below w.heap.size w w' := by
  obtain ⟨A, c, h1, h2, h3⟩ := h.sl
  refine ⟨A, c, h1, ⟨h2, ?_⟩, h3⟩
  obtain ⟨_, _, h4⟩ := h
  rcases h4 with ⟨_, e⟩ | ⟨g, hg, e, _⟩
  · exact Or.inl e
  · right
    rw [h1] at e
    injection e with e
    exact ⟨_, e, hg⟩

/-- one row of the product: f, with x times the first k of ys added from place i on -/
def mrow (f : Nat → Nat) (x : Nat) (ys : List Nat) (i : Nat) : Nat → Nat → Nat
  | 0, j => f j
  | k + 1, j => if j = i + k then mrow f x ys i k j ^^^ gm x (at_ ys k) else mrow f x ys i k j
/-- the first i rows of the product -/
def mall (xs ys : List Nat) : Nat → Nat → Nat
  | 0, _ => 0
  | i + 1, j => mrow (mall xs ys i) (at_ xs i) ys i ys.length j
theorem mrow_lt {f : Nat → Nat} {x : Nat} {ys : List Nat} {i : Nat} (hf : ∀ j, f j < 1024) (hx : x < 1024) (k j : Nat) : mrow f x ys i k j < 1024 := by
  induction k with
  | zero => exact hf j
  | succ k ih =>
    unfold mrow
    split
    · exact xor_lt ih (gm_lt _ hx)
    · exact ih
theorem mall_lt {xs ys : List Nat} (hx : ∀ x ∈ xs, x < 1024) (i j : Nat) : mall xs ys i j < 1024 := by
  induction i generalizing j with
  | zero => show 0 < 1024; decide
  | succ i ih => exact mrow_lt ih (at_lt hx (by decide)) _ _
def pmul (xs ys : List Nat) : List Nat :=
  if (tr xs).length = 0 ∨ (tr ys).length = 0 ∨ 4096 < (tr xs).length + (tr ys).length - 1 then [] else tr (rm ((tr xs).length + (tr ys).length - 1) (mall (tr xs) (tr ys) (tr xs).length))
theorem refmul_still (a b : Int) (w : World) (a0 : 0 ≤ a) (a1 : a < 65536) (b0 : 0 ≤ b) (b1 : b < 65536) :
    Calls Try.prog 64 #[.int .u16 a, .int .u16 b] w fun e w' => e = .returned (.int .u16 (mulI a b)) ∧ w' = w :=
  (refmul_any a b w a0 a1 b0 b1).mono fun _ _ h => ⟨h.1, h.2.symm⟩
theorem gives_nil {w w1 : World} (h : Below w.heap.size w w1) : Gives w [] (.returned (.slice none 0 0)) w1 := ⟨_, rfl, h, by simp, Or.inl ⟨rfl, rfl⟩⟩

set_option maxHeartbeats 4000000 in
theorem refpmul_any (A B : Option Addr) (ca cb : Nat) (xs ys : List Nat) (w : World) (ha : Sl w w.heap.size A xs) (hb : Sl w w.heap.size B ys) (hla : xs.length ≤ 1000000) (hlb : ys.length ≤ 1000000) :
    Calls Try.prog 88 #[.slice A xs.length ca, .slice B ys.length cb] w (Gives w (pmul xs ys)) := by
  have HA := Lib.hid ha
  have HB := Lib.hid hb
  clear ha hb
  have HX := Lib.hid (tr_bd xs)
  have HY := Lib.hid (tr_bd ys)
  have la := tr_len xs
  have lb := tr_len ys
  have HT : Hid (pmul xs ys = if (tr xs).length = 0 ∨ (tr ys).length = 0 ∨ 4096 < (tr xs).length + (tr ys).length - 1 then [] else tr (rm ((tr xs).length + (tr ys).length - 1) (mall (tr xs) (tr ys) (tr xs).length))) := rfl
  have t1 : ∀ w, Sl w w.heap.size A xs → Calls Try.prog 106 #[.slice A xs.length ca] w (Gives w (tr xs)) := fun w h => reftrim_any A ca xs w h hla
  have t2 : ∀ w, Sl w w.heap.size B ys → Calls Try.prog 106 #[.slice B ys.length cb] w (Gives w (tr ys)) := fun w h => reftrim_any B cb ys w h hlb
  generalize pmul xs ys = T at HT
  generalize tr xs = a at *
  generalize tr ys = b at *
  by_cases hc : a.length = 0 ∨ b.length = 0 ∨ 4096 < a.length + b.length - 1
  · have HT' : Hid (T = []) := by unfold Hid; rw [HT.out, if_pos hc]
    clear HT
    by_cases ha0 : a.length = 0
    · have hz : ((a.length : Int) == 0) = true := by rw [beq_iff_eq]; omega
      clear hc ha0
      go_enter Try.func88, Try.ntmps88
      go_wp2_with (first | (go_at_call 106; (with_reducible refine (t1 _ HA.out).mono ?_); rintro e w1 ⟨s1, rfl, HF1⟩; obtain ⟨A1, c1, rfl, HS1, HB1⟩ := HF1.sl; replace HS1 := Lib.hid HS1; replace HB1 := Lib.hid HB1; clear HF1) | (go_at_call 106; (with_reducible refine (t2 _ (HB.out.far HB1.out)).mono ?_); rintro e w2 ⟨s2, rfl, HF2⟩; obtain ⟨A2, c2, rfl, HS2, HB2⟩ := HF2.sl; replace HS2 := Lib.hid HS2; replace HB2 := Lib.hid HB2; clear HF2))
      go_ret
      rw [HT'.out]
      exact gives_nil (HB1.out.trans (HB2.out.mono HB1.out.size))
    · by_cases hb0 : b.length = 0
      · have hz : ((a.length : Int) == 0) = false := by rw [beq_eq_false_iff_ne]; omega
        have hz2 : ((b.length : Int) == 0) = true := by rw [beq_iff_eq]; omega
        clear hc ha0 hb0
        go_enter Try.func88, Try.ntmps88
        go_wp2_with (first | (go_at_call 106; (with_reducible refine (t1 _ HA.out).mono ?_); rintro e w1 ⟨s1, rfl, HF1⟩; obtain ⟨A1, c1, rfl, HS1, HB1⟩ := HF1.sl; replace HS1 := Lib.hid HS1; replace HB1 := Lib.hid HB1; clear HF1) | (go_at_call 106; (with_reducible refine (t2 _ (HB.out.far HB1.out)).mono ?_); rintro e w2 ⟨s2, rfl, HF2⟩; obtain ⟨A2, c2, rfl, HS2, HB2⟩ := HF2.sl; replace HS2 := Lib.hid HS2; replace HB2 := Lib.hid HB2; clear HF2))
        go_ret
        rw [HT'.out]
        exact gives_nil (HB1.out.trans (HB2.out.mono HB1.out.size))
      · have hz : ((a.length : Int) == 0) = false := by rw [beq_eq_false_iff_ne]; omega
        have hz2 : ((b.length : Int) == 0) = false := by rw [beq_eq_false_iff_ne]; omega
        have hz3 : decide ((4096 : Int) < (a.length : Int) + (b.length : Int) - 1) = true := by rw [decide_eq_true_eq]; omega
        clear hc ha0 hb0
        go_enter Try.func88, Try.ntmps88
        go_wp2_with (first | (go_at_call 106; (with_reducible refine (t1 _ HA.out).mono ?_); rintro e w1 ⟨s1, rfl, HF1⟩; obtain ⟨A1, c1, rfl, HS1, HB1⟩ := HF1.sl; replace HS1 := Lib.hid HS1; replace HB1 := Lib.hid HB1; clear HF1) | (go_at_call 106; (with_reducible refine (t2 _ (HB.out.far HB1.out)).mono ?_); rintro e w2 ⟨s2, rfl, HF2⟩; obtain ⟨A2, c2, rfl, HS2, HB2⟩ := HF2.sl; replace HS2 := Lib.hid HS2; replace HB2 := Lib.hid HB2; clear HF2))
        go_ret
        rw [HT'.out]
        exact gives_nil (HB1.out.trans (HB2.out.mono HB1.out.size))
  · have HT' : Hid (T = tr (rm (a.length + b.length - 1) (mall a b a.length))) := by unfold Hid; rw [HT.out, if_neg hc]
    clear HT
    have ha0 : ((a.length : Int) == 0) = false := by rw [beq_eq_false_iff_ne]; omega
    have hb0 : ((b.length : Int) == 0) = false := by rw [beq_eq_false_iff_ne]; omega
    have hab : decide ((4096 : Int) < (a.length : Int) + (b.length : Int) - 1) = false := by rw [decide_eq_false_iff_not]; omega
    have hN : a.length + b.length - 1 ≤ 4096 := by omega
    have hpos : 0 < a.length ∧ 0 < b.length := by omega
    obtain ⟨ap, bp⟩ := hpos
    have hmk : ∀ w, (Instr.makeSlice 35 (.int .i64 ((a.length : Int) + (b.length : Int) - 1)) (.int .i64 ((a.length : Int) + (b.length : Int) - 1))).run Try.prog w = .ok (.slice (some ⟨w.heap.size, 0, none⟩) (a.length + b.length - 1) (a.length + b.length - 1)) (w.alloc (.cells (madeCells #[.int .u16 0] (a.length + b.length - 1)) 29)) := by
      intro w
      have := run_make_row' (P := Try.prog) 35 29 (.int .u16 0) 2 Try.underlying35 info22 rfl .i64 .i64 (a.length + b.length - 1) (by omega) (by omega) w
      rw [show ((a.length + b.length - 1 : Nat) : Int) = (a.length : Int) + (b.length : Int) - 1 by omega] at this
      exact this
    clear hc
    go_enter Try.func88, Try.ntmps88
    go_wp2_with (first | (go_at_call 106; (with_reducible refine (t1 _ HA.out).mono ?_); rintro e w1 ⟨s1, rfl, HF1⟩; obtain ⟨A1, c1, rfl, HS1, HB1⟩ := HF1.sl; replace HS1 := Lib.hid HS1; replace HB1 := Lib.hid HB1; clear HF1) | (go_at_call 106; (with_reducible refine (t2 _ (HB.out.far HB1.out)).mono ?_); rintro e w2 ⟨s2, rfl, HF2⟩; obtain ⟨A2, c2, rfl, HS2, HB2⟩ := HF2.sl; replace HS2 := Lib.hid HS2; replace HB2 := Lib.hid HB2; clear HF2))
    have HA2 := Lib.hid (HS1.out.far HB2.out)
    have HW2 := Lib.hid (HB1.out.trans (HB2.out.mono HB1.out.size))
    clear HS1 HB1 HB2
    go_loopw [6] (fun q wr => ∃ i : Nat, i ≤ a.length ∧ q = .int .i64 i ∧ Own w2 wr w2.heap.size (a.length + b.length - 1) (mall a b i)) (fun q _ => a.length - (intOf q).toNat)
    case atStart => exact ⟨0, Nat.zero_le _, rfl, (own_start w2 _).congr (fun j _ => rfl)⟩
    case round =>
      clear hmk
      obtain ⟨i, hi, rfl, HO⟩ := hrel
      by_cases hlt : i < a.length
      · have HO0 := Lib.hid (HO.congr (f' := mrow (mall a b i) (at_ a i) b i 0) (fun j _ => rfl))
        clear HO
        go_wp2
        go_loopw [7] (fun q wr => ∃ k : Nat, k ≤ b.length ∧ q = .int .i64 k ∧ Own w2 wr w2.heap.size (a.length + b.length - 1) (mrow (mall a b i) (at_ a i) b i k)) (fun q _ => b.length - (intOf q).toNat)
        case atStart => exact ⟨0, Nat.zero_le _, rfl, HO0.out⟩
        case round =>
          clear HO0
          obtain ⟨k, hk, rfl, HO⟩ := hrel
          by_cases hlt2 : k < b.length
          · obtain ⟨ad1, hA1, _, hcell1⟩ := (HA2.out.below HO.2.1).at_ hlt
            obtain ⟨ad2, hA2, _, hcell2⟩ := (HS2.out.below HO.2.1).at_ hlt2
            subst hA1 hA2
            have hik : i + k < a.length + b.length - 1 := by omega
            have hc0 := HO.cell hik
            have hfz := HO.2.2.frozen (i + k)
            have hx1 := HX.out a[i] (List.getElem_mem hlt)
            have hy1 := HY.out b[k] (List.getElem_mem hlt2)
            have hf1 := mrow_lt (f := mall a b i) (x := at_ a i) (ys := b) (i := i) (mall_lt HX.out i) (at_lt HX.out (by decide)) k (i + k)
            have hmul := mulI_nat hx1 hy1
            have hg := gm_lt b[k] hx1
            have hxor := u16_xor_nat (mrow (mall a b i) (at_ a i) b i k (i + k)) (gm a[i] b[k]) (by omega) (by omega)
            have HO' := Lib.hid ((HO.set_ (i + k) (mrow (mall a b i) (at_ a i) b i k (i + k) ^^^ gm a[i] b[k])).congr (f' := mrow (mall a b i) (at_ a i) b i (k + 1)) (by
              intro j hj
              by_cases h1 : j = i + k
              · subst h1; rw [if_pos rfl]; conv => rhs; unfold mrow
                rw [if_pos rfl, at_get hlt, at_get hlt2]
              · rw [if_neg h1]; conv => rhs; unfold mrow
                rw [if_neg h1]))
            clear HO
            generalize mrow (mall a b i) (at_ a i) b i k (i + k) = U at *
            generalize gm a[i] b[k] = G at *
            generalize U ^^^ G = V at hxor HO'
            have HM := Lib.hid (fun w => refmul_still (a[i] : Int) (b[k] : Int) w (by omega) (by omega) (by omega) (by omega))
            have s1 : IntKind.i64.wrap ((i : Int) + (k : Int)) = (i : Int) + (k : Int) := IntWalk.i64_in _ (by omega)
            have s2 : (0 : Int) ≤ (i : Int) + (k : Int) := by omega
            have s3 : (i : Int) + (k : Int) < ((a.length + b.length - 1 : Nat) : Int) := by omega
            have s4 : ((i : Int) + (k : Int)).toNat = i + k := by omega
            go_wp2
            go_still_tail 21, (by kernel_rfl)
            still_call (HM.out _)
            repeat still_step
            refine wpStill_nil ?_
            go_wp2
            clear s1 s2 s3 s4
            go_roundw
            case rel => exact ⟨k + 1, by omega, by go_num, by first | exact HO'.out | exact HO'.out.drewN _⟩
            case measure => simp [intOf]; omega
          · obtain rfl : k = b.length := by omega
            have HO' := Lib.hid (HO.congr (f' := mall a b (i + 1)) (fun j _ => rfl))
            clear HO
            go_wp2
            go_roundw
            case rel => exact ⟨i + 1, by omega, by go_num, HO'.out⟩
            case measure => simp [intOf]; omega
      · obtain rfl : i = a.length := by omega
        have HC := Lib.hid (reftrim_any (some ⟨w2.heap.size, 0, none⟩) (a.length + b.length - 1) _ wr (HO.sl (fun j _ => by have := mall_lt (ys := b) HX.out a.length j; omega)) (by rw [rm_len]; omega))
        rw [rm_len] at HC
        have HW := Lib.hid HO.2.1
        clear HO
        go_wp2_with (go_at_call 106; refine HC.out.mono ?_; rintro e w' ⟨s, rfl, HF⟩)
        go_ret
        exact ⟨s, by rw [HT'.out]; exact ⟨rfl, (HF.since HW.out).since HW2.out⟩⟩
end Go.Proofs.Ytmchelbmeajcnaa
namespace Go.Proofs.Ytmchelbmeajcnaa
open Go.RowKit Go.Gf
set_option maxRecDepth 20000

theorem Arr.far {w : World} {g : Nat} {cs : List Nat} (h : Arr w g cs) {p : Addr} (hp : g ≠ p.block) (u : Value) : Arr (w.setCell p u) g cs := (Below.heap_setCell w p u g hp).trans h
theorem Arr.drewN {w : World} {g : Nat} {cs : List Nat} (h : Arr w g cs) (k : Nat) : Arr (w.drewN k) g cs := h
theorem rm_at (xs : List Nat) : rm xs.length (at_ xs) = xs := by
  apply List.ext_getElem
  · simp [rm]
  · intro j h1 h2; rw [rm_get, at_get h2]

/-- the quotient's reckoning: t of n places done: what is left of the dividend, and the quotient -/
def dv1 (b : List Nat) (iv n : Nat) (f : Nat → Nat) : Nat → Nat → Nat
  | 0, j => f j
  | t + 1, j => mrow (dv1 b iv n f t) (gm (dv1 b iv n f t (n - 1 - t + b.length - 1)) iv) b (n - 1 - t) b.length j
def dv2 (b : List Nat) (iv n : Nat) (f : Nat → Nat) : Nat → Nat → Nat
  | 0, _ => 0
  | t + 1, j => if j = n - 1 - t then gm (dv1 b iv n f t (n - 1 - t + b.length - 1)) iv else dv2 b iv n f t j
theorem dv1_lt {b : List Nat} {iv n : Nat} {f : Nat → Nat} (hf : ∀ j, f j < 1024) (t j : Nat) : dv1 b iv n f t j < 1024 := by
  induction t generalizing j with
  | zero => exact hf j
  | succ t ih => exact mrow_lt ih (gm_lt _ (ih _)) _ _
theorem dv2_lt {b : List Nat} {iv n : Nat} {f : Nat → Nat} (hf : ∀ j, f j < 1024) (t j : Nat) : dv2 b iv n f t j < 1024 := by
  induction t generalizing j with
  | zero => show 0 < 1024; decide
  | succ t ih =>
    unfold dv2
    split
    · exact gm_lt _ (dv1_lt hf _ _)
    · exact ih j
def divN (xs ys : List Nat) : Nat := (tr xs).length + 1 - (tr ys).length
def divI (ys : List Nat) : Nat := ginv (at_ (tr ys) ((tr ys).length - 1))
def pquo (xs ys : List Nat) : List Nat := tr (rm (divN xs ys) (dv2 (tr ys) (divI ys) (divN xs ys) (at_ (tr xs)) (divN xs ys)))
def prem (xs ys : List Nat) : List Nat := tr (rm (tr xs).length (dv1 (tr ys) (divI ys) (divN xs ys) (at_ (tr xs)) (divN xs ys)))

/-- the three rows of a division -/
def Div3 (w wr : World) (g1 g2 g3 la n : Nat) (b : List Nat) (fa fq : Nat → Nat) : Prop :=
  Below w.heap.size w wr ∧ Arr wr g1 (rm la fa) ∧ Arr wr g2 b ∧ Arr wr g3 (rm n fq)
theorem arr_rm_cell {w : World} {g n : Nat} {f : Nat → Nat} (h : Arr w g (rm n f)) {i : Nat} (hi : i < n) : w.cell? ⟨g, i, none⟩ = some (.int .u16 ((f i : Nat) : Int)) := by
  have := h.cell (i := i) (by rw [rm_len]; exact hi)
  rw [rm_get] at this; exact this
theorem Div3.setA {w wr : World} {g1 g2 g3 la n : Nat} {b : List Nat} {fa fq fa' : Nat → Nat} (h : Div3 w wr g1 g2 g3 la n b fa fq) (h1 : w.heap.size ≤ g1) (h2 : g1 < g2) (h3 : g2 < g3) (i v : Nat)
    (e : ∀ j, j < la → (if j = i then v else fa j) = fa' j) : Div3 w (wr.setCell ⟨g1, i, none⟩ (.int .u16 (v : Int))) g1 g2 g3 la n b fa' fq := by
  refine ⟨h.1.setCell h1 _, ?_, h.2.2.1.far (by simp; omega) _, h.2.2.2.far (by simp; omega) _⟩
  rw [← rm_congr e, ← rm_set]; exact h.2.1.set_ i v
theorem Div3.setQ {w wr : World} {g1 g2 g3 la n : Nat} {b : List Nat} {fa fq fq' : Nat → Nat} (h : Div3 w wr g1 g2 g3 la n b fa fq) (h1 : w.heap.size ≤ g1) (h2 : g1 < g2) (h3 : g2 < g3) (i v : Nat)
    (e : ∀ j, j < n → (if j = i then v else fq j) = fq' j) : Div3 w (wr.setCell ⟨g3, i, none⟩ (.int .u16 (v : Int))) g1 g2 g3 la n b fa fq' := by
  refine ⟨h.1.setCell (by simp; omega) _, h.2.1.far (by simp; omega) _, h.2.2.1.far (by simp; omega) _, ?_⟩
  rw [← rm_congr e, ← rm_set]; exact h.2.2.2.set_ i v
theorem Div3.drewN {w wr : World} {g1 g2 g3 la n : Nat} {b : List Nat} {fa fq : Nat → Nat} (h : Div3 w wr g1 g2 g3 la n b fa fq) (k : Nat) : Div3 w (wr.drewN k) g1 g2 g3 la n b fa fq :=
  ⟨below_drewN h.1 k, h.2.1, h.2.2.1, h.2.2.2⟩
theorem Div3.congrA {w wr : World} {g1 g2 g3 la n : Nat} {b : List Nat} {fa fq fa' : Nat → Nat} (h : Div3 w wr g1 g2 g3 la n b fa fq) (e : ∀ j, j < la → fa j = fa' j) : Div3 w wr g1 g2 g3 la n b fa' fq := by
  refine ⟨h.1, ?_, h.2.2⟩
  rw [← rm_congr e]; exact h.2.1
theorem div3_start {w w2 : World} {g1 g2 n : Nat} {a b : List Nat} (hb : Below w.heap.size w w2) (h1 : Arr w2 g1 a) (h2 : Arr w2 g2 b) :
    Div3 w (w2.alloc (.cells (madeCells #[.int .u16 0] n) 29)) g1 g2 w2.heap.size a.length n b (at_ a) (fun _ => 0) := by
  refine ⟨hb.alloc hb.size _, ?_, h2.alloc _, ?_⟩
  · rw [rm_at]; exact h1.alloc _
  · rw [made_uv, rm_zero]; exact Arr.new w2 _

/-- a division's ending: quotient and rest -/
def GivesQR (w : World) (q r : List Nat) (e : Ending) (w' : World) : Prop :=
  ∃ A1 c1 A2 c2, e = .returned (.tuple #[.slice A1 q.length c1, .slice A2 r.length c2, .bool true]) ∧ SlF w' w.heap.size A1 q ∧ SlF w' w.heap.size A2 r ∧ Below w.heap.size w w'


/-- a division by nought -/
def GivesNo (w : World) (e : Ending) (w' : World) : Prop := e = .returned (.tuple #[.slice none 0 0, .slice none 0 0, .bool false]) ∧ Below w.heap.size w w'
/-- a list written out in the text -/
theorem sl_new (w : World) (o : Obj) (xs : List Nat) (g : Nat) (hg : w.heap.size = g) (ho : o = .cells (xs.map uv).toArray 29) (h : ∀ x ∈ xs, x < 65536) : Sl (w.alloc o) (w.alloc o).heap.size (some ⟨g, 0, none⟩) xs := by
  subst hg ho
  exact (Arr.new w xs).sl h
theorem below_alloc (w : World) (o : Obj) : Below w.heap.size w (w.alloc o) := (Below.refl _ _).alloc (Nat.le_refl _) _
theorem slope_le (xs : List Nat) : (slope xs).length ≤ xs.length := Nat.le_trans (tr_len _) (by rw [rm_len]; exact Nat.le_refl _)
end Go.Proofs.Ytmchelbmeajcnaa
