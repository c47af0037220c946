/- The reference's values of polynomials, and how two rows of symbols part. · Whether two rows are the same, as the reference says it. · The program's package code: Distance. -/
import Derived.Test.YtjhoecfhmndcgaaGreatV14
import Derived.Deep.QuietTactic
import Derived.BigQuiet
namespace Go.Proofs.YtjhoecfhmndcgaaGreat
open Go.RowKit Go.Gf

/-- the value of a polynomial at x -/
def ev (x : Nat) : List Nat → Nat
  | [] => 0
  | c :: p => gm (ev x p) x ^^^ (c % 1024)
theorem ev_lt (x : Nat) (p : List Nat) : ev x p < 1024 := by
  induction p with
  | nil => show 0 < 1024; decide
  | cons c p ih => exact xor_lt (gm_lt _ ih) (Nat.mod_lt _ (by decide))
theorem ev_drop {x : Nat} {xs : List Nat} {k : Nat} (h : k < xs.length) : ev x (xs.drop k) = gm (ev x (xs.drop (k + 1))) x ^^^ (xs[k] % 1024) := by
  rw [List.drop_eq_getElem_cons h]; rfl
/-- wr is w but for draws -/
def Drawn (w wr : World) : Prop := ∃ n, wr = w.drewN n
theorem Drawn.drewN {w wr : World} (h : Drawn w wr) (k : Nat) : Drawn w (wr.drewN k) := by
  obtain ⟨n, rfl⟩ := h
  exact ⟨n + k, by rw [World.drewN_drewN]⟩
theorem Sl.drawn {w wr : World} {B : Nat} {A : Option Addr} {xs : List Nat} (h : Sl w B A xs) (hd : Drawn w wr) : Sl wr B A xs := by
  obtain ⟨n, rfl⟩ := hd; exact h
/-- a call answers v, and at most draws -/
def Quietly (w : World) (v : Value) (e : Ending) (w' : World) : Prop := e = .returned v ∧ Drawn w w'


/-- in how many places two rows part -/
def dl (a b : List Nat) : Nat := (max a.length b.length - min a.length b.length) + (a.zip b).countP fun p => p.1 != p.2
def cnt (a b : List Nat) (k : Nat) : Nat := ((a.zip b).take k).countP fun p => p.1 != p.2
theorem cnt_zero (a b : List Nat) : cnt a b 0 = 0 := rfl
theorem cnt_step {a b : List Nat} {k : Nat} (ha : k < a.length) (hb : k < b.length) : cnt a b (k + 1) = cnt a b k + if a[k] = b[k] then 0 else 1 := by
  unfold cnt
  rw [List.take_succ_eq_append_getElem (by simp; omega), List.countP_append]
  by_cases h : a[k] = b[k] <;> simp [h]
theorem cnt_le (a b : List Nat) (k : Nat) : cnt a b k ≤ k := by
  unfold cnt
  refine Nat.le_trans List.countP_le_length ?_
  simp; omega
theorem cnt_end {a b : List Nat} {k : Nat} (h : min a.length b.length ≤ k) : cnt a b k = (a.zip b).countP fun p => p.1 != p.2 := by
  unfold cnt
  rw [List.take_of_length_le (by simp; omega)]


end Go.Proofs.YtjhoecfhmndcgaaGreat
namespace Go.Proofs.YtjhoecfhmndcgaaGreat
open Go.RowKit Go.Gf

theorem dl_zero {a b : List Nat} (h : a.length = b.length) : dl a b = 0 ↔ a = b := by
  unfold dl
  rw [h, Nat.max_self, Nat.min_self, Nat.sub_self, Nat.zero_add]
  induction a generalizing b with
  | nil => cases b with
    | nil => simp
    | cons y b => simp at h
  | cons x a ih => cases b with
    | nil => simp at h
    | cons y b =>
      have := ih (b := b) (by simpa using h)
      simp only [List.zip_cons_cons, List.countP_cons, List.cons.injEq]
      by_cases hxy : x = y
      · simpa [hxy] using this
      · simp [hxy]


end Go.Proofs.YtjhoecfhmndcgaaGreat
namespace Go.Proofs.YtjhoecfhmndcgaaGreat
open Go.RowKit Go.Gf
set_option maxRecDepth 20000

set_option maxHeartbeats 2000000 in
theorem distance_any (A B : Option Addr) (ca cb : Nat) (xs ys : List Nat) (w : World) (ha : Sl w w.heap.size A xs) (hb : Sl w w.heap.size B ys) (hla : xs.length ≤ 1000000) (hlb : ys.length ≤ 1000000) :
    Calls Tryz.prog 145 #[.slice A xs.length ca, .slice B ys.length cb] w (Quietly w (.int .i64 ((dl xs ys : Nat) : Int))) := by
  have HA := Lib.hid ha
  have HB := Lib.hid hb
  clear ha hb
  rcases Nat.lt_trichotomy xs.length ys.length with hle | hle | hle
  · have HD : Hid (dl xs ys = (ys.length - xs.length) + cnt xs ys xs.length) := by
      unfold Hid dl; rw [cnt_end (by omega)]; congr 1; omega
    generalize dl xs ys = T at HD
    go_enter Tryz.func145, Tryz.ntmps145
    go_wp2
    go_loopw [6, 21] (fun n i wr => ∃ k : Nat, k ≤ xs.length ∧ i = .int .i64 k ∧ n = .int .i64 (((ys.length - xs.length) + cnt xs ys k : Nat) : Int) ∧ Drawn w wr) (fun _ i _ => xs.length - (intOf i).toNat)
    case atStart => exact ⟨0, Nat.zero_le _, rfl, by rw [cnt_zero]; first | rfl | (congr 1; omega), ⟨0, rfl⟩⟩
    case round =>
      obtain ⟨k, hk, rfl, rfl, HW⟩ := hrel
      have hck := cnt_le xs ys k
      by_cases hlt : k < xs.length
      · have hk1 : k < xs.length := by omega
        have hk2 : k < ys.length := by omega
        obtain ⟨a, hAe, hab, hcell⟩ := (HA.out.drawn HW).at_ hk1
        obtain ⟨b, hBe, hbb, hcellb⟩ := (HB.out.drawn HW).at_ hk2
        subst hAe hBe
        have hst := cnt_step hk1 hk2
        by_cases he : xs[k] = ys[k]
        · rw [if_pos he] at hst
          have hne : ((xs[k] : Int) != (ys[k] : Int)) = false := by simp [he]
          have HS := Lib.hid hst
          clear hst he
          go_wp2
          go_quiet (fail)
          go_wp2
          go_roundw
          case rel => exact ⟨k + 1, by omega, by go_num, by rw [HS.out]; rfl, HW.drewN _⟩
          case measure => simp [intOf]; omega
        · rw [if_neg he] at hst
          have hne : ((xs[k] : Int) != (ys[k] : Int)) = true := by simp; omega
          have HS := Lib.hid hst
          clear hst he
          go_wp2
          go_quiet (fail)
          go_wp2
          go_roundw
          case rel => exact ⟨k + 1, by omega, by go_num, by rw [HS.out]; go_num, HW.drewN _⟩
          case measure => simp [intOf]; omega
      · obtain rfl : k = xs.length := by omega
        have HD' := HD.out
        subst HD'
        go_wp2
        go_ret
        exact ⟨rfl, HW⟩
  · have HD : Hid (dl xs ys = 0 + cnt xs ys xs.length) := by
      unfold Hid dl; rw [cnt_end (by omega)]; congr 1; omega
    have h1 : xs.length ≤ ys.length := by omega
    have h2 : ys.length ≤ xs.length := by omega
    clear hle
    generalize dl xs ys = T at HD
    go_enter Tryz.func145, Tryz.ntmps145
    go_wp2
    go_loopw [6, 21] (fun n i wr => ∃ k : Nat, k ≤ xs.length ∧ i = .int .i64 k ∧ n = .int .i64 ((0 + cnt xs ys k : Nat) : Int) ∧ Drawn w wr) (fun _ i _ => xs.length - (intOf i).toNat)
    case atStart => exact ⟨0, Nat.zero_le _, rfl, by rw [cnt_zero]; first | rfl | (congr 1; omega), ⟨0, rfl⟩⟩
    case round =>
      obtain ⟨k, hk, rfl, rfl, HW⟩ := hrel
      have hck := cnt_le xs ys k
      by_cases hlt : k < xs.length
      · have hk1 : k < xs.length := by omega
        have hk2 : k < ys.length := by omega
        obtain ⟨a, hAe, hab, hcell⟩ := (HA.out.drawn HW).at_ hk1
        obtain ⟨b, hBe, hbb, hcellb⟩ := (HB.out.drawn HW).at_ hk2
        subst hAe hBe
        have hst := cnt_step hk1 hk2
        by_cases he : xs[k] = ys[k]
        · rw [if_pos he] at hst
          have hne : ((xs[k] : Int) != (ys[k] : Int)) = false := by simp [he]
          have HS := Lib.hid hst
          clear hst he
          go_wp2
          go_quiet (fail)
          go_wp2
          go_roundw
          case rel => exact ⟨k + 1, by omega, by go_num, by rw [HS.out]; rfl, HW.drewN _⟩
          case measure => simp [intOf]; omega
        · rw [if_neg he] at hst
          have hne : ((xs[k] : Int) != (ys[k] : Int)) = true := by simp; omega
          have HS := Lib.hid hst
          clear hst he
          go_wp2
          go_quiet (fail)
          go_wp2
          go_roundw
          case rel => exact ⟨k + 1, by omega, by go_num, by rw [HS.out]; go_num, HW.drewN _⟩
          case measure => simp [intOf]; omega
      · obtain rfl : k = xs.length := by omega
        have HD' := HD.out
        subst HD'
        go_wp2
        go_ret
        exact ⟨rfl, HW⟩
  · have HD : Hid (dl xs ys = (xs.length - ys.length) + cnt xs ys ys.length) := by
      unfold Hid dl; rw [cnt_end (by omega)]; congr 1; omega
    generalize dl xs ys = T at HD
    go_enter Tryz.func145, Tryz.ntmps145
    go_wp2
    go_loopw [6, 21] (fun n i wr => ∃ k : Nat, k ≤ ys.length ∧ i = .int .i64 k ∧ n = .int .i64 (((xs.length - ys.length) + cnt xs ys k : Nat) : Int) ∧ Drawn w wr) (fun _ i _ => ys.length - (intOf i).toNat)
    case atStart => exact ⟨0, Nat.zero_le _, rfl, by rw [cnt_zero]; first | rfl | (congr 1; omega), ⟨0, rfl⟩⟩
    case round =>
      obtain ⟨k, hk, rfl, rfl, HW⟩ := hrel
      have hck := cnt_le xs ys k
      by_cases hlt : k < ys.length
      · have hk1 : k < xs.length := by omega
        have hk2 : k < ys.length := by omega
        obtain ⟨a, hAe, hab, hcell⟩ := (HA.out.drawn HW).at_ hk1
        obtain ⟨b, hBe, hbb, hcellb⟩ := (HB.out.drawn HW).at_ hk2
        subst hAe hBe
        have hst := cnt_step hk1 hk2
        by_cases he : xs[k] = ys[k]
        · rw [if_pos he] at hst
          have hne : ((xs[k] : Int) != (ys[k] : Int)) = false := by simp [he]
          have HS := Lib.hid hst
          clear hst he
          go_wp2
          go_quiet (fail)
          go_wp2
          go_roundw
          case rel => exact ⟨k + 1, by omega, by go_num, by rw [HS.out]; rfl, HW.drewN _⟩
          case measure => simp [intOf]; omega
        · rw [if_neg he] at hst
          have hne : ((xs[k] : Int) != (ys[k] : Int)) = true := by simp; omega
          have HS := Lib.hid hst
          clear hst he
          go_wp2
          go_quiet (fail)
          go_wp2
          go_roundw
          case rel => exact ⟨k + 1, by omega, by go_num, by rw [HS.out]; go_num, HW.drewN _⟩
          case measure => simp [intOf]; omega
      · obtain rfl : k = ys.length := by omega
        have HD' := HD.out
        subst HD'
        go_wp2
        go_ret
        exact ⟨rfl, HW⟩
end Go.Proofs.YtjhoecfhmndcgaaGreat
