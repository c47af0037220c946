/- Whether two rows are the same, as the reference says it. -/
import Derived.Test.YtpanmjohmgjigaaRa
namespace Go.Proofs.Ytpanmjohmgjigaa
open Go.RowKit Go.Gf

theorem dl_zero {a b : List Nat} (h : a.length = b.length) : dl a b = 0 ↔ a = b := by
  unfold dl
  rw [h, Nat.max_self, Nat.min_self, Nat.sub_self, Nat.zero_add]
  induction a generalizing b with
  | nil => cases b with
    | nil => simp
    | cons y b => simp at h
  | cons x a ih => cases b with
    | nil => simp at h
    | cons y b =>
      have := ih (b := b) (by simpa using h)
      simp only [List.zip_cons_cons, List.countP_cons, List.cons.injEq]
      by_cases hxy : x = y
      · simpa [hxy] using this
      · simp [hxy]

set_option maxHeartbeats 2000000 in
theorem refsame_any (A B : Option Addr) (ca cb : Nat) (xs ys : List Nat) (w : World) (ha : Sl w w.heap.size A xs) (hb : Sl w w.heap.size B ys) (hla : xs.length ≤ 1000000) (hlb : ys.length ≤ 1000000) :
    Calls Try.prog 13 #[.slice A xs.length ca, .slice B ys.length cb] w (Quietly w (.bool (decide (xs = ys)))) := by
  have hc := Lib.hid (refdistance_any A B ca cb xs ys w ha hb hla hlb)
  clear ha hb
  by_cases hl : xs.length = ys.length
  · have HD := Lib.hid (dl_zero hl)
    have hl1 : ((xs.length : Int) == (ys.length : Int)) = true := by simp; omega
    have hl2 := Lib.hid hl
    clear hl
    by_cases he : xs = ys
    · have hz : ((dl xs ys : Nat) : Int) = 0 := by rw [HD.out.2 he]; rfl
      have HT : Hid (decide (xs = ys) = true) := by unfold Hid; simp [he]
      clear he
      generalize decide (xs = ys) = T at HT
      go_enter Try.func13, Try.ntmps13
      go_wp2_with (go_at_call 20; refine hc.out.mono ?_; rintro e w' ⟨rfl, HW⟩)
      go_ret
      exact ⟨by rw [HT.out]; rfl, HW⟩
    · have hz : (((dl xs ys : Nat) : Int) == 0) = false := by
        have := mt HD.out.1 he
        simp; omega
      have HT : Hid (decide (xs = ys) = false) := by unfold Hid; simp [he]
      clear he
      generalize decide (xs = ys) = T at HT
      go_enter Try.func13, Try.ntmps13
      go_wp2_with (go_at_call 20; refine hc.out.mono ?_; rintro e w' ⟨rfl, HW⟩)
      go_ret
      exact ⟨by rw [HT.out]; rfl, HW⟩
  · have hl1 : ((xs.length : Int) == (ys.length : Int)) = false := by simp; omega
    have HT : Hid (decide (xs = ys) = false) := by unfold Hid; simp; rintro rfl; exact hl rfl
    clear hl
    generalize decide (xs = ys) = T at HT
    go_enter Try.func13, Try.ntmps13
    go_wp2
    go_ret
    exact ⟨by rw [HT.out]; rfl, ⟨0, rfl⟩⟩
end Go.Proofs.Ytpanmjohmgjigaa
