/- The law over any fates and any operation. -/
import Derived.Test.YtfohnffhcfiliaaZc
namespace Go.Proofs.Ytfohnffhcfiliaa
open Go.RowKit
set_option linter.unusedVariables false
set_option linter.unusedSimpArgs false

theorem set3_at {w : World} {g : Nat} {t : TypeId} {a b c x y z : Value} (h : w.heap[g]? = some (.cells #[x, y, z] t (0, 0))) :
    (((w.setCell ⟨g, 0, none⟩ a).setCell ⟨g, 1, none⟩ b).setCell ⟨g, 2, none⟩ c).heap[g]? = some (.cells #[a, b, c] t (0, 0)) := by
  simp [World.setCell, Array.getElem?_modify, h]
theorem set3_other {w : World} {g i : Nat} {a b c : Value} (hi : i ≠ g) : (((w.setCell ⟨g, 0, none⟩ a).setCell ⟨g, 1, none⟩ b).setCell ⟨g, 2, none⟩ c).heap[i]? = w.heap[i]? :=
  ((Below.heap_setCell _ _ _ i hi).trans (Below.heap_setCell _ _ _ i hi)).trans (Below.heap_setCell _ _ _ i hi)
theorem set3_below {w0 w : World} {B g : Nat} {a b c : Value} (h : Below B w0 w) (hg : B ≤ g) : Below B w0 (((w.setCell ⟨g, 0, none⟩ a).setCell ⟨g, 1, none⟩ b).setCell ⟨g, 2, none⟩ c) :=
  ⟨h.os, h.tape, h.output, by simpa [World.setCell] using h.size, fun i hi => (set3_other (by omega)).trans (h.block i hi)⟩
set_option maxRecDepth 20000 in
set_option maxHeartbeats 8000000 in
theorem tells_law (A0 : Option Addr) (ts : List (Int × Int × Int)) (c0 : Nat) (n : Int) (w : World) (s0 : S3 w w.heap.size A0 ts) :
    Calls Try.prog 3 #[.slice A0 ts.length c0, .int .i64 n] w (Ans w (.bool true)) := by
  have ca := Lib.hid awake_any
  have H := Lib.hid s0
  obtain ⟨k, hk⟩ : ∃ k, ts.length = k := ⟨_, rfl⟩
  rw [hk]
  replace hk := Lib.hid hk
  clear s0
  by_cases h600 : 600 < k
  · have hI : (600 : Int) < (k : Int) := by omega
    go_enter Try.func3, Try.ntmps3
    go_wp2_with fail
    refine (ca.out _).mono ?_
    rintro e w1 ⟨rfl, hb1⟩
    go_wp2_with fail
    go_ret
    exact ⟨rfl, hb1⟩
  have hI : ¬ (600 : Int) < (k : Int) := by omega
  have cm := refmay_any A0 c0 ts
  cases hm : mayF ts
  · go_enter Try.func3, Try.ntmps3
    go_wp2_with fail
    refine (ca.out _).mono ?_
    rintro e w1 ⟨rfl, hb1⟩
    have H1 := H.out.far hb1
    replace hb1 := Lib.hid hb1
    go_wp2_with fail
    refine (c_no H1 hk.out (by omega) hm).mono ?_
    rintro e w2 ⟨rfl, hb2⟩
    have H2 := H1.far hb2
    have c2 := cm w2 H2
    rw [hk.out, hm] at c2
    have hb2 := Lib.hid (hb1.out.trans (hb2.mono hb1.out.size))
    replace c2 := Lib.hid c2
    clear H1 H2
    dsimp only
    go_wp2_with fail
    refine c2.out.mono ?_
    rintro e w3 ⟨rfl, hb3⟩
    have hb3 := Lib.hid (hb2.out.trans (hb3.mono hb2.out.size))
    go_wp2_with fail
    go_ret
    exact ⟨rfl, hb3.out⟩
  · go_enter Try.func3, Try.ntmps3
    go_wp2_with fail
    refine (ca.out _).mono ?_
    rintro e w1 ⟨rfl, hb1⟩
    have H1 := H.out.far hb1
    replace hb1 := Lib.hid hb1
    go_wp2_with fail
    refine (c_yes H1 hk.out hm).mono ?_
    rintro e w2 ⟨p, rfl, hb2, hp⟩
    have H2 := H1.far hb2
    have c2 := cm w2 H2
    rw [hk.out, hm] at c2
    have hb2 := Lib.hid (hb1.out.trans (hb2.mono hb1.out.size))
    have hp2 := Lib.hid hp
    replace c2 := Lib.hid c2
    clear H1 H2 hp
    dsimp only
    go_wp2_with fail
    refine c2.out.mono ?_
    rintro e w3 ⟨rfl, hb⟩
    have hb3 := Lib.hid (hb2.out.trans (hb.mono hb2.out.size))
    have hp3 := Lib.hid (hp2.out.below hb)
    have hx0 : (w3.alloc (.cells #[.int .i64 0, .int .i64 0, .int .i64 0] 30)).heap[w3.heap.size]? = some (.cells #[.int .i64 0, .int .i64 0, .int .i64 0] 30 (0, 0)) := heap_alloc_new w3 _
    have hA := Lib.hid (below_alloc w3 (.cells #[.int .i64 0, .int .i64 0, .int .i64 0] 30))
    have hx0 := Lib.hid hx0
    clear hb hp2 hb2 c2 cm
    go_wp2_with fail
    go_loopw [8, 9, 10] (fun b l q wr => ∃ i : Nat, i ≤ k ∧ b = .bool (isF ts n i) ∧ l = .int .i64 ((leftF ts n i : Nat) : Int) ∧ q = .int .i64 i ∧ Below w3.heap.size w3 wr ∧
      Hid (wr.heap[w3.heap.size]? = some (.cells #[.int .i64 (atF ts n i).1, .int .i64 (atF ts n i).2.1, .int .i64 (atF ts n i).2.2] 30 (0, 0)))) (fun _ _ q _ => k - (intOf q).toNat)
    case atStart => exact ⟨0, Nat.zero_le _, rfl, rfl, rfl, hA.out, hx0⟩
    case round =>
      clear hA hx0
      obtain ⟨i, hi, rfl, rfl, rfl, hB, hX⟩ := hrel
      by_cases hik : i < k
      · have hiI : (i : Int) < (k : Int) := by omega
        have hdi : decide (i < k) = true := decide_eq_true hik
        have hBw := hb3.out.trans (hB.mono hb3.out.size)
        obtain ⟨a, rfl, hab, c0', c1, c2⟩ := (H.out.below hBw).at_ (i := i) (by rw [hk.out]; exact hik)
        obtain ⟨X, hXX⟩ : ∃ X, tAt ts i = X := ⟨_, rfl⟩
        have e1 : isF ts n (i + 1) = if X.1 = n then true else isF ts n i := by rw [← hXX]; rfl
        have e2 : leftF ts n (i + 1) = if n ≤ X.1 then leftF ts n i + 1 else leftF ts n i := by rw [← hXX]; rfl
        have e3 : atF ts n (i + 1) = if X.1 = n then X else atF ts n i := by rw [← hXX]; rfl
        have hll := leftF_le ts n i
        obtain ⟨P, Q, R⟩ := X
        rw [hXX] at c0' c1 c2
        dsimp only at c0' c1 c2 e1 e2 e3
        replace e1 := Lib.hid e1
        replace e2 := Lib.hid e2
        replace e3 := Lib.hid e3
        generalize isF ts n i = b at *
        generalize leftF ts n i = l at *
        have x0 := cell_of hX.out 0
        have x1 := cell_of hX.out 1
        have x2 := cell_of hX.out 2
        have f0 : ∀ j, wr.frozen? ⟨w3.heap.size, j, none⟩ = false := fun j => by
          have := hX.out
          simp [World.frozen?, this]
        have fr0 := f0 0
        have fr1 := f0 1
        have fr2 := f0 2
        clear f0
        have hB := Lib.hid hB
        by_cases hPn : P = n
        · subst hPn
          have t1 : (P == P) = true := by simp
          have t2 : P ≤ P := Int.le_refl _
          have d0 := (World.cell?_of_block (w := wr) (set3_other (a := .int .i64 P) (b := .int .i64 Q) (c := .int .i64 R) (show (a.add (i * 3)).block ≠ w3.heap.size from by rw [add_block]; have := hb3.out.size; omega))).trans c0'
          have e1' := e1.out
          have e2' := e2.out
          have e3' := e3.out
          rw [if_pos rfl] at e1' e3'
          rw [if_pos t2] at e2'
          have e1 := Lib.hid e1'
          have e2 := Lib.hid e2'
          have e3 := Lib.hid e3'
          clear e1' e2' e3'
          go_wp2_with fail
          go_roundw
          case rel => exact ⟨i + 1, by omega, by rw [e1.out], by rw [e2.out]; go_num, by go_num, set3_below hB.out (Nat.le_refl _), by rw [e3.out]; exact Lib.hid (set3_at hX.out)⟩
          case measure => simp [intOf]; omega
        · have t1 : (P == n) = false := by simpa using hPn
          have e1' := e1.out
          have e3' := e3.out
          rw [if_neg hPn] at e1' e3'
          have e1 := Lib.hid e1'
          have e3 := Lib.hid e3'
          clear e1' e3'
          by_cases hle : n ≤ P
          · have e2' := e2.out
            rw [if_pos hle] at e2'
            have e2 := Lib.hid e2'
            clear e2'
            go_wp2_with fail
            go_roundw
            case rel => exact ⟨i + 1, by omega, by rw [e1.out], by rw [e2.out]; go_num, by go_num, hB.out, by rw [e3.out]; exact hX⟩
            case measure => simp [intOf]; omega
          · have e2' := e2.out
            rw [if_neg hle] at e2'
            have e2 := Lib.hid e2'
            clear e2'
            go_wp2_with fail
            go_roundw
            case rel => exact ⟨i + 1, by omega, by rw [e1.out], by rw [e2.out], by go_num, hB.out, by rw [e3.out]; exact hX⟩
            case measure => simp [intOf]; omega
      · obtain rfl : i = k := by omega
        have hdi : decide (i < i) = false := decide_eq_false (Nat.lt_irrefl _)
        have hb5 := Lib.hid (hb3.out.trans (hB.mono hb3.out.size))
        have hp5 := Lib.hid (hp3.out.below hB)
        have hxl := Lib.hid (show w3.heap.size < wr.heap.size from by
          rcases Nat.lt_or_ge w3.heap.size wr.heap.size with h | h
          · exact h
          · have := hX.out; rw [Array.getElem?_eq_none h] at this; cases this)
        obtain ⟨X, hXX⟩ : ∃ X, atF ts n i = X := ⟨_, rfl⟩
        rw [hXX] at hX
        have hat : atF ts n ts.length = X := by rw [hk.out]; exact hXX
        obtain ⟨b, hbb⟩ : ∃ b, isF ts n i = b := ⟨_, rfl⟩
        have hbl : isF ts n ts.length = b := by rw [hk.out]; exact hbb
        obtain ⟨l, hll⟩ : ∃ l, leftF ts n i = l := ⟨_, rfl⟩
        have hll2 : leftF ts n ts.length = l := by rw [hk.out]; exact hll
        rw [hbb, hll]
        obtain ⟨P, Q, R⟩ := X
        dsimp only at hX
        replace hat := Lib.hid hat
        replace hbl := Lib.hid hbl
        replace hll2 := Lib.hid hll2
        clear hB hp3 hb3 hXX hbb hll
        go_wp2_with fail
        refine (c_at hp5.out hm n hat.out hbl.out).mono ?_
        rintro e w6 ⟨rfl, hb⟩
        have hX6 := (hb.block _ hxl.out).trans hX.out
        have hA := below_alloc w6 (.cells #[.int .i64 P, .int .i64 Q, .int .i64 R] 30)
        have hb7 := Lib.hid ((hb5.out.trans (hb.mono hb5.out.size)).trans (hA.mono (hb5.out.trans (hb.mono hb5.out.size)).size))
        have hp7 := Lib.hid ((hp5.out.below hb).below hA)
        have hxl6 := Nat.lt_of_lt_of_le hxl.out hb.size
        have x0 := (hA.cell (p := ⟨w3.heap.size, 0, none⟩) hxl6).trans (cell_of hX6 0)
        have x1 := (hA.cell (p := ⟨w3.heap.size, 1, none⟩) hxl6).trans (cell_of hX6 1)
        have x2 := (hA.cell (p := ⟨w3.heap.size, 2, none⟩) hxl6).trans (cell_of hX6 2)
        have t1 : (P == P) = true := by simp
        have t2 : (Q == Q) = true := by simp
        have t3 : (R == R) = true := by simp
        have t4 : (b == b) = true := by simp
        clear hb hA hp5 hb5 hX6
        dsimp only
        go_wp2_with fail
        refine (c_left hp7.out hm n hll2.out rfl).mono ?_
        rintro e w8 ⟨rfl, hb⟩
        have hb8 := Lib.hid (hb7.out.trans (hb.mono hb7.out.size))
        have t5 : ((l : Int) == (l : Int)) = true := by simp
        have t6 : (l == l) = true := by simp
        clear hb x0 x1 x2
        go_wp2_with fail
        go_ret
        exact ⟨rfl, hb8.out⟩
end Go.Proofs.Ytfohnffhcfiliaa
