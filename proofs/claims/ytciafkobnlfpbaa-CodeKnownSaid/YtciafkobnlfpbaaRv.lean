/- The reference's quotients of polynomials. -/
import Derived.Test.YtciafkobnlfpbaaRm
namespace Go.Proofs.Ytciafkobnlfpbaa
open Go.RowKit Go.Gf

theorem Arr.far {w : World} {g : Nat} {cs : List Nat} (h : Arr w g cs) {p : Addr} (hp : g ≠ p.block) (u : Value) : Arr (w.setCell p u) g cs := (Below.heap_setCell w p u g hp).trans h
theorem Arr.drewN {w : World} {g : Nat} {cs : List Nat} (h : Arr w g cs) (k : Nat) : Arr (w.drewN k) g cs := h
theorem rm_at (xs : List Nat) : rm xs.length (at_ xs) = xs := by
  apply List.ext_getElem
  · simp [rm]
  · intro j h1 h2; rw [rm_get, at_get h2]

/-- the quotient's reckoning: t of n places done: what is left of the dividend, and the quotient -/
def dv1 (b : List Nat) (iv n : Nat) (f : Nat → Nat) : Nat → Nat → Nat
  | 0, j => f j
  | t + 1, j => mrow (dv1 b iv n f t) (gm (dv1 b iv n f t (n - 1 - t + b.length - 1)) iv) b (n - 1 - t) b.length j
def dv2 (b : List Nat) (iv n : Nat) (f : Nat → Nat) : Nat → Nat → Nat
  | 0, _ => 0
  | t + 1, j => if j = n - 1 - t then gm (dv1 b iv n f t (n - 1 - t + b.length - 1)) iv else dv2 b iv n f t j
theorem dv1_lt {b : List Nat} {iv n : Nat} {f : Nat → Nat} (hf : ∀ j, f j < 1024) (t j : Nat) : dv1 b iv n f t j < 1024 := by
  induction t generalizing j with
  | zero => exact hf j
  | succ t ih => exact mrow_lt ih (gm_lt _ (ih _)) _ _
theorem dv2_lt {b : List Nat} {iv n : Nat} {f : Nat → Nat} (hf : ∀ j, f j < 1024) (t j : Nat) : dv2 b iv n f t j < 1024 := by
  induction t generalizing j with
  | zero => show 0 < 1024; decide
  | succ t ih =>
    unfold dv2
    split
    · exact gm_lt _ (dv1_lt hf _ _)
    · exact ih j
def divN (xs ys : List Nat) : Nat := (tr xs).length + 1 - (tr ys).length
def divI (ys : List Nat) : Nat := ginv (at_ (tr ys) ((tr ys).length - 1))
def pquo (xs ys : List Nat) : List Nat := tr (rm (divN xs ys) (dv2 (tr ys) (divI ys) (divN xs ys) (at_ (tr xs)) (divN xs ys)))
def prem (xs ys : List Nat) : List Nat := tr (rm (tr xs).length (dv1 (tr ys) (divI ys) (divN xs ys) (at_ (tr xs)) (divN xs ys)))

/-- the three rows of a division -/
def Div3 (w wr : World) (g1 g2 g3 la n : Nat) (b : List Nat) (fa fq : Nat → Nat) : Prop :=
  Below w.heap.size w wr ∧ Arr wr g1 (rm la fa) ∧ Arr wr g2 b ∧ Arr wr g3 (rm n fq)
theorem arr_rm_cell {w : World} {g n : Nat} {f : Nat → Nat} (h : Arr w g (rm n f)) {i : Nat} (hi : i < n) : w.cell? ⟨g, i, none⟩ = some (.int .u16 ((f i : Nat) : Int)) := by
  have := h.cell (i := i) (by rw [rm_len]; exact hi)
  rw [rm_get] at this; exact this
theorem Div3.setA {w wr : World} {g1 g2 g3 la n : Nat} {b : List Nat} {fa fq fa' : Nat → Nat} (h : Div3 w wr g1 g2 g3 la n b fa fq) (h1 : w.heap.size ≤ g1) (h2 : g1 < g2) (h3 : g2 < g3) (i v : Nat)
    (e : ∀ j, j < la → (if j = i then v else fa j) = fa' j) : Div3 w (wr.setCell ⟨g1, i, none⟩ (.int .u16 (v : Int))) g1 g2 g3 la n b fa' fq := by
  refine ⟨h.1.setCell h1 _, ?_, h.2.2.1.far (by simp; omega) _, h.2.2.2.far (by simp; omega) _⟩
  rw [← rm_congr e, ← rm_set]; exact h.2.1.set_ i v
theorem Div3.setQ {w wr : World} {g1 g2 g3 la n : Nat} {b : List Nat} {fa fq fq' : Nat → Nat} (h : Div3 w wr g1 g2 g3 la n b fa fq) (h1 : w.heap.size ≤ g1) (h2 : g1 < g2) (h3 : g2 < g3) (i v : Nat)
    (e : ∀ j, j < n → (if j = i then v else fq j) = fq' j) : Div3 w (wr.setCell ⟨g3, i, none⟩ (.int .u16 (v : Int))) g1 g2 g3 la n b fa fq' := by
  refine ⟨h.1.setCell (by simp; omega) _, h.2.1.far (by simp; omega) _, h.2.2.1.far (by simp; omega) _, ?_⟩
  rw [← rm_congr e, ← rm_set]; exact h.2.2.2.set_ i v
theorem Div3.drewN {w wr : World} {g1 g2 g3 la n : Nat} {b : List Nat} {fa fq : Nat → Nat} (h : Div3 w wr g1 g2 g3 la n b fa fq) (k : Nat) : Div3 w (wr.drewN k) g1 g2 g3 la n b fa fq :=
  ⟨below_drewN h.1 k, h.2.1, h.2.2.1, h.2.2.2⟩
theorem Div3.congrA {w wr : World} {g1 g2 g3 la n : Nat} {b : List Nat} {fa fq fa' : Nat → Nat} (h : Div3 w wr g1 g2 g3 la n b fa fq) (e : ∀ j, j < la → fa j = fa' j) : Div3 w wr g1 g2 g3 la n b fa' fq := by
  refine ⟨h.1, ?_, h.2.2⟩
  rw [← rm_congr e]; exact h.2.1
theorem div3_start {w w2 : World} {g1 g2 n : Nat} {a b : List Nat} (hb : Below w.heap.size w w2) (h1 : Arr w2 g1 a) (h2 : Arr w2 g2 b) :
    Div3 w (w2.alloc (.cells (madeCells #[.int .u16 0] n) 23)) g1 g2 w2.heap.size a.length n b (at_ a) (fun _ => 0) := by
  refine ⟨hb.alloc hb.size _, ?_, h2.alloc _, ?_⟩
  · rw [rm_at]; exact h1.alloc _
  · rw [made_uv, rm_zero]; exact Arr.new w2 _

/-- a division's ending: quotient and rest -/
def GivesQR (w : World) (q r : List Nat) (e : Ending) (w' : World) : Prop :=
  ∃ A1 c1 A2 c2, e = .returned (.tuple #[.slice A1 q.length c1, .slice A2 r.length c2, .bool true]) ∧ SlF w' w.heap.size A1 q ∧ SlF w' w.heap.size A2 r ∧ Below w.heap.size w w'

set_option maxHeartbeats 8000000 in
theorem refdiv_any (A B : Option Addr) (ca cb : Nat) (xs ys : List Nat) (w : World) (ha : Sl w w.heap.size A xs) (hb : Sl w w.heap.size B ys) (hla : xs.length ≤ 1000000) (hlb : ys.length ≤ 1000000) (hne : tr ys ≠ []) :
    Calls Try.prog 41 #[.slice A xs.length ca, .slice B ys.length cb] w (GivesQR w (pquo xs ys) (prem xs ys)) := by
  have HA := Lib.hid ha
  have HB := Lib.hid hb
  clear ha hb
  have HX := Lib.hid (tr_bd xs)
  have HY := Lib.hid (tr_bd ys)
  have la := tr_len xs
  have lb := tr_len ys
  have HQ : Hid (pquo xs ys = tr (rm (divN xs ys) (dv2 (tr ys) (divI ys) (divN xs ys) (at_ (tr xs)) (divN xs ys)))) := rfl
  have HR : Hid (prem xs ys = tr (rm (tr xs).length (dv1 (tr ys) (divI ys) (divN xs ys) (at_ (tr xs)) (divN xs ys)))) := rfl
  have HN : Hid (divN xs ys = (tr xs).length + 1 - (tr ys).length) := rfl
  have HI : Hid (divI ys = ginv (at_ (tr ys) ((tr ys).length - 1))) := rfl
  have t1 : ∀ w, Sl w w.heap.size A xs → Calls Try.prog 40 #[.slice A xs.length ca] w (GivesB w (tr xs)) := fun w h => reftrim_blk A ca xs w h hla
  have t2 : ∀ w, Sl w w.heap.size B ys → Calls Try.prog 40 #[.slice B ys.length cb] w (GivesB w (tr ys)) := fun w h => reftrim_blk B cb ys w h hlb
  generalize pquo xs ys = Q at *
  generalize prem xs ys = R at *
  generalize divN xs ys = n at *
  generalize divI ys = iv at *
  generalize tr xs = a at *
  generalize tr ys = b at *
  have bp : 0 < b.length := List.length_pos_iff.2 hne
  have hb0 : ((b.length : Int) == 0) = false := by rw [beq_eq_false_iff_ne]; omega
  have hn := HN.out
  clear hne HN
  obtain ⟨lb1, HLB, hl1⟩ : ∃ l, Hid (b.length = l + 1) ∧ l < b.length := ⟨b.length - 1, by unfold Hid; omega, by omega⟩
  have hb1 : Hid (iv < 1024) := by unfold Hid; rw [HI.out]; exact ginv_lt _
  have hinv : ∀ w, Calls Try.prog 44 #[.int .u16 ((b[lb1]'hl1 : Nat) : Int)] w fun e w' => e = .returned (.tuple #[.int .u16 (iv : Int), .bool (((b[lb1]'hl1 : Nat) : Int) % 1024 != 0)]) ∧ w = w' := by
    intro w
    have hy := HY.out (b[lb1]'hl1) (List.getElem_mem _)
    refine (refinv_any _ w (by omega) (by omega)).mono ?_
    rintro e w' ⟨rfl, rfl⟩
    refine ⟨?_, rfl⟩
    have : invI (((b[lb1]'hl1 : Nat)) : Int) = (iv : Int) := by
      unfold invI
      rw [HI.out, show b.length - 1 = lb1 by have := HLB.out; omega, at_get hl1, Int.toNat_natCast, Nat.mod_eq_of_lt hy]
    rw [this]
  rcases Nat.lt_or_ge a.length b.length with hlt | hge
  · have hn0 : n = 0 := by omega
    subst hn0
    have hmk : ∀ w, (Instr.makeSlice 22 (.int .i64 0) (.int .i64 0)).run Try.prog w = .ok (.slice (some ⟨w.heap.size, 0, none⟩) 0 0) (w.alloc (.cells (madeCells #[.int .u16 0] 0) 23)) :=
      run_make_row' (P := Try.prog) 22 23 (.int .u16 0) 2 Try.underlying22 info22 rfl .i64 .i64 0 (by omega) (by omega)
    have hlast : (b.length : Int) - 1 = (lb1 : Int) := by have := HLB.out; omega
    have hge' : decide ((0 : Int) ≤ (a.length : Int) - (b.length : Int)) = false := by rw [decide_eq_false_iff_not]; omega
    clear hn
    by_cases heq : a.length + 1 = b.length
    · have hE : (a.length : Int) - (b.length : Int) + 1 = 0 := by omega
      clear heq
      go_enter Try.func41, Try.ntmps41
      go_wp2_with (first | (go_at_call 40; (with_reducible refine (t1 _ HA.out).mono ?_); rintro e w1 ⟨g1, G1, rfl, AR1, HB1, HY1⟩; replace AR1 := Lib.hid AR1; replace HB1 := Lib.hid HB1; clear HY1) | (go_at_call 40; (with_reducible refine (t2 _ (HB.out.far HB1.out)).mono ?_); rintro e w2 ⟨g2, G2, rfl, AR2, HB2, HY2⟩; have hcl := AR2.cell (i := lb1) hl1; replace AR2 := Lib.hid AR2; replace HB2 := Lib.hid HB2; clear HY2) | (go_at_call 44; (with_reducible refine (hinv _).mono ?_); rintro e w' ⟨rfl, rfl⟩))
      have HW2 := Lib.hid (HB1.out.trans (HB2.out.mono HB1.out.size))
      have AR1' := Lib.hid (AR1.out.below HB2.out AR1.out.lt)
      clear AR1 HB2
      go_loopw [10] (fun q wr => q = .int .i64 ((a.length : Int) - (b.length : Int)) ∧ Div3 w wr g1 g2 w2.heap.size a.length 0 b (dv1 b iv 0 (at_ a) 0) (dv2 b iv 0 (at_ a) 0)) (fun q _ => (intOf q + 1).toNat)
      case atStart =>
        have e0 : Div3 w _ g1 g2 w2.heap.size a.length 0 b (dv1 b iv 0 (at_ a) 0) (dv2 b iv 0 (at_ a) 0) := div3_start (n := 0) HW2.out AR1'.out AR2.out
        exact ⟨rfl, e0⟩
      case round =>
        clear hmk hlast hcl
        obtain ⟨rfl, HO⟩ := hrel
        have HD := Lib.hid HO
        clear HO
        have HC1 := Lib.hid (reftrim_any (some ⟨w2.heap.size, 0, none⟩) 0 _ wr (HD.out.2.2.2.sl (rm_mem fun j _ => by have := dv2_lt (b := b) (iv := iv) (n := 0) (f := at_ a) (fun j => at_lt HX.out (by decide)) 0 j; omega)) (by rw [rm_len]; omega))
        rw [rm_len] at HC1
        have HC2 : Hid (∀ w', Below wr.heap.size wr w' → Calls Try.prog 40 #[.slice (some ⟨g1, 0, none⟩) a.length a.length] w' (Gives w' R)) := by
          intro w' hb'
          have h := reftrim_any (some ⟨g1, 0, none⟩) a.length _ w' ((HD.out.2.1.below hb' HD.out.2.1.lt).sl (rm_mem fun j _ => by have := dv1_lt (b := b) (iv := iv) (n := 0) (f := at_ a) (fun j => at_lt HX.out (by decide)) 0 j; omega)) (by rw [rm_len]; omega)
          rw [rm_len] at h
          rw [HR.out]; exact h
        rw [← HQ.out] at HC1
        go_wp2_with (first | (go_at_call 40; (with_reducible refine HC1.out.mono ?_); rintro e w4 ⟨s4, rfl, HF4⟩; obtain ⟨A4, c4, rfl, HS4, HB4⟩ := HF4.slf; replace HS4 := Lib.hid HS4; replace HB4 := Lib.hid HB4; clear HF4) | (go_at_call 40; (with_reducible refine (HC2.out _ HB4.out).mono ?_); rintro e w5 ⟨s5, rfl, HF5⟩; obtain ⟨A5, c5, rfl, HS5, HB5⟩ := HF5.slf; replace HS5 := Lib.hid HS5; replace HB5 := Lib.hid HB5; clear HF5))
        go_ret3
        exact ⟨A4, c4, A5, c5, rfl, (HS4.out.far HB5.out).lo HD.out.1.size, HS5.out.lo (Nat.le_trans HD.out.1.size HB4.out.size), (HD.out.1.trans (HB4.out.mono HD.out.1.size)).trans (HB5.out.mono (Nat.le_trans HD.out.1.size HB4.out.size))⟩
    · have hE : (a.length : Int) - (b.length : Int) + 1 < 0 := by omega
      clear heq
      go_enter Try.func41, Try.ntmps41
      go_wp2_with (first | (go_at_call 40; (with_reducible refine (t1 _ HA.out).mono ?_); rintro e w1 ⟨g1, G1, rfl, AR1, HB1, HY1⟩; replace AR1 := Lib.hid AR1; replace HB1 := Lib.hid HB1; clear HY1) | (go_at_call 40; (with_reducible refine (t2 _ (HB.out.far HB1.out)).mono ?_); rintro e w2 ⟨g2, G2, rfl, AR2, HB2, HY2⟩; have hcl := AR2.cell (i := lb1) hl1; replace AR2 := Lib.hid AR2; replace HB2 := Lib.hid HB2; clear HY2) | (go_at_call 44; (with_reducible refine (hinv _).mono ?_); rintro e w' ⟨rfl, rfl⟩))
      have HW2 := Lib.hid (HB1.out.trans (HB2.out.mono HB1.out.size))
      have AR1' := Lib.hid (AR1.out.below HB2.out AR1.out.lt)
      clear AR1 HB2
      go_loopw [10] (fun q wr => q = .int .i64 ((a.length : Int) - (b.length : Int)) ∧ Div3 w wr g1 g2 w2.heap.size a.length 0 b (dv1 b iv 0 (at_ a) 0) (dv2 b iv 0 (at_ a) 0)) (fun q _ => (intOf q + 1).toNat)
      case atStart =>
        have e0 : Div3 w _ g1 g2 w2.heap.size a.length 0 b (dv1 b iv 0 (at_ a) 0) (dv2 b iv 0 (at_ a) 0) := div3_start (n := 0) HW2.out AR1'.out AR2.out
        exact ⟨rfl, e0⟩
      case round =>
        clear hmk hlast hcl
        obtain ⟨rfl, HO⟩ := hrel
        have HD := Lib.hid HO
        clear HO
        have HC1 := Lib.hid (reftrim_any (some ⟨w2.heap.size, 0, none⟩) 0 _ wr (HD.out.2.2.2.sl (rm_mem fun j _ => by have := dv2_lt (b := b) (iv := iv) (n := 0) (f := at_ a) (fun j => at_lt HX.out (by decide)) 0 j; omega)) (by rw [rm_len]; omega))
        rw [rm_len] at HC1
        have HC2 : Hid (∀ w', Below wr.heap.size wr w' → Calls Try.prog 40 #[.slice (some ⟨g1, 0, none⟩) a.length a.length] w' (Gives w' R)) := by
          intro w' hb'
          have h := reftrim_any (some ⟨g1, 0, none⟩) a.length _ w' ((HD.out.2.1.below hb' HD.out.2.1.lt).sl (rm_mem fun j _ => by have := dv1_lt (b := b) (iv := iv) (n := 0) (f := at_ a) (fun j => at_lt HX.out (by decide)) 0 j; omega)) (by rw [rm_len]; omega)
          rw [rm_len] at h
          rw [HR.out]; exact h
        rw [← HQ.out] at HC1
        go_wp2_with (first | (go_at_call 40; (with_reducible refine HC1.out.mono ?_); rintro e w4 ⟨s4, rfl, HF4⟩; obtain ⟨A4, c4, rfl, HS4, HB4⟩ := HF4.slf; replace HS4 := Lib.hid HS4; replace HB4 := Lib.hid HB4; clear HF4) | (go_at_call 40; (with_reducible refine (HC2.out _ HB4.out).mono ?_); rintro e w5 ⟨s5, rfl, HF5⟩; obtain ⟨A5, c5, rfl, HS5, HB5⟩ := HF5.slf; replace HS5 := Lib.hid HS5; replace HB5 := Lib.hid HB5; clear HF5))
        go_ret3
        exact ⟨A4, c4, A5, c5, rfl, (HS4.out.far HB5.out).lo HD.out.1.size, HS5.out.lo (Nat.le_trans HD.out.1.size HB4.out.size), (HD.out.1.trans (HB4.out.mono HD.out.1.size)).trans (HB5.out.mono (Nat.le_trans HD.out.1.size HB4.out.size))⟩
  · have hn' : n = a.length - b.length + 1 := by omega
    have hmk : ∀ w, (Instr.makeSlice 22 (.int .i64 ((a.length : Int) - (b.length : Int) + 1)) (.int .i64 ((a.length : Int) - (b.length : Int) + 1))).run Try.prog w = .ok (.slice (some ⟨w.heap.size, 0, none⟩) n n) (w.alloc (.cells (madeCells #[.int .u16 0] n) 23)) := by
      intro w
      have := run_make_row' (P := Try.prog) 22 23 (.int .u16 0) 2 Try.underlying22 info22 rfl .i64 .i64 n (by omega) (by omega) w
      rw [show ((n : Nat) : Int) = (a.length : Int) - (b.length : Int) + 1 by omega] at this
      exact this
    have hlast : (b.length : Int) - 1 = (lb1 : Int) := by have := HLB.out; omega
    have hnn : (n : Int) = (a.length : Int) - (b.length : Int) + 1 := by omega
    have HNN := Lib.hid hnn
    have HNN' := Lib.hid hn'
    have hge' : (0 : Int) ≤ (a.length : Int) - (b.length : Int) := by omega
    clear hn hn' hnn
    go_enter Try.func41, Try.ntmps41
    go_wp2_with (first | (go_at_call 40; (with_reducible refine (t1 _ HA.out).mono ?_); rintro e w1 ⟨g1, G1, rfl, AR1, HB1, HY1⟩; replace AR1 := Lib.hid AR1; replace HB1 := Lib.hid HB1; clear HY1) | (go_at_call 40; (with_reducible refine (t2 _ (HB.out.far HB1.out)).mono ?_); rintro e w2 ⟨g2, G2, rfl, AR2, HB2, HY2⟩; have hcl := AR2.cell (i := lb1) hl1; replace AR2 := Lib.hid AR2; replace HB2 := Lib.hid HB2; clear HY2) | (go_at_call 44; (with_reducible refine (hinv _).mono ?_); rintro e w' ⟨rfl, rfl⟩))
    -- LOOP
    have G12 : Hid (g1 < g2 ∧ g2 < w2.heap.size) := ⟨Nat.lt_of_lt_of_le AR1.out.lt G2, AR2.out.lt⟩
    have HW2 := Lib.hid (HB1.out.trans (HB2.out.mono HB1.out.size))
    have AR1' := Lib.hid (AR1.out.below HB2.out AR1.out.lt)
    clear AR1 HB2
    have hNle : Hid (n ≤ 1000000) := by have := HNN'.out; unfold Hid; omega
    go_loopw [10] (fun q wr => ∃ t m1 : Nat, Hid (t + m1 = n) ∧ q = .int .i64 ((m1 : Int) - 1) ∧ Div3 w wr g1 g2 w2.heap.size a.length n b (dv1 b iv n (at_ a) t) (dv2 b iv n (at_ a) t)) (fun q _ => (intOf q + 1).toNat)
    case atStart =>
      have e0 : Div3 w _ g1 g2 w2.heap.size a.length n b (dv1 b iv n (at_ a) 0) (dv2 b iv n (at_ a) 0) := div3_start (n := n) HW2.out AR1'.out AR2.out
      exact ⟨0, n, by unfold Hid; omega, by congr 1; have := HNN.out; omega, e0⟩
    case round =>
      clear hmk hge' hlast hcl
      obtain ⟨t, m1, htm, rfl, HO⟩ := hrel
      by_cases hm1 : m1 = 0
      · subst hm1
        have hd : decide ((0 : Int) ≤ ((0 : Nat) : Int) - 1) = false := by decide
        have etn : t = n := by have := htm.out; omega
        rw [etn] at HO
        have HD := Lib.hid HO
        clear HO htm etn
        have HC1 := Lib.hid (reftrim_any (some ⟨w2.heap.size, 0, none⟩) n _ wr (HD.out.2.2.2.sl (rm_mem fun j _ => by have := dv2_lt (b := b) (iv := iv) (n := n) (f := at_ a) (fun j => at_lt HX.out (by decide)) n j; omega)) (by rw [rm_len]; exact hNle.out))
        rw [rm_len] at HC1
        have HC2 : Hid (∀ w', Below wr.heap.size wr w' → Calls Try.prog 40 #[.slice (some ⟨g1, 0, none⟩) a.length a.length] w' (Gives w' R)) := by
          intro w' hb'
          have h := reftrim_any (some ⟨g1, 0, none⟩) a.length _ w' ((HD.out.2.1.below hb' HD.out.2.1.lt).sl (rm_mem fun j _ => by have := dv1_lt (b := b) (iv := iv) (n := n) (f := at_ a) (fun j => at_lt HX.out (by decide)) n j; omega)) (by rw [rm_len]; omega)
          rw [rm_len] at h
          rw [HR.out]; exact h
        rw [← HQ.out] at HC1
        go_wp2_with (first | (go_at_call 40; (with_reducible refine HC1.out.mono ?_); rintro e w4 ⟨s4, rfl, HF4⟩; obtain ⟨A4, c4, rfl, HS4, HB4⟩ := HF4.slf; replace HS4 := Lib.hid HS4; replace HB4 := Lib.hid HB4; clear HF4) | (go_at_call 40; (with_reducible refine (HC2.out _ HB4.out).mono ?_); rintro e w5 ⟨s5, rfl, HF5⟩; obtain ⟨A5, c5, rfl, HS5, HB5⟩ := HF5.slf; replace HS5 := Lib.hid HS5; replace HB5 := Lib.hid HB5; clear HF5))
        go_ret3
        exact ⟨A4, c4, A5, c5, rfl, (HS4.out.far HB5.out).lo HD.out.1.size, HS5.out.lo (Nat.le_trans HD.out.1.size HB4.out.size), (HD.out.1.trans (HB4.out.mono HD.out.1.size)).trans (HB5.out.mono (Nat.le_trans HD.out.1.size HB4.out.size))⟩
      · obtain ⟨m, rfl⟩ : ∃ m, m1 = m + 1 := ⟨m1 - 1, by omega⟩
        have hjj : ((m + 1 : Nat) : Int) - 1 = (m : Int) := by omega
        rw [hjj]
        obtain ⟨pp, hpp⟩ : ∃ pp, Hid (pp = m + lb1) := ⟨_, rfl⟩
        have hmn : m < n := by have := htm.out; omega
        have hpa : pp < a.length := by have := htm.out; have := HNN'.out; have := HLB.out; have := hpp.out; omega
        have hca := arr_rm_cell HO.2.1 hpa
        have hcq := arr_rm_cell HO.2.2.2 hmn
        have hfq := HO.2.2.2.frozen m
        have hfa := dv1_lt (b := b) (iv := iv) (n := n) (f := at_ a) (fun j => at_lt HX.out (by decide)) t pp
        have hiv := hb1.out
        obtain ⟨qv, hqv⟩ : ∃ qv, Hid (qv = gm (dv1 b iv n (at_ a) t pp) iv) := ⟨_, rfl⟩
        have hqlt : qv < 1024 := by rw [hqv.out]; exact gm_lt _ hfa
        have hmul : mulI ((dv1 b iv n (at_ a) t pp : Nat) : Int) (iv : Int) = (qv : Int) := by rw [hqv.out]; exact mulI_nat hfa hiv
        have hidx : n - 1 - t = m := by have := htm.out; omega
        have hidp : m + b.length - 1 = pp := by have := HLB.out; have := hpp.out; omega
        have HO0 := Lib.hid ((HO.setQ (G1) (G12.out.1) (G12.out.2) m qv (fq' := dv2 b iv n (at_ a) (t + 1)) (by
          intro j hj
          conv => rhs; unfold dv2
          rw [hidx, hidp, ← hqv.out])).congrA (fa' := mrow (dv1 b iv n (at_ a) t) qv b m 0) (fun j _ => rfl))
        have HE := Lib.hid (show ∀ j, mrow (dv1 b iv n (at_ a) t) qv b m b.length j = dv1 b iv n (at_ a) (t + 1) j by
          intro j
          conv => rhs; unfold dv1
          rw [hidx, hidp, ← hqv.out])
        have HQM : Hid (dv2 b iv n (at_ a) (t + 1) m = qv) := by
          unfold Hid
          conv => lhs; unfold dv2
          rw [hidx, if_pos rfl, hidp, ← hqv.out]
        clear HO hidx hidp
        have s2 : (0 : Int) ≤ (m : Int) + (b.length : Int) - 1 := by omega
        have s3 : (m : Int) + (b.length : Int) - 1 < (a.length : Int) := by have := htm.out; have := HNN'.out; have := HLB.out; omega
        have s4 : ((m : Int) + (b.length : Int) - 1).toNat = pp := by have := HLB.out; have := hpp.out; omega
        have FA := Lib.hid (fun (j : Nat) => dv1_lt (b := b) (iv := iv) (n := n) (f := at_ a) (fun j => at_lt HX.out (by decide)) t j)
        generalize hgf : dv2 b iv n (at_ a) (t + 1) = fq at *
        have HFQ := Lib.hid hgf
        clear hgf
        have hm6 : m < 1000000 := by have := hNle.out; omega
        generalize hgg : dv1 b iv n (at_ a) t = fa at *
        clear hgg
        go_wp2_with (go_at_call 28; refine (refmul_any _ _ _ (by omega) (by omega) (by omega) (by omega)).mono ?_; rintro e w' ⟨rfl, rfl⟩)
        clear s2 s3 s4 hca hcq hfq
        go_loopw [11] (fun q wr => ∃ k : Nat, k ≤ b.length ∧ q = .int .i64 k ∧ Div3 w wr g1 g2 w2.heap.size a.length n b (mrow fa qv b m k) fq) (fun q _ => b.length - (intOf q).toNat)
        case atStart => exact ⟨0, Nat.zero_le _, rfl, HO0.out⟩
        case round =>
          clear HO0 hmul hfa
          obtain ⟨k, hk, rfl, HO⟩ := hrel
          by_cases hlt2 : k < b.length
          · have hmk : m + k < a.length := by have := htm.out; have := HNN'.out; omega
            have hc1 := arr_rm_cell HO.2.1 hmk
            have hf1 := HO.2.1.frozen (m + k)
            have hc2 := HO.2.2.1.cell hlt2
            have hc3 := arr_rm_cell HO.2.2.2 hmn
            rw [HQM.out] at hc3
            have hy1 := HY.out b[k] (List.getElem_mem hlt2)
            have hfk := mrow_lt (f := fa) (x := qv) (ys := b) (i := m) FA.out hqlt k (m + k)
            have hmul2 := mulI_nat hqlt hy1
            have hg := gm_lt b[k] hqlt
            have hxor := u16_xor_nat (mrow fa qv b m k (m + k)) (gm qv b[k]) (by omega) (by omega)
            have HO' := Lib.hid (HO.setA G1 G12.out.1 G12.out.2 (m + k) (mrow fa qv b m k (m + k) ^^^ gm qv b[k]) (fa' := mrow fa qv b m (k + 1)) (by
              intro j hj
              by_cases h1 : j = m + k
              · subst h1; rw [if_pos rfl]; conv => rhs; unfold mrow
                rw [if_pos rfl, at_get hlt2]
              · rw [if_neg h1]; conv => rhs; unfold mrow
                rw [if_neg h1]))
            clear HO
            generalize mrow fa qv b m k (m + k) = U at *
            generalize gm qv b[k] = G at *
            generalize U ^^^ G = V at hxor HO'
            have HM := Lib.hid (fun w => refmul_still (qv : Int) (b[k] : Int) w (by omega) (by omega) (by omega) (by omega))
            have s1 : IntKind.i64.wrap ((m : Int) + (k : Int)) = (m : Int) + (k : Int) := IntWalk.i64_in _ (by omega)
            have s2 : (0 : Int) ≤ (m : Int) + (k : Int) := by omega
            have s3 : (m : Int) + (k : Int) < (a.length : Int) := by omega
            have s4 : ((m : Int) + (k : Int)).toNat = m + k := by omega
            go_wp2
            go_still_tail 21, (by kernel_rfl)
            still_call (HM.out _)
            repeat still_step
            refine wpStill_nil ?_
            go_wp2
            clear s1 s2 s3 s4
            go_roundw
            case rel => exact ⟨k + 1, by omega, by go_num, by first | exact HO'.out | exact HO'.out.drewN _⟩
            case measure => simp [intOf]; omega
          · obtain rfl : k = b.length := by omega
            have HO' := Lib.hid (HO.congrA (fun j _ => HE.out j))
            clear HO
            go_wp2
            go_roundw
            case rel => exact ⟨t + 1, m, by have := htm.out; unfold Hid; omega, rfl, by rw [HFQ.out]; exact HO'.out⟩
            case measure => simp [intOf]

/-- a division by nought -/
def GivesNo (w : World) (e : Ending) (w' : World) : Prop := e = .returned (.tuple #[.slice none 0 0, .slice none 0 0, .bool false]) ∧ Below w.heap.size w w'
set_option maxHeartbeats 4000000 in
theorem refdiv_none (A B : Option Addr) (ca cb : Nat) (xs ys : List Nat) (w : World) (ha : Sl w w.heap.size A xs) (hb : Sl w w.heap.size B ys) (hla : xs.length ≤ 1000000) (hlb : ys.length ≤ 1000000) (hne : tr ys = []) :
    Calls Try.prog 41 #[.slice A xs.length ca, .slice B ys.length cb] w (GivesNo w) := by
  have HA := Lib.hid ha
  have HB := Lib.hid hb
  clear ha hb
  have t1 : ∀ w, Sl w w.heap.size A xs → Calls Try.prog 40 #[.slice A xs.length ca] w (GivesB w (tr xs)) := fun w h => reftrim_blk A ca xs w h hla
  have t2 : ∀ w, Sl w w.heap.size B ys → Calls Try.prog 40 #[.slice B ys.length cb] w (GivesB w (tr ys)) := fun w h => reftrim_blk B cb ys w h hlb
  have hl : (tr ys).length = 0 := by rw [hne]; rfl
  have hb0 : (((tr ys).length : Int) == 0) = true := by rw [hl]; rfl
  clear hne hl
  generalize tr xs = a at *
  generalize tr ys = b at *
  go_enter Try.func41, Try.ntmps41
  go_wp2_with (first | (go_at_call 40; (with_reducible refine (t1 _ HA.out).mono ?_); rintro e w1 ⟨g1, G1, rfl, AR1, HB1, HY1⟩; replace AR1 := Lib.hid AR1; replace HB1 := Lib.hid HB1; clear HY1) | (go_at_call 40; (with_reducible refine (t2 _ (HB.out.far HB1.out)).mono ?_); rintro e w2 ⟨g2, G2, rfl, AR2, HB2, HY2⟩; replace AR2 := Lib.hid AR2; replace HB2 := Lib.hid HB2; clear HY2))
  go_ret3
  exact ⟨rfl, HB1.out.trans (HB2.out.mono HB1.out.size)⟩
/-- a list written out in the text -/
theorem sl_new (w : World) (o : Obj) (xs : List Nat) (g : Nat) (hg : w.heap.size = g) (ho : o = .cells (xs.map uv).toArray 23) (h : ∀ x ∈ xs, x < 65536) : Sl (w.alloc o) (w.alloc o).heap.size (some ⟨g, 0, none⟩) xs := by
  subst hg ho
  exact (Arr.new w xs).sl h
theorem below_alloc (w : World) (o : Obj) : Below w.heap.size w (w.alloc o) := (Below.refl _ _).alloc (Nat.le_refl _) _
theorem slope_le (xs : List Nat) : (slope xs).length ≤ xs.length := Nat.le_trans (tr_len _) (by rw [rm_len]; exact Nat.le_refl _)
end Go.Proofs.Ytciafkobnlfpbaa
