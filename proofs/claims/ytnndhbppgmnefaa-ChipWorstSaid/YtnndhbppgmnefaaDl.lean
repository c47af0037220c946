/- The device: how many symbols of one codeword are wrong at the most. -/
import Derived.Test.YtnndhbppgmnefaaDk
namespace Go.Proofs.Ytnndhbppgmnefaa
open Go.RowKit Go.Gf Go.Fl
set_option linter.unusedVariables false
set_option linter.unusedSimpArgs false
attribute [local go_sem ↓] Cl.quiet_after Cl.quiet_since
/-- the greatest of the first n -/
def mxN (f : Nat → Nat) : Nat → Nat
  | 0 => 0
  | n + 1 => max (mxN f n) (f n)
/-- how many of the first i places are codeword j's -/
def cntW (l : List Nat) (W j : Nat) : Nat → Nat
  | 0 => 0
  | i + 1 => cntW l W j i + if syAt l i % W = j then 1 else 0
theorem cntW_le (l : List Nat) (W j : Nat) : ∀ i, cntW l W j i ≤ i
  | 0 => Nat.le_refl _
  | i + 1 => by
    have := cntW_le l W j i
    unfold cntW
    split <;> omega
def mostN (l : List Nat) (W : Nat) : Nat := mxN (fun j => cntW l W j l.length) 4
/-- block g holds four numbers, and may be written -/
structure Ar4 (w : World) (g : Nat) (f : Nat → Nat) : Prop where
  lt : g < w.heap.size
  c : ∀ j, j < 4 → w.cell? ⟨g, j, none⟩ = some (.int .i64 (f j : Int))
  fz : ∀ j, w.frozen? ⟨g, j, none⟩ = false
set_option maxHeartbeats 1000000 in
theorem max_any {w : World} {g : Nat} {f : Nat → Nat} (h : Ar4 w g f) (hf : ∀ j, f j ≤ 1000000) :
    Calls Try.prog 51 #[.slice (some ⟨g, 0, none⟩) 4 4] w fun e w' => e = .returned (.int .i64 (mxN f 4 : Int)) ∧ w = w' := by
  have c0 := h.c 0 (by decide)
  have hm1 : Hid (mxN f 1 = f 0) := Lib.hid (Nat.zero_max _)
  replace h := Lib.hid h
  go_enter Try.func51, Try.ntmps51
  go_wp2_with fail
  go_loop [3, 4] (fun m q => ∃ i : Nat, 1 ≤ i ∧ i ≤ 4 ∧ q = .int .i64 i ∧ m = .int .i64 (mxN f i : Int)) (fun _ q => 4 - (intOf q).toNat)
  case atStart => exact ⟨1, Nat.le_refl _, by decide, rfl, by rw [hm1.out]⟩
  case round =>
    obtain ⟨i, h1, h4, rfl, rfl⟩ := hrel
    by_cases hi : i < 4
    · have hiI : (i : Int) < 4 := by omega
      have hc := h.out.c i hi
      have hst : max ((mxN f i : Nat) : Int) (f i : Int) = ((mxN f (i + 1) : Nat) : Int) := by
        show _ = ((max (mxN f i) (f i) : Nat) : Int)
        omega
      go_wp2_with fail
      go_round
      case rel => exact ⟨i + 1, by omega, by omega, by go_num, rfl⟩
      case measure => simp [intOf]; omega
    · obtain rfl : i = 4 := by omega
      go_wp2_with fail
      go_ret
      exact ⟨rfl, rfl⟩
theorem rem4 (x W : Nat) (h1 : 1 ≤ W) (h4 : W ≤ 4) : ∃ r : Nat, x % W = r ∧ r < 4 ∧ (x : Int) % (W : Int) = (r : Int) ∧ (x : Int).tmod (W : Int) = (r : Int) :=
  ⟨x % W, rfl, Nat.lt_of_lt_of_le (Nat.mod_lt _ h1) h4, (Int.natCast_emod _ _).symm, by rw [Int.tmod_eq_emod_of_nonneg (Int.natCast_nonneg _)]; exact (Int.natCast_emod _ _).symm⟩
set_option maxHeartbeats 2000000 in
theorem most_any {w : World} {A : Option Addr} {l : List Nat} {n c lo W : Nat} (h : Ints w lo A l) (hn : l.length = n) (hl : n ≤ 1000000) (hx : ∀ i, syAt l i ≤ 1000000) (hW : 1 ≤ W) (hW4 : W ≤ 4) :
    Calls Try.prog 33 #[.slice A n c, .int .i64 (W : Int)] w (Ans w (.int .i64 (mostN l W : Int))) := by
  have hA := below_alloc' w (.cells #[.int .i64 0, .int .i64 0, .int .i64 0, .int .i64 0] 106)
  have hnew := heap_alloc_new w (.cells #[.int .i64 0, .int .i64 0, .int .i64 0, .int .i64 0] 106)
  have hgl : w.heap.size < (w.alloc (.cells #[.int .i64 0, .int .i64 0, .int .i64 0, .int .i64 0] 106)).heap.size := by rw [World.size_alloc]; omega
  have hcl := cell_of hnew
  have har : Hid (Ar4 (w.alloc (.cells #[.int .i64 0, .int .i64 0, .int .i64 0, .int .i64 0] 106)) w.heap.size (fun j => cntW l W j 0)) := by
    refine ⟨hgl, fun j hj => ?_, frozen_new hnew⟩
    rw [hcl]
    rcases (by omega : j = 0 ∨ j = 1 ∨ j = 2 ∨ j = 3) with rfl | rfl | rfl | rfl <;> rfl
  generalize hw1 : w.alloc (.cells #[.int .i64 0, .int .i64 0, .int .i64 0, .int .i64 0] 106) = w1 at *
  replace hA := Lib.hid hA
  replace h := Lib.hid h
  replace hn := Lib.hid hn
  replace hx := Lib.hid hx
  unfold mostN
  rw [hn.out]
  clear hnew hcl hgl
  obtain ⟨ga, hga⟩ : ∃ ga, Hid (w.heap.size = ga) := ⟨_, Lib.hid rfl⟩
  rw [hga.out] at har
  go_enter Try.func33, Try.ntmps33
  go_wp2_with fail
  rw [hga.out]
  go_loopw [10] (fun q wr => ∃ i : Nat, i ≤ n ∧ q = .int .i64 i ∧ Below w.heap.size w wr ∧ Ar4 wr ga (fun j => cntW l W j i)) (fun q _ => n - (intOf q).toNat)
  case atStart => exact ⟨0, Nat.zero_le _, rfl, hA.out, har.out⟩
  case round =>
    obtain ⟨i, hi, rfl, hB, hr⟩ := hrel
    by_cases hin : i < n
    · have hiI : (i : Int) < (n : Int) := by omega
      have hdi : decide (i < n) = true := decide_eq_true hin
      rcases h.out with hnil | ⟨a, rfl, hlo, hab, hc⟩
      · have := hn.out; rw [hnil] at this; simp at this; omega
      have hcr : wr.cell? (a.add i) = some (.int .i64 (syAt l i : Int)) := (hB.cell (by rw [add_block]; exact hab)).trans (hc i (by rw [hn.out]; exact hin))
      have hxi := hx.out i
      obtain ⟨r, hre, hr4, hr1, hr2⟩ := rem4 (syAt l i) W hW hW4
      replace hr1 := Lib.hid hr1
      replace hr2 := Lib.hid hr2
      replace hre := Lib.hid hre
      have hr3 : wrap64 (r : Int) = (r : Int) := IntWalk.wrap64_in _ (by omega)
      have hr4I : (r : Int) < 4 := by omega
      have hWI : (W : Int) ≠ 0 := by omega
      have hrc := hr.c r hr4
      have hrf := hr.fz r
      have hle := cntW_le l W r i
      have hnew : Hid (Ar4 (wr.setCell ⟨ga, r, none⟩ (.int .i64 ((cntW l W r i : Int) + 1))) ga (fun j => cntW l W j (i + 1))) := by
        refine ⟨by simp [World.setCell]; exact hr.lt, fun j hj => ?_, fun j => by rw [World.frozen?_setCell]; exact hr.fz j⟩
        show _ = some (Value.int .i64 ((cntW l W j i + (if syAt l i % W = j then 1 else 0) : Nat) : Int))
        rw [hre.out]
        by_cases e : r = j
        · subst e
          rw [if_pos rfl]
          exact World.cell?_setCell_same _ _ _ hrc
        · rw [if_neg e]
          exact (World.cell?_setCell_other _ _ _ _ (by intro e'; injection e'; omega)).trans (hr.c j hj)
      have hB' : Hid (Below w.heap.size w (wr.setCell ⟨ga, r, none⟩ (.int .i64 ((cntW l W r i : Int) + 1)))) := hB.setCell (p := ⟨ga, r, none⟩) (by rw [← hga.out]; exact Nat.le_refl _) _
      have hw1 : wrap64 ((cntW l W r i : Int) + 1) = (cntW l W r i : Int) + 1 := IntWalk.wrap64_in _ (by omega)
      obtain ⟨C, hC⟩ : ∃ C, Hid (cntW l W r i = C) := ⟨_, Lib.hid rfl⟩
      obtain ⟨X, hX⟩ : ∃ X, Hid (syAt l i = X) := ⟨_, Lib.hid rfl⟩
      rw [hC.out] at hrc hle hnew hB' hw1
      have hr1 := hr1.out
      have hr2 := hr2.out
      rw [hX.out] at hcr hxi hr1 hr2
      clear hre hr hB hc
      go_wp2_with fail
      go_roundw
      case rel => exact ⟨i + 1, by omega, by go_num, hB'.out, hnew.out⟩
      case measure => simp [intOf]; omega
    · obtain rfl : i = n := by omega
      have hdi : decide (i < i) = false := decide_eq_false (Nat.lt_irrefl _)
      have hmx := Lib.hid (max_any hr fun j => by have := cntW_le l W j i; omega)
      replace hB := Lib.hid hB
      clear hr
      go_wp2_with (go_at_call 51; (with_reducible refine hmx.out.mono ?_); rintro e w2 ⟨rfl, rfl⟩)
      go_ret
      exact ⟨rfl, hB.out⟩
/-- what is wrong on a page -/
def wrI (q : Pg) : List Nat := if q.st = 1 then wrongI q.ps q.ss else []
def worstPg (M : Dev) (i j : Nat) : Nat := mostN (wrI (M.pg i j)) M.W
def worstB (M : Dev) (i : Nat) : Nat := mxN (worstPg M i) M.P
def worstD (M : Dev) : Nat := mxN (worstB M) M.B
theorem wrI_le (q : Pg) : (wrI q).length ≤ q.ps.length ∧ ∀ i, syAt (wrI q) i ≤ q.ps.length := by
  have key : ∀ x ∈ wrI q, x ≤ q.ps.length := by
    intro x hx
    unfold wrI wrongI at hx
    split at hx
    · have := List.mem_range.1 (List.mem_filter.1 hx).1
      omega
    · cases hx
  refine ⟨?_, fun i => ?_⟩
  · unfold wrI
    split
    · unfold wrongI
      exact Nat.le_trans (List.length_filter_le _ _) (by simp)
    · exact Nat.zero_le _
  · unfold syAt
    rcases Nat.lt_or_ge i (wrI q).length with h | h
    · simp only [List.getD, List.getElem?_eq_getElem h, Option.getD_some]
      exact key _ (List.getElem_mem h)
    · simp only [List.getD, List.getElem?_eq_none h, Option.getD_none]
      exact Nat.zero_le _
theorem mostN_le (l : List Nat) (W : Nat) (n : Nat) (h : l.length ≤ n) : mostN l W ≤ n := by
  unfold mostN
  have key : ∀ j, cntW l W j l.length ≤ n := fun j => Nat.le_trans (cntW_le _ _ _ _) h
  unfold mxN mxN mxN mxN mxN
  have := key 0
  have := key 1
  have := key 2
  have := key 3
  omega
theorem mxN_le {f : Nat → Nat} {m : Nat} (h : ∀ j, f j ≤ m) : ∀ n, mxN f n ≤ m
  | 0 => Nat.zero_le _
  | n + 1 => by
    have := mxN_le h n
    have := h n
    unfold mxN
    omega
set_option maxRecDepth 20000 in
set_option maxHeartbeats 8000000 in
theorem d_worst {w : World} {F : Nat → Prop} {a : Addr} {M : Dev} (h : Chip w F a M) (hle : ∀ i j, (M.pg i j).ps.length ≤ 100000) : Calls Try.prog 21 #[.pointer (some a)] w (Ans w (.int .i64 (worstD M : Int))) := by
  obtain ⟨L, rfl, o, h⟩ := h
  have hm := Ge.may_of h.geo
  have hwl : ∀ i j, worstPg M i j ≤ 100000 := fun i j => mostN_le _ _ _ (Nat.le_trans (wrI_le _).1 (hle i j))
  have hbl : ∀ i j, mxN (worstPg M i) j ≤ 100000 := fun i j => mxN_le (hwl i) j
  have hdl : ∀ i, mxN (worstB M) i ≤ 100000 := mxN_le fun i => hbl i M.P
  have g4 := h.g4
  replace h := Lib.hid h
  replace hle := Lib.hid hle
  replace hwl := Lib.hid hwl
  replace hbl := Lib.hid hbl
  replace hdl := Lib.hid hdl
  unfold worstD
  obtain ⟨B, hB⟩ : ∃ B, Hid (M.B = B) := ⟨_, Lib.hid rfl⟩
  obtain ⟨P, hP⟩ : ∃ P, Hid (M.P = P) := ⟨_, Lib.hid rfl⟩
  rw [hB.out] at g4 hm ⊢
  rw [hP.out] at hm
  go_enter Try.func21, Try.ntmps21
  go_wp2_with fail
  go_loopw [3, 15] (fun m q wr => ∃ i : Nat, i ≤ B ∧ q = .int .i64 i ∧ m = .int .i64 (mxN (worstB M) i : Int) ∧ Below w.heap.size w wr) (fun _ q _ => B - (intOf q).toNat)
  case atStart => exact ⟨0, Nat.zero_le _, rfl, rfl, Below.refl _ _⟩
  case round =>
    obtain ⟨i, hi, rfl, rfl, hBw⟩ := hrel
    by_cases hin : i < B
    · have hiI : (i : Int) < (B : Int) := by omega
      have hdi : decide (i < B) = true := decide_eq_true hin
      have hib : i < M.B := by rw [hB.out]; exact hin
      have hr := h.out.below hBw
      have q0 := hr.k0 i hib
      have q1 := hr.k1 i hib
      have q2 := hr.k2 i hib
      have q3 := hr.k3 i hib
      rw [hP.out] at q0
      have hA := below_alloc' wr (.cells #[.slice (some ⟨L.kp i, 0, none⟩) P (L.cp i), .int .i64 (M.er i : Int), .bool (M.md i), .bool (M.bk i)] 68)
      have hB2 := Lib.hid (hBw.trans (hA.mono hBw.size))
      have b0 := cell_new wr #[.slice (some ⟨L.kp i, 0, none⟩) P (L.cp i), .int .i64 (M.er i : Int), .bool (M.md i), .bool (M.bk i)] 68 0
      simp only [List.getElem?_toArray, List.getElem?_cons_zero] at b0
      clear hr hA hBw
      go_wp2_with fail
      generalize wr.alloc (.cells #[.slice (some ⟨L.kp i, 0, none⟩) P (L.cp i), .int .i64 (M.er i : Int), .bool (M.md i), .bool (M.bk i)] 68) = w5 at *
      clear b0 q0 q1 q2 q3
      obtain ⟨wv, hwv⟩ : ∃ wv, Hid (mxN (worstB M) i = wv) := ⟨_, Lib.hid rfl⟩
      rw [hwv.out]
      go_loopw [3, 22] (fun m q wr => ∃ j : Nat, j ≤ P ∧ q = .int .i64 j ∧ m = .int .i64 ((max wv (mxN (worstPg M i) j) : Nat) : Int) ∧ Below w.heap.size w wr) (fun _ q _ => P - (intOf q).toNat)
      case atStart => exact ⟨0, Nat.zero_le _, rfl, by rw [show mxN (worstPg M i) 0 = 0 from rfl, Nat.max_zero], hB2.out⟩
      case round =>
        obtain ⟨j, hj, rfl, rfl, hBw⟩ := hrel
        by_cases hjn : j < P
        · have hjI : (j : Int) < (P : Int) := by omega
          have hdj : decide (j < P) = true := decide_eq_true hjn
          have hjb : j < M.P := by rw [hP.out]; exact hjn
          have hpc : wr.cell? ⟨L.kp i, j, none⟩ = some (.pointer (some (L.pa i j))) := (h.out.below hBw).pp i hib j hjb
          obtain ⟨l, hl⟩ : ∃ l, Hid (wrI (M.pg i j) = l) := ⟨_, Lib.hid rfl⟩
          have hlen : l.length ≤ 100000 := by rw [← hl.out]; exact Nat.le_trans (wrI_le _).1 (hle.out i j)
          have hxs : Hid (∀ t, syAt l t ≤ 1000000) := fun t => by rw [← hl.out]; exact Nat.le_trans ((wrI_le _).2 t) (Nat.le_trans (hle.out i j) (by decide))
          obtain ⟨n, hn⟩ : ∃ n, Hid (l.length = n) := ⟨_, Lib.hid rfl⟩
          rw [hn.out] at hlen
          have hmo : Hid (mostN l M.W = worstPg M i j) := by unfold worstPg; rw [hl.out]; exact Lib.hid rfl
          have hww := hwl.out i j
          have hwm := hbl.out i j
          have hwz : wv ≤ 100000 := by rw [← hwv.out]; exact hdl.out i
          have hst : mxN (worstPg M i) (j + 1) = max (mxN (worstPg M i) j) (worstPg M i j) := rfl
          obtain ⟨v1, hv1⟩ : ∃ v1, worstPg M i j = v1 := ⟨_, rfl⟩
          obtain ⟨v2, hv2⟩ : ∃ v2, mxN (worstPg M i) j = v2 := ⟨_, rfl⟩
          rw [hv1, hv2] at hst
          rw [hv1] at hmo hww
          rw [hv2] at hwm
          rw [hv2]
          replace hst := Lib.hid hst
          clear hv1 hv2
          have hmax : max ((max wv v2 : Nat) : Int) (v1 : Int) = ((max wv (max v2 v1) : Nat) : Int) := by omega
          replace hBw := Lib.hid hBw
          obtain ⟨v3, hv3⟩ : ∃ v3, Hid (max wv v2 = v3) := ⟨_, Lib.hid rfl⟩
          rw [hv3.out] at hmax ⊢
          go_wp2_with fail
          refine Cl.region_way0 (fun _ => True) 11 [(0, .r), (1, .r), (3, .r), (4, .r), (5, .r), (6, .r), (7, .r), (2, .c), (8, .c), (9, .r), (10, .r)] (by kernel_rfl) (by kernel_rfl) ?_
          intro w3 hk3
          have hb3 := Lib.hid (hBw.out.trans (hk3.below.mono hBw.out.size))
          have hr3 := Lib.hid (h.out.below hb3.out)
          have g2 := fun y : Cl.Since (fun _ => True) w3 => (hr3.out.below y.keeps.below).g2
          have hwr := Lib.hid (c_wrong (hr3.out.pg i hib j hjb) (l := l) (n := n) hl.out hn.out)
          clear hk3 hBw hpc
          iterate 7 (refine Cl.way_r rfl ?_; go_big_quiet_step (fail); refine wpQuiet_nil ?_)
          clear g2
          refine Cl.way_c rfl ?_
          go_wp2_with (go_at_call 34; (with_reducible refine hwr.out.mono ?_); rintro e w4 ⟨A, c, rfl, hb4, hI⟩; have hmst := Lib.hid (most_any hI hn.out (Nat.le_trans hlen (by decide)) hxs.out (W := M.W) (c := c) (by omega) (by omega)); rw [hmo.out] at hmst)
          refine Cl.way_on (Cl.Keeps.of_below hb4) ?_
          have hb4' := Lib.hid (hb3.out.trans (hb4.mono hb3.out.size))
          clear hb3 hr3 hwr hI hb4
          refine Cl.way_c rfl ?_
          go_wp2_with (go_at_call 33; (with_reducible refine hmst.out.mono ?_); rintro e w6 ⟨rfl, hb6⟩)
          refine Cl.way_on (Cl.Keeps.of_below hb6) ?_
          have hb6' := Lib.hid (hb4'.out.trans (hb6.mono hb4'.out.size))
          clear hb4' hmst hb6
          iterate 2 (refine Cl.way_r rfl ?_; go_big_quiet_step (fail); refine wpQuiet_nil ?_)
          refine Cl.way_end ?_
          go_wp2_with fail
          go_roundw
          case rel => exact ⟨j + 1, by omega, by go_num, by rw [hst.out], hb6'.out⟩
          case measure => simp [intOf]; omega
        · obtain rfl : j = P := by omega
          have hdj : decide (j < j) = false := decide_eq_false (Nat.lt_irrefl _)
          have hst : Hid (max wv (mxN (worstPg M i) j) = mxN (worstB M) (i + 1)) := by
            show Hid (_ = max (mxN (worstB M) i) (worstB M i))
            rw [hwv.out]
            show Hid (_ = max wv (mxN (worstPg M i) M.P))
            rw [hP.out]
            exact Lib.hid rfl
          replace hBw := Lib.hid hBw
          obtain ⟨v3, hv3⟩ : ∃ v3, Hid (max wv (mxN (worstPg M i) j) = v3) := ⟨_, Lib.hid rfl⟩
          rw [hv3.out] at hst ⊢
          go_wp2_with fail
          go_roundw
          case rel => exact ⟨i + 1, by omega, by go_num, by rw [hst.out], hBw.out⟩
          case measure => simp [intOf]; omega
    · obtain rfl : i = B := by omega
      have hdi : decide (i < i) = false := decide_eq_false (Nat.lt_irrefl _)
      replace hBw := Lib.hid hBw
      go_wp2_with fail
      go_ret
      exact ⟨rfl, hBw.out⟩
end Go.Proofs.Ytnndhbppgmnefaa
