/- CensusMargins: how far the worst part of whole points is from being another symbol's. -/
import Derived.Test.YtmchelbmeajcnaaJk
import Derived.Test.YtmchelbmeajcnaaSb2
namespace Go.Proofs.Ytmchelbmeajcnaa
open Go.RowKit Go.Gf Go.Fl
set_option linter.unusedVariables false
set_option linter.unusedSimpArgs false
set_option maxRecDepth 20000
attribute [local go_sem ↓] exec_load_tb Cl.quiet_since
attribute [local go_sem] tbAt_ptr tbIn_ptr

theorem add_moreU (a : Addr) (k m : Nat) (hm : m ≠ 0) : a.add (k + m) = ⟨(a.add k).block, (a.add k).off + m, none⟩ := by
  unfold Addr.add
  by_cases hk : k = 0
  · subst hk
    rw [if_neg (by omega), if_pos rfl, Nat.zero_add]
  · rw [if_neg (by omega), if_neg hk]
    simp [Nat.add_assoc]
def xZ (ts : List (Int × Int)) (i : Nat) : Int × Int := ts.getD i (0, 0)
theorem S2i.at_ {w : World} {B : Nat} {A : Option Addr} {ts : List (Int × Int)} {i : Nat} (h : S2i w B A ts) (hi : i < ts.length) : ∃ (a : Addr), A = some a ∧ a.block < B ∧ (-128 ≤ (xZ ts i).1 ∧ (xZ ts i).1 < 128) ∧ (-128 ≤ (xZ ts i).2 ∧ (xZ ts i).2 < 128) ∧ w.cell? (a.add (i * 2)) = some (.int .i8 (xZ ts i).1) ∧
    w.cell? ⟨(a.add (i * 2)).block, (a.add (i * 2)).off + 1, none⟩ = some (.int .i8 (xZ ts i).2) := by
  have e : xZ ts i = ts[i] := by unfold xZ; simp [hi]
  rw [e]
  rcases h.2 with e | ⟨a, e, h1, h2⟩
  · rw [e] at hi; exact absurd hi (by simp)
  · obtain ⟨g0, g1⟩ := h2 i hi
    rw [add_moreU a _ 1 (by decide)] at g1
    obtain ⟨r0, r1⟩ := h.1 _ (List.getElem_mem hi)
    exact ⟨a, e, h1, r0, r1, g0, g1⟩
/-- the odd number nearest to x, from -31 to 31 -/
def nI (x : Int) : Int := min (max (2 * (x / 2) + 1) (-31)) 31
def dI (x : Int) : Nat := (x - nI x).natAbs
def mdI (z : Int × Int) : Nat := max (dI z.1) (dI z.2)
theorem or_all : ∀ n : Fin 256, bits .or .i64 (((n.val : Nat) : Int) - 128) 1 = 2 * ((((n.val : Nat) : Int) - 128) / 2) + 1 := by decide +kernel
theorem or_one {x : Int} (h : -128 ≤ x ∧ x < 128) : bits .or .i64 x 1 = 2 * (x / 2) + 1 := by
  have := or_all ⟨(x + 128).toNat, by omega⟩
  rwa [show (((x + 128).toNat : Nat) : Int) - 128 = x by omega] at this
theorem dI_q {x : Int} (h : -128 ≤ x ∧ x < 128) : (4 * x - ofQ (levQ (4 * x))).natAbs = 4 * dI x := by
  unfold dI nI ofQ levQ
  omega
theorem dQ_w {z : Int × Int} (h1 : -128 ≤ z.1 ∧ z.1 < 128) (h2 : -128 ≤ z.2 ∧ z.2 < 128) : dQ (4 * z.1, 4 * z.2) = 4 * mdI z := by
  unfold dQ mdI
  dsimp only
  rw [dI_q h1, dI_q h2]
  omega
theorem mxF_four (g : Nat → Nat) : ∀ n, mxF (fun i => 4 * g i) n = 4 * mxF g n
  | 0 => rfl
  | n + 1 => by
    show max (mxF (fun i => 4 * g i) n) (4 * g n) = 4 * max (mxF g n) (g n)
    rw [mxF_four g n]
    omega
/-- the points of whole numbers -/
def ptsI (ts : List (Int × Int)) (n : Nat) : List (Nat × Nat) := (List.range n).map fun i => (floatOfInt .f64 (xZ ts i).1, floatOfInt .f64 (xZ ts i).2)
theorem ptsI_len (ts : List (Int × Int)) (n : Nat) : (ptsI ts n).length = n := by unfold ptsI; simp
theorem ptsI_succ (ts : List (Int × Int)) (n : Nat) : ptsI ts (n + 1) = ptsI ts n ++ [(floatOfInt .f64 (xZ ts n).1, floatOfInt .f64 (xZ ts n).2)] := by
  unfold ptsI
  rw [List.range_succ, List.map_append]
  rfl
theorem quart_I {ts : List (Int × Int)} {n : Nat} (h : ∀ i, i < n → (-128 ≤ (xZ ts i).1 ∧ (xZ ts i).1 < 128) ∧ (-128 ≤ (xZ ts i).2 ∧ (xZ ts i).2 < 128)) : Quart (ptsI ts n) 2000 (fun i => (4 * (xZ ts i).1, 4 * (xZ ts i).2)) := fun i hi => by
  rw [ptsI_len] at hi
  obtain ⟨h1, h2⟩ := h i hi
  have e : xA (ptsI ts n) i = (floatOfInt .f64 (xZ ts i).1, floatOfInt .f64 (xZ ts i).2) := range_at hi
  rw [e]
  refine ⟨Qt.whole (ofInt_is _ (by omega)), Qt.whole (ofInt_is _ (by omega)), ?_, ?_⟩ <;> dsimp only <;> omega
theorem dI_le {x : Int} (h : -128 ≤ x ∧ x < 128) : dI x ≤ 200 := by unfold dI nI; omega
/-- the greatest so far, within a point -/
def mkI (m : Nat) (z : Int × Int) (k : Nat) : Nat := if k = 0 then m else if k = 1 then max m (dI z.1) else max (max m (dI z.1)) (dI z.2)
theorem keeps_two {w1 w7 w8 : World} (h7 : Below w1.heap.size w1 w7) (h8 : Below w1.heap.size w1 w8) (hs : w7.heap.size ≤ w8.heap.size) : Cl.Keeps (fun b => b < w1.heap.size) w7 w8 :=
  ⟨h8.os.trans h7.os.symm, h8.tape.trans h7.tape.symm, h8.output.trans h7.output.symm, hs, fun b _ hk => (h8.block b hk).trans (h7.block b hk).symm⟩
set_option maxHeartbeats 16000000 in
theorem margins_law (A : Option Addr) (ts : List (Int × Int)) (c : Nat) (hl : ts.length ≤ c) (hc : c ≤ maxLen) (w : World) (hs : S2i w w.heap.size A ts) :
    Calls Try.prog 9 #[.slice A ts.length c] w fun e w' => e = .returned (.bool true) ∧ Below w.heap.size w w' := by
  have H := Lib.hid hs
  have hdm : ts.length ≤ 9223372036854775807 := by unfold maxLen at hc; omega
  clear hs hc hl
  go_enter Try.func9, Try.ntmps9
  go_wp2_with fail
  refine (cawake_any w).mono ?_
  rintro e w1 ⟨rfl, hb1⟩
  by_cases hm2 : ts.length ≤ 200
  rotate_left
  · have hmm : decide ((200 : Int) < (ts.length : Int)) = true := decide_eq_true (by omega)
    go_wp2_with fail
    go_ret
    exact ⟨rfl, hb1⟩
  have hmm : decide ((200 : Int) < (ts.length : Int)) = false := decide_eq_false (by omega)
  obtain ⟨n, hn⟩ : ∃ n, ts.length = n := ⟨_, rfl⟩
  have HN := Lib.hid hn
  rw [hn] at hmm hm2 hdm ⊢
  clear hn
  go_wp2_with fail
  go_loopw [3, 4, 5] (fun v q p wr => ∃ i : Nat, i ≤ n ∧ p = .int .i64 i ∧ q = .int .i64 ((mxF (fun j => mdI (xZ ts j)) i : Nat) : Int) ∧ OwnC w1 wr v (ptsI ts i) ∧ Below w1.heap.size w1 wr) (fun _ _ p _ => n - (intOf p).toNat)
  case atStart => exact ⟨0, Nat.zero_le _, rfl, rfl, OwnC.nil _ _, Below.refl _ _⟩
  case round =>
    obtain ⟨i, hi, rfl, rfl, hO, hB⟩ := hrel
    by_cases hlt : i < n
    · have hiI : (i : Int) < (n : Int) := by omega
      have hd : decide (i < n) = true := decide_eq_true hlt
      have hH := Lib.hid (H.out.far (hb1.trans (hB.mono hb1.size)))
      go_wp2_with fail
      refine Cl.region_tree (fun b => b < w1.heap.size) 17 (.r 0 <| .r 1 <| .r 2 <| .r 3 <| .r 4 <| .r 5 <| .r 6 <| .r 7 <| .r 8 <| .r 9 <| .r 10 <| .r 11 <| .r 12 <| .r 13 <| .c 14 <| .c 15 <| .r 16 <| .e) (by kernel_rfl) (by kernel_rfl) ?_
      intro w6 hk6
      have hb6 := Cl.Keeps.below hk6
      have hH6 := Lib.hid (hH.out.far hb6)
      obtain ⟨a, rfl, hab, g1, g2, k1, k2⟩ := hH6.out.at_ (i := i) (by rw [HN.out]; exact hlt)
      have hab1 : a.block < w1.heap.size := by
        obtain ⟨a', e', hb', _⟩ := H.out.at_ (i := i) (by rw [HN.out]; exact hlt)
        injection e' with e'
        rw [e']
        exact Nat.lt_of_lt_of_le hb' hb1.size
      have f1 : ∀ y : Cl.Since (fun b => b < w1.heap.size) w6, y.w.cell? (a.add (i * 2)) = some (.int .i8 (xZ ts i).1) := fun y => (World.cell?_of_block (y.keeps.block _ (by rw [add_block]; exact hab) (by rw [add_block]; exact hab1))).trans k1
      have f2 : ∀ y : Cl.Since (fun b => b < w1.heap.size) w6, y.w.cell? ⟨(a.add (i * 2)).block, (a.add (i * 2)).off + 1, none⟩ = some (.int .i8 (xZ ts i).2) := fun y => (World.cell?_of_block (y.keeps.block _ (by rw [add_block]; exact hab) (by rw [add_block]; exact hab1))).trans k2
      have hO6 := Lib.hid (hO.below hb6)
      have hB6 := Lib.hid (hB.trans (hb6.mono hB.size))
      have hst := Lib.hid (ptsI_succ ts i)
      have hmI := Lib.hid (show mxF (fun j => mdI (xZ ts j)) (i + 1) = max (mxF (fun j => mdI (xZ ts j)) i) (max (dI (xZ ts i).1) (dI (xZ ts i).2)) from rfl)
      have hlen := Lib.hid (show (ptsI ts i).length ≤ 1000000 from by rw [ptsI_len]; omega)
      obtain ⟨X, hX⟩ : ∃ X, (xZ ts i).1 = X := ⟨_, rfl⟩
      obtain ⟨Y, hY⟩ : ∃ Y, (xZ ts i).2 = Y := ⟨_, rfl⟩
      rw [hX] at f1 g1 hst hmI
      rw [hY] at f2 g2 hst hmI
      replace hX := Lib.hid hX
      replace hY := Lib.hid hY
      clear hk6 hb6 hB hO k1 k2 hH
      iterate 14 (refine Cl.tree_r rfl ?_; go_big_quiet_step (fail); refine wpQuiet_nil ?_)
      clear f1 f2
      refine Cl.tree_c rfl ?_
      go_wp2_with fail
      refine Cl.way_on (Cl.Keeps.of_below (Ge.below_alloc _ _)) ?_
      have hO7 := Lib.hid (hO6.out.alloc (.cells #[.complex .f64 (floatOfInt .f64 X) (floatOfInt .f64 Y)] 49))
      have hA7 := Ge.below_alloc w6 (.cells #[.complex .f64 (floatOfInt .f64 X) (floatOfInt .f64 Y)] 49)
      have hB7 := Lib.hid (hB6.out.trans (hA7.mono hB6.out.size))
      have hyc := Lib.hid (show (w6.alloc (.cells #[.complex .f64 (floatOfInt .f64 X) (floatOfInt .f64 Y)] 49)).cell? ⟨w6.heap.size, 0, none⟩ = some (.complex .f64 (floatOfInt .f64 X) (floatOfInt .f64 Y)) from Ge.cell_of (heap_alloc_new w6 _) 0)
      refine Cl.tree_c rfl ?_
      go_wp2_with (refine app_cpx (w0 := w1) rfl (.tmp 21) (.tmp 35) rfl _ _ rfl hO7.out hB7.out.size w6.heap.size rfl (floatOfInt .f64 X) (floatOfInt .f64 Y) hyc.out hlen.out ?_)
      intro v8 w8 ho8 hg8
      rw [← hst.out] at ho8
      have hO8 := Lib.hid ho8
      have hB8 := Lib.hid (hB7.out.grown hg8 hB7.out.size (OwnC.blk hO7.out))
      have hkp := keeps_two hB7.out hB8.out hg8.size
      go_wp2_with fail
      refine Cl.way_on hkp ?_
      have hH8 := Lib.hid (H.out.far (hb1.trans (hB8.out.mono hb1.size)))
      clear hO6 hB6 hO7 hA7 hB7 hyc ho8 hg8 hkp hst hlen hH6 hab
      refine Cl.tree_r rfl ?_
      go_big_quiet_step (fail)
      refine wpQuiet_nil ?_
      refine Cl.tree_e ?_
      go_wp2_with fail
      obtain ⟨M, hM⟩ : ∃ M, mxF (fun j => mdI (xZ ts j)) i = M := ⟨_, rfl⟩
      have hM2 : M ≤ 200 := by
        rw [← hM]
        refine mxF_le.2 fun j hj => ?_
        obtain ⟨_, _, _, r1, r2, _⟩ := H.out.at_ (i := j) (by rw [HN.out]; omega)
        have e1 := dI_le r1
        have e2 := dI_le r2
        unfold mdI
        omega
      rw [hM] at hmI ⊢
      go_loopw [4, 6] (fun q p wq => wq = w8 ∧ ((p = .int .i64 0 ∧ q = .int .i64 (M : Int)) ∨ (p = .int .i64 1 ∧ q = .int .i64 ((max M (dI X) : Nat) : Int)) ∨ (p = .int .i64 2 ∧ q = .int .i64 ((max (max M (dI X)) (dI Y) : Nat) : Int)))) (fun _ p _ => 2 - (intOf p).toNat)
      case atStart => exact ⟨rfl, Or.inl ⟨rfl, rfl⟩⟩
      case round =>
        obtain ⟨rfl, h | h | h⟩ := hrel
        · obtain ⟨rfl, rfl⟩ := h
          obtain ⟨a', e', hab', _, _, c1, c2⟩ := hH8.out.at_ (i := i) (by rw [HN.out]; exact hlt)
          injection e' with e'
          subst e'
          rw [hX.out] at c1
          rw [hY.out] at c2
          obtain ⟨O, hO⟩ : ∃ O, 2 * (X / 2) + 1 = O := ⟨_, rfl⟩
          have hor := or_one g1
          rw [hO] at hor
          obtain ⟨T, hT⟩ : ∃ T, (if O < -31 then (-31 : Int) else O) = T := ⟨_, rfl⟩
          obtain ⟨N, hN⟩ : ∃ N, (if 31 < T then (31 : Int) else T) = N := ⟨_, rfl⟩
          have hNI : nI X = N := by
            rw [← hN, ← hT, ← hO]
            unfold nI
            split <;> split <;> omega
          have hNb : -31 ≤ N ∧ N ≤ 31 := by rw [← hNI]; unfold nI; omega
          obtain ⟨D, hD⟩ : ∃ D, X - N = D := ⟨_, rfl⟩
          have hDb : -200 ≤ D ∧ D ≤ 200 := by omega
          have hdI : dI X = D.natAbs := by unfold dI; rw [hNI, hD]
          obtain ⟨R, hR⟩ : ∃ R, max M (dI X) = R := ⟨_, rfl⟩
          obtain ⟨Mk, hMk⟩ : ∃ Mk, M = Mk := ⟨_, rfl⟩
          have hMk2 : Mk ≤ 200 := by
            have := dI_le g1
            omega
          rw [hMk]
          have hRv : R = max Mk D.natAbs := by rw [← hR, ← hMk, ← hdI]
          have hRG : Hid (max Mk (dI X) = R) := by unfold Hid; rw [hRv, hdI]
          clear hO hNI hdI hMk hR
          by_cases hneg : D < 0
          · have hdd : decide (D < 0) = true := decide_eq_true hneg
            obtain ⟨E, hE⟩ : ∃ E, -D = E := ⟨_, rfl⟩
            have hmx : (if (Mk : Int) < E then E else (Mk : Int)) = (R : Int) := by rw [hRv]; split <;> omega
            have hEb : 0 ≤ E ∧ E ≤ 200 := by omega
            clear hRv
            go_wp2_with fail
            refine ⟨⟨trivial, Or.inr (Or.inl ⟨rfl, ?_⟩)⟩, by simp [intOf]⟩
            rw [hRG.out]
          · have hdd : decide (D < 0) = false := decide_eq_false hneg
            have hmx : (if (Mk : Int) < D then D else (Mk : Int)) = (R : Int) := by rw [hRv]; split <;> omega
            clear hRv
            go_wp2_with fail
            refine ⟨⟨trivial, Or.inr (Or.inl ⟨rfl, ?_⟩)⟩, by simp [intOf]⟩
            rw [hRG.out]
        · obtain ⟨rfl, rfl⟩ := h
          obtain ⟨a', e', hab', _, _, c1, c2⟩ := hH8.out.at_ (i := i) (by rw [HN.out]; exact hlt)
          injection e' with e'
          subst e'
          rw [hX.out] at c1
          rw [hY.out] at c2
          obtain ⟨O, hO⟩ : ∃ O, 2 * (Y / 2) + 1 = O := ⟨_, rfl⟩
          have hor := or_one g2
          rw [hO] at hor
          obtain ⟨T, hT⟩ : ∃ T, (if O < -31 then (-31 : Int) else O) = T := ⟨_, rfl⟩
          obtain ⟨N, hN⟩ : ∃ N, (if 31 < T then (31 : Int) else T) = N := ⟨_, rfl⟩
          have hNI : nI Y = N := by
            rw [← hN, ← hT, ← hO]
            unfold nI
            split <;> split <;> omega
          have hNb : -31 ≤ N ∧ N ≤ 31 := by rw [← hNI]; unfold nI; omega
          obtain ⟨D, hD⟩ : ∃ D, Y - N = D := ⟨_, rfl⟩
          have hDb : -200 ≤ D ∧ D ≤ 200 := by omega
          have hdI : dI Y = D.natAbs := by unfold dI; rw [hNI, hD]
          obtain ⟨R, hR⟩ : ∃ R, max (max M (dI X)) (dI Y) = R := ⟨_, rfl⟩
          obtain ⟨Mk, hMk⟩ : ∃ Mk, max M (dI X) = Mk := ⟨_, rfl⟩
          have hMk2 : Mk ≤ 200 := by
            have := dI_le g1
            omega
          rw [hMk]
          have hRv : R = max Mk D.natAbs := by rw [← hR, ← hMk, ← hdI]
          have hRG : Hid (max Mk (dI Y) = R) := by unfold Hid; rw [hRv, hdI]
          clear hO hNI hdI hMk hR
          by_cases hneg : D < 0
          · have hdd : decide (D < 0) = true := decide_eq_true hneg
            obtain ⟨E, hE⟩ : ∃ E, -D = E := ⟨_, rfl⟩
            have hmx : (if (Mk : Int) < E then E else (Mk : Int)) = (R : Int) := by rw [hRv]; split <;> omega
            have hEb : 0 ≤ E ∧ E ≤ 200 := by omega
            clear hRv
            go_wp2_with fail
            refine ⟨⟨trivial, Or.inr (Or.inr ⟨rfl, ?_⟩)⟩, by simp [intOf]⟩
            rw [hRG.out]
          · have hdd : decide (D < 0) = false := decide_eq_false hneg
            have hmx : (if (Mk : Int) < D then D else (Mk : Int)) = (R : Int) := by rw [hRv]; split <;> omega
            clear hRv
            go_wp2_with fail
            refine ⟨⟨trivial, Or.inr (Or.inr ⟨rfl, ?_⟩)⟩, by simp [intOf]⟩
            rw [hRG.out]
        · obtain ⟨rfl, rfl⟩ := h
          have hmm2 : max (max M (dI X)) (dI Y) = mxF (fun j => mdI (xZ ts j)) (i + 1) := by rw [hmI.out]; omega
          rw [hmm2]
          clear hmm2 hmI hM
          go_wp2_with fail
          go_roundw
          case rel => exact ⟨i + 1, by omega, by go_num, rfl, hO8.out, hB8.out⟩
          case measure => simp [intOf]; omega
    · obtain rfl : i = n := by omega
      have hd : decide (i < i) = false := decide_eq_false (Nat.lt_irrefl _)
      obtain ⟨A', c', rfl, hc', hx'⟩ := hO.cx
      have hrg : ∀ j, j < i → (-128 ≤ (xZ ts j).1 ∧ (xZ ts j).1 < 128) ∧ (-128 ≤ (xZ ts j).2 ∧ (xZ ts j).2 < 128) := fun j hj => by
        obtain ⟨_, _, _, r1, r2, _⟩ := H.out.at_ (i := j) (by rw [HN.out]; omega)
        exact ⟨r1, r2⟩
      have hmg := margin_any (c := c') (fun j => (4 * (xZ ts j).1, 4 * (xZ ts j).2)) hx' (by rw [ptsI_len]; omega) (quart_I hrg)
      rw [ptsI_len, mxF_congr (h := fun j => 4 * mdI (xZ ts j)) (fun j hj => dQ_w (hrg j hj).1 (hrg j hj).2), mxF_four] at hmg
      have hM2 : mxF (fun j => mdI (xZ ts j)) i ≤ 200 := by
        refine mxF_le.2 fun j hj => ?_
        have e1 := dI_le (hrg j hj).1
        have e2 := dI_le (hrg j hj).2
        unfold mdI
        omega
      rw [ptsI_len]
      generalize mxF (fun j => mdI (xZ ts j)) i = M at *
      obtain ⟨E, hE⟩ : ∃ E, 1 - (M : Int) = E := ⟨_, rfl⟩
      have hEb : -200 ≤ E ∧ E ≤ 1 := by omega
      have hqE : Qt (floatOfInt .f64 E) (4 * E) := Qt.whole (ofInt_is _ (by omega))
      have hval : 4 - ((4 * M : Nat) : Int) = 4 * E := by omega
      rw [hval] at hmg
      replace hmg := Lib.hid hmg
      have HQ := Lib.hid hqE
      have hfin := Lib.hid (hb1.trans (hB.mono hb1.size))
      clear hval hqE hx' hO hB hrg
      go_wp2_with (go_at_call 26; (with_reducible refine hmg.out.mono ?_); rintro e w9 ⟨⟨r9, rfl, q9⟩, hb9⟩; have e3 : (FloatKind.f64.format.order r9 (floatOfInt .f64 E) == some .eq) = true := (by rw [qt_eqb q9 HQ.out]; simp); have hbw9 := Lib.hid (hfin.out.trans (hb9.mono hfin.out.size)))
      go_ret
      exact ⟨rfl, hbw9.out⟩
end Go.Proofs.Ytmchelbmeajcnaa
