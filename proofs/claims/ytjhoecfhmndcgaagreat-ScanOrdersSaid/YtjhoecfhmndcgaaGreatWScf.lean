/- ScanLatest walked, for whatever has scan's contracts. -/
import Derived.Test.YtjhoecfhmndcgaaGreatV45
import Derived.Test.YtjhoecfhmndcgaaGreatWWro
namespace Go.Proofs.YtjhoecfhmndcgaaGreat.Sc
open Go.RowKit Go.Gf Go.Fl
set_option linter.unusedVariables false
set_option linter.unusedSimpArgs false
set_option maxRecDepth 20000
attribute [local go_sem ↓] Cl.quiet_since
def rowF (x : Nat → Nat → Int) (i : Nat) : Fnd := ⟨x i 0, 1, x i 1, x i 2, x i 3⟩
def rowsF (x : Nat → Nat → Int) (i : Nat) : List Fnd := (List.range i).map (rowF x)
theorem rowsF_len (x : Nat → Nat → Int) (i : Nat) : (rowsF x i).length = i := by unfold rowsF; simp
theorem rowsF_succ (x : Nat → Nat → Int) (i : Nat) : rowsF x (i + 1) = rowsF x i ++ [rowF x i] := by unfold rowsF; rw [List.range_succ, List.map_append]; rfl
/-- the cells of one in a block of its own -/
theorem one_cells (w : World) (y : Fnd) (T : TypeId) : ∀ j, j < 5 → (w.alloc (.cells #[.int .i64 y.pg, .int .i64 y.kd, .int .i64 y.lp, .int .i64 y.sq, .int .i64 y.wr] T)).cell? ⟨w.heap.size, j, none⟩ = some (fC y j) := fun j hj => by
  rw [We.cell_new]
  have : j = 0 ∨ j = 1 ∨ j = 2 ∨ j = 3 ∨ j = 4 := by omega
  rcases this with rfl | rfl | rfl | rfl | rfl <;> rfl
section
variable {w : World} {B : Nat} {a : Addr} {l : List Fnd} {i : Nat}
theorem FS.c0 (h : FS w B (some a) l) (hi : i < l.length) : w.cell? (a.add (i * 5)) = some (.int .i64 (fA l i).pg) := by obtain ⟨a', e, _, q0, q1, q2, q3, q4⟩ := h.at_ hi; cases e; exact q0
theorem FS.c1 (h : FS w B (some a) l) (hi : i < l.length) : w.cell? ⟨(a.add (i * 5)).block, (a.add (i * 5)).off + 1, none⟩ = some (.int .i64 (fA l i).kd) := by obtain ⟨a', e, _, q0, q1, q2, q3, q4⟩ := h.at_ hi; cases e; exact q1
theorem FS.c2 (h : FS w B (some a) l) (hi : i < l.length) : w.cell? ⟨(a.add (i * 5)).block, (a.add (i * 5)).off + 2, none⟩ = some (.int .i64 (fA l i).lp) := by obtain ⟨a', e, _, q0, q1, q2, q3, q4⟩ := h.at_ hi; cases e; exact q2
theorem FS.c3 (h : FS w B (some a) l) (hi : i < l.length) : w.cell? ⟨(a.add (i * 5)).block, (a.add (i * 5)).off + 3, none⟩ = some (.int .i64 (fA l i).sq) := by obtain ⟨a', e, _, q0, q1, q2, q3, q4⟩ := h.at_ hi; cases e; exact q3
theorem FS.c4 (h : FS w B (some a) l) (hi : i < l.length) : w.cell? ⟨(a.add (i * 5)).block, (a.add (i * 5)).off + 4, none⟩ = some (.int .i64 (fA l i).wr) := by obtain ⟨a', e, _, q0, q1, q2, q3, q4⟩ := h.at_ hi; cases e; exact q4
theorem FS.c11 (h : FS w B (some a) l) (hi : i < l.length) : w.cell? ⟨(a.add (i * 5)).block, (a.add (i * 5)).off + 1 + 1, none⟩ = some (.int .i64 (fA l i).lp) := h.c2 hi
theorem FS.c12 (h : FS w B (some a) l) (hi : i < l.length) : w.cell? ⟨(a.add (i * 5)).block, (a.add (i * 5)).off + 1 + 2, none⟩ = some (.int .i64 (fA l i).sq) := h.c3 hi
theorem FS.some_ {A : Option Addr} (h : FS w B A l) (hi : i < l.length) : ∃ a, A = some a := by obtain ⟨a', e, _⟩ := h.at_ hi; exact ⟨a', e⟩
end
/-- the greatest sequence of the first i, and -1 -/
def mq (l : List Fnd) : Nat → Int
  | 0 => -1
  | i + 1 => max (mq l i) (fA l i).sq
theorem mq_take (l : List Fnd) : ∀ i, i ≤ l.length → gtL (l.take i) = mq l i
  | 0, _ => rfl
  | i + 1, h => by
    have hi : i < l.length := h
    rw [List.take_add_one, List.getElem?_eq_getElem hi]
    show gtL (l.take i ++ [l[i]]) = _
    rw [gtL_app, mq_take l i (by omega), mq, fA_get hi]
theorem mq_all (l : List Fnd) : mq l l.length = gtL l := by rw [← mq_take l _ (Nat.le_refl _), List.take_length]
/-- the one of its host page -/
theorem the_one {l m : List Fnd} (h : LatIs l m) {i : Nat} (hi : i < l.length) : ∃ k0, k0 < m.length ∧ (fA m k0).lp = (fA l i).lp ∧ better (fA m k0) (fA l i) ∧ ∀ k, k < m.length → (fA m k).lp = (fA l i).lp → k = k0 := by
  obtain ⟨y, hy, e, hb⟩ := h.all _ (fA_mem hi)
  obtain ⟨k0, hk0, rfl⟩ := List.mem_iff_getElem.1 hy
  refine ⟨k0, hk0, by rw [fA_get hk0]; exact e, by rw [fA_get hk0]; exact hb, fun k hk ek => ?_⟩
  rw [fA_get hk] at ek
  have hp := List.pairwise_iff_getElem.1 h.ord
  rcases Nat.lt_trichotomy k k0 with h1 | h1 | h1
  · have := hp k k0 hk hk0 h1; omega
  · exact h1
  · have := hp k0 k hk0 hk h1; omega
/-- whether the one was passed -/
def onE (k0 k : Nat) : Int := if k0 < k then 1 else 0
/-- what the law holds: both lists, where they are -/
structure LS (w wr : World) (A : Option Addr) (l : List Fnd) (A4 : Option Addr) (m : List Fnd) : Prop where
  fl : FS wr wr.heap.size A l
  fm : FS wr wr.heap.size A4 m
  b : Below w.heap.size w wr
theorem LS.keep {w wr wx : World} {A : Option Addr} {l : List Fnd} {A4 : Option Addr} {m : List Fnd} (h : LS w wr A l A4 m) (hb : Below wr.heap.size wr wx) : LS w wx A l A4 m := ⟨h.fl.far hb, h.fm.far hb, We.below_trans h.b hb⟩
/-- the same, field by field -/
def eqF (x y : Fnd) : Bool := x.pg == y.pg && x.kd == y.kd && x.lp == y.lp && x.sq == y.sq && x.wr == y.wr
/-- is it among the first? -/
def isB (l : List Fnd) (y : Fnd) : Nat → Bool
  | 0 => false
  | t + 1 => isB l y t || eqF (fA l t) y
theorem eqF_self (x : Fnd) : eqF x x = true := by unfold eqF; simp
theorem isB_of {l : List Fnd} {y : Fnd} {t : Nat} (h : eqF (fA l t) y = true) : ∀ n, t < n → isB l y n = true
  | 0, hn => absurd hn (Nat.not_lt_zero _)
  | n + 1, hn => by
    rw [isB]
    by_cases e : t = n
    · subst e; rw [h, Bool.or_true]
    · rw [isB_of h n (by omega), Bool.true_or]
theorem isB_mem {l : List Fnd} {y : Fnd} (h : y ∈ l) : isB l y l.length = true := by
  obtain ⟨t, ht, rfl⟩ := List.mem_iff_getElem.1 h
  exact isB_of (t := t) (by rw [fA_get ht]; exact eqF_self _) _ ht
set_option maxHeartbeats 8000000 in
theorem latest_law (C : SC) (L : Option Addr) (n c : Nat) (x : Nat → Nat → Int) (w : World) (hs : We.RF w w.heap.size L 4 n .i64 x) :
    Calls Tryz.prog 3 #[.slice L n c] w (We.Ans w (.bool true)) := by
  have ha := Lib.hid (awake_any C w)
  have H := Lib.hid hs
  have C' := Lib.hid C
  clear C hs
  by_cases h100 : (100 : Int) < (n : Int)
  · go_enter Tryz.func3, Tryz.ntmps3
    go_wp2_with (go_at_call 8; (with_reducible refine ha.out.mono ?_); clear ha; rintro e w1 ⟨rfl, hB⟩; replace hB := Lib.hid hB)
    go_ret
    exact ⟨rfl, hB.out⟩
  go_enter Tryz.func3, Tryz.ntmps3
  go_wp2_with (go_at_call 8; (with_reducible refine ha.out.mono ?_); clear ha; rintro e w1 ⟨rfl, hB⟩; replace hB := Lib.hid hB)
  have H1 := Lib.hid (H.out.far hB.out)
  clear H
  go_loopw [3, 4] (fun p q wr => ∃ (i c : Nat) (A : Option Addr), p = .slice A i c ∧ q = .int .i64 (i : Int) ∧ i ≤ n ∧ Hid (OwnF w1 wr A i c (rowsF x i)) ∧ Hid (Below w1.heap.size w1 wr)) (fun _ q _ => n - (intOf q).toNat)
  case atStart => exact ⟨0, 0, none, rfl, rfl, Nat.zero_le _, Lib.hid (OwnF.nil w1 w1), Lib.hid (Below.refl _ _)⟩
  case round =>
    obtain ⟨i, c', A, rfl, rfl, hi', hO, hB1⟩ := hrel
    by_cases hin : i < n
    · obtain ⟨a, rfl, hab, _⟩ := (H1.out.below hB1.out).at0 hin (by decide)
      have d1 : decide ((i : Int) < (n : Int)) = true := decide_eq_true (by omega)
      have hinI : (i : Int) < (n : Int) := by omega
      have hi1 : wrap64 ((i : Int) + 1) = ((i + 1 : Nat) : Int) := by rw [IntWalk.wrap64_in _ (by omega)]; omega
      have hi6 : i ≤ 1000000 := by omega
      go_wp2_with fail
      refine Cl.region_tree (fun b => b < w1.heap.size) 26 (.r 0 <| .r 1 <| .r 2 <| .r 3 <| .r 4 <| .r 5 <| .r 6 <| .r 7 <| .r 8 <| .r 9 <| .r 10 <| .r 11 <| .r 12 <| .r 13 <| .r 14 <| .r 15 <| .r 16 <| .r 17 <| .r 18 <| .r 19 <| .r 20 <| .r 21 <| .r 22 <| .c 23 <| .c 24 <| .r 25 <| .e) (by kernel_rfl) (by kernel_rfl) ?_
      intro w2 hk2
      have O2 := Lib.hid (hO.out.keep fun g _ hl => hk2.block g hl trivial)
      have B2 := Lib.hid (hB1.out.trans (hk2.below.mono hB1.out.size))
      obtain ⟨a', e', _, c0, cj⟩ := (H1.out.below B2.out).at0 hin (by decide)
      cases e'
      have c1 := cj 0 (by decide)
      have c2 := cj 1 (by decide)
      have c3 := cj 2 (by decide)
      have hpb : (a.add (i * 4)).block < w2.heap.size ∧ (a.add (i * 4)).block < w1.heap.size := by rw [We.add_block]; have := B2.out.size; exact ⟨by omega, hab⟩
      have t0 : ∀ z : Cl.Since (fun b => b < w1.heap.size) w2, z.w.cell? (a.add (i * 4)) = some (.int .i64 (x i 0)) := fun z => (z.cell (p := a.add (i * 4)) hpb.1 hpb.2).trans c0
      have t1 : ∀ z : Cl.Since (fun b => b < w1.heap.size) w2, z.w.cell? ⟨(a.add (i * 4)).block, (a.add (i * 4)).off + 1, none⟩ = some (.int .i64 (x i 1)) := fun z => (z.cell (p := ⟨(a.add (i * 4)).block, (a.add (i * 4)).off + 1, none⟩) hpb.1 hpb.2).trans c1
      have t2 : ∀ z : Cl.Since (fun b => b < w1.heap.size) w2, z.w.cell? ⟨(a.add (i * 4)).block, (a.add (i * 4)).off + 2, none⟩ = some (.int .i64 (x i 2)) := fun z => (z.cell (p := ⟨(a.add (i * 4)).block, (a.add (i * 4)).off + 2, none⟩) hpb.1 hpb.2).trans c2
      have t3 : ∀ z : Cl.Since (fun b => b < w1.heap.size) w2, z.w.cell? ⟨(a.add (i * 4)).block, (a.add (i * 4)).off + 3, none⟩ = some (.int .i64 (x i 3)) := fun z => (z.cell (p := ⟨(a.add (i * 4)).block, (a.add (i * 4)).off + 3, none⟩) hpb.1 hpb.2).trans c3
      clear c0 c1 c2 c3 cj hk2 hO hB1 hpb
      obtain ⟨X0, h0⟩ : ∃ X, x i 0 = X := ⟨_, rfl⟩
      obtain ⟨X1, h1⟩ : ∃ X, x i 1 = X := ⟨_, rfl⟩
      obtain ⟨X2, h2⟩ : ∃ X, x i 2 = X := ⟨_, rfl⟩
      obtain ⟨X3, h3⟩ : ∃ X, x i 3 = X := ⟨_, rfl⟩
      have hrow := Lib.hid (show rowF x i = ⟨X0, 1, X1, X2, X3⟩ by unfold rowF; rw [h0, h1, h2, h3])
      rw [h0] at t0; rw [h1] at t1; rw [h2] at t2; rw [h3] at t3
      clear h0 h1 h2 h3
      iterate 23 (refine Cl.tree_r rfl ?_; go_big_quiet_step (fail); refine wpQuiet_nil ?_)
      clear t0 t1 t2 t3
      refine Cl.tree_c rfl ?_
      go_wp2_with fail
      refine Cl.way_on (Cl.Keeps.of_below (We.below_alloc _ _) |> fun k => Cl.keeps_of k fun b hb => trivial) ?_
      refine Cl.tree_c rfl ?_
      go_wp2_with (refine app_fnd (w0 := w1) rfl (.tmp 24) (.tmp 47) rfl A i c' (rowsF x i) rfl (O2.out.grow _) (by rw [World.size_alloc]; have := B2.out.size; omega) w2.heap.size rfl ⟨X0, 1, X1, X2, X3⟩ (one_cells w2 ⟨X0, 1, X1, X2, X3⟩ _) hi6 ?_)
      intro A' c'' w3 hO3 hb3
      rw [← hrow.out, ← rowsF_succ] at hO3
      have B3 := Lib.hid (((We.below_trans B2.out (We.below_alloc w2 (.cells #[.int .i64 X0, .int .i64 1, .int .i64 X1, .int .i64 X2, .int .i64 X3] 29)))).trans hb3)
      replace hO3 := Lib.hid hO3
      go_wp2_with fail
      refine Cl.way_on ⟨hb3.os, hb3.tape, hb3.output, hb3.size, fun b _ hb => hb3.block b hb⟩ ?_
      clear hb3 O2 B2 hrow
      refine Cl.tree_r rfl ?_
      go_big_quiet_step (fail)
      refine wpQuiet_nil ?_
      refine Cl.tree_e ?_
      go_wp2_with fail
      go_roundw
      case rel => exact ⟨i + 1, c'', A', rfl, by first | rw [hi1] | go_num, by omega, hO3, B3⟩
      case measure => (try rw [hi1]); simp [intOf]; omega
    · obtain rfl : i = n := by omega
      have d1 : decide ((i : Int) < (i : Int)) = false := decide_eq_false (by omega)
      go_wp2_with fail
      have hl := rowsF_len x i
      obtain ⟨l, hle⟩ : ∃ l, rowsF x i = l := ⟨_, rfl⟩
      rw [hle] at hO hl
      have fl := hO.out.fs
      have hcap := hO.out.cap
      have hc := Lib.hid (C'.out.latest (c := c') fl hl (by omega))
      replace fl := Lib.hid fl
      have BB := Lib.hid (We.below_trans hB.out hB1.out)
      clear hO hB1 hle hi' hin H1 hcap
      go_wp2_with (go_at_call 9; (with_reducible refine hc.out.mono ?_); clear hc; rintro e w4 ⟨A4, c4, m, rfl, hb4, hm, f4, hml⟩; have fl4 := Lib.hid (FS.far fl.out hb4); replace BB := Lib.hid (We.below_trans BB.out hb4); replace hm := Lib.hid hm; replace f4 := Lib.hid f4; clear fl hb4)
      have S := Lib.hid (show LS w w4 A l A4 m from ⟨fl4.out, f4.out, BB.out⟩)
      clear fl4 f4 BB hB
      obtain ⟨N, hN⟩ : ∃ N, m.length = N := ⟨_, rfl⟩
      rw [hN] at hml ⊢
      replace hN := Lib.hid hN
      replace hl := Lib.hid hl
      go_loopw [6, 7] (fun p q wr => ∃ j : Nat, p = .int .i64 (mq l j) ∧ q = .int .i64 (j : Int) ∧ j ≤ i ∧ Hid (LS w wr A l A4 m) ∧ Hid (∀ t, t < j → 0 ≤ (fA l t).sq)) (fun _ q _ => i - (intOf q).toNat)
      case atStart => exact ⟨0, rfl, rfl, Nat.zero_le _, S, fun t ht => absurd ht (Nat.not_lt_zero _)⟩
      case round =>
        obtain ⟨j, rfl, rfl, hj', S1, HN⟩ := hrel
        clear S
        by_cases hji : j < i
        · have hjl := Lib.hid (show j < l.length by rw [hl.out]; exact hji)
          have hjI : (j : Int) < (i : Int) := by omega
          have d2 : decide ((j : Int) < (i : Int)) = true := decide_eq_true hjI
          have hj1 : wrap64 ((j : Int) + 1) = ((j + 1 : Nat) : Int) := by rw [IntWalk.wrap64_in _ (by omega)]; omega
          obtain ⟨a, rfl⟩ := S1.out.fl.some_ hjl.out
          have c12 := S1.out.fl.c12 hjl.out
          have hmq : mq l (j + 1) = max (mq l j) (fA l j).sq := rfl
          obtain ⟨k0, hk0, e1, hbt, huq⟩ := the_one hm.out hjl.out
          obtain ⟨V, hV⟩ : ∃ V, (fA l j).sq = V := ⟨_, rfl⟩
          obtain ⟨M0, hM0⟩ : ∃ M, mq l j = M := ⟨_, rfl⟩
          obtain ⟨M1, hM1⟩ : ∃ M, mq l (j + 1) = M := ⟨_, rfl⟩
          rw [hV] at c12
          rw [hV, hM0, hM1] at hmq
          rw [hM0]
          by_cases hneg : V < 0
          · have d3 : decide (V < 0) = true := decide_eq_true hneg
            go_wp2_with fail
            go_ret
            exact ⟨rfl, S1.out.b⟩
          · have d3 : decide (V < 0) = false := decide_eq_false hneg
            go_wp2_with fail
            have HN2 : Hid (∀ t, t < j + 1 → 0 ≤ (fA l t).sq) := fun t ht => by
              rcases (by omega : t < j ∨ t = j) with h | rfl
              · exact HN.out t h
              · rw [hV]; omega
            clear HN
            have hM1' := Lib.hid (show max M0 V = mq l (j + 1) by rw [hM1, hmq])
            replace hV := Lib.hid hV
            replace e1 := Lib.hid e1
            replace huq := Lib.hid huq
            replace hbt := Lib.hid hbt
            have hk0N := Lib.hid (show k0 < N by rw [← hN.out]; exact hk0)
            clear d3 hneg hM1 hmq hM0 c12 hk0
            go_loopw [8, 9] (fun p q ws => ∃ k : Nat, p = .int .i64 (onE k0 k) ∧ q = .int .i64 (k : Int) ∧ k ≤ N ∧ Hid (LS w ws (some a) l A4 m)) (fun _ q _ => N - (intOf q).toNat)
            case atStart => exact ⟨0, rfl, rfl, Nat.zero_le _, S1⟩
            case round =>
              obtain ⟨k, rfl, rfl, hk', S2⟩ := hrel
              clear S1
              by_cases hkN : k < N
              · have hkm := Lib.hid (show k < m.length by rw [hN.out]; exact hkN)
                have hkI : (k : Int) < (N : Int) := by omega
                have d4 : decide ((k : Int) < (N : Int)) = true := decide_eq_true hkI
                have hk1 : wrap64 ((k : Int) + 1) = ((k + 1 : Nat) : Int) := by rw [IntWalk.wrap64_in _ (by omega)]; omega
                obtain ⟨a4, rfl⟩ := S2.out.fm.some_ hkm.out
                obtain ⟨Lj, hLj⟩ : ∃ Z, (fA l j).lp = Z := ⟨_, rfl⟩
                obtain ⟨Lk, hLk⟩ : ∃ Z, (fA m k).lp = Z := ⟨_, rfl⟩
                obtain ⟨Pj, hPj⟩ : ∃ Z, (fA l j).pg = Z := ⟨_, rfl⟩
                obtain ⟨Pk, hPk⟩ : ∃ Z, (fA m k).pg = Z := ⟨_, rfl⟩
                obtain ⟨Vk, hVk⟩ : ∃ Z, (fA m k).sq = Z := ⟨_, rfl⟩
                replace hLj := Lib.hid hLj
                replace hLk := Lib.hid hLk
                replace hPj := Lib.hid hPj
                replace hPk := Lib.hid hPk
                replace hVk := Lib.hid hVk
                go_wp2_with fail
                refine Cl.region_way (fun _ => True) 12 [(0, .r), (1, .r), (2, .r), (3, .r), (4, .r), (5, .r), (6, .r), (7, .r), (8, .r), (9, .r), (10, .r), (11, .r), (12, .z)] (by kernel_rfl) (by kernel_rfl) ?_
                intro w5 hk5
                have S3 := Lib.hid (LS.keep S2.out hk5.below)
                have q := Lib.hid (fun z : Cl.Since (fun _ => True) w5 => LS.keep S3.out z.keeps.below)
                have t0 : ∀ z : Cl.Since (fun _ => True) w5, z.w.cell? ⟨(a4.add (k * 5)).block, (a4.add (k * 5)).off + 1 + 1, none⟩ = some (.int .i64 Lk) := fun z => by rw [← hLk.out]; exact (q.out z).fm.c11 hkm.out
                have t1 : ∀ z : Cl.Since (fun _ => True) w5, z.w.cell? ⟨(a.add (j * 5)).block, (a.add (j * 5)).off + 1 + 1, none⟩ = some (.int .i64 Lj) := fun z => by rw [← hLj.out]; exact (q.out z).fl.c11 hjl.out
                clear hk5 S2 q
                iterate 12 (refine Cl.way_r rfl ?_; go_big_quiet_step (fail); refine wpQuiet_nil ?_)
                refine Cl.way_z rfl ?_
                clear t0 t1
                go_wp2_with fail
                refine Cl.Calm.normal ?_
                by_cases hkk : k = k0
                · subst hkk
                  obtain rfl : Lk = Lj := by rw [← hLk.out, ← hLj.out]; exact e1.out
                  have ho : onE k k = 0 := by unfold onE; rw [if_neg (by omega)]
                  have ho1 := Lib.hid (show onE k (k + 1) = 1 by unfold onE; rw [if_pos (by omega)])
                  rw [ho]
                  clear ho
                  go_wp2_with fail
                  refine Cl.region_way (fun _ => True) 40 [(0, .r), (1, .r), (2, .r), (3, .r), (4, .r), (5, .r), (6, .r), (7, .r), (8, .r), (9, .r), (10, .r), (11, .r), (12, .r), (13, .r), (14, .r), (15, .r), (16, .r), (17, .r), (18, .r), (19, .r), (20, .r), (21, .r), (22, .r), (23, .r), (24, .r), (25, .r), (26, .r), (27, .r), (28, .r), (29, .r), (30, .r), (31, .r), (32, .r), (33, .r), (34, .r), (35, .r), (36, .r), (37, .r), (38, .r), (39, .r), (40, .z)] (by kernel_rfl) (by kernel_rfl) ?_
                  intro w6 hk6
                  have S4 := Lib.hid (LS.keep S3.out hk6.below)
                  have q := Lib.hid (fun z : Cl.Since (fun _ => True) w6 => LS.keep S4.out z.keeps.below)
                  have t0 : ∀ z : Cl.Since (fun _ => True) w6, z.w.cell? ⟨(a4.add (k * 5)).block, (a4.add (k * 5)).off + 1 + 2, none⟩ = some (.int .i64 Vk) := fun z => by rw [← hVk.out]; exact (q.out z).fm.c12 hkm.out
                  have t1 : ∀ z : Cl.Since (fun _ => True) w6, z.w.cell? ⟨(a.add (j * 5)).block, (a.add (j * 5)).off + 1 + 2, none⟩ = some (.int .i64 V) := fun z => by rw [← hV.out]; exact (q.out z).fl.c12 hjl.out
                  have t2 : ∀ z : Cl.Since (fun _ => True) w6, z.w.cell? (a4.add (k * 5)) = some (.int .i64 Pk) := fun z => by rw [← hPk.out]; exact (q.out z).fm.c0 hkm.out
                  have t3 : ∀ z : Cl.Since (fun _ => True) w6, z.w.cell? (a.add (j * 5)) = some (.int .i64 Pj) := fun z => by rw [← hPj.out]; exact (q.out z).fl.c0 hjl.out
                  clear hk6 S3 q
                  have hb := hbt.out
                  unfold better at hb
                  rw [hV.out, hVk.out, hPj.out, hPk.out] at hb
                  rcases hb with hb | ⟨hb1, hb2⟩
                  · have e3 : decide (Vk < V) = false := decide_eq_false (by omega)
                    have e4 : (Vk == V) = false := by simp; omega
                    replace hb := Lib.hid hb
                    iterate 40 (with_reducible refine (no_implicit_lambda% (Cl.way_r rfl ?_)); go_big_quiet_step (fail); with_reducible refine (no_implicit_lambda% (wpQuiet_nil ?_)))
                    refine Cl.way_z rfl ?_
                    clear t0 t1 t2 t3
                    go_wp2_with fail
                    refine Cl.Calm.normal ?_
                    go_wp2_with fail
                    go_roundw
                    case rel => exact ⟨k + 1, by rw [ho1.out] <;> first | rfl | go_num, by first | rw [hk1] | go_num, by omega, S4⟩
                    case measure => (try rw [hk1]); simp [intOf]; omega
                  · subst hb1
                    have e3 : decide (V < V) = false := decide_eq_false (by omega)
                    have e4 : decide (Pj < Pk) = false := decide_eq_false (by omega)
                    replace hb2 := Lib.hid hb2
                    iterate 40 (with_reducible refine (no_implicit_lambda% (Cl.way_r rfl ?_)); go_big_quiet_step (fail); with_reducible refine (no_implicit_lambda% (wpQuiet_nil ?_)))
                    refine Cl.way_z rfl ?_
                    clear t0 t1 t2 t3
                    go_wp2_with fail
                    refine Cl.Calm.normal ?_
                    go_wp2_with fail
                    go_roundw
                    case rel => exact ⟨k + 1, by rw [ho1.out] <;> first | rfl | go_num, by first | rw [hk1] | go_num, by omega, S4⟩
                    case measure => (try rw [hk1]); simp [intOf]; omega
                · have hne : (Lk != Lj) = true := by
                    simp only [bne_iff_ne]
                    intro e
                    exact hkk (huq.out k hkm.out (by rw [hLk.out, hLj.out]; exact e))
                  have ho1 := Lib.hid (show onE k0 (k + 1) = onE k0 k by unfold onE; by_cases h : k0 < k <;> simp [h] <;> omega)
                  go_wp2_with fail
                  go_roundw
                  case rel => exact ⟨k + 1, by rw [ho1.out], by first | rw [hk1] | go_num, by omega, S3⟩
                  case measure => (try rw [hk1]); simp [intOf]; omega
              · obtain rfl : k = N := by omega
                have d4 : decide ((k : Int) < (k : Int)) = false := decide_eq_false (by omega)
                have ho : onE k0 k = 1 := by unfold onE; rw [if_pos hk0N.out]
                rw [ho]
                clear ho
                go_wp2_with fail
                go_roundw
                case rel => exact ⟨j + 1, by rw [hM1'.out], by first | rw [hj1] | go_num, by omega, S2, HN2⟩
                case measure => (try rw [hj1]); simp [intOf]; omega
        · obtain rfl : j = i := by omega
          have d2 : decide ((j : Int) < (j : Int)) = false := decide_eq_false (by omega)
          go_wp2_with fail
          have hmost := Lib.hid (show mq l j = gtL l by rw [← hl.out]; exact mq_all l)
          rw [hmost.out]
          go_loopw [10] (fun q wr => ∃ k : Nat, q = .int .i64 (k : Int) ∧ k ≤ N ∧ Hid (LS w wr A l A4 m)) (fun q _ => N - (intOf q).toNat)
          case atStart => exact ⟨0, rfl, Nat.zero_le _, S1⟩
          case round =>
            obtain ⟨k, rfl, hk', S2⟩ := hrel
            clear S1
            by_cases hkN : k < N
            · have hkm := Lib.hid (show k < m.length by rw [hN.out]; exact hkN)
              have hkI : (k : Int) < (N : Int) := by omega
              have d4 : decide ((k : Int) < (N : Int)) = true := decide_eq_true hkI
              have hk1 : wrap64 ((k : Int) + 1) = ((k + 1 : Nat) : Int) := by rw [IntWalk.wrap64_in _ (by omega)]; omega
              obtain ⟨a4, rfl⟩ := S2.out.fm.some_ hkm.out
              go_wp2_with fail
              go_loopw [11, 12] (fun p q ws => ∃ t : Nat, p = .bool (isB l (fA m k) t) ∧ q = .int .i64 (t : Int) ∧ t ≤ j ∧ Hid (LS w ws A l (some a4) m)) (fun _ q _ => j - (intOf q).toNat)
              case atStart => exact ⟨0, rfl, rfl, Nat.zero_le _, S2⟩
              case round =>
                obtain ⟨t, rfl, rfl, ht', S3⟩ := hrel
                clear S2
                by_cases htj : t < j
                · have htl := Lib.hid (show t < l.length by rw [hl.out]; exact htj)
                  have htI : (t : Int) < (j : Int) := by omega
                  have d5 : decide ((t : Int) < (j : Int)) = true := decide_eq_true htI
                  have ht1 : wrap64 ((t : Int) + 1) = ((t + 1 : Nat) : Int) := by rw [IntWalk.wrap64_in _ (by omega)]; omega
                  obtain ⟨a, rfl⟩ := S3.out.fl.some_ htl.out
                  have hsu := Lib.hid (show isB l (fA m k) (t + 1) = (isB l (fA m k) t || eqF (fA l t) (fA m k)) from rfl)
                  generalize isB l (fA m k) t = v at *
                  go_wp2_with fail
                  refine Cl.region_way (fun _ => True) 12 [(0, .r), (1, .r), (2, .r), (3, .r), (4, .r), (5, .r), (6, .r), (7, .r), (8, .r), (9, .r), (10, .r), (11, .r), (12, .z)] (by kernel_rfl) (by kernel_rfl) ?_
                  intro w5 hk5
                  have S4 := Lib.hid (LS.keep S3.out hk5.below)
                  have q := Lib.hid (fun z : Cl.Since (fun _ => True) w5 => LS.keep S4.out z.keeps.below)
                  obtain ⟨⟨p0, p1, p2, p3, p4⟩, hx⟩ : ∃ X, fA l t = X := ⟨_, rfl⟩
                  obtain ⟨⟨r0, r1, r2, r3, r4⟩, hy⟩ : ∃ X, fA m k = X := ⟨_, rfl⟩
                  have t0 : ∀ z : Cl.Since (fun _ => True) w5, z.w.cell? (a.add (t * 5)) = some (.int .i64 p0) := fun z => by have := (q.out z).fl.c0 htl.out; rw [hx] at this; exact this
                  have t1 : ∀ z : Cl.Since (fun _ => True) w5, z.w.cell? ⟨(a.add (t * 5)).block, (a.add (t * 5)).off + 1, none⟩ = some (.int .i64 p1) := fun z => by have := (q.out z).fl.c1 htl.out; rw [hx] at this; exact this
                  have t2 : ∀ z : Cl.Since (fun _ => True) w5, z.w.cell? ⟨(a.add (t * 5)).block, (a.add (t * 5)).off + 2, none⟩ = some (.int .i64 p2) := fun z => by have := (q.out z).fl.c2 htl.out; rw [hx] at this; exact this
                  have t3 : ∀ z : Cl.Since (fun _ => True) w5, z.w.cell? ⟨(a.add (t * 5)).block, (a.add (t * 5)).off + 3, none⟩ = some (.int .i64 p3) := fun z => by have := (q.out z).fl.c3 htl.out; rw [hx] at this; exact this
                  have t4 : ∀ z : Cl.Since (fun _ => True) w5, z.w.cell? ⟨(a.add (t * 5)).block, (a.add (t * 5)).off + 4, none⟩ = some (.int .i64 p4) := fun z => by have := (q.out z).fl.c4 htl.out; rw [hx] at this; exact this
                  have u0 : ∀ z : Cl.Since (fun _ => True) w5, z.w.cell? (a4.add (k * 5)) = some (.int .i64 r0) := fun z => by have := (q.out z).fm.c0 hkm.out; rw [hy] at this; exact this
                  have u1 : ∀ z : Cl.Since (fun _ => True) w5, z.w.cell? ⟨(a4.add (k * 5)).block, (a4.add (k * 5)).off + 1, none⟩ = some (.int .i64 r1) := fun z => by have := (q.out z).fm.c1 hkm.out; rw [hy] at this; exact this
                  have u2 : ∀ z : Cl.Since (fun _ => True) w5, z.w.cell? ⟨(a4.add (k * 5)).block, (a4.add (k * 5)).off + 2, none⟩ = some (.int .i64 r2) := fun z => by have := (q.out z).fm.c2 hkm.out; rw [hy] at this; exact this
                  have u3 : ∀ z : Cl.Since (fun _ => True) w5, z.w.cell? ⟨(a4.add (k * 5)).block, (a4.add (k * 5)).off + 3, none⟩ = some (.int .i64 r3) := fun z => by have := (q.out z).fm.c3 hkm.out; rw [hy] at this; exact this
                  have u4 : ∀ z : Cl.Since (fun _ => True) w5, z.w.cell? ⟨(a4.add (k * 5)).block, (a4.add (k * 5)).off + 4, none⟩ = some (.int .i64 r4) := fun z => by have := (q.out z).fm.c4 hkm.out; rw [hy] at this; exact this
                  replace hx := Lib.hid hx
                  replace hy := Lib.hid hy
                  clear hk5 S3 q
                  cases v
                  · by_cases hne : p0 = r0
                    · subst hne
                      by_cases hne : p1 = r1
                      · subst hne
                        by_cases hne : p2 = r2
                        · subst hne
                          by_cases hne : p3 = r3
                          · subst hne
                            by_cases hne : p4 = r4
                            · subst hne
                              have hb2 := Lib.hid (show isB l (fA m k) (t + 1) = true by rw [hsu.out, hx.out, hy.out]; unfold eqF; simp)
                              iterate 12 (with_reducible refine (no_implicit_lambda% (Cl.way_r rfl ?_)); go_big_quiet_step (fail); with_reducible refine (no_implicit_lambda% (wpQuiet_nil ?_)))
                              refine Cl.way_z rfl ?_
                              clear t0 t1 t2 t3 t4 u0 u1 u2 u3 u4
                              go_wp2_with fail
                              refine Cl.Calm.normal ?_
                              go_wp2_with fail
                              go_roundw
                              case rel => exact ⟨t + 1, by rw [hb2.out], by first | rw [ht1] | go_num, by omega, S4⟩
                              case measure => (try rw [ht1]); simp [intOf]; omega
                            · skip
                              have hb2 := Lib.hid (show isB l (fA m k) (t + 1) = false by rw [hsu.out, hx.out, hy.out]; unfold eqF; simp [hne])
                              iterate 12 (with_reducible refine (no_implicit_lambda% (Cl.way_r rfl ?_)); go_big_quiet_step (fail); with_reducible refine (no_implicit_lambda% (wpQuiet_nil ?_)))
                              refine Cl.way_z rfl ?_
                              clear t0 t1 t2 t3 t4 u0 u1 u2 u3 u4
                              go_wp2_with fail
                              refine Cl.Calm.normal ?_
                              go_wp2_with fail
                              go_roundw
                              case rel => exact ⟨t + 1, by rw [hb2.out], by first | rw [ht1] | go_num, by omega, S4⟩
                              case measure => (try rw [ht1]); simp [intOf]; omega
                          · skip
                            have hb2 := Lib.hid (show isB l (fA m k) (t + 1) = false by rw [hsu.out, hx.out, hy.out]; unfold eqF; simp [hne])
                            iterate 12 (with_reducible refine (no_implicit_lambda% (Cl.way_r rfl ?_)); go_big_quiet_step (fail); with_reducible refine (no_implicit_lambda% (wpQuiet_nil ?_)))
                            refine Cl.way_z rfl ?_
                            clear t0 t1 t2 t3 t4 u0 u1 u2 u3 u4
                            go_wp2_with fail
                            refine Cl.Calm.normal ?_
                            go_wp2_with fail
                            go_roundw
                            case rel => exact ⟨t + 1, by rw [hb2.out], by first | rw [ht1] | go_num, by omega, S4⟩
                            case measure => (try rw [ht1]); simp [intOf]; omega
                        · skip
                          have hb2 := Lib.hid (show isB l (fA m k) (t + 1) = false by rw [hsu.out, hx.out, hy.out]; unfold eqF; simp [hne])
                          iterate 12 (with_reducible refine (no_implicit_lambda% (Cl.way_r rfl ?_)); go_big_quiet_step (fail); with_reducible refine (no_implicit_lambda% (wpQuiet_nil ?_)))
                          refine Cl.way_z rfl ?_
                          clear t0 t1 t2 t3 t4 u0 u1 u2 u3 u4
                          go_wp2_with fail
                          refine Cl.Calm.normal ?_
                          go_wp2_with fail
                          go_roundw
                          case rel => exact ⟨t + 1, by rw [hb2.out], by first | rw [ht1] | go_num, by omega, S4⟩
                          case measure => (try rw [ht1]); simp [intOf]; omega
                      · skip
                        have hb2 := Lib.hid (show isB l (fA m k) (t + 1) = false by rw [hsu.out, hx.out, hy.out]; unfold eqF; simp [hne])
                        iterate 12 (with_reducible refine (no_implicit_lambda% (Cl.way_r rfl ?_)); go_big_quiet_step (fail); with_reducible refine (no_implicit_lambda% (wpQuiet_nil ?_)))
                        refine Cl.way_z rfl ?_
                        clear t0 t1 t2 t3 t4 u0 u1 u2 u3 u4
                        go_wp2_with fail
                        refine Cl.Calm.normal ?_
                        go_wp2_with fail
                        go_roundw
                        case rel => exact ⟨t + 1, by rw [hb2.out], by first | rw [ht1] | go_num, by omega, S4⟩
                        case measure => (try rw [ht1]); simp [intOf]; omega
                    · skip
                      have hb2 := Lib.hid (show isB l (fA m k) (t + 1) = false by rw [hsu.out, hx.out, hy.out]; unfold eqF; simp [hne])
                      iterate 12 (with_reducible refine (no_implicit_lambda% (Cl.way_r rfl ?_)); go_big_quiet_step (fail); with_reducible refine (no_implicit_lambda% (wpQuiet_nil ?_)))
                      refine Cl.way_z rfl ?_
                      clear t0 t1 t2 t3 t4 u0 u1 u2 u3 u4
                      go_wp2_with fail
                      refine Cl.Calm.normal ?_
                      go_wp2_with fail
                      go_roundw
                      case rel => exact ⟨t + 1, by rw [hb2.out], by first | rw [ht1] | go_num, by omega, S4⟩
                      case measure => (try rw [ht1]); simp [intOf]; omega
                  · have hb2 := Lib.hid (show isB l (fA m k) (t + 1) = true by rw [hsu.out, hx.out, hy.out]; unfold eqF; simp)
                    iterate 12 (with_reducible refine (no_implicit_lambda% (Cl.way_r rfl ?_)); go_big_quiet_step (fail); with_reducible refine (no_implicit_lambda% (wpQuiet_nil ?_)))
                    refine Cl.way_z rfl ?_
                    clear t0 t1 t2 t3 t4 u0 u1 u2 u3 u4
                    go_wp2_with fail
                    refine Cl.Calm.normal ?_
                    go_wp2_with fail
                    go_roundw
                    case rel => exact ⟨t + 1, by rw [hb2.out], by first | rw [ht1] | go_num, by omega, S4⟩
                    case measure => (try rw [ht1]); simp [intOf]; omega
                · obtain rfl : t = j := by omega
                  have d5 : decide ((t : Int) < (t : Int)) = false := decide_eq_false (by omega)
                  have hall : isB l (fA m k) t = true := by rw [← hl.out]; exact isB_mem (hm.out.mem _ (fA_mem hkm.out))
                  rw [hall]
                  clear hall
                  go_wp2_with fail
                  cases k with
                  | zero =>
                    have d6 : decide (0 < (((0 : Nat) : Nat) : Int)) = false := rfl
                    rw [show ((0 : Nat) : Int) = 0 from rfl]
                    refine Cl.region_way (fun _ => True) 21 [(0, .r), (1, .r), (2, .r), (3, .r), (4, .r), (5, .r), (6, .r), (7, .r), (8, .r), (9, .r), (10, .r), (11, .r), (12, .r), (13, .r), (14, .r), (15, .r), (16, .r), (17, .r), (18, .r), (19, .r), (20, .r), (21, .z)] (by kernel_rfl) (by kernel_rfl) ?_
                    intro w5 hk5
                    have S4 := Lib.hid (LS.keep S3.out hk5.below)
                    clear hk5 S3
                    iterate 21 (with_reducible refine (no_implicit_lambda% (Cl.way_r rfl ?_)); go_big_quiet_step (fail); with_reducible refine (no_implicit_lambda% (wpQuiet_nil ?_)))
                    refine Cl.way_z rfl ?_
                    go_wp2_with fail
                    refine Cl.Calm.normal ?_
                    go_wp2_with fail
                    go_roundw
                    case rel => exact ⟨1, rfl, by omega, S4⟩
                    case measure => simp [intOf]; omega
                  | succ kk =>
                    have hlt : (fA m kk).lp < (fA m (kk + 1)).lp := by
                      have h1 : kk + 1 < m.length := hkm.out
                      rw [fA_get h1, fA_get (show kk < m.length by omega)]
                      exact List.pairwise_iff_getElem.1 hm.out.ord kk (kk + 1) (by omega) h1 (by omega)
                    have hkm0 := Lib.hid (show kk < m.length by have := hkm.out; omega)
                    obtain ⟨L1, hL1⟩ : ∃ Z, (fA m (kk + 1)).lp = Z := ⟨_, rfl⟩
                    obtain ⟨L0, hL0⟩ : ∃ Z, (fA m kk).lp = Z := ⟨_, rfl⟩
                    rw [hL1, hL0] at hlt
                    have d6 : decide (L1 ≤ L0) = false := decide_eq_false (by omega)
                    have d7 : decide (0 < kk + 1) = true := decide_eq_true (by omega)
                    have d8 : decide (0 < ((kk + 1 : Nat) : Int)) = true := decide_eq_true (by omega)
                    have w0 : wrap64 (((kk + 1 : Nat) : Int) - 1) = (kk : Int) := by rw [IntWalk.wrap64_in _ (by omega)]; omega
                    have w1' : wrap64 ((kk : Int) + 1 - 1) = (kk : Int) := by rw [IntWalk.wrap64_in _ (by omega)]; omega
                    have w2' : ((kk + 1 : Nat) : Int) - 1 = (kk : Int) := by omega
                    have hkkI : (kk : Int) < (N : Int) := by omega
                    replace hlt := Lib.hid hlt
                    replace hL1 := Lib.hid hL1
                    replace hL0 := Lib.hid hL0
                    refine Cl.region_way (fun _ => True) 21 [(0, .r), (1, .r), (2, .r), (3, .r), (4, .r), (5, .r), (6, .r), (7, .r), (8, .r), (9, .r), (10, .r), (11, .r), (12, .r), (13, .r), (14, .r), (15, .r), (16, .r), (17, .r), (18, .r), (19, .r), (20, .r), (21, .z)] (by kernel_rfl) (by kernel_rfl) ?_
                    intro w5 hk5
                    have S4 := Lib.hid (LS.keep S3.out hk5.below)
                    have q := Lib.hid (fun z : Cl.Since (fun _ => True) w5 => LS.keep S4.out z.keeps.below)
                    have t0 : ∀ z : Cl.Since (fun _ => True) w5, z.w.cell? ⟨(a4.add ((kk + 1) * 5)).block, (a4.add ((kk + 1) * 5)).off + 1 + 1, none⟩ = some (.int .i64 L1) := fun z => by rw [← hL1.out]; exact (q.out z).fm.c11 hkm.out
                    have t1 : ∀ z : Cl.Since (fun _ => True) w5, z.w.cell? ⟨(a4.add (kk * 5)).block, (a4.add (kk * 5)).off + 1 + 1, none⟩ = some (.int .i64 L0) := fun z => by rw [← hL0.out]; exact (q.out z).fm.c11 hkm0.out
                    clear q
                    clear hk5 S3
                    iterate 21 (with_reducible refine (no_implicit_lambda% (Cl.way_r rfl ?_)); go_big_quiet_step (fail); with_reducible refine (no_implicit_lambda% (wpQuiet_nil ?_)))
                    refine Cl.way_z rfl ?_
                    clear t0 t1
                    go_wp2_with fail
                    refine Cl.Calm.normal ?_
                    go_wp2_with fail
                    go_roundw
                    case rel => exact ⟨kk + 1 + 1, by first | rw [hk1] | go_num, by omega, S4⟩
                    case measure => (try rw [hk1]); simp [intOf]; omega
            · obtain rfl : k = N := by omega
              have d4 : decide ((k : Int) < (k : Int)) = false := decide_eq_false (by omega)
              have hg := Lib.hid (C'.out.greatest (c := c') S2.out.fl hl.out (by omega) (fun x hx => by obtain ⟨t, ht, e⟩ := List.getElem_of_mem hx; have := HN.out t (by have := hl.out; omega); rw [fA_get ht, e] at this; exact this))
              have hB := Lib.hid S2.out.b
              clear S2
              generalize gtL l = gg at *
              go_wp2_with (go_at_call 10; (with_reducible refine hg.out.mono ?_); clear hg; rintro e w5 ⟨rfl, hb5⟩; replace hB := Lib.hid (We.below_trans hB.out hb5); clear hb5)
              go_ret
              exact ⟨rfl, hB.out⟩
end Go.Proofs.YtjhoecfhmndcgaaGreat.Sc
