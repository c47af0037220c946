/- LmapMoves walked. -/
import Derived.Test.YtcnnmnjepofomaaLmw
namespace Go.Proofs.Ytcnnmnjepofomaa.Lm
open Go.RowKit Go.Bw Go.Proofs.Ytcnnmnjepofomaa.Vl
set_option linter.unusedVariables false
set_option linter.unusedSimpArgs false
attribute [local go_sem ↓] Cl.quiet_since
/-- n noughts -/
def zJ (n : Nat) : Array Value := madeCells #[.int .i64 0] n
theorem zJ_at {n i : Nat} (h : i < n) : (zJ n)[i]? = some (.int .i64 0) := by
  unfold zJ madeCells
  simp [h, Nat.mod_one]
theorem run_makeJ (w : World) (n : Nat) (hn : n ≤ 1048576) : (Instr.makeSlice 39 (.int .i64 (n : Int)) (.int .i64 (n : Int))).run Try.prog w = .ok (.slice (some ⟨w.heap.size, 0, none⟩) n n) (w.alloc (.cells (zJ n) 3)) := by
  have hi0 := infoN
  obtain ⟨i, hi, hrest⟩ := Option.map_eq_some_iff.1 hi0
  simp only [Prod.mk.injEq] at hrest
  obtain ⟨i1, i2, i3⟩ := hrest
  have h := run_make (P := Try.prog) w 39 3 i _ Try.underlying39 hi i1 .i64 .i64 (n : Int) (n : Int) (by omega) (Int.le_refl _) (by rw [i3]; omega) (by omega)
  rw [i2, Int.toNat_natCast, Nat.mul_one] at h
  exact h
theorem run_make10 (w : World) : (Instr.makeSlice 39 (.int .i64 10) (.int .i64 10)).run Try.prog w = .ok (.slice (some ⟨w.heap.size, 0, none⟩) 10 10) (w.alloc (.cells (zJ 10) 3)) := run_makeJ w 10 (by decide)
theorem PV.zeros (w : World) (n : Nat) : PV (w.alloc (.cells (zJ n) 3)) 3 w.heap.size n (We.iF fun _ => 0) := PV.new w _ _ n _ fun i hi => zJ_at hi
/-- who lay there, as the law looks for it: -1 for nobody -/
def owJ (f : Nat → Int) (p j : Nat) : Int := match ow f j (p : Int) with
  | some o => (o : Int)
  | none => -1
theorem nx_succ (g : Nat → Bool) (j : Nat) : nx g (j + 1) = match nx g j with
  | some t => some t
  | none => if g j then some j else none := rfl
theorem owJ_yes {f : Nat → Int} {p j lp : Nat} (hI : Inj f lp) (hj : j < lp) (h : f j = (p : Int)) : owJ f p (j + 1) = (j : Int) := by
  have e : ow f j (p : Int) = none := ow_none_of fun i hi e => by have := hI i j (by omega) hj (by omega) (by rw [e, h]); omega
  unfold owJ ow
  unfold ow at e
  rw [nx_succ, e]; simp [h]
theorem owJ_no {f : Nat → Int} {p j : Nat} (h : f j ≠ (p : Int)) : owJ f p (j + 1) = owJ f p j := by
  unfold owJ ow
  rw [nx_succ]
  cases e : nx (fun i => decide (f i = (p : Int)) && decide (0 ≤ (p : Int))) j with
  | none => simp [h]
  | some o => rfl
theorem owJ_le {f : Nat → Int} {p j : Nat} : -1 ≤ owJ f p j ∧ owJ f p j < (j : Int) ∨ j = 0 := by
  unfold owJ
  cases e : ow f j (p : Int) with
  | none => simp; omega
  | some o => have := (ow_some e).1; simp; omega
theorem row_lay {w : World} {r n k : Nat} {f : Nat → Int} {b : Int} (h : PV w 3 r n (We.iF f)) : PV (w.setCell ⟨r, k, none⟩ (.int .i64 b)) 3 r n (We.iF (lay f (k : Int) b)) := (h.set_ k (.int .i64 b)).congr fun j hj => by
  show (if j = k then Value.int .i64 b else We.iF f j) = .int .i64 (lay f (k : Int) b j)
  unfold lay We.iF
  by_cases e : j = k
  · subst e; rw [if_pos rfl, if_pos rfl]
  · rw [if_neg e, if_neg (by omega)]
theorem put_taken {f : Nat → Int} {lp pg k p o : Nat} (hk : k < lp) (hp : p < pg) (how : ow f lp (p : Int) = some o) (h : o ≠ k) : (putM lp pg f (k : Int) (p : Int)).1 = 0 ∧ (putM lp pg f (k : Int) (p : Int)).2.1 = 1 ∧ ∀ i, i < lp → (putM lp pg f (k : Int) (p : Int)).2.2 i = f i := by
  unfold putM inB
  rw [how]
  have h2 : ¬ (o : Int) = (k : Int) := by omega
  simp [hk, hp, h2]
theorem put_free {f : Nat → Int} {lp pg k p : Nat} (hk : k < lp) (hp : p < pg) (how : ow f lp (p : Int) = none ∨ ow f lp (p : Int) = some k) : (putM lp pg f (k : Int) (p : Int)).1 = (if f k = (p : Int) then -1 else f k) ∧ (putM lp pg f (k : Int) (p : Int)).2.1 = 0 ∧ ∀ i, i < lp → (putM lp pg f (k : Int) (p : Int)).2.2 i = lay f (k : Int) (p : Int) i := by
  unfold putM inB
  rcases how with how | how <;> rw [how] <;> simp [hk, hp]
theorem put_litk {w0 w : World} {lo hi lp pg : Nat} {K : Blk} {f : Nat → Int} (hB : Below w0.heap.size w0 w) (hlo : w0.heap.size ≤ lo) (m : PM w lo hi K lp pg f) (a b x y : Int) (f' : Nat → Int) (h : (putM lp pg f a b).1 = x ∧ (putM lp pg f a b).2.1 = y ∧ ∀ i, i < lp → (putM lp pg f a b).2.2 i = f' i) :
    Calls Try.prog 11 #[.pointer (some ⟨K.G, 0, none⟩), .int .i64 a, .int .i64 b] w fun e w' => e = .returned (.tuple #[.int .i64 x, .int .i64 y]) ∧ Below w0.heap.size w0 w' ∧ Cl.Keeps (Out lo hi) w w' ∧ PM w' lo hi K lp pg f' := by
  obtain ⟨rfl, rfl, h⟩ := h
  exact (put_any w m a b).mono fun e w' ⟨h1, h2, h3⟩ => ⟨h1, below_out hB hlo h2, h2, h3.congr h⟩
set_option maxRecDepth 4000 in
set_option maxHeartbeats 8000000 in
theorem moves_law (A : Option Addr) (n : Nat) (x : Nat → Nat → Int) (c : Nat) (hl : n ≤ c) (hc : c ≤ maxLen) (w : World) (s0 : We.RF w w.heap.size A 2 n .u8 x) :
    Calls Try.prog 7 #[.slice A n c] w (We.Ans w (.bool true)) := by
  have ha := Lib.hid (awake_any w)
  have H := Lib.hid s0
  clear s0 hl hc
  by_cases h200 : 200 < n
  · have h200I : (200 : Int) < (n : Int) := by omega
    go_enter Try.func7, Try.ntmps7
    go_wp2_with (go_at_call 8; (with_reducible refine ha.out.mono ?_); rintro e w1 ⟨rfl, hb⟩)
    go_ret
    exact ⟨rfl, hb⟩
  have h200I : ¬ (200 : Int) < (n : Int) := by omega
  have h1 := Lib.hid (fun w => new_lit 10 256 10 256 rfl rfl (by decide) (by decide) w)
  go_enter Try.func7, Try.ntmps7
  go_wp2_with (go_at_call 8; (with_reducible refine ha.out.mono ?_); rintro e w0 ⟨rfl, hB0⟩; replace hB0 := Lib.hid hB0)
  go_wp2_with (go_at_call 9; (with_reducible refine (h1.out _).mono ?_); rintro e w1 ⟨K, rfl, hB, m⟩; replace hB := Lib.hid (We.below_trans hB0.out hB); replace m := Lib.hid m; have mk := run_make10 w1)
  have hlo := Lib.hid hB0.out.size
  have hwr := Lib.hid hB.out.size
  clear ha h1 hB0 mk
  have hB2 := Lib.hid (We.below_trans hB.out (We.below_alloc w1 (.cells (zJ 10) 3)))
  have m2 := Lib.hid (m.out.below (We.below_alloc w1 (.cells (zJ 10) 3)))
  have R2 := Lib.hid (PV.zeros w1 10)
  clear m hB
  generalize w1.alloc (.cells (zJ 10) 3) = w2 at *
  generalize w0.heap.size = lo at *
  generalize w1.heap.size = r at *
  go_loopw [6] (fun q wr => ∃ (i : Nat) (f : Nat → Int), q = .int .i64 (i : Int) ∧ i ≤ 10 ∧ (∀ j, j < i → f j = -1) ∧ Hid (PV wr 3 r 10 (We.iF f)) ∧ Hid (PM wr lo r K 10 256 (fun _ => -1)) ∧ Hid (Below w.heap.size w wr)) (fun q _ => 10 - (intOf q).toNat)
  case atStart => exact ⟨0, _, rfl, Nat.zero_le _, fun j hj => absurd hj (Nat.not_lt_zero _), R2, m2, hB2⟩
  case round =>
    obtain ⟨i, f, rfl, hi', hf, Rr, mr, hBr⟩ := hrel
    clear m2 hB2 R2
    by_cases hin : i < 10
    · have hinI : (i : Int) < 10 := by omega
      have hdin : decide ((i : Int) < 10) = true := decide_eq_true hinI
      have c0 := Rr.out.cell hin
      have fz := Rr.out.frozen i
      have R3 := Lib.hid (row_lay (k := i) (b := -1) Rr.out)
      have m3 := Lib.hid (mr.out.keep (w' := wr.setCell ⟨r, i, none⟩ (.int .i64 (-1))) fun b h1 h2 _ => setCell_block wr _ (by omega))
      have B3 := Lib.hid (below_set hBr.out hwr.out (i := i) (.int .i64 (-1)))
      unfold We.iF at c0
      have hf2 : ∀ j, j < i + 1 → lay f (i : Int) (-1) j = -1 := fun j hj => by
        by_cases e : j = i
        · subst e; rw [lay_eq]
        · rw [lay_ne e]; exact hf j (by omega)
      replace hf2 := Lib.hid hf2
      clear hf Rr mr hBr
      go_wp2_with fail
      go_roundw
      case rel => exact ⟨i + 1, _, by go_num, by omega, hf2.out, R3, m3, B3⟩
      case measure => simp [intOf]; omega
    · have hie : i = 10 := by omega
      have hdin : decide ((i : Int) < 10) = false := decide_eq_false (by omega)
      have R3 := Lib.hid (Rr.out.congr (f' := We.iF fun _ => -1) fun j hj => by unfold We.iF; rw [hf j (by omega)])
      have m3 := mr
      have B3 := hBr
      replace hie := Lib.hid hie
      clear hf Rr mr hBr
      go_wp2_with fail
      clear hie hdin hin hi'
      go_loopw [7] (fun q wr => ∃ (i : Nat) (f : Nat → Int), q = .int .i64 (i : Int) ∧ i ≤ n ∧ Hid (PV wr 3 r 10 (We.iF f)) ∧ Hid (PM wr lo r K 10 256 f) ∧ Hid (Below w.heap.size w wr)) (fun q _ => n - (intOf q).toNat)
      case atStart => exact ⟨0, _, rfl, Nat.zero_le _, R3, m3, B3⟩
      case round =>
        obtain ⟨i, f, rfl, hi', Rr, mr, hBr⟩ := hrel
        clear m3 R3 B3
        by_cases hin : i < n
        · have hinI : (i : Int) < (n : Int) := by omega
          have hdin : decide ((i : Int) < (n : Int)) = true := decide_eq_true hinI
          obtain ⟨a, rfl, hab, g0, g1⟩ := (H.out.below hBr.out).at0 (i := i) hin (by decide)
          have g1' := g1 0 (by decide)
          obtain ⟨X, hXl, hX⟩ := u8_nat (H.out.1 i 0)
          obtain ⟨p, hpl, hY⟩ := u8_nat (H.out.1 i 1)
          rw [hX] at g0
          rw [hY] at g1'
          have fx : ((X : Nat) : Int) % 10 = ((X % 10 : Nat) : Int) := by omega
          have hkl : X % 10 < 10 := Nat.mod_lt _ (by decide)
          generalize hk : X % 10 = k at *
          replace hX := Lib.hid hX
          replace hY := Lib.hid hY
          clear g1 hk hab
          go_wp2_with fail
          refine Cl.region_way (fun _ => True) 14 [(0, .r), (1, .r), (2, .r), (3, .r), (4, .r), (5, .r), (6, .r), (7, .r), (8, .r), (9, .r), (10, .r), (11, .r), (12, .r), (13, .r), (14, .z)] (by kernel_rfl) (by kernel_rfl) ?_
          intro w3 hk3
          have B3 := Lib.hid (We.below_trans hBr.out (hk3.below))
          have m3 := Lib.hid (mr.out.below hk3.below)
          have R3 := Lib.hid (Rr.out.below hk3.below)
          have t0 : ∀ y : Cl.Since (fun _ => True) w3, y.w.cell? (a.add (i * 2)) = some (.int .u8 (X : Int)) := fun y => (World.cell?_of_block (y.keeps.below.block _ (Nat.lt_of_lt_of_le (World.block_lt_of_cell? _ _ g0) hk3.size))).trans ((World.cell?_of_block (hk3.below.block _ (World.block_lt_of_cell? _ _ g0))).trans g0)
          have t1 : ∀ y : Cl.Since (fun _ => True) w3, y.w.cell? ⟨(a.add (i * 2)).block, (a.add (i * 2)).off + 1, none⟩ = some (.int .u8 (p : Int)) := fun y => (World.cell?_of_block (a := ⟨(a.add (i * 2)).block, (a.add (i * 2)).off + 1, none⟩) (y.keeps.below.block _ (Nat.lt_of_lt_of_le (World.block_lt_of_cell? _ _ g1') hk3.size))).trans ((World.cell?_of_block (hk3.below.block _ (World.block_lt_of_cell? _ _ g1'))).trans g1')
          clear hk3 g0 g1' mr Rr hBr
          iterate 14 (refine Cl.way_r rfl ?_; go_big_quiet_step (fail); refine wpQuiet_nil ?_)
          refine Cl.way_z rfl ?_
          clear t0 t1
          go_wp2_with fail
          refine Cl.Calm.normal ?_
          go_wp2_with fail
          rw [fx]
          clear fx hXl
          go_loopw [10, 11] (fun q s wq => ∃ j : Nat, q = .int .i64 (owJ f p j) ∧ s = .int .i64 (j : Int) ∧ j ≤ 10 ∧ w3 = wq) (fun _ s _ => 10 - (intOf s).toNat)
          case atStart => exact ⟨0, rfl, rfl, by decide, rfl⟩
          case round =>
            obtain ⟨j, rfl, rfl, hj10, rfl⟩ := hrel
            by_cases hji : j < 10
            · have d1 : decide ((j : Int) < 10) = true := decide_eq_true (by omega)
              have c0 := R3.out.cell hji
              unfold We.iF at c0
              obtain ⟨V, hV⟩ : ∃ V, f j = V := ⟨_, rfl⟩
              rw [hV] at c0
              by_cases he : V = (p : Int)
              · have hn := Lib.hid (owJ_yes m3.out.inj hji (hV.trans he))
                have d2 : (V == (p : Int)) = true := by simpa using he
                subst he
                replace hV := Lib.hid hV
                obtain ⟨W, hW⟩ : ∃ W, Hid (owJ f p j = W) := ⟨_, Lib.hid rfl⟩
                rw [hW.out]
                go_wp2_with fail
                go_roundw
                case rel => exact ⟨j + 1, by rw [hn.out], by go_num, by omega, by first | rfl | trivial⟩
                case measure => simp [intOf]; omega
              · have hn := Lib.hid (owJ_no (f := f) (j := j) (p := p) (by rw [hV]; exact he))
                have d2 : (V == (p : Int)) = false := by simpa using he
                replace he := Lib.hid he
                replace hV := Lib.hid hV
                obtain ⟨W, hW⟩ : ∃ W, Hid (owJ f p j = W) := ⟨_, Lib.hid rfl⟩
                rw [hW.out]
                go_wp2_with fail
                go_roundw
                case rel => exact ⟨j + 1, by rw [hn.out, hW.out], by go_num, by omega, by first | rfl | trivial⟩
                case measure => simp [intOf]; omega
            · have hje : j = 10 := by omega
              have d1 : decide ((j : Int) < 10) = false := decide_eq_false (by omega)
              have hO : owJ f p j = owJ f p 10 := by rw [hje]
              rw [hO]
              clear hO hje
              have ck := R3.out.cell hkl
              unfold We.iF at ck
              have hkI : (k : Int) < 10 := by omega
              cases how : ow f 10 (p : Int) with
              | none =>
                have hO : owJ f p 10 = -1 := by unfold owJ; rw [how]
                rw [hO]
                have hne : f k ≠ (p : Int) := ow_none how (by omega) k hkl
                have hpf := put_free (pg := 256) hkl hpl (Or.inl how)
                rw [if_neg hne] at hpf
                obtain ⟨V, hV⟩ : ∃ V, f k = V := ⟨_, rfl⟩
                rw [hV] at ck hne hpf
                have d2 : (V == (p : Int)) = false := by simpa using hne
                replace hne := Lib.hid hne
                have hc := Lib.hid (put_litk B3.out hlo.out m3.out (k : Int) (p : Int) V 0 _ hpf)
                replace hV := Lib.hid hV
                replace hpf := Lib.hid hpf
                replace how := Lib.hid how
                replace hO := Lib.hid hO
                clear ck
                go_wp2_with (go_at_call 11; (with_reducible refine hc.out.mono ?_); clear hc; rintro e w6 ⟨rfl, B6, k6, m6⟩; have R6 := Lib.hid (R3.out.keep (k6.block r R3.out.lt (by unfold Out; omega))); have ck := R6.out.cell hkl; (unfold We.iF at ck); (rw [hV.out] at ck); have fz := R6.out.frozen k; replace m6 := Lib.hid m6; replace B6 := Lib.hid B6; clear k6 m3 B3)
                have R7 := Lib.hid (row_lay (k := k) (b := (p : Int)) R6.out)
                have m7 := Lib.hid (m6.out.keep (w' := w6.setCell ⟨r, k, none⟩ (.int .i64 (p : Int))) fun b h1 h2 _ => setCell_block w6 _ (by omega))
                have B7 := Lib.hid (below_set B6.out hwr.out (i := k) (.int .i64 (p : Int)))
                go_roundw
                case rel => exact ⟨i + 1, _, by go_num, by omega, R7, m7, B7⟩
                case measure => simp [intOf]; omega
              | some o =>
                have hO : owJ f p 10 = (o : Int) := by unfold owJ; rw [how]
                rw [hO]
                have d0 : decide (0 ≤ (o : Int)) = true := decide_eq_true (by omega)
                by_cases hok : o = k
                · subst hok
                  have hV : f o = (p : Int) := (ow_some how).2.1
                  have hpf := put_free (pg := 256) hkl hpl (Or.inr how)
                  rw [if_pos hV] at hpf
                  have hc := Lib.hid (put_litk B3.out hlo.out m3.out (o : Int) (p : Int) (-1) 0 _ hpf)
                  replace hV := Lib.hid hV
                  replace hpf := Lib.hid hpf
                  replace how := Lib.hid how
                  replace hO := Lib.hid hO
                  clear ck
                  go_wp2_with (go_at_call 11; (with_reducible refine hc.out.mono ?_); clear hc; rintro e w6 ⟨rfl, B6, k6, m6⟩; have R6 := Lib.hid (R3.out.keep (k6.block r R3.out.lt (by unfold Out; omega))); have ck := R6.out.cell hkl; (unfold We.iF at ck); (rw [hV.out] at ck); have fz := R6.out.frozen o; replace m6 := Lib.hid m6; replace B6 := Lib.hid B6; clear k6 m3 B3)
                  have R7 := Lib.hid (row_lay (k := o) (b := (p : Int)) R6.out)
                  have m7 := Lib.hid (m6.out.keep (w' := w6.setCell ⟨r, o, none⟩ (.int .i64 (p : Int))) fun b h1 h2 _ => setCell_block w6 _ (by omega))
                  have B7 := Lib.hid (below_set B6.out hwr.out (i := o) (.int .i64 (p : Int)))
                  go_roundw
                  case rel => exact ⟨i + 1, _, by go_num, by omega, R7, m7, B7⟩
                  case measure => simp [intOf]; omega

                · have hpf := put_taken (pg := 256) hkl hpl how hok
                  have d2 : ((o : Int) == (k : Int)) = false := by simp; omega
                  have d3 : ((o : Int) != (k : Int)) = true := by simp; omega
                  have hc := Lib.hid (put_litk B3.out hlo.out m3.out (k : Int) (p : Int) 0 1 _ hpf)
                  replace hpf := Lib.hid hpf
                  replace how := Lib.hid how
                  replace hO := Lib.hid hO
                  replace hok := Lib.hid hok
                  clear ck
                  go_wp2_with (go_at_call 11; (with_reducible refine hc.out.mono ?_); clear hc; rintro e w6 ⟨rfl, B6, k6, m6⟩; have R6 := Lib.hid (R3.out.keep (k6.block r R3.out.lt (by unfold Out; omega))); replace m6 := Lib.hid m6; replace B6 := Lib.hid B6; clear k6 m3 B3)
                  go_roundw
                  case rel => exact ⟨i + 1, f, by go_num, by omega, R6, m6, B6⟩
                  case measure => simp [intOf]; omega
        · obtain rfl : i = n := by omega
          have hdin : decide ((i : Int) < (i : Int)) = false := decide_eq_false (by omega)
          go_wp2_with fail
          clear hdin hin hi' h200
          go_loopw [15] (fun q wq => ∃ (j : Nat), q = .int .i64 (j : Int) ∧ j ≤ 10 ∧ Hid (PV wq 3 r 10 (We.iF f)) ∧ Hid (PM wq lo r K 10 256 f) ∧ Hid (Below w.heap.size w wq)) (fun q _ => 10 - (intOf q).toNat)
          case atStart => exact ⟨0, rfl, Nat.zero_le _, Rr, mr, hBr⟩
          case round =>
            obtain ⟨j, rfl, hj10, Rq, mq, hBq⟩ := hrel
            clear Rr mr hBr
            by_cases hji : j < 10
            · have d1 : decide ((j : Int) < 10) = true := decide_eq_true (by omega)
              obtain ⟨V, hV⟩ : ∃ V, f j = V := ⟨_, rfl⟩
              have hg : getM f 10 (j : Int) = if 0 ≤ V then (V, true) else (0, false) := by
                unfold getM inB
                rw [Int.toNat_natCast, hV]
                by_cases h0 : 0 ≤ V <;> simp [h0] <;> omega
              have hcell : Hid (∀ w' : World, PV w' 3 r 10 (We.iF f) → w'.cell? ⟨r, j, none⟩ = some (.int .i64 V)) := Lib.hid fun w' h => by
                have := h.cell hji
                unfold We.iF at this
                rw [hV] at this
                exact this
              by_cases h0 : 0 ≤ V
              · rw [if_pos h0] at hg
                have d0 : decide (0 ≤ V) = true := decide_eq_true h0
                have hc := Lib.hid (get_any wr mq.out (j : Int))
                rw [hg] at hc
                unfold getV at hc
                replace hV := Lib.hid hV
                replace hg := Lib.hid hg
                replace h0 := Lib.hid h0
                go_wp2_with (go_at_call 13; (with_reducible refine hc.out.mono ?_); clear hc; rintro e w6 ⟨rfl, b6⟩; have R6 := Lib.hid (Rq.out.below b6); have m6 := Lib.hid (mq.out.below b6); have B6 := Lib.hid (We.below_trans hBq.out b6); have ck := hcell.out _ R6.out; clear b6 Rq mq hBq)
                go_roundw
                case rel => exact ⟨j + 1, by go_num, by omega, R6, m6, B6⟩
                case measure => simp [intOf]; omega
              · rw [if_neg h0] at hg
                have d0 : decide (0 ≤ V) = false := decide_eq_false h0
                have hc := Lib.hid (get_any wr mq.out (j : Int))
                rw [hg] at hc
                unfold getV at hc
                replace hV := Lib.hid hV
                replace hg := Lib.hid hg
                replace h0 := Lib.hid h0
                go_wp2_with (go_at_call 13; (with_reducible refine hc.out.mono ?_); clear hc; rintro e w6 ⟨rfl, b6⟩; have R6 := Lib.hid (Rq.out.below b6); have m6 := Lib.hid (mq.out.below b6); have B6 := Lib.hid (We.below_trans hBq.out b6); have ck := hcell.out _ R6.out; clear b6 Rq mq hBq)
                go_roundw
                case rel => exact ⟨j + 1, by go_num, by omega, R6, m6, B6⟩
                case measure => simp [intOf]; omega
            · have hje : j = 10 := by omega
              have d1 : decide ((j : Int) < 10) = false := decide_eq_false (by omega)
              replace hje := Lib.hid hje
              go_wp2_with fail
              go_ret
              exact ⟨rfl, hBq.out⟩
end Go.Proofs.Ytcnnmnjepofomaa.Lm
