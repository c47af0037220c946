/- LmapWays walked. -/
import Derived.Test.YtcnnmnjepofomaaLmp
import Derived.Test.YtcnnmnjepofomaaLmo
namespace Go.Proofs.Ytcnnmnjepofomaa.Lm
open Go.RowKit Go.Bw Go.Proofs.Ytcnnmnjepofomaa.Vl
set_option linter.unusedVariables false
set_option linter.unusedSimpArgs false
attribute [local go_sem ↓] Cl.quiet_since
theorem u8_nat {a : Int} (h : (Lit.int .u8 a).wf = true) : ∃ n : Nat, n < 256 ∧ a = (n : Int) := by
  have hr : 0 ≤ a ∧ a < 256 := by simp [Lit.wf, IntKind.min, IntKind.max, IntKind.signed, IntKind.bits] at h; omega
  exact ⟨a.toNat, by omega, (Int.toNat_of_nonneg hr.1).symm⟩
theorem own_lie {f : Nat → Int} {lp pg : Nat} (hI : Inj f lp) (hF : Fine f lp pg) : pc (ownB f lp) pg = pc (fun i => decide (0 ≤ f i)) lp := by
  have h := count_ways (pg := pg) 0 (pg : Int) hI hF
  have e1 : pc (sel (ownB f lp) 0 (pg : Int)) pg = pc (ownB f lp) pg := pc_congr fun j hj => by unfold sel; simp [hj]
  rw [e1] at h
  rw [h]
  exact pc_congr fun j hj => by have := (hF j hj).2; simp [this]
theorem count_all {f : Nat → Int} {lp pg : Nat} (hF : Fine f lp pg) : pc (fun i => decide (0 ≤ f i) && decide (0 ≤ f i) && decide (f i < (pg : Int))) lp = pc (fun i => decide (0 ≤ f i)) lp := pc_congr fun j hj => by have := (hF j hj).2; simp [this]
theorem pc_succ (f : Nat → Bool) (k : Nat) : pc f (k + 1) = pc f k + (f k).toNat := by rw [pc]; cases f k <;> rfl
theorem get_own {f : Nat → Int} {lp p o : Nat} (h : ow f lp (p : Int) = some o) : getM f lp (o : Int) = ((p : Int), true) := by
  obtain ⟨h1, h2, h3⟩ := ow_some h
  unfold getM inB
  simp [h1, h2]
set_option maxRecDepth 4000 in
set_option maxHeartbeats 8000000 in
theorem ways_law (A : Option Addr) (n : Nat) (x : Nat → Nat → Int) (c : Nat) (hl : n ≤ c) (hc : c ≤ maxLen) (w : World) (s0 : We.RF w w.heap.size A 2 n .u8 x) :
    Calls Try.prog 5 #[.slice A n c] w (We.Ans w (.bool true)) := by
  have ha := Lib.hid (awake_any w)
  have H := Lib.hid s0
  clear s0 hl hc
  by_cases h200 : 200 < n
  · have h200I : (200 : Int) < (n : Int) := by omega
    go_enter Try.func5, Try.ntmps5
    go_wp2_with (go_at_call 8; (with_reducible refine ha.out.mono ?_); rintro e w1 ⟨rfl, hb⟩)
    go_ret
    exact ⟨rfl, hb⟩
  have h200I : ¬ (200 : Int) < (n : Int) := by omega
  have h1 := Lib.hid (fun w => new_lit 20 40 20 40 rfl rfl (by decide) (by decide) w)
  go_enter Try.func5, Try.ntmps5
  go_wp2_with (go_at_call 8; (with_reducible refine ha.out.mono ?_); rintro e w0 ⟨rfl, hB0⟩; replace hB0 := Lib.hid hB0)
  go_wp2_with (go_at_call 9; (with_reducible refine (h1.out _).mono ?_); rintro e w1 ⟨K, rfl, hB, m⟩; replace hB := Lib.hid (We.below_trans hB0.out hB); replace m := Lib.hid m)
  have hlo := Lib.hid hB0.out.size
  clear ha h1 hB0
  generalize w0.heap.size = lo at *
  generalize w1.heap.size = hi at *
  go_loopw [5] (fun q wr => ∃ (i : Nat) (f : Nat → Int), q = .int .i64 (i : Int) ∧ i ≤ n ∧ Hid (PM wr lo hi K 20 40 f) ∧ Hid (Below w.heap.size w wr)) (fun q _ => n - (intOf q).toNat)
  case atStart => exact ⟨0, _, rfl, Nat.zero_le _, m, hB⟩
  case round =>
    obtain ⟨i, f, rfl, hi', mr, hBr⟩ := hrel
    clear m hB
    by_cases hin : i < n
    · have hinI : (i : Int) < (n : Int) := by omega
      have hdin : decide ((i : Int) < (n : Int)) = true := decide_eq_true hinI
      obtain ⟨a, rfl, hab, g0, g1⟩ := (H.out.below hBr.out).at0 (i := i) hin (by decide)
      have g1' := g1 0 (by decide)
      obtain ⟨X, hXl, hX⟩ := u8_nat (H.out.1 i 0)
      obtain ⟨Y, hYl, hY⟩ := u8_nat (H.out.1 i 1)
      rw [hX] at g0
      rw [hY] at g1'
      have fx : ((X : Nat) : Int) % 20 = ((X % 20 : Nat) : Int) := by omega
      have fy : ((Y : Nat) : Int) % 40 = ((Y % 40 : Nat) : Int) := by omega
      generalize hp : X % 20 = p at *
      generalize hq : Y % 40 = q at *
      replace hX := Lib.hid hX
      replace hY := Lib.hid hY
      have hab' := Lib.hid hab
      clear g1 hp hq hab
      by_cases h2 : (200 : Int) < (Y : Int)
      · have d2 : decide ((200 : Int) < (Y : Int)) = true := decide_eq_true h2
        have hd := Lib.hid (drop_any wr mr.out (p : Int))
        unfold dropV at hd
        obtain ⟨F, hF⟩ : ∃ F, (dropM 20 f (p : Int)).2.2 = F := ⟨_, rfl⟩
        generalize (dropM 20 f (p : Int)).1 = Z1 at hd
        generalize (dropM 20 f (p : Int)).2.1 = Z2 at hd
        rw [hF] at hd
        clear hF fy
        go_wp2_with (go_at_call 16; (with_reducible refine hd.out.mono ?_); clear hd; rintro e w6 ⟨rfl, k6, m6⟩; have B6 := Lib.hid (below_out hBr.out hlo.out k6); replace m6 := Lib.hid m6; clear k6 mr hBr g0 g1')
        have hI6 := Lib.hid m6.out.inj
        have hF6 := Lib.hid m6.out.fine
        go_loopw [6, 7] (fun q r wq => ∃ p : Nat, q = .int .i64 ((pc (ownB F 20) p : Nat) : Int) ∧ r = .int .i64 (p : Int) ∧ p ≤ 40 ∧ Hid (PM wq lo hi K 20 40 F) ∧ Hid (Below w.heap.size w wq)) (fun _ r _ => 40 - (intOf r).toNat)
        case atStart => exact ⟨0, rfl, rfl, by decide, m6, B6⟩
        case round =>
          obtain ⟨p, rfl, rfl, hp40, mq, hBq⟩ := hrel
          clear m6 B6
          have hpl := pc_le (ownB F 20) p
          have hsu := pc_succ (ownB F 20) p
          unfold ownB at hsu
          obtain ⟨S, hS⟩ : ∃ S, pc (ownB F 20) p = S := ⟨_, rfl⟩
          by_cases hpi : p < 40
          · have d3 : decide ((p : Int) < 40) = true := decide_eq_true (by omega)
            cases how : ow F 20 (p : Int) with
            | none =>
              have hn : Hid (pc (ownB F 20) (p + 1) = S) := Lib.hid (by unfold ownB; rw [hsu, how]; unfold ownB at hS; rw [hS]; rfl)
              have hc := Lib.hid (owner_lit hBq.out mq.out (p : Int) 0 false (by rw [how]; rfl))
              rw [hS] at hpl ⊢
              replace hS := Lib.hid hS
              replace how := Lib.hid how
              clear hsu
              go_wp2_with (go_at_call 14; (with_reducible refine hc.out.mono ?_); clear hc; rintro e w7 ⟨rfl, B7, m7⟩; replace B7 := Lib.hid B7; replace m7 := Lib.hid m7; clear mq hBq)
              go_roundw
              case rel => exact ⟨p + 1, by rw [hn.out], by go_num, by omega, m7, B7⟩
              case measure => simp [intOf]; omega
            | some o =>
              have hn : Hid (pc (ownB F 20) (p + 1) = S + 1) := Lib.hid (by unfold ownB; rw [hsu, how]; unfold ownB at hS; rw [hS]; rfl)
              have hc := Lib.hid (owner_lit hBq.out mq.out (p : Int) (o : Int) true (by rw [how]; rfl))
              have hg := Lib.hid (get_own how)
              rw [hS] at hpl ⊢
              replace hS := Lib.hid hS
              replace how := Lib.hid how
              clear hsu
              go_wp2_with (go_at_call 14; (with_reducible refine hc.out.mono ?_); clear hc; rintro e w7 ⟨rfl, B7, m7⟩; replace B7 := Lib.hid B7; replace m7 := Lib.hid m7; clear mq hBq)
              have hc := Lib.hid (get_lit B7.out m7.out (o : Int) (p : Int) true hg.out)
              go_wp2_with (go_at_call 13; (with_reducible refine hc.out.mono ?_); clear hc; rintro e w8 ⟨rfl, B8, m8⟩; replace B8 := Lib.hid B8; replace m8 := Lib.hid m8; clear m7 B7)
              go_roundw
              case rel => exact ⟨p + 1, by rw [hn.out]; rfl, by go_num, by omega, m8, B8⟩
              case measure => simp [intOf]; omega
          · have hpe : p = 40 := by omega
            have d3 : decide ((p : Int) < 40) = false := decide_eq_false (by omega)
            have hs1 := own_lie hI6.out hF6.out
            rw [← hpe] at hs1
            have hs2 := count_all hF6.out
            rw [hS] at hs1
            rw [hS] at hpl ⊢
            have hc := Lib.hid (many_lit hBq.out mq.out (S : Int) (by rw [← hs1]))
            have hcc := Lib.hid (fun (w : World) (m : PM w lo hi K 20 40 F) => count_lit m 0 40 (S : Int) (by decide) (by rw [hs1, ← hs2]; rfl))
            replace hpe := Lib.hid hpe
            replace hs1 := Lib.hid hs1
            replace hs2 := Lib.hid hs2
            replace hS := Lib.hid hS
            clear hsu
            go_wp2_with (go_at_call 19; (with_reducible refine hc.out.mono ?_); clear hc; rintro e w7 ⟨rfl, B7, m7⟩; replace B7 := Lib.hid B7; replace m7 := Lib.hid m7; clear mq hBq)
            go_wp2_with (go_at_call 18; (with_reducible refine (hcc.out _ m7.out).mono ?_); clear hcc; rintro e w8 ⟨rfl, rfl⟩)
            go_roundw
            case rel => exact ⟨i + 1, F, by go_num, by omega, m7, B7⟩
            case measure => simp [intOf]; omega
      · have d2 : decide ((200 : Int) < (Y : Int)) = false := decide_eq_false h2
        obtain ⟨F, hF⟩ : ∃ F, (putM 20 40 f (p : Int) (q : Int)).2.2 = F := ⟨_, rfl⟩
        obtain ⟨Z1, hZ1⟩ : ∃ Z, (putM 20 40 f (p : Int) (q : Int)).1 = Z := ⟨_, rfl⟩
        obtain ⟨Z2, hZ2⟩ : ∃ Z, (putM 20 40 f (p : Int) (q : Int)).2.1 = Z := ⟨_, rfl⟩
        have hd : Hid (∀ w', Below w.heap.size w w' → PM w' lo hi K 20 40 f → Calls Try.prog 11 #[.pointer (some ⟨K.G, 0, none⟩), .int .i64 (p : Int), .int .i64 (q : Int)] w' fun e w'' => e = .returned (.tuple #[.int .i64 Z1, .int .i64 Z2]) ∧ Below w.heap.size w w'' ∧ PM w'' lo hi K 20 40 F) := Lib.hid fun w' hb hm => put_lit hb hlo.out hm _ _ _ _ _ ⟨hZ1, hZ2, fun _ _ => by rw [hF]⟩
        clear hF hZ1 hZ2
        go_wp2_with fail
        refine Cl.region_way (fun _ => True) 15 [(0, .r), (1, .r), (2, .r), (3, .r), (4, .r), (5, .r), (6, .r), (7, .r), (8, .r), (9, .r), (10, .r), (11, .r), (12, .r), (13, .r), (14, .r), (15, .z)] (by kernel_rfl) (by kernel_rfl) ?_
        intro w3 hk3
        have B3 := Lib.hid (We.below_trans hBr.out (hk3.below))
        have m3 := Lib.hid (mr.out.below hk3.below)
        have t0 : ∀ y : Cl.Since (fun _ => True) w3, y.w.cell? (a.add (i * 2)) = some (.int .u8 (X : Int)) := fun y => (World.cell?_of_block (y.keeps.below.block _ (Nat.lt_of_lt_of_le (World.block_lt_of_cell? _ _ g0) hk3.size))).trans ((World.cell?_of_block (hk3.below.block _ (World.block_lt_of_cell? _ _ g0))).trans g0)
        have t1 : ∀ y : Cl.Since (fun _ => True) w3, y.w.cell? ⟨(a.add (i * 2)).block, (a.add (i * 2)).off + 1, none⟩ = some (.int .u8 (Y : Int)) := fun y => (World.cell?_of_block (a := ⟨(a.add (i * 2)).block, (a.add (i * 2)).off + 1, none⟩) (y.keeps.below.block _ (Nat.lt_of_lt_of_le (World.block_lt_of_cell? _ _ g1') hk3.size))).trans ((World.cell?_of_block (hk3.below.block _ (World.block_lt_of_cell? _ _ g1'))).trans g1')
        clear hk3 g0 g1' mr hBr
        iterate 15 (refine Cl.way_r rfl ?_; go_big_quiet_step (fail); refine wpQuiet_nil ?_)
        refine Cl.way_z rfl ?_
        have hd3 := Lib.hid (hd.out w3 B3.out m3.out)
        clear t0 t1 hd
        go_wp2_with (go_at_call 11; (with_reducible refine hd3.out.mono ?_); clear hd3; rintro e w6 ⟨rfl, B6, m6⟩; replace B6 := Lib.hid B6; replace m6 := Lib.hid m6; clear m3 B3)
        refine Cl.Calm.normal ?_
        go_wp2_with fail
        have hI6 := Lib.hid m6.out.inj
        have hF6 := Lib.hid m6.out.fine
        go_loopw [6, 7] (fun q r wq => ∃ p : Nat, q = .int .i64 ((pc (ownB F 20) p : Nat) : Int) ∧ r = .int .i64 (p : Int) ∧ p ≤ 40 ∧ Hid (PM wq lo hi K 20 40 F) ∧ Hid (Below w.heap.size w wq)) (fun _ r _ => 40 - (intOf r).toNat)
        case atStart => exact ⟨0, rfl, rfl, by decide, m6, B6⟩
        case round =>
          obtain ⟨p, rfl, rfl, hp40, mq, hBq⟩ := hrel
          clear m6 B6
          have hpl := pc_le (ownB F 20) p
          have hsu := pc_succ (ownB F 20) p
          unfold ownB at hsu
          obtain ⟨S, hS⟩ : ∃ S, pc (ownB F 20) p = S := ⟨_, rfl⟩
          by_cases hpi : p < 40
          · have d3 : decide ((p : Int) < 40) = true := decide_eq_true (by omega)
            cases how : ow F 20 (p : Int) with
            | none =>
              have hn : Hid (pc (ownB F 20) (p + 1) = S) := Lib.hid (by unfold ownB; rw [hsu, how]; unfold ownB at hS; rw [hS]; rfl)
              have hc := Lib.hid (owner_lit hBq.out mq.out (p : Int) 0 false (by rw [how]; rfl))
              rw [hS] at hpl ⊢
              replace hS := Lib.hid hS
              replace how := Lib.hid how
              clear hsu
              go_wp2_with (go_at_call 14; (with_reducible refine hc.out.mono ?_); clear hc; rintro e w7 ⟨rfl, B7, m7⟩; replace B7 := Lib.hid B7; replace m7 := Lib.hid m7; clear mq hBq)
              go_roundw
              case rel => exact ⟨p + 1, by rw [hn.out], by go_num, by omega, m7, B7⟩
              case measure => simp [intOf]; omega
            | some o =>
              have hn : Hid (pc (ownB F 20) (p + 1) = S + 1) := Lib.hid (by unfold ownB; rw [hsu, how]; unfold ownB at hS; rw [hS]; rfl)
              have hc := Lib.hid (owner_lit hBq.out mq.out (p : Int) (o : Int) true (by rw [how]; rfl))
              have hg := Lib.hid (get_own how)
              rw [hS] at hpl ⊢
              replace hS := Lib.hid hS
              replace how := Lib.hid how
              clear hsu
              go_wp2_with (go_at_call 14; (with_reducible refine hc.out.mono ?_); clear hc; rintro e w7 ⟨rfl, B7, m7⟩; replace B7 := Lib.hid B7; replace m7 := Lib.hid m7; clear mq hBq)
              have hc := Lib.hid (get_lit B7.out m7.out (o : Int) (p : Int) true hg.out)
              go_wp2_with (go_at_call 13; (with_reducible refine hc.out.mono ?_); clear hc; rintro e w8 ⟨rfl, B8, m8⟩; replace B8 := Lib.hid B8; replace m8 := Lib.hid m8; clear m7 B7)
              go_roundw
              case rel => exact ⟨p + 1, by rw [hn.out]; rfl, by go_num, by omega, m8, B8⟩
              case measure => simp [intOf]; omega
          · have hpe : p = 40 := by omega
            have d3 : decide ((p : Int) < 40) = false := decide_eq_false (by omega)
            have hs1 := own_lie hI6.out hF6.out
            rw [← hpe] at hs1
            have hs2 := count_all hF6.out
            rw [hS] at hs1
            rw [hS] at hpl ⊢
            have hc := Lib.hid (many_lit hBq.out mq.out (S : Int) (by rw [← hs1]))
            have hcc := Lib.hid (fun (w : World) (m : PM w lo hi K 20 40 F) => count_lit m 0 40 (S : Int) (by decide) (by rw [hs1, ← hs2]; rfl))
            replace hpe := Lib.hid hpe
            replace hs1 := Lib.hid hs1
            replace hs2 := Lib.hid hs2
            replace hS := Lib.hid hS
            clear hsu
            go_wp2_with (go_at_call 19; (with_reducible refine hc.out.mono ?_); clear hc; rintro e w7 ⟨rfl, B7, m7⟩; replace B7 := Lib.hid B7; replace m7 := Lib.hid m7; clear mq hBq)
            go_wp2_with (go_at_call 18; (with_reducible refine (hcc.out _ m7.out).mono ?_); clear hcc; rintro e w8 ⟨rfl, rfl⟩)
            go_roundw
            case rel => exact ⟨i + 1, F, by go_num, by omega, m7, B7⟩
            case measure => simp [intOf]; omega
    · obtain rfl : i = n := by omega
      have hdin : decide ((i : Int) < (i : Int)) = false := decide_eq_false (by omega)
      go_wp2_with fail
      go_ret
      exact ⟨rfl, hBr.out⟩
end Go.Proofs.Ytcnnmnjepofomaa.Lm

