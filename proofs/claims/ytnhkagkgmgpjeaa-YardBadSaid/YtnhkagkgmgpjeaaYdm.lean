/- New walked. -/
import Derived.Test.YtnhkagkgmgpjeaaYdl
import Derived.Deep.CutRange
namespace Go.Proofs.Ytnhkagkgmgpjeaa.Yd
open Go.RowKit
set_option linter.unusedVariables false
set_option linter.unusedSimpArgs false
attribute [local go_sem ↓] Cl.quiet_since
theorem YM.congr {w : World} {lo hi G k g1 g2 : Nat} {st er : Nat → Int} (m : YM w lo hi G k st er g1 g2) {st' : Nat → Int} (h : ∀ j, j < k → st j = st' j) : YM w lo hi G k st' er g1 g2 :=
  ⟨m.box, m.sts.congr fun j hj => by unfold We.iF; rw [h j hj], m.ers, m.ne, m.rng, m.le⟩
theorem YM.more {w : World} {lo hi G k g1 g2 : Nat} {st er : Nat → Int} (m : YM w lo hi G k st er g1 g2) {hi' : Nat} (h : hi ≤ hi') : YM w lo hi' G k st er g1 g2 := by
  obtain ⟨r1, r2, r3, r4, r5, r6⟩ := m.rng
  exact ⟨m.box, m.sts, m.ers, m.ne, ⟨r1, by omega, r3, by omega, r5, by omega⟩, m.le⟩
theorem YM.new {w4 : World} {k g1 g2 lo : Nat} (hk : k ≤ 64) (h1 : We.PV w4 3 g1 k (We.iF fun _ => 0)) (h2 : We.PV w4 3 g2 k (We.iF fun _ => 0)) (hne : g1 ≠ g2) (l1 : lo ≤ g1) (l2 : lo ≤ g2) :
    YM (w4.alloc (.cells #[.slice (some ⟨g1, 0, none⟩) k k, .slice (some ⟨g2, 0, none⟩) k k] 46)) lo (w4.heap.size + 1) w4.heap.size k (fun _ => 0) (fun _ => 0) g1 g2 := by
  have hb := We.below_alloc w4 (.cells #[.slice (some ⟨g1, 0, none⟩) k k, .slice (some ⟨g2, 0, none⟩) k k] 46)
  have a1 := h1.lt
  have a2 := h2.lt
  exact ⟨B2.new _ _ _ _, h1.below hb, h2.below hb, ⟨hne, by omega, by omega⟩, by omega, hk⟩
set_option maxHeartbeats 4000000 in
theorem new_any (w : World) (n : Int) (k : Nat) (hk : k = (min (max n 0) 64).toNat) :
    Calls Try.prog 9 #[.int .i64 n] w fun e w' => ∃ G, e = .returned (.pointer (some ⟨G, 0, none⟩)) ∧ Below w.heap.size w w' ∧ YP w' w.heap.size w'.heap.size G k (fun _ => 1) (fun _ => 0) := by
  obtain ⟨X, hX⟩ : ∃ X, max n 0 = X := ⟨_, rfl⟩
  rw [hX] at hk
  have m1 : (if n < 0 then 0 else n) = X := by omega
  have m2 : (if 0 ≤ n then n else 0) = X := by omega
  have m3 : (if 64 < X then 64 else X) = (k : Int) := by omega
  have m4 : (if X ≤ 64 then X else 64) = (k : Int) := by omega
  have hk2 : k ≤ 64 := by omega
  have hk3 := Lib.hid hk2
  clear hk hX hk2
  have mk := Lib.hid (fun w => We.run_makeI w k (by have := hk3.out; omega))
  go_enter Try.func9, Try.ntmps9
  go_wp2_with fail
  clear m1 m2 m3 m4
  go_cut [3] from 8 to 13 (fun y wx => ∃ G g1 g2, y = .pointer (some ⟨G, 0, none⟩) ∧ Hid (YM wx w.heap.size wx.heap.size G k (fun _ => 0) (fun _ => 0) g1 g2) ∧ Hid (Below w.heap.size w wx))
  case first =>
    refine Cl.region_tree (fun _ => True) 7 (.r 0 <| .r 2 <| .b 1 3 (.c 3 <| .r 4 <| .c 5 <| .r 6 <| .e) (.c 1 <| .r 4 <| .c 5 <| .r 6 <| .e)) (by kernel_rfl) (by kernel_rfl) ?_
    intro w6 hk6
    have B6 := Lib.hid (Cl.Keeps.below hk6)
    have S6 := Lib.hid hk6.size
    clear hk6
    iterate 2 (refine Cl.tree_r rfl ?_; go_big_quiet_step (fail); refine wpQuiet_nil ?_)
    refine Cl.tree_b rfl rfl ?_ ?_
    · have mk6 := mk.out w6
      go_wp2_with fail
      refine Cl.way_on (Cl.Keeps.of_below (We.below_alloc _ _)) ?_
      have p1 := We.PV.ints w6 k
      have b1 := We.below_alloc w6 (.cells (We.zI k) 3)
      have s7 : (w6.alloc (.cells (We.zI k) 3)).heap.size = w6.heap.size + 1 := World.size_alloc _ _
      have B7 := Lib.hid (We.below_trans B6.out b1)
      replace p1 := Lib.hid p1
      replace s7 := Lib.hid s7
      clear b1 mk6 B6
      generalize w6.alloc (.cells (We.zI k) 3) = w7 at *
      refine Cl.tree_c rfl ?_
      have mk7 := mk.out w7
      go_wp2_with fail
      refine Cl.way_on (Cl.Keeps.of_below (We.below_alloc _ _)) ?_
      have p2 := We.PV.ints w7 k
      have b2 := We.below_alloc w7 (.cells (We.zI k) 3)
      have B8 := Lib.hid (We.below_trans B7.out b2)
      replace p1 := Lib.hid (p1.out.below b2)
      replace p2 := Lib.hid p2
      clear b2 mk7 B7
      generalize w7.alloc (.cells (We.zI k) 3) = w8 at *
      refine Cl.tree_r rfl ?_
      go_big_quiet_step (fail)
      refine wpQuiet_nil ?_
      refine Cl.tree_c rfl ?_
      go_wp2_with fail
      refine Cl.way_on (Cl.Keeps.of_below (We.below_alloc _ _)) ?_
      refine Cl.tree_r rfl ?_
      go_big_quiet_step (fail)
      refine wpQuiet_nil ?_
      refine Cl.tree_e ?_
      go_wp2_with fail
      go_meet
      exact ⟨w8.heap.size, w6.heap.size, w7.heap.size, rfl, Lib.hid (by rw [World.size_alloc]; exact YM.new hk3.out p1.out p2.out (by have := s7.out; omega) (by have := s7.out; have := S6.out; omega) (by have := s7.out; have := S6.out; omega)), Lib.hid (We.below_trans B8.out (We.below_alloc _ _))⟩
    · have mk6 := mk.out w6
      go_wp2_with fail
      refine Cl.way_on (Cl.Keeps.of_below (We.below_alloc _ _)) ?_
      have p1 := We.PV.ints w6 k
      have b1 := We.below_alloc w6 (.cells (We.zI k) 3)
      have s7 : (w6.alloc (.cells (We.zI k) 3)).heap.size = w6.heap.size + 1 := World.size_alloc _ _
      have B7 := Lib.hid (We.below_trans B6.out b1)
      replace p1 := Lib.hid p1
      replace s7 := Lib.hid s7
      clear b1 mk6 B6
      generalize w6.alloc (.cells (We.zI k) 3) = w7 at *
      refine Cl.tree_c rfl ?_
      have mk7 := mk.out w7
      go_wp2_with fail
      refine Cl.way_on (Cl.Keeps.of_below (We.below_alloc _ _)) ?_
      have p2 := We.PV.ints w7 k
      have b2 := We.below_alloc w7 (.cells (We.zI k) 3)
      have B8 := Lib.hid (We.below_trans B7.out b2)
      replace p1 := Lib.hid (p1.out.below b2)
      replace p2 := Lib.hid p2
      clear b2 mk7 B7
      generalize w7.alloc (.cells (We.zI k) 3) = w8 at *
      refine Cl.tree_r rfl ?_
      go_big_quiet_step (fail)
      refine wpQuiet_nil ?_
      refine Cl.tree_c rfl ?_
      go_wp2_with fail
      refine Cl.way_on (Cl.Keeps.of_below (We.below_alloc _ _)) ?_
      refine Cl.tree_r rfl ?_
      go_big_quiet_step (fail)
      refine wpQuiet_nil ?_
      refine Cl.tree_e ?_
      go_wp2_with fail
      go_meet
      exact ⟨w8.heap.size, w7.heap.size, w6.heap.size, rfl, Lib.hid (by rw [World.size_alloc]; exact YM.new hk3.out p2.out p1.out (by have := s7.out; omega) (by have := s7.out; have := S6.out; omega) (by have := s7.out; have := S6.out; omega)), Lib.hid (We.below_trans B8.out (We.below_alloc _ _))⟩
  case rest =>
    obtain ⟨G, g1, g2, rfl, M, B⟩ := hcut
    clear mk
    have c0 := M.out.box.c0
    go_wp2_with fail
    go_loopw [19] (fun q wr => ∃ (i : Nat) (f : Nat → Int), q = .int .i64 (i : Int) ∧ i ≤ k ∧ Hid (∀ j, j < i → f j = 1) ∧ Hid (YM wr w.heap.size wr.heap.size G k f (fun _ => 0) g1 g2) ∧ Hid (Below w.heap.size w wr)) (fun q _ => k - (intOf q).toNat)
    case atStart => exact ⟨0, _, rfl, Nat.zero_le _, Lib.hid (fun j hj => absurd hj (Nat.not_lt_zero _)), M, B⟩
    case round =>
      obtain ⟨i, f, rfl, hi, hf, M, B⟩ := hrel
      by_cases hik : i < k
      · have hikI : (i : Int) < (k : Int) := by omega
        have d1 : decide ((i : Int) < (k : Int)) = true := decide_eq_true hikI
        have c0 := M.out.box.c0
        have c1 := M.out.st_at hik
        have f1 := M.out.sts.frozen i
        have M2 := Lib.hid (M.out.put_st i 1)
        have B2 := Lib.hid (Yd.below_out B.out (Nat.le_refl _) M2.out.1)
        have S2 : (wr.setCell ⟨g1, i, none⟩ (.int .i64 1)).heap.size = wr.heap.size := by simp [World.setCell]
        have M3 := Lib.hid (show YM (wr.setCell ⟨g1, i, none⟩ (.int .i64 1)) w.heap.size (wr.setCell ⟨g1, i, none⟩ (.int .i64 1)).heap.size G k (lay f (i : Int) 1) (fun _ => 0) g1 g2 by rw [S2]; exact M2.out.2)
        have hf2 := Lib.hid (show ∀ j, j < i + 1 → lay f (i : Int) 1 j = 1 from fun j hj => by
          unfold lay
          split
          · rfl
          · exact hf.out j (by omega))
        clear M2 M B S2 hf
        have hi1 : wrap64 ((i : Int) + 1) = ((i + 1 : Nat) : Int) := by have := hk3.out; rw [IntWalk.wrap64_in _ (by omega)]; omega
        go_wp2_with fail
        go_roundw
        case rel => exact ⟨i + 1, lay f (i : Int) 1, by rw [hi1], by omega, hf2, M3, B2⟩
        case measure => rw [hi1]; simp only [intOf, Int.toNat_natCast]; omega
      · obtain rfl : i = k := by omega
        have d1 : decide ((i : Int) < (i : Int)) = false := decide_eq_false (by omega)
        go_wp2_with fail
        go_ret
        exact ⟨G, rfl, B.out, g1, g2, M.out.congr fun j hj => hf.out j hj⟩
end Go.Proofs.Ytnhkagkgmgpjeaa.Yd
