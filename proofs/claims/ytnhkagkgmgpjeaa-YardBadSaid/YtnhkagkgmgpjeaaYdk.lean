/- THE PROGRAM's YARD: what lies; has, may, State, Erases walked. -/
import Derived.Test.YtnhkagkgmgpjeaaYdc
import Derived.Test.YtnhkagkgmgpjeaaTr
namespace Go.Proofs.Ytnhkagkgmgpjeaa.Yd
open Go.RowKit
set_option linter.unusedVariables false
set_option linter.unusedSimpArgs false
/-- block g is two cells -/
def B2 (w : World) (T : TypeId) (g : Nat) (x y : Value) : Prop := w.heap[g]? = some (.cells #[x, y] T (0, 0))
section
variable {w w' : World} {T : TypeId} {g : Nat} {x y : Value}
theorem B2.pv (h : B2 w T g x y) : We.PV w T g 2 (fun i => if i = 0 then x else y) := ⟨_, h, fun i hi => by
  match i, hi with
  | 0, _ => rfl
  | 1, _ => rfl⟩
theorem B2.lt (h : B2 w T g x y) : g < w.heap.size := h.pv.lt
theorem B2.c0 (h : B2 w T g x y) : w.cell? ⟨g, 0, none⟩ = some x := h.pv.cell (i := 0) (by decide)
theorem B2.c1 (h : B2 w T g x y) : w.cell? ⟨g, 1, none⟩ = some y := h.pv.cell (i := 1) (by decide)
theorem B2.keep (h : B2 w T g x y) (hb : w'.heap[g]? = w.heap[g]?) : B2 w' T g x y := hb.trans h
theorem B2.new (w : World) (T : TypeId) (x y : Value) : B2 (w.alloc (.cells #[x, y] T)) T w.heap.size x y := heap_alloc_new w _
end
/-- THE YARD of k blocks: its box in G, its states in g1, its erases in g2; its blocks lie from lo on below hi -/
structure YM (w : World) (lo hi G k : Nat) (st er : Nat → Int) (g1 g2 : Nat) : Prop where
  box : B2 w 46 G (.slice (some ⟨g1, 0, none⟩) k k) (.slice (some ⟨g2, 0, none⟩) k k)
  sts : We.PV w 3 g1 k (We.iF st)
  ers : We.PV w 3 g2 k (We.iF er)
  ne : g1 ≠ g2 ∧ g1 ≠ G ∧ g2 ≠ G
  rng : lo ≤ G ∧ G < hi ∧ lo ≤ g1 ∧ g1 < hi ∧ lo ≤ g2 ∧ g2 < hi
  le : k ≤ 64
def YP (w : World) (lo hi G k : Nat) (st er : Nat → Int) : Prop := ∃ g1 g2, YM w lo hi G k st er g1 g2
section
variable {w w' : World} {lo hi G k g1 g2 : Nat} {st er : Nat → Int}
theorem YM.keep (m : YM w lo hi G k st er g1 g2) (h : ∀ b, lo ≤ b → b < hi → b < w.heap.size → w'.heap[b]? = w.heap[b]?) : YM w' lo hi G k st er g1 g2 := by
  obtain ⟨r1, r2, r3, r4, r5, r6⟩ := m.rng
  exact ⟨m.box.keep (h G r1 r2 m.box.lt), m.sts.keep (h g1 r3 r4 m.sts.lt), m.ers.keep (h g2 r5 r6 m.ers.lt), m.ne, m.rng, m.le⟩
theorem YM.st_at (m : YM w lo hi G k st er g1 g2) {i : Nat} (h : i < k) : w.cell? ⟨g1, i, none⟩ = some (.int .i64 (st i)) := m.sts.cell h
theorem YM.er_at (m : YM w lo hi G k st er g1 g2) {i : Nat} (h : i < k) : w.cell? ⟨g2, i, none⟩ = some (.int .i64 (er i)) := m.ers.cell h
end
theorem where_ (k : Nat) (b : Int) : (decide (0 ≤ b) = false ∧ inB k b = false) ∨ (decide (0 ≤ b) = true ∧ decide (b < (k : Int)) = false ∧ inB k b = false) ∨ ∃ p : Nat, b = (p : Int) ∧ p < k ∧ decide (0 ≤ (p : Int)) = true ∧ decide ((p : Int) < (k : Int)) = true ∧ inB k (p : Int) = true := by
  by_cases h0 : 0 ≤ b
  · by_cases h1 : b < (k : Int)
    · refine Or.inr (Or.inr ⟨b.toNat, by omega, by omega, ?_, ?_, ?_⟩)
      · exact decide_eq_true (by omega)
      · exact decide_eq_true (by omega)
      · unfold inB; simp; omega
    · exact Or.inr (Or.inl ⟨decide_eq_true h0, decide_eq_false h1, by unfold inB; simp [h1]⟩)
  · exact Or.inl ⟨decide_eq_false h0, by unfold inB; simp [h0]⟩
set_option maxHeartbeats 1000000 in
theorem has_any {w : World} {lo hi G k g1 g2 : Nat} {st er : Nat → Int} (m : YM w lo hi G k st er g1 g2) (b : Int) :
    Calls Try.prog 19 #[.pointer (some ⟨G, 0, none⟩), .int .i64 b] w fun e w' => e = .returned (.bool (inB k b)) ∧ w = w' := by
  have c0 := m.box.c0
  clear m
  rcases where_ k b with ⟨d0, t⟩ | ⟨d0, d1, t⟩ | ⟨p, rfl, hp, d0, d1, t⟩
  · rw [t]
    replace t := Lib.hid t
    go_enter Try.func19, Try.ntmps19
    go_wp2_with fail
    go_ret
    exact ⟨rfl, rfl⟩
  · rw [t]
    replace t := Lib.hid t
    go_enter Try.func19, Try.ntmps19
    go_wp2_with fail
    go_ret
    exact ⟨rfl, rfl⟩
  · rw [t]
    replace t := Lib.hid t
    have d2 : decide (p < k) = true := decide_eq_true hp
    replace hp := Lib.hid hp
    go_enter Try.func19, Try.ntmps19
    go_wp2_with fail
    go_ret
    exact ⟨rfl, rfl⟩
set_option maxHeartbeats 1000000 in
theorem state_any {w : World} {lo hi G k g1 g2 : Nat} {st er : Nat → Int} (m : YM w lo hi G k st er g1 g2) (b : Int) :
    Calls Try.prog 13 #[.pointer (some ⟨G, 0, none⟩), .int .i64 b] w fun e w' => e = .returned (.int .i64 (at_ k st b)) ∧ w = w' := by
  have hc := has_any m b
  unfold at_
  cases hin : inB k b
  · rw [hin] at hc
    replace hc := Lib.hid hc
    clear m hin
    simp only [Bool.false_eq_true, if_false]
    go_enter Try.func13, Try.ntmps13
    go_wp2_with (go_at_call 19; (with_reducible refine hc.out.mono ?_); rintro e w1 ⟨rfl, rfl⟩)
    go_ret
    exact ⟨rfl, rfl⟩
  · rw [hin] at hc
    replace hc := Lib.hid hc
    obtain ⟨p, rfl, hp⟩ : ∃ p : Nat, b = (p : Int) ∧ p < k := by
      rcases where_ k b with ⟨_, t⟩ | ⟨_, _, t⟩ | ⟨p, e, hp, _⟩
      · rw [t] at hin; cases hin
      · rw [t] at hin; cases hin
      · exact ⟨p, e, hp⟩
    simp only [if_true, Int.toNat_natCast]
    have c0 := m.box.c0
    have c1 := m.st_at hp
    have hpI : (p : Int) < (k : Int) := by omega
    clear m hin hp
    obtain ⟨S, hS⟩ : ∃ S, st p = S := ⟨_, rfl⟩
    rw [hS] at c1 ⊢
    clear hS
    go_enter Try.func13, Try.ntmps13
    go_wp2_with (go_at_call 19; (with_reducible refine hc.out.mono ?_); rintro e w1 ⟨rfl, rfl⟩)
    go_ret
    exact ⟨rfl, rfl⟩
set_option maxHeartbeats 1000000 in
theorem erases_any {w : World} {lo hi G k g1 g2 : Nat} {st er : Nat → Int} (m : YM w lo hi G k st er g1 g2) (b : Int) :
    Calls Try.prog 14 #[.pointer (some ⟨G, 0, none⟩), .int .i64 b] w fun e w' => e = .returned (.int .i64 (at_ k er b)) ∧ w = w' := by
  have hc := has_any m b
  unfold at_
  cases hin : inB k b
  · rw [hin] at hc
    replace hc := Lib.hid hc
    clear m hin
    simp only [Bool.false_eq_true, if_false]
    go_enter Try.func14, Try.ntmps14
    go_wp2_with (go_at_call 19; (with_reducible refine hc.out.mono ?_); rintro e w1 ⟨rfl, rfl⟩)
    go_ret
    exact ⟨rfl, rfl⟩
  · rw [hin] at hc
    replace hc := Lib.hid hc
    obtain ⟨p, rfl, hp⟩ : ∃ p : Nat, b = (p : Int) ∧ p < k := by
      rcases where_ k b with ⟨_, t⟩ | ⟨_, _, t⟩ | ⟨p, e, hp, _⟩
      · rw [t] at hin; cases hin
      · rw [t] at hin; cases hin
      · exact ⟨p, e, hp⟩
    simp only [if_true, Int.toNat_natCast]
    have c0 := m.box.c1
    have c1 := m.er_at hp
    have hpI : (p : Int) < (k : Int) := by omega
    clear m hin hp
    obtain ⟨S, hS⟩ : ∃ S, er p = S := ⟨_, rfl⟩
    rw [hS] at c1 ⊢
    clear hS
    go_enter Try.func14, Try.ntmps14
    go_wp2_with (go_at_call 19; (with_reducible refine hc.out.mono ?_); rintro e w1 ⟨rfl, rfl⟩)
    go_ret
    exact ⟨rfl, rfl⟩
set_option maxHeartbeats 4000000 in
theorem may_any (w : World) (a b : Int) : Calls Try.prog 20 #[.int .i64 a, .int .i64 b] w fun e w' => e = .returned (.bool (turns a b)) ∧ w = w' := by
  rw [show turns a b = ((a == 1) && (b == 2) || (a == 2) && (b == 3) || (a == 3) && (b == 1) || (decide (1 ≤ a) && decide (a < 4)) && (b == 4)) by unfold turns; rw [Bool.eq_iff_iff]; simp]
  rcases (show a = 1 ∨ a = 2 ∨ a = 3 ∨ (a ≠ 1 ∧ a ≠ 2 ∧ a ≠ 3) by omega) with rfl | rfl | rfl | ⟨h1, h2, h3⟩
  · cases b2 : (b == 2) <;> cases b4 : (b == 4) <;>
    · go_enter Try.func20, Try.ntmps20
      go_wp2_with fail
      go_ret
      exact ⟨by simp, rfl⟩
  · cases b3 : (b == 3) <;> cases b4 : (b == 4) <;>
    · go_enter Try.func20, Try.ntmps20
      go_wp2_with fail
      go_ret
      exact ⟨by simp, rfl⟩
  · cases b1 : (b == 1) <;> cases b4 : (b == 4) <;>
    · go_enter Try.func20, Try.ntmps20
      go_wp2_with fail
      go_ret
      exact ⟨by simp, rfl⟩
  · have a1 : (a == 1) = false := by simpa using h1
    have a2 : (a == 2) = false := by simpa using h2
    have a3 : (a == 3) = false := by simpa using h3
    have a4 : (decide (1 ≤ a) && decide (a < 4)) = false := by simp; omega
    rw [a1, a2, a3, a4]
    clear h1 h2 h3 a4
    go_enter Try.func20, Try.ntmps20
    go_wp2_with fail
    go_ret
    exact ⟨by simp, rfl⟩
end Go.Proofs.Ytnhkagkgmgpjeaa.Yd
