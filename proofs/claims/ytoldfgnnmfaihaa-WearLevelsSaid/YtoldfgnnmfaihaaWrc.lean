/- Pick, Victim, Gap walked. -/
import Derived.Test.YtoldfgnnmfaihaaWrb
namespace Go.Proofs.Ytoldfgnnmfaihaa.We
open Go.RowKit
set_option linter.unusedVariables false
set_option linter.unusedSimpArgs false

/-- the lesser of two lengths -/
def mn (n m : Nat) : Nat := if m < n then m else n
theorem mn_le (n m : Nat) : mn n m ≤ n ∧ mn n m ≤ m := by unfold mn; split <;> omega
theorem SF.boxed {w : World} {A : Option Addr} {n : Nat} {f : Nat → Value} (h : SF w w.heap.size A n f) (o : Obj) : SF (w.alloc o) (w.alloc o).heap.size A n f := h.far (below_alloc w o)
set_option maxHeartbeats 2000000 in
theorem pick_any (A : Option Addr) (n c : Nat) (e : Nat → Int) (B : Option Addr) (m d : Nat) (μ : Nat → Bool) (w : World) (hs : SF w w.heap.size A n (iF e)) (hm : SF w w.heap.size B m (bF μ)) (h62 : n ≤ 4611686018427387904) :
    Calls Try.prog 9 #[.slice A n c, .slice B m d] w (Ans w (.tuple #[.int .i64 (((fst μ (lo e) (mn n m)).getD 0 : Nat) : Int), .bool (fst μ (lo e) (mn n m)).isSome])) := by
  have hk : AheadIs 15 #[.pointer (some ⟨w.heap.size, 0, none⟩)] (mn n m) (lo e) (w.alloc (.cells #[.slice A n c] 22)) := fun w2 hb a b ha hb2 =>
    pick1_any w.heap.size A n c e w2 ((hb.cell (by rw [World.size_alloc]; exact Nat.lt_succ_self _)).trans (cell_box w _ _)) ((hs.boxed _).far hb) a b (Nat.lt_of_lt_of_le ha (mn_le n m).1) (Nat.lt_of_lt_of_le hb2 (mn_le n m).1)
  have hc := Lib.hid (first_pick _ (mn n m) (lo e) n B m d μ (w.alloc (.cells #[.slice A n c] 22)) (hm.boxed _) rfl (Nat.le_trans (mn_le n m).1 h62) hk)
  have hA := Lib.hid (below_alloc w (.cells #[.slice A n c] 22))
  clear hk hs hm
  go_enter Try.func9, Try.ntmps9
  go_wp2_with (go_at_call 14; (with_reducible refine hc.out.mono ?_); rintro e w1 ⟨rfl, hb1⟩; have hb1 := Lib.hid (below_trans hA.out hb1))
  go_ret2
  exact ⟨rfl, hb1.out⟩
set_option maxHeartbeats 2000000 in
theorem victim_any (A : Option Addr) (n c : Nat) (v : Nat → Int) (A' : Option Addr) (n' c' : Nat) (e : Nat → Int) (B : Option Addr) (m d : Nat) (μ : Nat → Bool) (w : World) (hs : SF w w.heap.size A n (iF v)) (hs' : SF w w.heap.size A' n' (iF e)) (hm : SF w w.heap.size B m (bF μ)) (h62 : n ≤ 4611686018427387904) :
    Calls Try.prog 11 #[.slice A n c, .slice A' n' c', .slice B m d] w (Ans w (.tuple #[.int .i64 (((fst μ (lx v e) (mn (mn n n') m)).getD 0 : Nat) : Int), .bool (fst μ (lx v e) (mn (mn n n') m)).isSome])) := by
  obtain ⟨w1, hw1⟩ : ∃ w1, w1 = w.alloc (.cells #[.slice A n c] 22) := ⟨_, rfl⟩
  have hz1 : w1.heap.size = w.heap.size + 1 := by rw [hw1, World.size_alloc]
  have hA1 : Below w.heap.size w w1 := by rw [hw1]; exact below_alloc w _
  have hA2 := below_alloc w1 (.cells #[.slice A' n' c'] 22)
  have hc1 : (w1.alloc (.cells #[.slice A' n' c'] 22)).cell? ⟨w.heap.size, 0, none⟩ = some (.slice A n c) := (hA2.cell (by show w.heap.size < _; omega)).trans (by rw [hw1]; exact cell_box w _ _)
  have hc2 : (w1.alloc (.cells #[.slice A' n' c'] 22)).cell? ⟨w.heap.size + 1, 0, none⟩ = some (.slice A' n' c') := by rw [← hz1]; exact cell_box w1 _ _
  have hz2 : (w1.alloc (.cells #[.slice A' n' c'] 22)).heap.size = w.heap.size + 2 := by rw [World.size_alloc]; omega
  have hk : AheadIs 16 #[.pointer (some ⟨w.heap.size, 0, none⟩), .pointer (some ⟨w.heap.size + 1, 0, none⟩)] (mn (mn n n') m) (lx v e) (w1.alloc (.cells #[.slice A' n' c'] 22)) := fun w2 hb a b ha hb2 => by
    have h1 := mn_le n n'
    have h2 := mn_le (mn n n') m
    exact victim1_any w.heap.size (w.heap.size + 1) A A' n n' c c' v e w2 ((hb.cell (by show w.heap.size < _; omega)).trans hc1) ((hb.cell (by show w.heap.size + 1 < _; omega)).trans hc2)
      (((hs.far hA1).far hA2).far hb) (((hs'.far hA1).far hA2).far hb) a b (by omega) (by omega) (by omega) (by omega)
  have h62' : mn (mn n n') m ≤ 4611686018427387904 := Nat.le_trans (Nat.le_trans (mn_le _ _).1 (mn_le _ _).1) h62
  have hc := first_victim _ _ (mn (mn n n') m) (lx v e) (mn n n') B m d μ (w1.alloc (.cells #[.slice A' n' c'] 22)) ((hm.far hA1).far hA2) rfl h62' hk
  have hA := Lib.hid (below_trans hA1 hA2)
  have hmin : (if n' < n then (n' : Int) else (n : Int)) = (mn n n' : Nat) := by unfold mn; split <;> rfl
  subst hw1
  replace hc := Lib.hid hc
  clear hk hs hs' hm hA1 hA2 hc1 hc2 hz1 hz2 h62'
  go_enter Try.func11, Try.ntmps11
  go_wp2_with (go_at_call 14; (with_reducible refine hc.out.mono ?_); rintro e w1 ⟨rfl, hb1⟩; have hb1 := Lib.hid (below_trans hA.out hb1))
  go_ret2
  exact ⟨rfl, hb1.out⟩
set_option maxHeartbeats 2000000 in
theorem gap_any (A : Option Addr) (n c : Nat) (e : Nat → Int) (B : Option Addr) (m d : Nat) (μ : Nat → Bool) (w : World) (hs : SF w w.heap.size A n (iF e)) (hm : SF w w.heap.size B m (bF μ)) (h62 : n ≤ 4611686018427387904) :
    Calls Try.prog 13 #[.slice A n c, .slice B m d] w (Ans w (.int .i64 (wrap64 (gapF e μ (mn n m))))) := by
  have hc0 := pick_any A n c e B m d μ (w.alloc (.cells #[.slice A n c] 22)) (hs.boxed _) (hm.boxed _) h62
  have hA := below_alloc w (.cells #[.slice A n c] 22)
  have hbox := cell_box w (.slice A n c) 22
  have hk : ∀ w1, Below (w.alloc (.cells #[.slice A n c] 22)).heap.size (w.alloc (.cells #[.slice A n c] 22)) w1 → w1.cell? ⟨w.heap.size, 0, none⟩ = some (.slice A n c) := fun w1 hb => (hb.cell (by rw [World.size_alloc]; exact Nat.lt_succ_self _)).trans hbox
  have hfar : ∀ w1, Below (w.alloc (.cells #[.slice A n c] 22)).heap.size (w.alloc (.cells #[.slice A n c] 22)) w1 → SF w1 w1.heap.size A n (iF e) ∧ SF w1 w1.heap.size B m (bF μ) := fun w1 hb => ⟨(hs.boxed _).far hb, (hm.boxed _).far hb⟩
  have hNn := (mn_le n m).1
  cases hp : fst μ (lo e) (mn n m) with
  | none =>
    rw [gap_none hp, show wrap64 0 = 0 from IntWalk.wrap64_in _ (by omega)]
    rw [hp] at hc0
    replace hc0 := Lib.hid hc0
    replace hA := Lib.hid hA
    clear hk hfar hs hm hbox hp
    go_enter Try.func13, Try.ntmps13
    go_wp2_with (go_at_call 9; (with_reducible refine hc0.out.mono ?_); rintro e w1 ⟨rfl, hb1⟩; have hb1 := Lib.hid (below_trans hA.out hb1))
    go_ret
    exact ⟨rfl, hb1.out⟩
  | some a =>
    obtain ⟨b, hq⟩ := hi_of_lo hp
    rw [gap_some hp hq]
    rw [hp] at hc0
    have ha := (fst_lt hp).1
    have hb := (fst_lt hq).1
    replace hc0 := Lib.hid hc0
    replace hA := Lib.hid hA
    have haI : (a : Int) < (n : Int) := by omega
    have hbI : (b : Int) < (n : Int) := by omega
    have hc1 : Hid (∀ w1, Below (w.alloc (.cells #[.slice A n c] 22)).heap.size (w.alloc (.cells #[.slice A n c] 22)) w1 → Calls Try.prog 14 #[.int .i64 (n : Int), .slice B m d, .func (.func 17) #[] #[.pointer (some ⟨w.heap.size, 0, none⟩)]] w1 (Ans w1 (.tuple #[.int .i64 (b : Int), .bool true]))) := Lib.hid (fun w1 h1 => by
      have := first_gap (.pointer (some ⟨w.heap.size, 0, none⟩)) (mn n m) (hi e) n B m d μ w1 (hfar w1 h1).2 rfl (Nat.le_trans hNn h62) (fun w2 h2 a b ha hb => gap1_any w.heap.size A n c e w2 (hk w2 (below_trans h1 h2)) (hfar w2 (below_trans h1 h2)).1 a b (by omega) (by omega))
      rw [hq] at this
      exact this)
    have hld : Hid (∀ w1, Below (w.alloc (.cells #[.slice A n c] 22)).heap.size (w.alloc (.cells #[.slice A n c] 22)) w1 → ∃ p, A = some p ∧ w1.cell? (p.add a) = some (.int .i64 (e a)) ∧ w1.cell? (p.add b) = some (.int .i64 (e b))) := Lib.hid (fun w1 h1 => by
      obtain ⟨p, hp, _, c0⟩ := (hfar w1 h1).1.at_ (i := a) (by omega)
      obtain ⟨q, hq, _, c1⟩ := (hfar w1 h1).1.at_ (i := b) (by omega)
      rw [hp] at hq
      injection hq with hq
      subst hq
      exact ⟨p, hp, c0, c1⟩)
    obtain ⟨X, hX⟩ : ∃ X, e a = X := ⟨_, rfl⟩
    obtain ⟨Y, hY⟩ : ∃ Y, e b = Y := ⟨_, rfl⟩
    rw [hX, hY] at hld ⊢
    replace hk := Lib.hid hk
    clear hfar hs hm hp hq hX hY
    go_enter Try.func13, Try.ntmps13
    go_wp2_with (go_at_call 9; (with_reducible refine hc0.out.mono ?_); rintro e w1 ⟨rfl, hb1⟩; have hbx := hk.out w1 hb1; have hc2 := Lib.hid (hc1.out w1 hb1); have hb1 := Lib.hid hb1)
    refine hc2.out.mono ?_
    rintro e w2 ⟨rfl, hb2⟩
    have hby := hk.out w2 (below_trans hb1.out hb2)
    obtain ⟨p, rfl, c0, c1⟩ := hld.out w2 (below_trans hb1.out hb2)
    have hB := Lib.hid (below_trans hA.out (below_trans hb1.out hb2))
    clear hc2 hc1 hld hk hc0 hb1 hbx hb2
    dsimp only
    go_wp2_with fail
    go_quiet (fail)
    go_wp2_with fail
    go_ret
    exact ⟨rfl, below_trans hB.out (below_drewN _ _)⟩
end Go.Proofs.Ytoldfgnnmfaihaa.We
