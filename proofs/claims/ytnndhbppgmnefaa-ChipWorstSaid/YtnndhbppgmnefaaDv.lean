/- Small, of no deeds; the order in which pages are written. -/
import Derived.Test.YtnndhbppgmnefaaDs
namespace Go.Proofs.Ytnndhbppgmnefaa
open Go.RowKit
set_option linter.unusedVariables false
set_option linter.unusedSimpArgs false
attribute [local go_sem ↓] Cl.quiet_after Cl.quiet_since
theorem lex_small6 : (Cl.opsAt 6 (Try.f23.body.getD .skip)).map (Region.lexB .any) = some true := by kernel_rfl
theorem wrap_nat {n : Nat} (h : n ≤ 1000000000) : wrap64 (n : Int) = (n : Int) := IntWalk.wrap64_in _ (by omega)
set_option maxRecDepth 20000 in
set_option maxHeartbeats 4000000 in
theorem small_any {B P W K n : Nat} (hg : Ge.mayG B P W K = true) (hn : W * (K + 16) = n) {v : Bool} (hv : decide (B * P * n ≤ 20000) = v) (w : World) :
    Calls Try.prog 23 #[.agg #[.int .i64 (B : Int), .int .i64 (P : Int), .int .i64 (W : Int), .int .i64 (K : Int)], .slice none 0 0] w (Ans w (.bool v)) := by
  have hm := Ge.may_of hg
  have hbp : B * P ≤ 2048 := Nat.mul_le_mul (show B ≤ 64 by omega) (show P ≤ 32 by omega)
  have hn3 : n ≤ 320 := by rw [← hn]; exact Nat.mul_le_mul (show W ≤ 4 by omega) (show K + 16 ≤ 80 by omega)
  have hbn : B * P * n ≤ 655360 := Nat.mul_le_mul hbp hn3
  have hce : Ge.celG B P W K = (n : Int) := by
    unfold Ge.celG
    rw [if_pos hg, ← hn]
    simp
  have cm := Lib.hid (Ge.refmay_lit hg)
  have cc := Lib.hid (Ge.refcells_lit hce)
  obtain ⟨q, hq⟩ : ∃ q, B * P = q := ⟨_, rfl⟩
  have e1 : (B : Int) * (P : Int) = (q : Int) := by rw [← hq]; simp
  rw [hq] at hv hbp hbn
  obtain ⟨z, hz⟩ : ∃ z, q * n = z := ⟨_, rfl⟩
  have e2 : (q : Int) * (n : Int) = (z : Int) := by rw [← hz]; simp
  rw [hz] at hv hbn
  have w1 : wrap64 (q : Int) = (q : Int) := wrap_nat (by omega)
  have w2 : wrap64 (z : Int) = (z : Int) := wrap_nat (by omega)
  have d1 : decide ((z : Int) ≤ 20000) = v := by rw [← hv]; exact decide_eq_decide.2 (Int.ofNat_le (m := z) (n := 20000))
  have d2 : decide (z ≤ 20000) = v := hv
  have hA := below_alloc' w (.cells #[.int .i64 (B : Int), .int .i64 (P : Int), .int .i64 (W : Int), .int .i64 (K : Int)] 24)
  have hx := Lib.hid (Ge.Box.new w (B : Int) (P : Int) (W : Int) (K : Int))
  generalize hw1 : w.alloc (.cells #[.int .i64 (B : Int), .int .i64 (P : Int), .int .i64 (W : Int), .int .i64 (K : Int)] 24) = wb at *
  have k0 := fun x : Cl.After wb.heap.size wb => (hx.out.keep x.below).c0
  have k1 := fun x : Cl.After wb.heap.size wb => (hx.out.keep x.below).c1
  have k2 := fun x : Cl.After wb.heap.size wb => (hx.out.keep x.below).c2
  have k3 := fun x : Cl.After wb.heap.size wb => (hx.out.keep x.below).c3
  replace hA := Lib.hid hA
  clear hm hce hq hz hv hbp hbn hn3 hn hx
  go_enter Try.func23, Try.ntmps23
  go_wp2_with fail
  go_loopw [5, 6] (fun m q wr => m = .int .i64 0 ∧ q = .int .i64 0 ∧ wr = wb) (fun _ _ _ => 0)
  case atStart => exact ⟨rfl, rfl, rfl⟩
  case round =>
    obtain ⟨rfl, rfl, rfl⟩ := hrel
    go_wp2_with fail
    refine Cl.region_after_at wr.heap.size (by kernel_rfl) lex_small6 (by kernel_rfl) ?_
    try simp only [List.append]
    repeat (go_big_quiet_step (first
      | (go_at_call 22; with_reducible exact Ge.ans_of (Nat.le_refl _) (cm.out _))
      | (go_at_call 24; with_reducible exact Ge.ans_of (Nat.le_refl _) (cc.out _))))
    refine wpQuiet_nil ?_
    rintro _ ⟨x, rfl⟩
    go_wp2
    go_ret
    exact ⟨rfl, hA.out.trans (x.below.mono hA.out.size)⟩
/-- of each block the first nx pages are written, the others blank -/
structure OrdI (B P W K : Nat) (nx : Nat → Nat) (M : Dev) (i rf : Nat) : Prop where
  gB : M.B = B
  gP : M.P = P
  gW : M.W = W
  gK : M.K = K
  dark : M.dark = false
  ft : M.ft = []
  md : ∀ b, M.md b = false
  bk : ∀ b, M.bk b = false
  ops : M.ops = i
  rf : M.rf = rf
  er : ∀ b, M.er b ≤ i
  le : ∀ b, nx b ≤ P
  st : ∀ b j, j < P → ((M.pg b j).st = 0 ↔ nx b ≤ j)
theorem marks_nil (b : Nat) : marksOf [] 0 b = false := rfl
section
variable {B P W K b p i rf : Nat} {nx : Nat → Nat} {M : Dev}
theorem OrdI.start (B P W K : Nat) : OrdI B P W K (fun _ => 0) (freshD B P W K (marksOf [] 0) []) 0 0 :=
  ⟨rfl, rfl, rfl, rfl, rfl, rfl, fun _ => rfl, fun _ => rfl, rfl, rfl, fun _ => Nat.le_refl _, fun _ => Nat.zero_le _, fun b j hj => ⟨fun _ => Nat.zero_le _, fun _ => rfl⟩⟩
theorem OrdI.fine (h : OrdI B P W K nx M i rf) (hi : i ≤ 1000) (hr : rf ≤ i) : Fine M := ⟨by rw [h.ops]; omega, by rw [h.rf]; omega, fun b => by have := h.er b; omega⟩
theorem OrdI.none1 (h : OrdI B P W K nx M i rf) : (fateOf M).2.1 ≠ 1 := by rw [fateOf_nil h.ft]; decide
theorem OrdI.none2 (h : OrdI B P W K nx M i rf) : (fateOf M).2.1 ≠ 2 := by rw [fateOf_nil h.ft]; decide
theorem OrdI.erase (h : OrdI B P W K nx M i rf) (b : Nat) : ∃ M', stepD M 3 b 0 [] = (0, M') ∧ OrdI B P W K (putB nx b 0) M' (i + 1) rf := by
  refine ⟨_, st_erase h.dark (erasE_ok (h.md b) (h.bk b)) h.none1 h.none2, h.gB, h.gP, h.gW, h.gK, h.dark, h.ft, h.md, h.bk, by show M.ops + 1 = i + 1; rw [h.ops], h.rf, fun b' => ?_, fun b' => ?_, fun b' j hj => ?_⟩
  · show (if b' = b then M.er b + 1 else M.er b') ≤ i + 1
    split
    · have := h.er b; omega
    · have := h.er b'; omega
  · unfold putB
    split
    · exact Nat.zero_le _
    · exact h.le b'
  · show ((if b' = b ∧ j < M.P then blankPg M.n else M.pg b' j).st = 0 ↔ putB nx b 0 b' ≤ j)
    unfold putB
    by_cases e : b' = b
    · rw [if_pos ⟨e, by rw [h.gP]; exact hj⟩, if_pos e]
      exact ⟨fun _ => Nat.zero_le _, fun _ => rfl⟩
    · rw [if_neg (fun hh => e hh.1), if_neg e]
      exact h.st b' j hj
theorem OrdI.prog (h : OrdI B P W K nx M i rf) (hp : p = nx b) (hP : p < P) {xs : List Nat} (hx : xs.length = M.n) (hn : 0 < M.n) : ∃ M', stepD M 2 b p xs = (0, M') ∧ OrdI B P W K (putB nx b (nx b + 1)) M' (i + 1) rf := by
  have hnx : nextB M b p = true := nextB_yes (fun j hj hpj => (h.st b j (by rw [← h.gP]; exact hj)).2 (by omega)) (by
    by_cases h0 : p = 0
    · exact Or.inl h0
    · refine Or.inr fun e => ?_
      have := (h.st b (p - 1) (by omega)).1 e
      omega)
  refine ⟨_, st_prog h.dark (progE_ok (h.md b) hnx (h.bk b)) h.none1 h.none2, h.gB, h.gP, h.gW, h.gK, h.dark, h.ft, h.md, h.bk, by show M.ops + 1 = i + 1; rw [h.ops], h.rf, fun b' => ?_, fun b' => ?_, fun b' j hj => ?_⟩
  · show M.er b' ≤ i + 1
    have := h.er b'; omega
  · unfold putB
    split
    · omega
    · exact h.le b'
  · show ((setPg M.pg b p (progPg (M.pg b p) xs M.n) b' j).st = 0 ↔ putB nx b (nx b + 1) b' ≤ j)
    unfold putB setPg
    by_cases e : b' = b
    · subst e
      rw [if_pos rfl]
      by_cases ej : j = p
      · rw [if_pos ⟨rfl, ej⟩]
        have : (progPg (M.pg b' p) xs (M.n : Int)).st = 1 := by
          show progS xs.length (M.n : Int) = 1
          unfold progS
          rw [if_neg (by omega), if_pos (by omega)]
        rw [this]
        constructor
        · intro e; cases e
        · intro e; omega
      · rw [if_neg (fun hh => ej hh.2)]
        rw [h.st b' j hj]
        omega
    · rw [if_neg (fun hh => e hh.1), if_neg e]
      exact h.st b' j hj
theorem OrdI.bad (h : OrdI B P W K nx M i rf) (hp : p ≠ nx b) (hP : p < P) {xs : List Nat} : ∃ M', stepD M 2 b p xs = (5, M') ∧ OrdI B P W K nx M' (i + 1) (rf + 1) := by
  have hnx : nextB M b p = false := by
    rcases Nat.lt_or_ge p (nx b) with h1 | h1
    · exact nextB_used (j := p) (by rw [h.gP]; exact hP) (Nat.le_refl _) (fun e => by have := (h.st b p hP).1 e; omega)
    · exact nextB_gap (by omega) ((h.st b (p - 1) (by omega)).2 (by omega))
  refine ⟨_, st_prog_err (r := true) h.dark (progE_next (h.md b) hnx) (by decide) (by decide), h.gB, h.gP, h.gW, h.gK, h.dark, h.ft, h.md, h.bk, ?_, ?_, fun b' => ?_, h.le, h.st⟩
  · show M.ops + 1 = i + 1; rw [h.ops]
  · show M.rf + 1 = rf + 1; rw [h.rf]
  · show M.er b' ≤ i + 1
    have := h.er b'; omega
end
end Go.Proofs.Ytnndhbppgmnefaa
