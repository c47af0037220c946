/- The device: Marked, Sense, and what is no operation but for Worst. -/
import Derived.Test.YtnndhbppgmnefaaDi
import Derived.Laws.ResultCell
import Derived.Laws.Rows
namespace Go.Proofs.Ytnndhbppgmnefaa
open Go.RowKit Go.Gf Go.Fl
set_option linter.unusedVariables false
set_option linter.unusedSimpArgs false
attribute [local go_sem ↓] Cl.quiet_after Cl.quiet_since
theorem carryR_geo (M : Dev) (k : Int) (b p : Nat) (xs : List Nat) (x : Int × Int × Int) : (carryR M k b p xs x).2.B = M.B ∧ (carryR M k b p xs x).2.P = M.P ∧ (carryR M k b p xs x).2.W = M.W ∧ (carryR M k b p xs x).2.K = M.K ∧ (carryR M k b p xs x).2.ft = M.ft := by
  unfold carryR
  split
  · exact ⟨rfl, rfl, rfl, rfl, rfl⟩
  · split
    · unfold erasR
      split
      · exact ⟨rfl, rfl, rfl, rfl, rfl⟩
      · split <;> exact ⟨rfl, rfl, rfl, rfl, rfl⟩
    · split
      · dsimp only
        split <;> exact ⟨rfl, rfl, rfl, rfl, rfl⟩
      · exact ⟨rfl, rfl, rfl, rfl, rfl⟩
theorem stepD_geo (M : Dev) (k : Int) (b p : Nat) (xs : List Nat) : (stepD M k b p xs).2.B = M.B ∧ (stepD M k b p xs).2.P = M.P ∧ (stepD M k b p xs).2.W = M.W ∧ (stepD M k b p xs).2.K = M.K ∧ (stepD M k b p xs).2.ft = M.ft := by
  unfold stepD opR
  split
  · exact ⟨rfl, rfl, rfl, rfl, rfl⟩
  · split
    · split
      · exact carryR_geo _ _ _ _ _ _
      · exact carryR_geo _ _ _ _ _ _
    · split <;> exact ⟨rfl, rfl, rfl, rfl, rfl⟩
theorem n_pos {M : Dev} (h : Ge.mayG M.B M.P M.W M.K = true) : 0 < M.n := by
  have h1 := Ge.may_of h
  have := Nat.mul_le_mul (show 1 ≤ M.W by omega) (show 17 ≤ M.K + 16 by omega)
  unfold Dev.n
  omega
section
variable {w : World} {F : Nat → Prop} {a : Addr} {M : Dev}
set_option maxHeartbeats 2000000 in
theorem d_marked (h : Chip w F a M) (hF : ∀ b, w.heap.size ≤ b → F b) (hf : Fine M) {b : Nat} (hb : b < M.B) (hp : 0 < M.P) :
    Calls Try.prog 16 #[.pointer (some a), .int .i64 (b : Int)] w fun e w' => e = .returned (.tuple #[.bool (decide ((stepD M 5 b 0 []).1 = 0) && (stepD M 5 b 0 []).2.md b), .int .i64 (stepD M 5 b 0 []).1]) ∧ Cl.Keeps (fun b' => ¬ F b') w w' ∧ Chip w' F a (stepD M 5 b 0 []).2 := by
  obtain ⟨L, rfl, h⟩ := h
  have ho := operate_any h hF hf 5 hb hp none 0 0 (xs := []) fun e => absurd e (by decide)
  rw [Int.natCast_zero] at ho
  replace ho := Lib.hid ho
  have hB := (stepD_geo M 5 b 0 []).1
  have hb64 : b < 64 := by obtain ⟨o, h⟩ := h; have := Ge.may_of h.geo; omega
  have hbI : (b : Int) < (M.B : Int) := by omega
  clear h hF hf hp
  generalize stepD M 5 b 0 [] = R at *
  obtain ⟨R1, R2⟩ := R
  dsimp only at *
  by_cases h0 : R1 = 0
  · subst h0
    go_enter Try.func16, Try.ntmps16
    go_wp2_with (go_at_call 29; (with_reducible refine ho.out.mono ?_); rintro e w2 ⟨rfl, hk2, hr2⟩; have hr3 := Lib.hid hr2; obtain ⟨o, hr2⟩ := hr2; have g4 := hr2.g4; have k2 := hr2.k2 b (by rw [hB]; exact hb); rw [hB] at g4; clear hr2; replace hk2 := Lib.hid hk2)
    go_ret2
    exact ⟨by rfl, hk2.out, L, rfl, hr3.out⟩
  · have e1 : (R1 != 0) = true := by simpa using h0
    have e2 : decide (R1 = 0) = false := decide_eq_false h0
    rw [e2]
    go_enter Try.func16, Try.ntmps16
    go_wp2_with (go_at_call 29; (with_reducible refine ho.out.mono ?_); rintro e w2 ⟨rfl, hk2, hr2⟩; replace hr2 := Lib.hid hr2; replace hk2 := Lib.hid hk2)
    go_ret2
    exact ⟨by rfl, hk2.out, L, rfl, hr2.out⟩
set_option maxHeartbeats 2000000 in
theorem d_sense_err (h : Chip w F a M) (hF : ∀ b, w.heap.size ≤ b → F b) (hf : Fine M) {b p : Nat} (hb : b < M.B) (hp : p < M.P) (h0 : (stepD M 1 b p []).1 ≠ 0) :
    Calls Try.prog 14 #[.pointer (some a), .int .i64 (b : Int), .int .i64 (p : Int)] w fun e w' => e = .returned (.tuple #[.slice none 0 0, .int .i64 (stepD M 1 b p []).1]) ∧ Cl.Keeps (fun b' => ¬ F b') w w' ∧ Chip w' F a (stepD M 1 b p []).2 := by
  obtain ⟨L, rfl, h⟩ := h
  have ho := Lib.hid (operate_any h hF hf 1 hb hp none 0 0 (xs := []) fun e => absurd e (by decide))
  clear h hF hf hp
  generalize stepD M 1 b p [] = R at *
  obtain ⟨R1, R2⟩ := R
  dsimp only at *
  have e1 : (R1 != 0) = true := by simpa using h0
  go_enter Try.func14, Try.ntmps14
  go_wp2_with (go_at_call 29; (with_reducible refine ho.out.mono ?_); rintro e w2 ⟨rfl, hk2, hr2⟩; replace hr2 := Lib.hid hr2; replace hk2 := Lib.hid hk2)
  go_ret2
  exact ⟨by rfl, hk2.out, L, rfl, hr2.out⟩
set_option maxHeartbeats 2000000 in
theorem d_sense_no (h : Chip w F a M) (hF : ∀ b, w.heap.size ≤ b → F b) (hf : Fine M) {b p : Int} (hn : ¬ (0 ≤ b ∧ b < (M.B : Int) ∧ 0 ≤ p ∧ p < (M.P : Int))) :
    Calls Try.prog 14 #[.pointer (some a), .int .i64 b, .int .i64 p] w fun e w' => e = .returned (.tuple #[.slice none 0 0, .int .i64 (stepN M).1]) ∧ Cl.Keeps (fun b' => ¬ F b') w w' ∧ Chip w' F a (stepN M).2 := by
  obtain ⟨L, rfl, h⟩ := h
  have ho := Lib.hid (operate_no h hF hf 1 b p hn none 0 0)
  have h0 : (stepN M).1 ≠ 0 := by unfold stepN; split <;> (dsimp only; decide)
  clear h hF hf hn
  generalize stepN M = R at *
  obtain ⟨R1, R2⟩ := R
  dsimp only at *
  have e1 : (R1 != 0) = true := by simpa using h0
  go_enter Try.func14, Try.ntmps14
  go_wp2_with (go_at_call 29; (with_reducible refine ho.out.mono ?_); rintro e w2 ⟨rfl, hk2, hr2⟩; replace hr2 := Lib.hid hr2; replace hk2 := Lib.hid hk2)
  go_ret2
  exact ⟨by rfl, hk2.out, L, rfl, hr2.out⟩
set_option maxHeartbeats 2000000 in
theorem d_sense (h : Chip w F a M) (hF : ∀ b, w.heap.size ≤ b → F b) (hf : Fine M) {b p : Nat} (hb : b < M.B) (hp : p < M.P) (h0 : (stepD M 1 b p []).1 = 0) {n : Nat} (hn : M.n = n) :
    Calls Try.prog 14 #[.pointer (some a), .int .i64 (b : Int), .int .i64 (p : Int)] w fun e w' => ∃ A c, e = .returned (.tuple #[.slice A n c, .int .i64 0]) ∧ n ≤ c ∧ Cl.Keeps (fun b' => ¬ F b') w w' ∧ Chip w' (fun b' => F b' ∧ ∀ q, A = some q → b' ≠ q.block) a (stepD M 1 b p []).2 ∧ Pts w' w.heap.size A ((stepD M 1 b p []).2.pg b p).ps := by
  obtain ⟨L, rfl, h⟩ := h
  have ho := Lib.hid (operate_any h hF hf 1 hb hp none 0 0 (xs := []) fun e => absurd e (by decide))
  obtain ⟨hB, hP, hW, hK, _⟩ := stepD_geo M 1 b p []
  obtain ⟨hb64, hp32⟩ : b < 64 ∧ p < 32 := by obtain ⟨o, h⟩ := h; have := Ge.may_of h.geo; omega
  have hbI : (b : Int) < (M.B : Int) := by omega
  have hpI : (p : Int) < (M.P : Int) := by omega
  clear h hF hf
  generalize stepD M 1 b p [] = R at *
  obtain ⟨R1, R2⟩ := R
  dsimp only at *
  subst h0
  have hn2 : R2.n = n := by unfold Dev.n; rw [hW, hK]; exact hn
  replace hn2 := Lib.hid hn2
  clear hn hW hK
  go_enter Try.func14, Try.ntmps14
  go_wp2_with (first
    | (go_at_call 29; (with_reducible refine ho.out.mono ?_); rintro e w2 ⟨rfl, hk2, o, hr2⟩; have g4 := hr2.g4; have k0 := hr2.k0 b (by rw [hB]; exact hb); have pp := hr2.pp b (by rw [hB]; exact hb) p (by rw [hP]; exact hp); rw [hB] at g4; rw [hP] at k0; have hse := Lib.hid (c_sense (hr2.pg b (by rw [hB]; exact hb) p (by rw [hP]; exact hp)) (n := n) (by rw [hr2.len b (by rw [hB]; exact hb) p (by rw [hP]; exact hp)]; exact hn2.out)); replace hr2 := Lib.hid hr2; replace hk2 := Lib.hid hk2)
    | (go_at_call 30; (with_reducible refine hse.out.mono ?_); rintro e w3 ⟨A, c, rfl, hnc, hb3, hpt⟩; replace hb3 := Lib.hid hb3; replace hpt := Lib.hid hpt))
  go_ret2
  refine ⟨A, c, rfl, hnc, hk2.out.trans (Cl.Keeps.of_below hb3.out), ⟨L, rfl, o, (hr2.out.below hb3.out).only fun b' hb' h1 h2 => ⟨h1, fun q hq e => ?_⟩⟩, ?_⟩
  · rcases hpt.out with hpt | ⟨g, rfl, hg, _, _⟩
    · have h3 := hr2.out.len b (by rw [hB]; exact hb) p (by rw [hP]; exact hp)
      rw [hpt] at h3
      have := n_pos hr2.out.geo
      simp at h3
      omega
    · injection hq with hq
      subst hq
      exact h2 (by rw [e]; exact hr2.out.new _ hg)
  · rcases hpt.out with hpt | ⟨g, rfl, hg, hpt⟩
    · exact Or.inl hpt
    · exact Or.inr ⟨g, rfl, Nat.le_trans hk2.out.size hg, hpt⟩
theorem d_power (h : Chip w F a M) (hF : ∀ b, w.heap.size ≤ b → F b) :
    Calls Try.prog 13 #[.pointer (some a)] w fun e w' => e = .returned (.tuple #[]) ∧ Cl.Keeps (fun b' => ¬ F b') w w' ∧ Chip w' F a { M with dark := false } := by
  obtain ⟨L, rfl, o, h⟩ := h
  have g8 := h.g8
  have gf := h.gf 8
  have hend : Hid (Rep (w.setCell ⟨L.g, 8, none⟩ (.bool false)) F L { M with dark := false }) := Lib.hid ⟨o, h.setDark false⟩
  have hke : Hid (Cl.Keeps (fun b' => ¬ F b') w (w.setCell ⟨L.g, 8, none⟩ (.bool false))) := keeps_put (Cl.Keeps.refl _ _) (fun e => e h.gt.1)
  clear h
  go_enter Try.func13, Try.ntmps13
  go_wp2_with fail
  go_end0
  exact ⟨rfl, hke.out, L, rfl, hend.out⟩
theorem d_ops (h : Chip w F a M) : Calls Try.prog 12 #[.pointer (some a)] w (Ans w (.int .i64 (M.ops : Int))) := by
  obtain ⟨L, rfl, o, h⟩ := h
  have g6 := h.g6
  clear h
  go_enter Try.func12, Try.ntmps12
  go_wp2_with fail
  go_ret
  exact ⟨rfl, Below.refl _ _⟩
theorem d_refused (h : Chip w F a M) : Calls Try.prog 17 #[.pointer (some a)] w (Ans w (.int .i64 (M.rf : Int))) := by
  obtain ⟨L, rfl, o, h⟩ := h
  have g7 := h.g7
  clear h
  go_enter Try.func17, Try.ntmps17
  go_wp2_with fail
  go_ret
  exact ⟨rfl, Below.refl _ _⟩
theorem results_cell {fn : Func} {p : Tmp} {ty : TypeId} (h : fn.results = #[.cell p ty]) (tmps : Array Value) (P : Program) (w : World) :
    (results fn tmps).run P w = ((asAddr (tmps.getD p undef)).run P w).andThen fun a w₁ => (loadVar ty a).run P w₁ := by
  simp only [results, h]
  simp [Sem.run_bind, Result.andThen]
end
end Go.Proofs.Ytnndhbppgmnefaa
/- The device: the block of a number, how often it was erased, whether it is broken; Drift. -/
namespace Go.Proofs.Ytnndhbppgmnefaa
open Go.RowKit Go.Gf Go.Fl
set_option linter.unusedVariables false
set_option linter.unusedSimpArgs false
attribute [local go_sem ↓] Cl.quiet_after Cl.quiet_since
theorem size68 : (Try.prog.info? 68).map (·.size) = some 4 := by kernel_rfl
theorem ret_block {W : World} {g : Nat} {T : TypeId} {fr : Nat × Nat} {x y z u : Value} (h : W.heap[g]? = some (.cells #[x, y, z, u] T fr)) (tmps : Array Value) (h4 : tmps.getD 4 undef = .pointer (some ⟨g, 0, none⟩)) :
    (results Try.f31 tmps).run Try.prog W = .ok (.agg #[x, y, z, u]) W := by
  rw [results_cell (fn := Try.f31) (p := 4) (ty := 68) rfl, h4]
  simp [asAddr, run_loadVar_row W g T 68 _ fr _ h Try.underlying68 rfl size68]
section
variable {w : World} {F : Nat → Prop} {o : Nat → Nat} {L : Lay} {M : Dev}
set_option maxHeartbeats 2000000 in
theorem at_any (h : RepO w F o L M) {b : Nat} (hb : b < M.B) :
    Calls Try.prog 31 #[.pointer (some ⟨L.g, 0, none⟩), .int .i64 (b : Int)] w (Ans w (.agg #[.slice (some ⟨L.kp b, 0, none⟩) M.P (L.cp b), .int .i64 (M.er b : Int), .bool (M.md b), .bool (M.bk b)])) := by
  have hA := below_alloc' w (.cells #[.slice none 0 0, .int .i64 0, .bool false, .bool false] 68)
  have hr := h.below hA
  have g4 := hr.g4
  have k0 := hr.k0 b hb
  have k1 := hr.k1 b hb
  have k2 := hr.k2 b hb
  have k3 := hr.k3 b hb
  have hbI : (b : Int) < (M.B : Int) := by omega
  have hb64 : b < 64 := by have := Ge.may_of h.geo; omega
  clear h hr hA
  go_enter Try.func31, Try.ntmps31
  go_wp2_with fail
  exact bodyPost_ret (ret_block (heap_alloc_new w _) _ rfl) rfl ⟨rfl, below_alloc' w _⟩
end
theorem field_pages (x y z u : Value) (w : World) : (Instr.field 68 (.agg #[x, y, z, u]) 0).run Try.prog w = .ok x w := by
  simp [Instr.field, run_underlying Try.underlying68, asAgg, part, Try.isAgg65]
theorem field_erases (x y z u : Value) (w : World) : (Instr.field 68 (.agg #[x, y, z, u]) 1).run Try.prog w = .ok y w := by
  simp [Instr.field, run_underlying Try.underlying68, asAgg, part, Try.isAgg3]
theorem field_broken (x y z u : Value) (w : World) : (Instr.field 68 (.agg #[x, y, z, u]) 3).run Try.prog w = .ok u w := by
  simp [Instr.field, run_underlying Try.underlying68, asAgg, part, Try.isAgg4]
section
attribute [local go_sem] field_pages field_erases field_broken
variable {w : World} {F : Nat → Prop} {a : Addr} {M : Dev}
set_option maxRecDepth 20000 in
theorem d_erases (h : Chip w F a M) {b : Nat} (hb : b < M.B) : Calls Try.prog 19 #[.pointer (some a), .int .i64 (b : Int)] w (Ans w (.int .i64 (M.er b : Int))) := by
  obtain ⟨L, rfl, o, h⟩ := h
  have ha := Lib.hid (at_any h hb)
  clear h
  go_enter Try.func19, Try.ntmps19
  go_wp2_with (go_at_call 31; (with_reducible refine ha.out.mono ?_); rintro e w2 ⟨rfl, hb2⟩)
  go_ret
  exact ⟨rfl, hb2⟩
set_option maxRecDepth 20000 in
theorem d_broken (h : Chip w F a M) {b : Nat} (hb : b < M.B) : Calls Try.prog 18 #[.pointer (some a), .int .i64 (b : Int)] w (Ans w (.bool (M.bk b))) := by
  obtain ⟨L, rfl, o, h⟩ := h
  have ha := Lib.hid (at_any h hb)
  clear h
  go_enter Try.func18, Try.ntmps18
  go_wp2_with (go_at_call 31; (with_reducible refine ha.out.mono ?_); rintro e w2 ⟨rfl, hb2⟩)
  go_ret
  exact ⟨rfl, hb2⟩
/-- a page behind a move -/
def driftPg (q : Pg) (i u v : Int) : Pg := ⟨if movB q.ps q.st i u v = true then movP q.ps i.toNat u v else q.ps, q.ss, q.st⟩
theorem drift1 {o : Nat → Nat} {L : Lay} (h : RepO w F o L M) (hF : ∀ b, w.heap.size ≤ b → F b) {b j : Nat} (hb : b < M.B) (hj : j < M.P) {x y : Nat} {u v : Int} (hx : Is x (u : Rat)) (hy : Is y (v : Rat)) (hu : -1000000 ≤ u ∧ u ≤ 1000000) (hv : -1000000 ≤ v ∧ v ≤ 1000000) (i : Int) :
    Calls Try.prog 32 #[.pointer (some (L.pa b j)), .int .i64 i, .complex .f64 x y] w fun e w' => e = .returned (.bool (movB (M.pg b j).ps (M.pg b j).st i u v)) ∧ Cl.Keeps (fun b => ¬ F b) w w' ∧ Rep w' F L { M with pg := setPg M.pg b j (driftPg (M.pg b j) i u v) } := by
  refine (c_drift (h.own1 hb hj) (fun b hb => Or.inr hb) hx hy hu hv i).mono ?_
  rintro e w' ⟨rfl, hk, hp⟩
  refine ⟨rfl, Own1.not hF hk, h.page hF hb hj hk hp ?_⟩
  show (if movB (M.pg b j).ps (M.pg b j).st i u v = true then movP (M.pg b j).ps i.toNat u v else (M.pg b j).ps).length = M.n
  split
  · unfold movP; rw [List.length_set]; exact h.len b hb j hj
  · exact h.len b hb j hj
set_option maxRecDepth 20000 in
set_option maxHeartbeats 2000000 in
theorem d_drift (h : Chip w F a M) (hF : ∀ b, w.heap.size ≤ b → F b) {b p : Nat} (hb : b < M.B) (hp : p < M.P) {x y : Nat} {u v : Int} (hx : Is x (u : Rat)) (hy : Is y (v : Rat)) (hu : -1000000 ≤ u ∧ u ≤ 1000000) (hv : -1000000 ≤ v ∧ v ≤ 1000000) (i : Int) :
    Calls Try.prog 20 #[.pointer (some a), .int .i64 (b : Int), .int .i64 (p : Int), .int .i64 i, .complex .f64 x y] w fun e w' => e = .returned (.bool (movB (M.pg b p).ps (M.pg b p).st i u v)) ∧ Cl.Keeps (fun b => ¬ F b) w w' ∧ Chip w' F a { M with pg := setPg M.pg b p (driftPg (M.pg b p) i u v) } := by
  obtain ⟨L, rfl, o, h⟩ := h
  have ha := Lib.hid (at_any h hb)
  have hpI : (p : Int) < (M.P : Int) := by omega
  have hp32 : p < 32 := by have := Ge.may_of h.geo; omega
  have hd : Hid (∀ w2, Below w.heap.size w w2 → Calls Try.prog 32 #[.pointer (some (L.pa b p)), .int .i64 i, .complex .f64 x y] w2 fun e w' => e = .returned (.bool (movB (M.pg b p).ps (M.pg b p).st i u v)) ∧ Cl.Keeps (fun b => ¬ F b) w2 w' ∧ Rep w' F L { M with pg := setPg M.pg b p (driftPg (M.pg b p) i u v) }) :=
    fun w2 hb2 => drift1 (h.below hb2) (fun b hb => hF b (Nat.le_trans hb2.size hb)) hb hp hx hy hu hv i
  have pp := Lib.hid (fun w2 (hb2 : Below w.heap.size w w2) => (h.below hb2).pp b hb p hp)
  clear h hF hx hy hu hv
  go_enter Try.func20, Try.ntmps20
  go_wp2_with (first
    | (go_at_call 31; (with_reducible refine ha.out.mono ?_); rintro e w2 ⟨rfl, hb2⟩; have qp := pp.out w2 hb2; have hd2 := Lib.hid (hd.out w2 hb2); replace hb2 := Lib.hid hb2)
    | (go_at_call 32; (with_reducible refine hd2.out.mono ?_); rintro e w3 ⟨rfl, hk3, hr3⟩; replace hk3 := Lib.hid hk3; replace hr3 := Lib.hid hr3))
  go_ret
  exact ⟨rfl, (Cl.Keeps.of_below hb2.out).trans hk3.out, L, rfl, hr3.out⟩
end
end Go.Proofs.Ytnndhbppgmnefaa
