/- The device: the block of a number, how often it was erased, whether it is broken; Drift. -/
import Derived.Test.YtnndhbppgmnefaaDj
namespace Go.Proofs.Ytnndhbppgmnefaa
open Go.RowKit Go.Gf Go.Fl
set_option linter.unusedVariables false
set_option linter.unusedSimpArgs false
attribute [local go_sem ↓] Cl.quiet_after Cl.quiet_since
theorem size68 : (Try.prog.info? 68).map (·.size) = some 4 := by kernel_rfl
theorem ret_block {W : World} {g : Nat} {T : TypeId} {fr : Nat × Nat} {x y z u : Value} (h : W.heap[g]? = some (.cells #[x, y, z, u] T fr)) (tmps : Array Value) (h4 : tmps.getD 4 undef = .pointer (some ⟨g, 0, none⟩)) :
    (results Try.f31 tmps).run Try.prog W = .ok (.agg #[x, y, z, u]) W := by
  rw [results_cell (fn := Try.f31) (p := 4) (ty := 68) rfl, h4]
  simp [asAddr, run_loadVar_row W g T 68 _ fr _ h Try.underlying68 rfl size68]
section
variable {w : World} {F : Nat → Prop} {o : Nat → Nat} {L : Lay} {M : Dev}
set_option maxHeartbeats 2000000 in
theorem at_any (h : RepO w F o L M) {b : Nat} (hb : b < M.B) :
    Calls Try.prog 31 #[.pointer (some ⟨L.g, 0, none⟩), .int .i64 (b : Int)] w (Ans w (.agg #[.slice (some ⟨L.kp b, 0, none⟩) M.P (L.cp b), .int .i64 (M.er b : Int), .bool (M.md b), .bool (M.bk b)])) := by
  have hA := below_alloc' w (.cells #[.slice none 0 0, .int .i64 0, .bool false, .bool false] 68)
  have hr := h.below hA
  have g4 := hr.g4
  have k0 := hr.k0 b hb
  have k1 := hr.k1 b hb
  have k2 := hr.k2 b hb
  have k3 := hr.k3 b hb
  have hbI : (b : Int) < (M.B : Int) := by omega
  have hb64 : b < 64 := by have := Ge.may_of h.geo; omega
  clear h hr hA
  go_enter Try.func31, Try.ntmps31
  go_wp2_with fail
  exact bodyPost_ret (ret_block (heap_alloc_new w _) _ rfl) rfl ⟨rfl, below_alloc' w _⟩
end
theorem field_pages (x y z u : Value) (w : World) : (Instr.field 68 (.agg #[x, y, z, u]) 0).run Try.prog w = .ok x w := by
  simp [Instr.field, run_underlying Try.underlying68, asAgg, part, Try.isAgg65]
theorem field_erases (x y z u : Value) (w : World) : (Instr.field 68 (.agg #[x, y, z, u]) 1).run Try.prog w = .ok y w := by
  simp [Instr.field, run_underlying Try.underlying68, asAgg, part, Try.isAgg3]
theorem field_broken (x y z u : Value) (w : World) : (Instr.field 68 (.agg #[x, y, z, u]) 3).run Try.prog w = .ok u w := by
  simp [Instr.field, run_underlying Try.underlying68, asAgg, part, Try.isAgg4]
section
attribute [local go_sem] field_pages field_erases field_broken
variable {w : World} {F : Nat → Prop} {a : Addr} {M : Dev}
set_option maxRecDepth 20000 in
theorem d_erases (h : Chip w F a M) {b : Nat} (hb : b < M.B) : Calls Try.prog 19 #[.pointer (some a), .int .i64 (b : Int)] w (Ans w (.int .i64 (M.er b : Int))) := by
  obtain ⟨L, rfl, o, h⟩ := h
  have ha := Lib.hid (at_any h hb)
  clear h
  go_enter Try.func19, Try.ntmps19
  go_wp2_with (go_at_call 31; (with_reducible refine ha.out.mono ?_); rintro e w2 ⟨rfl, hb2⟩)
  go_ret
  exact ⟨rfl, hb2⟩
set_option maxRecDepth 20000 in
theorem d_broken (h : Chip w F a M) {b : Nat} (hb : b < M.B) : Calls Try.prog 18 #[.pointer (some a), .int .i64 (b : Int)] w (Ans w (.bool (M.bk b))) := by
  obtain ⟨L, rfl, o, h⟩ := h
  have ha := Lib.hid (at_any h hb)
  clear h
  go_enter Try.func18, Try.ntmps18
  go_wp2_with (go_at_call 31; (with_reducible refine ha.out.mono ?_); rintro e w2 ⟨rfl, hb2⟩)
  go_ret
  exact ⟨rfl, hb2⟩
/-- a page behind a move -/
def driftPg (q : Pg) (i u v : Int) : Pg := ⟨if movB q.ps q.st i u v = true then movP q.ps i.toNat u v else q.ps, q.ss, q.st⟩
theorem drift1 {o : Nat → Nat} {L : Lay} (h : RepO w F o L M) (hF : ∀ b, w.heap.size ≤ b → F b) {b j : Nat} (hb : b < M.B) (hj : j < M.P) {x y : Nat} {u v : Int} (hx : Is x (u : Rat)) (hy : Is y (v : Rat)) (hu : -1000000 ≤ u ∧ u ≤ 1000000) (hv : -1000000 ≤ v ∧ v ≤ 1000000) (i : Int) :
    Calls Try.prog 32 #[.pointer (some (L.pa b j)), .int .i64 i, .complex .f64 x y] w fun e w' => e = .returned (.bool (movB (M.pg b j).ps (M.pg b j).st i u v)) ∧ Cl.Keeps (fun b => ¬ F b) w w' ∧ Rep w' F L { M with pg := setPg M.pg b j (driftPg (M.pg b j) i u v) } := by
  refine (c_drift (h.own1 hb hj) (fun b hb => Or.inr hb) hx hy hu hv i).mono ?_
  rintro e w' ⟨rfl, hk, hp⟩
  refine ⟨rfl, Own1.not hF hk, h.page hF hb hj hk hp ?_⟩
  show (if movB (M.pg b j).ps (M.pg b j).st i u v = true then movP (M.pg b j).ps i.toNat u v else (M.pg b j).ps).length = M.n
  split
  · unfold movP; rw [List.length_set]; exact h.len b hb j hj
  · exact h.len b hb j hj
set_option maxRecDepth 20000 in
set_option maxHeartbeats 2000000 in
theorem d_drift (h : Chip w F a M) (hF : ∀ b, w.heap.size ≤ b → F b) {b p : Nat} (hb : b < M.B) (hp : p < M.P) {x y : Nat} {u v : Int} (hx : Is x (u : Rat)) (hy : Is y (v : Rat)) (hu : -1000000 ≤ u ∧ u ≤ 1000000) (hv : -1000000 ≤ v ∧ v ≤ 1000000) (i : Int) :
    Calls Try.prog 20 #[.pointer (some a), .int .i64 (b : Int), .int .i64 (p : Int), .int .i64 i, .complex .f64 x y] w fun e w' => e = .returned (.bool (movB (M.pg b p).ps (M.pg b p).st i u v)) ∧ Cl.Keeps (fun b => ¬ F b) w w' ∧ Chip w' F a { M with pg := setPg M.pg b p (driftPg (M.pg b p) i u v) } := by
  obtain ⟨L, rfl, o, h⟩ := h
  have ha := Lib.hid (at_any h hb)
  have hpI : (p : Int) < (M.P : Int) := by omega
  have hp32 : p < 32 := by have := Ge.may_of h.geo; omega
  have hd : Hid (∀ w2, Below w.heap.size w w2 → Calls Try.prog 32 #[.pointer (some (L.pa b p)), .int .i64 i, .complex .f64 x y] w2 fun e w' => e = .returned (.bool (movB (M.pg b p).ps (M.pg b p).st i u v)) ∧ Cl.Keeps (fun b => ¬ F b) w2 w' ∧ Rep w' F L { M with pg := setPg M.pg b p (driftPg (M.pg b p) i u v) }) :=
    fun w2 hb2 => drift1 (h.below hb2) (fun b hb => hF b (Nat.le_trans hb2.size hb)) hb hp hx hy hu hv i
  have pp := Lib.hid (fun w2 (hb2 : Below w.heap.size w w2) => (h.below hb2).pp b hb p hp)
  clear h hF hx hy hu hv
  go_enter Try.func20, Try.ntmps20
  go_wp2_with (first
    | (go_at_call 31; (with_reducible refine ha.out.mono ?_); rintro e w2 ⟨rfl, hb2⟩; have qp := pp.out w2 hb2; have hd2 := Lib.hid (hd.out w2 hb2); replace hb2 := Lib.hid hb2)
    | (go_at_call 32; (with_reducible refine hd2.out.mono ?_); rintro e w3 ⟨rfl, hk3, hr3⟩; replace hk3 := Lib.hid hk3; replace hr3 := Lib.hid hr3))
  go_ret
  exact ⟨rfl, (Cl.Keeps.of_below hb2.out).trans hk3.out, L, rfl, hr3.out⟩
end
end Go.Proofs.Ytnndhbppgmnefaa
