/- The device: the error in which an operation ends, whatever befalls it. -/
import Derived.Test.YtnndhbppgmnefaaDb
namespace Go.Proofs.Ytnndhbppgmnefaa
open Go.RowKit Go.Gf Go.Fl
set_option linter.unusedVariables false
set_option linter.unusedSimpArgs false
attribute [local go_sem ↓] Cl.quiet_after Cl.quiet_since
/-- block g holds that operation -/
structure OBox (w : World) (g : Nat) (k b p : Int) (A : Option Addr) (n c : Nat) : Prop where
  lt : g < w.heap.size
  c0 : w.cell? ⟨g, 0, none⟩ = some (.int .i64 k)
  c1 : w.cell? ⟨g, 1, none⟩ = some (.int .i64 b)
  c2 : w.cell? ⟨g, 2, none⟩ = some (.int .i64 p)
  c3 : w.cell? ⟨g, 3, none⟩ = some (.slice A n c)
theorem OBox.keep {w w' : World} {g : Nat} {k b p : Int} {A : Option Addr} {n c : Nat} (h : OBox w g k b p A n c) (hb : Below w.heap.size w w') : OBox w' g k b p A n c :=
  ⟨Nat.lt_of_lt_of_le h.lt hb.size, (hb.cell h.lt).trans h.c0, (hb.cell h.lt).trans h.c1, (hb.cell h.lt).trans h.c2, (hb.cell h.lt).trans h.c3⟩
theorem OBox.block {w w' : World} {g : Nat} {k b p : Int} {A : Option Addr} {n c : Nat} (h : OBox w g k b p A n c) (hs : w.heap.size ≤ w'.heap.size) (hb : w'.heap[g]? = w.heap[g]?) : OBox w' g k b p A n c :=
  have e := fun i => World.cell?_of_block (w := w) (w' := w') (a := ⟨g, i, none⟩) hb
  ⟨Nat.lt_of_lt_of_le h.lt hs, (e 0).trans h.c0, (e 1).trans h.c1, (e 2).trans h.c2, (e 3).trans h.c3⟩
theorem OBox.new (w : World) (k b p : Int) (A : Option Addr) (n c : Nat) : OBox (w.alloc (.cells #[.int .i64 k, .int .i64 b, .int .i64 p, .slice A n c] 73)) w.heap.size k b p A n c :=
  have h := cell_new w #[.int .i64 k, .int .i64 b, .int .i64 p, .slice A n c] 73
  ⟨by rw [World.size_alloc]; omega, h 0, h 1, h 2, h 3⟩
theorem lex_fault1 : (Cl.opsAt 1 (Try.f45.body.getD .skip)).map (Region.lexB .any) = some true := by kernel_rfl
theorem lex_fault7 : (Cl.opsAt 7 (Try.f45.body.getD .skip)).map (Region.lexB .any) = some true := by kernel_rfl
theorem ans_aft {f : FuncId} {args : Array Value} {B : Nat} {w₀ : World} {x : Cl.After B w₀} {v : Value} (hB : B ≤ w₀.heap.size) (h : Calls Try.prog f args x.w (Ans x.w v)) :
    Calls Try.prog f args x.w fun e w'' => e = .returned v ∧ ∃ y : Cl.After B w₀, w'' = y.w := Cl.after_of hB h
theorem num_zero {B P W K b p : Int} (h : Ge.isN B P W K b p = false) : Ge.numG B P W K b p = 0 := by unfold Ge.numG; rw [h]; rfl
theorem isN_yes {M : Dev} (hg : Ge.mayG M.B M.P M.W M.K = true) {b p : Nat} (hb : b < M.B) (hp : p < M.P) : Ge.isN M.B M.P M.W M.K (b : Int) (p : Int) = true := by
  unfold Ge.isN
  rw [hg]
  simp
  omega
theorem isN_no {M : Dev} {b p : Int} (h : ¬ (0 ≤ b ∧ b < (M.B : Int) ∧ 0 ≤ p ∧ p < (M.P : Int))) : Ge.isN M.B M.P M.W M.K b p = false := by
  unfold Ge.isN
  rw [Bool.eq_false_iff]
  intro e
  simp only [Bool.and_eq_true, decide_eq_true_eq] at e
  omega
set_option maxRecDepth 20000 in
set_option maxHeartbeats 4000000 in
theorem fault_no {w : World} {F : Nat → Prop} {o : Nat → Nat} {L : Lay} {M : Dev} (h : RepO w F o L M) (k b p : Int) (A : Option Addr) (n c : Nat) (hi : Ge.isN M.B M.P M.W M.K b p = false) :
    Calls Try.prog 45 #[.pointer (some ⟨L.g, 0, none⟩), .agg #[.int .i64 k, .int .i64 b, .int .i64 p, .slice A n c]] w (Ans w (.int .i64 1)) := by
  have hA := below_alloc' w (.cells #[.int .i64 k, .int .i64 b, .int .i64 p, .slice A n c] 73)
  have hx := Lib.hid (OBox.new w k b p A n c)
  have hr := h.below hA
  have cn := Lib.hid (Ge.number_lit hi (num_zero hi))
  generalize hw1 : w.alloc (.cells #[.int .i64 k, .int .i64 b, .int .i64 p, .slice A n c] 73) = w1 at *
  have k0 := fun x : Cl.After w1.heap.size w1 => (hr.below x.below).g0
  have k1 := fun x : Cl.After w1.heap.size w1 => (hr.below x.below).g1
  have k2 := fun x : Cl.After w1.heap.size w1 => (hr.below x.below).g2
  have k3 := fun x : Cl.After w1.heap.size w1 => (hr.below x.below).g3
  have o1 := fun x : Cl.After w1.heap.size w1 => (hx.out.keep x.below).c1
  have o2 := fun x : Cl.After w1.heap.size w1 => (hx.out.keep x.below).c2
  replace hA := Lib.hid hA
  clear hr hi h hx
  go_enter Try.func45, Try.ntmps45
  go_wp2_with fail
  refine Cl.region_after_at w1.heap.size (by kernel_rfl) lex_fault1 (by kernel_rfl) ?_
  try simp only [List.append]
  repeat (go_big_quiet_step (first | (go_at_call 58; with_reducible exact Ge.ans_of (Nat.le_refl _) (cn.out _))))
  refine wpQuiet_nil ?_
  rintro _ ⟨x, rfl⟩
  go_wp2
  go_ret
  exact ⟨rfl, hA.out.trans (x.below.mono hA.out.size)⟩
theorem n_le {M : Dev} (h : Ge.mayG M.B M.P M.W M.K = true) : M.n ≤ 320 := by
  have h1 := Ge.may_of h
  have := Nat.mul_le_mul (show M.W ≤ 4 by omega) (show M.K + 16 ≤ 80 by omega)
  unfold Dev.n
  omega
/-- the error of an operation on a page that there is -/
def faultE (M : Dev) (k : Int) (b p : Nat) : Int := if k = 2 then progE M b p else if k = 3 then erasE M b else 0
set_option maxRecDepth 20000 in
set_option maxHeartbeats 8000000 in
theorem fault_yes {w : World} {F : Nat → Prop} {o : Nat → Nat} {L : Lay} {M : Dev} (h : RepO w F o L M) (k : Int) {b p : Nat} (hb : b < M.B) (hp : p < M.P) (A : Option Addr) (n c : Nat) {xs : List Nat} (hs : k = 2 → Sl w w.heap.size A xs ∧ xs.length = n ∧ n = M.n ∧ ∀ x ∈ xs, x < 1024) :
    Calls Try.prog 45 #[.pointer (some ⟨L.g, 0, none⟩), .agg #[.int .i64 k, .int .i64 (b : Int), .int .i64 (p : Int), .slice A n c]] w (Ans w (.int .i64 (faultE M k b p))) := by
  obtain ⟨E, hE⟩ : ∃ E, Hid (faultE M k b p = E) := ⟨_, Lib.hid rfl⟩
  rw [hE.out]
  have hgeo := h.geo
  have hi := isN_yes hgeo hb hp
  obtain ⟨N, cn0⟩ : ∃ N, ∀ w, Calls Try.prog 58 #[.agg #[.int .i64 (M.B : Int), .int .i64 (M.P : Int), .int .i64 (M.W : Int), .int .i64 (M.K : Int)], .int .i64 (b : Int), .int .i64 (p : Int)] w (Ge.Ans w (.tuple #[.int .i64 N, .bool true])) := ⟨_, Ge.number_lit hi rfl⟩
  have cn := Lib.hid cn0
  clear cn0
  have hce : Ge.celG M.B M.P M.W M.K = (M.n : Int) := by
    unfold Ge.celG Dev.n
    rw [if_pos hgeo]
    simp
  have cc := Lib.hid (Ge.cells_lit hce)
  have hA := below_alloc' w (.cells #[.int .i64 k, .int .i64 (b : Int), .int .i64 (p : Int), .slice A n c] 73)
  have hx := Lib.hid (OBox.new w k b p A n c)
  have hr := h.below hA
  have hs1 : k = 2 → Sl (w.alloc (.cells #[.int .i64 k, .int .i64 (b : Int), .int .i64 (p : Int), .slice A n c] 73)) (w.alloc (.cells #[.int .i64 k, .int .i64 (b : Int), .int .i64 (p : Int), .slice A n c] 73)).heap.size A xs ∧ xs.length = n ∧ n = M.n ∧ ∀ x ∈ xs, x < 1024 := fun e => ⟨((hs e).1.below hA).more hA.size, (hs e).2⟩
  have hM32 := Ge.may_of hgeo
  have hbI : (b : Int) < (M.B : Int) := by omega
  have hb64 : b < 64 := by omega
  clear hs h hce hi
  generalize hw1 : w.alloc (.cells #[.int .i64 k, .int .i64 (b : Int), .int .i64 (p : Int), .slice A n c] 73) = w1 at *
  have k0 := fun x : Cl.After w1.heap.size w1 => (hr.below x.below).g0
  have k1 := fun x : Cl.After w1.heap.size w1 => (hr.below x.below).g1
  have k2 := fun x : Cl.After w1.heap.size w1 => (hr.below x.below).g2
  have k3 := fun x : Cl.After w1.heap.size w1 => (hr.below x.below).g3
  have o1 := fun x : Cl.After w1.heap.size w1 => (hx.out.keep x.below).c1
  have o2 := fun x : Cl.After w1.heap.size w1 => (hx.out.keep x.below).c2
  replace hA := Lib.hid hA
  replace hr := Lib.hid hr
  replace hs1 := Lib.hid hs1
  replace hM32 := Lib.hid hM32
  replace hgeo := Lib.hid hgeo
  go_enter Try.func45, Try.ntmps45
  go_wp2_with fail
  refine Cl.region_after_at w1.heap.size (by kernel_rfl) lex_fault1 (by kernel_rfl) ?_
  try simp only [List.append]
  repeat (go_big_quiet_step (first | (go_at_call 58; with_reducible exact Ge.ans_of (Nat.le_refl _) (cn.out _))))
  refine wpQuiet_nil ?_
  rintro _ ⟨x, rfl⟩
  clear k0 k1 k2 k3 o1 o2
  have hx2 := Lib.hid (hx.out.keep x.below)
  have hr2 := Lib.hid (hr.out.below x.below)
  have hA2 := Lib.hid (hA.out.trans (x.below.mono hA.out.size))
  have hs2 : Hid (k = 2 → Sl x.w x.w.heap.size A xs ∧ xs.length = n ∧ n = M.n ∧ ∀ x ∈ xs, x < 1024) := fun e => ⟨((hs1.out e).1.below x.below).more x.below.size, (hs1.out e).2⟩
  clear hx hr hA hs1
  generalize x.w = w2 at *
  go_wp2
  refine Cl.region_way0 (fun _ => True) 9 [(0, .r), (1, .r), (2, .r), (3, .r), (4, .r), (5, .r), (6, .r), (7, .r), (8, .c), (9, .z)] (by kernel_rfl) (by kernel_rfl) ?_
  intro w3 hk3
  have hb3 := hk3.below
  have hx3 := Lib.hid (hx2.out.keep hb3)
  have hr3 := Lib.hid (hr2.out.below hb3)
  have hA3 := Lib.hid (hA2.out.trans (hb3.mono hA2.out.size))
  have hs3 : Hid (k = 2 → Sl w3 w3.heap.size A xs ∧ xs.length = n ∧ n = M.n ∧ ∀ x ∈ xs, x < 1024) := fun e => ⟨((hs2.out e).1.below hb3).more hb3.size, (hs2.out e).2⟩
  clear hx2 hr2 hA2 hs2 hk3 hb3
  have g4 := fun y : Cl.Since (fun _ => True) w3 => (hr3.out.below y.keeps.below).g4
  have o1 := fun y : Cl.Since (fun _ => True) w3 => (hx3.out.keep y.keeps.below).c1
  have q0 := fun y : Cl.Since (fun _ => True) w3 => (hr3.out.below y.keeps.below).k0 b hb
  have q1 := fun y : Cl.Since (fun _ => True) w3 => (hr3.out.below y.keeps.below).k1 b hb
  have q2 := fun y : Cl.Since (fun _ => True) w3 => (hr3.out.below y.keeps.below).k2 b hb
  have q3 := fun y : Cl.Since (fun _ => True) w3 => (hr3.out.below y.keeps.below).k3 b hb
  iterate 8 (refine Cl.way_r rfl ?_; go_big_quiet_step (fail); refine wpQuiet_nil ?_)
  clear g4 o1 q0 q1 q2 q3
  refine Cl.way_c rfl ?_
  go_wp2_with fail
  refine Cl.way_on (Cl.Keeps.of_below (below_alloc' w3 _)) ?_
  refine Cl.way_z rfl ?_
  go_wp2_with fail
  refine Cl.Calm.normal ?_
  have h4 := below_alloc' w3 (.cells #[.slice (some ⟨L.kp b, 0, none⟩) M.P (L.cp b), .int .i64 (M.er b : Int), .bool (M.md b), .bool (M.bk b)] 68)
  have bc := cell_new w3 #[.slice (some ⟨L.kp b, 0, none⟩) M.P (L.cp b), .int .i64 (M.er b : Int), .bool (M.md b), .bool (M.bk b)] 68
  have b0 := bc 0
  have b1 := bc 1
  have b2 := bc 2
  have b3 := bc 3
  clear bc
  simp only [List.getElem?_toArray, List.getElem?_cons_zero, List.getElem?_cons_succ] at b0 b1 b2 b3
  have hbl : w3.heap.size < (w3.alloc (.cells #[.slice (some ⟨L.kp b, 0, none⟩) M.P (L.cp b), .int .i64 (M.er b : Int), .bool (M.md b), .bool (M.bk b)] 68)).heap.size := by rw [World.size_alloc]; omega
  generalize w3.alloc (.cells #[.slice (some ⟨L.kp b, 0, none⟩) M.P (L.cp b), .int .i64 (M.er b : Int), .bool (M.md b), .bool (M.bk b)] 68) = w4 at *
  have hx4 := Lib.hid (hx3.out.keep h4)
  have hr4 := Lib.hid (hr3.out.below h4)
  have hA4 := Lib.hid (hA3.out.trans (h4.mono hA3.out.size))
  have hs4 : Hid (k = 2 → Sl w4 w4.heap.size A xs ∧ xs.length = n ∧ n = M.n ∧ ∀ x ∈ xs, x < 1024) := fun e => ⟨((hs3.out e).1.below h4).more h4.size, (hs3.out e).2⟩
  have e0 := hx4.out.c0
  clear hx3 hr3 hA3 hs3 h4
  by_cases hk2 : k = 2
  · subst hk2
    obtain rfl : progE M b p = E := hE.out
    obtain ⟨s1, s2, s3, s4⟩ := hs4.out rfl
    subst s3
    have hn6 : M.n ≤ 1000000 := by have := n_le hgeo.out; omega
    have hpf : ∀ x : Cl.After w4.heap.size w4, Calls Try.prog 59 #[.agg #[.slice (some ⟨L.kp b, 0, none⟩) M.P (L.cp b), .int .i64 (M.er b : Int), .bool (M.md b), .bool (M.bk b)], .int .i64 (p : Int), .slice A M.n c, .int .i64 (M.n : Int)] x.w (Ans x.w (.int .i64 (progE M b p))) :=
      fun x => progfault_any (hr4.out.below x.below) hb hp ((s1.below x.below).more x.below.size) s2 hn6 s4 _
    replace hpf := Lib.hid hpf
    clear s1 s2 s4 hs4
    generalize progE M b p = R at *
    generalize M.n = m at *
    clear hE
    have k0 := fun x : Cl.After w4.heap.size w4 => (hr4.out.below x.below).g0
    have k1 := fun x : Cl.After w4.heap.size w4 => (hr4.out.below x.below).g1
    have k2 := fun x : Cl.After w4.heap.size w4 => (hr4.out.below x.below).g2
    have k3 := fun x : Cl.After w4.heap.size w4 => (hr4.out.below x.below).g3
    have o2 := fun x : Cl.After w4.heap.size w4 => (hx4.out.keep x.below).c2
    have o3 := fun x : Cl.After w4.heap.size w4 => (hx4.out.keep x.below).c3
    have r0 := fun x : Cl.After w4.heap.size w4 => (x.below.cell (p := ⟨w3.heap.size, 0, none⟩) hbl).trans b0
    have r1 := fun x : Cl.After w4.heap.size w4 => (x.below.cell (p := ⟨w3.heap.size, 1, none⟩) hbl).trans b1
    have r2 := fun x : Cl.After w4.heap.size w4 => (x.below.cell (p := ⟨w3.heap.size, 2, none⟩) hbl).trans b2
    have r3 := fun x : Cl.After w4.heap.size w4 => (x.below.cell (p := ⟨w3.heap.size, 3, none⟩) hbl).trans b3
    clear b0 b1 b2 b3 hx4
    go_wp2_with fail
    refine Cl.region_after_at w4.heap.size (by kernel_rfl) lex_fault7 (by kernel_rfl) ?_
    try simp only [List.append]
    repeat (go_big_quiet_step (first
      | (go_at_call 37; with_reducible exact Ge.ans_of (Nat.le_refl _) (cc.out _))
      | (go_at_call 59; with_reducible exact ans_aft (Nat.le_refl _) (hpf.out _))))
    refine wpQuiet_nil ?_
    rintro _ ⟨x, rfl⟩
    go_wp2
    go_ret
    exact ⟨rfl, hA4.out.trans (x.below.mono hA4.out.size)⟩
  · by_cases hk3 : k = 3
    · subst hk3
      obtain rfl : erasE M b = E := hE.out
      clear hE
      have hef := Lib.hid (erasefault_any w4 M b (.slice (some ⟨L.kp b, 0, none⟩) M.P (L.cp b)) (.int .i64 (M.er b : Int)))
      generalize erasE M b = R at *
      go_wp2_with (go_at_call 60; (with_reducible refine hef.out.mono ?_); rintro e w5 ⟨rfl, hb5⟩)
      go_ret
      exact ⟨rfl, hA4.out.trans (hb5.mono hA4.out.size)⟩
    · obtain rfl : 0 = E := by rw [← hE.out]; unfold faultE; rw [if_neg hk2, if_neg hk3]
      clear hE
      go_wp2_with fail
      go_ret
      exact ⟨rfl, hA4.out⟩
end Go.Proofs.Ytnndhbppgmnefaa
