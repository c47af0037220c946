/- Statement FieldPowers: for every two symbols and every two powers the law returns true. -/
import Derived.Test.YtignmhjnjcpnnaaFb
import Derived.Test.YtignmhjnjcpnnaaX2
import Derived.Test.YtignmhjnjcpnnaaArr
namespace Go.Proofs.Ytignmhjnjcpnnaa
open Go.RowKit Go.Gf
attribute [local go_sem ↓] exec_load_tb Cl.quiet_after
attribute [local go_sem] tbAt_ptr tbIn_ptr

theorem St.old {w w1 : World} {g : Nat} {cs : List Nat} (h : St w g cs w1) (p : Addr) (hp : p.block < w.heap.size) : w1.cell? p = w.cell? p := h.below.cell hp

set_option maxRecDepth 20000 in
set_option maxHeartbeats 4000000 in
theorem powers_early (a b n0 n1 A B : Int) (z1 z2 z3 z4 z5 z6 : Bool) (w : World)
    (mA : bits .and .u16 a 1023 = A) (mB : bits .and .u16 b 1023 = B)
    (c1 : (A == 0) = z1) (c2 : (B == 0) = z2) (c3 : decide (n0 < -1099511627776) = z3) (c4 : decide (1099511627776 < n0) = z4) (c5 : decide (n1 < -1099511627776) = z5) (c6 : decide (1099511627776 < n1) = z6)
    (hz6 : z1 = true ∨ (z1 = false ∧ z2 = true) ∨ (z1 = false ∧ z2 = false ∧ z3 = true) ∨ (z1 = false ∧ z2 = false ∧ z3 = false ∧ z4 = true) ∨ (z1 = false ∧ z2 = false ∧ z3 = false ∧ z4 = false ∧ z5 = true) ∨ (z1 = false ∧ z2 = false ∧ z3 = false ∧ z4 = false ∧ z5 = false ∧ z6 = true)) :
    Calls Try.prog 6 #[.int .u16 a, .int .u16 b, .agg #[.int .i64 n0, .int .i64 n1]] w fun e w' => e = .returned (.bool true) ∧ Below w.heap.size w w' := by
  have hz := zero27
  have hn0 : (w.alloc (.cells #[.int .i64 n0, .int .i64 n1] 40)).cell? ⟨w.heap.size, 0, none⟩ = some (.int .i64 n0) := by rw [cell_of_row _ _ _ _ _ _ (heap_alloc_new w _)]; rfl
  have hn1 : (w.alloc (.cells #[.int .i64 n0, .int .i64 n1] 40)).cell? ⟨w.heap.size, 1, none⟩ = some (.int .i64 n1) := by rw [cell_of_row _ _ _ _ _ _ (heap_alloc_new w _)]; rfl
  have hB : w.heap.size < (w.alloc (.cells #[.int .i64 n0, .int .i64 n1] 40)).heap.size := by simp
  have hbase : Below w.heap.size w (w.alloc (.cells #[.int .i64 n0, .int .i64 n1] 40)) := (Below.refl _ _).alloc (Nat.le_refl _) _
  rcases hz6 with rfl | ⟨rfl, rfl⟩ | ⟨rfl, rfl, rfl⟩ | ⟨rfl, rfl, rfl, rfl⟩ | ⟨rfl, rfl, rfl, rfl, rfl⟩ | ⟨rfl, rfl, rfl, rfl, rfl, rfl⟩
  all_goals
    go_enter Try.func6, Try.ntmps6
    go_wp2_with fail
    generalize hW : w.alloc (.cells #[.int .i64 n0, .int .i64 n1] 40) = W at hn0 hn1 hB hbase ⊢
    generalize hBe : w.heap.size = B at hn0 hn1 hB hbase ⊢
    have HB := Lib.hid hBe
    clear hW hBe
    refine (awake_any _).mono ?_
    rintro e w0 ⟨rfl, hb0⟩
    go_wp2_with fail
    refine (make_any _).mono ?_
    rintro e w1 ⟨cs, rfl, hl, hb1⟩
    have hb := hb0.trans (hb1.mono hb0.size)
    clear hb0 hb1
    go_wp2_with (first
      | (refine wpList_store_row rfl 27 _ _ rfl w1.heap.size (cells cs) rfl rfl 27 (cells ZT) (heap_alloc_new w1 _) (rsize hl) (zsize hl) (cells_one cs) ?_; have hS := St.start (cs := cs) hb (cells ZT); generalize hg : w1.heap.size = g at hS ⊢; generalize (w1.alloc (Obj.cells (cells ZT) 27)).setRow g (cells cs) = w2 at hS ⊢; have hi := hS.is hl.1; have ho := hS.of; have hc0 := ((hS.old ⟨B, 0, none⟩ hB).trans hn0); have hc1 := ((hS.old ⟨B, 1, none⟩ hB).trans hn1); clear hb hg hz w1)
)
    go_ret
    exact ⟨rfl, HB.out ▸ hbase.trans (hS.below.mono (Nat.le_of_lt hB))⟩

set_option maxRecDepth 20000 in
set_option maxHeartbeats 4000000 in
theorem powers_core (a b n0 n1 A B X Y S L K M Q V U : Int) (w : World)
    (mA : bits .and .u16 a 1023 = A) (mB : bits .and .u16 b 1023 = B)
    (c1 : (A == 0) = false) (c2 : (B == 0) = false) (c3 : decide (n0 < -1099511627776) = false) (c4 : decide (1099511627776 < n0) = false) (c5 : decide (n1 < -1099511627776) = false) (c6 : decide (1099511627776 < n1) = false)
    (d3 : -1099511627776 ≤ n0) (d4 : n0 ≤ 1099511627776) (d5 : -1099511627776 ≤ n1) (d6 : n1 ≤ 1099511627776) (L0 : 0 ≤ L) (L1 : L < 1023) (K0 : 0 ≤ K) (K1 : K < 1023)
    (p1 : PowIs A n0 X) (p2 : PowIs A n1 Y) (l1 : LogIs A L true) (l2 : LogIs B K true) (m1 : MulIs X Y S) (p3 : PowIs A (n0 + n1) S) (m2 : MulIs A B M) (p4 : PowIs M n0 Q) (p5 : PowIs B n0 V) (m3 : MulIs X V Q)
    (x1 : ExpIs (L + K) M) (x2 : ExpIs (-L) U) (p6 : PowIs A (-1) U) :
    Calls Try.prog 6 #[.int .u16 a, .int .u16 b, .agg #[.int .i64 n0, .int .i64 n1]] w fun e w' => e = .returned (.bool true) ∧ Below w.heap.size w w' := by
  have hz := zero27
  have hn0 : (w.alloc (.cells #[.int .i64 n0, .int .i64 n1] 40)).cell? ⟨w.heap.size, 0, none⟩ = some (.int .i64 n0) := by rw [cell_of_row _ _ _ _ _ _ (heap_alloc_new w _)]; rfl
  have hn1 : (w.alloc (.cells #[.int .i64 n0, .int .i64 n1] 40)).cell? ⟨w.heap.size, 1, none⟩ = some (.int .i64 n1) := by rw [cell_of_row _ _ _ _ _ _ (heap_alloc_new w _)]; rfl
  have hB : w.heap.size < (w.alloc (.cells #[.int .i64 n0, .int .i64 n1] 40)).heap.size := by simp
  have hbase : Below w.heap.size w (w.alloc (.cells #[.int .i64 n0, .int .i64 n1] 40)) := (Below.refl _ _).alloc (Nat.le_refl _) _
  · go_enter Try.func6, Try.ntmps6
    go_wp2_with fail
    generalize hW : w.alloc (.cells #[.int .i64 n0, .int .i64 n1] 40) = W at hn0 hn1 hB hbase ⊢
    generalize hBe : w.heap.size = B at hn0 hn1 hB hbase ⊢
    have HB := Lib.hid hBe
    clear hW hBe
    refine (awake_any _).mono ?_
    rintro e w0 ⟨rfl, hb0⟩
    go_wp2_with fail
    refine (make_any _).mono ?_
    rintro e w1 ⟨cs, rfl, hl, hb1⟩
    have hb := hb0.trans (hb1.mono hb0.size)
    clear hb0 hb1
    go_wp2_with (first
      | (refine wpList_store_row rfl 27 _ _ rfl w1.heap.size (cells cs) rfl rfl 27 (cells ZT) (heap_alloc_new w1 _) (rsize hl) (zsize hl) (cells_one cs) ?_; have hS := St.start (cs := cs) hb (cells ZT); generalize hg : w1.heap.size = g at hS ⊢; generalize (w1.alloc (Obj.cells (cells ZT) 27)).setRow g (cells cs) = w2 at hS ⊢; have hi := hS.is hl.1; have ho := hS.of; have hc0 := ((hS.old ⟨B, 0, none⟩ hB).trans hn0); have hc1 := ((hS.old ⟨B, 1, none⟩ hB).trans hn1); clear hb hg hz w1)
      | (go_at_call 13; first
          | (with_reducible refine (m1.at cs _).mono ?_)
          | (with_reducible refine (m2.at cs _).mono ?_)
          | (with_reducible refine (m3.at cs _).mono ?_)
         rintro e w2 ⟨rfl, hb⟩; have hS := hS.next hb; have hi := hS.is hl.1; have ho := hS.of; have hc0 := ((hS.old ⟨B, 0, none⟩ hB).trans hn0); have hc1 := ((hS.old ⟨B, 1, none⟩ hB).trans hn1); clear hb)
      | (go_at_call 15; first
          | (with_reducible refine (l1.at hl _).mono ?_)
          | (with_reducible refine (l2.at hl _).mono ?_)
         rintro e w2 ⟨rfl, hb⟩; have hS := hS.next hb; have hi := hS.is hl.1; have ho := hS.of; have hc0 := ((hS.old ⟨B, 0, none⟩ hB).trans hn0); have hc1 := ((hS.old ⟨B, 1, none⟩ hB).trans hn1); clear hb)
      | (go_at_call 16; first
          | (with_reducible refine (x1.at hl _).mono ?_)
          | (with_reducible refine (x2.at hl _).mono ?_)
         rintro e w2 ⟨rfl, hb⟩; have hS := hS.next hb; have hi := hS.is hl.1; have ho := hS.of; have hc0 := ((hS.old ⟨B, 0, none⟩ hB).trans hn0); have hc1 := ((hS.old ⟨B, 1, none⟩ hB).trans hn1); clear hb)
      | (go_at_call 17; first
          | (with_reducible refine (p1.at hl _).mono ?_)
          | (with_reducible refine (p2.at hl _).mono ?_)
          | (with_reducible refine (p3.at hl _).mono ?_)
          | (with_reducible refine (p4.at hl _).mono ?_)
          | (with_reducible refine (p5.at hl _).mono ?_)
          | (with_reducible refine (p6.at hl _).mono ?_)
         rintro e w2 ⟨rfl, hb⟩; have hS := hS.next hb; have hi := hS.is hl.1; have ho := hS.of; have hc0 := ((hS.old ⟨B, 0, none⟩ hB).trans hn0); have hc1 := ((hS.old ⟨B, 1, none⟩ hB).trans hn1); clear hb))
    have hiA := hS.isA hl.1
    have hoA := hS.ofA
    have hc0A := fun x : Cl.After w2.heap.size w2 => (let hS := hS.after x; ((hS.old ⟨B, 0, none⟩ hB).trans hn0))
    have hc1A := fun x : Cl.After w2.heap.size w2 => (let hS := hS.after x; ((hS.old ⟨B, 1, none⟩ hB).trans hn1))
    refine Cl.region_after_at w2.heap.size (by kernel_rfl) lex6_7 (by kernel_rfl) ?_
    try simp only [List.append]
    repeat (go_big_quiet_step (first
      | (go_at_call 13; first
          | (with_reducible exact Cl.after_of (Nat.le_refl _) (m1.at cs _))
          | (with_reducible exact Cl.after_of (Nat.le_refl _) (m2.at cs _))
          | (with_reducible exact Cl.after_of (Nat.le_refl _) (m3.at cs _)))
      | (go_at_call 15; first
          | (with_reducible exact Cl.after_of (Nat.le_refl _) (l1.at hl _))
          | (with_reducible exact Cl.after_of (Nat.le_refl _) (l2.at hl _)))
      | (go_at_call 16; first
          | (with_reducible exact Cl.after_of (Nat.le_refl _) (x1.at hl _))
          | (with_reducible exact Cl.after_of (Nat.le_refl _) (x2.at hl _)))
      | (go_at_call 17; first
          | (with_reducible exact Cl.after_of (Nat.le_refl _) (p1.at hl _))
          | (with_reducible exact Cl.after_of (Nat.le_refl _) (p2.at hl _))
          | (with_reducible exact Cl.after_of (Nat.le_refl _) (p3.at hl _))
          | (with_reducible exact Cl.after_of (Nat.le_refl _) (p4.at hl _))
          | (with_reducible exact Cl.after_of (Nat.le_refl _) (p5.at hl _))
          | (with_reducible exact Cl.after_of (Nat.le_refl _) (p6.at hl _)))))
    refine wpQuiet_nil ?_
    rintro _ ⟨x, rfl⟩
    have hS := hS.after x
    clear hiA hoA hc0A hc1A
    generalize x.w = w2 at hS ⊢
    have hi := hS.is hl.1; have ho := hS.of; have hc0 := ((hS.old ⟨B, 0, none⟩ hB).trans hn0); have hc1 := ((hS.old ⟨B, 1, none⟩ hB).trans hn1)
    go_wp2_with (first
      | (go_at_call 13; first
          | (with_reducible refine (m1.at cs _).mono ?_)
          | (with_reducible refine (m2.at cs _).mono ?_)
          | (with_reducible refine (m3.at cs _).mono ?_)
         rintro e w2 ⟨rfl, hb⟩; have hS := hS.next hb; have hi := hS.is hl.1; have ho := hS.of; have hc0 := ((hS.old ⟨B, 0, none⟩ hB).trans hn0); have hc1 := ((hS.old ⟨B, 1, none⟩ hB).trans hn1); clear hb)
      | (go_at_call 15; first
          | (with_reducible refine (l1.at hl _).mono ?_)
          | (with_reducible refine (l2.at hl _).mono ?_)
         rintro e w2 ⟨rfl, hb⟩; have hS := hS.next hb; have hi := hS.is hl.1; have ho := hS.of; have hc0 := ((hS.old ⟨B, 0, none⟩ hB).trans hn0); have hc1 := ((hS.old ⟨B, 1, none⟩ hB).trans hn1); clear hb)
      | (go_at_call 16; first
          | (with_reducible refine (x1.at hl _).mono ?_)
          | (with_reducible refine (x2.at hl _).mono ?_)
         rintro e w2 ⟨rfl, hb⟩; have hS := hS.next hb; have hi := hS.is hl.1; have ho := hS.of; have hc0 := ((hS.old ⟨B, 0, none⟩ hB).trans hn0); have hc1 := ((hS.old ⟨B, 1, none⟩ hB).trans hn1); clear hb)
      | (go_at_call 17; first
          | (with_reducible refine (p1.at hl _).mono ?_)
          | (with_reducible refine (p2.at hl _).mono ?_)
          | (with_reducible refine (p3.at hl _).mono ?_)
          | (with_reducible refine (p4.at hl _).mono ?_)
          | (with_reducible refine (p5.at hl _).mono ?_)
          | (with_reducible refine (p6.at hl _).mono ?_)
         rintro e w2 ⟨rfl, hb⟩; have hS := hS.next hb; have hi := hS.is hl.1; have ho := hS.of; have hc0 := ((hS.old ⟨B, 0, none⟩ hB).trans hn0); have hc1 := ((hS.old ⟨B, 1, none⟩ hB).trans hn1); clear hb))
    have hiA := hS.isA hl.1
    have hoA := hS.ofA
    have hc0A := fun x : Cl.After w2.heap.size w2 => (let hS := hS.after x; ((hS.old ⟨B, 0, none⟩ hB).trans hn0))
    have hc1A := fun x : Cl.After w2.heap.size w2 => (let hS := hS.after x; ((hS.old ⟨B, 1, none⟩ hB).trans hn1))
    refine Cl.region_after_at w2.heap.size (by kernel_rfl) lex6_10 (by kernel_rfl) ?_
    try simp only [List.append]
    repeat (go_big_quiet_step (first
      | (go_at_call 13; first
          | (with_reducible exact Cl.after_of (Nat.le_refl _) (m1.at cs _))
          | (with_reducible exact Cl.after_of (Nat.le_refl _) (m2.at cs _))
          | (with_reducible exact Cl.after_of (Nat.le_refl _) (m3.at cs _)))
      | (go_at_call 15; first
          | (with_reducible exact Cl.after_of (Nat.le_refl _) (l1.at hl _))
          | (with_reducible exact Cl.after_of (Nat.le_refl _) (l2.at hl _)))
      | (go_at_call 16; first
          | (with_reducible exact Cl.after_of (Nat.le_refl _) (x1.at hl _))
          | (with_reducible exact Cl.after_of (Nat.le_refl _) (x2.at hl _)))
      | (go_at_call 17; first
          | (with_reducible exact Cl.after_of (Nat.le_refl _) (p1.at hl _))
          | (with_reducible exact Cl.after_of (Nat.le_refl _) (p2.at hl _))
          | (with_reducible exact Cl.after_of (Nat.le_refl _) (p3.at hl _))
          | (with_reducible exact Cl.after_of (Nat.le_refl _) (p4.at hl _))
          | (with_reducible exact Cl.after_of (Nat.le_refl _) (p5.at hl _))
          | (with_reducible exact Cl.after_of (Nat.le_refl _) (p6.at hl _)))))
    refine wpQuiet_nil ?_
    rintro _ ⟨x, rfl⟩
    have hS := hS.after x
    clear hiA hoA hc0A hc1A
    generalize x.w = w2 at hS ⊢
    have hi := hS.is hl.1; have ho := hS.of; have hc0 := ((hS.old ⟨B, 0, none⟩ hB).trans hn0); have hc1 := ((hS.old ⟨B, 1, none⟩ hB).trans hn1)
    go_wp2_with fail
    go_ret
    exact ⟨rfl, HB.out ▸ hbase.trans (hS.below.mono (Nat.le_of_lt hB))⟩

theorem powers_law (a : Int) (wa : (Lit.int .u16 a).wf = true) (b : Int) (wb : (Lit.int .u16 b).wf = true) (n0 n1 : Int) (_w0 : (Lit.int .i64 n0).wf = true) (_w1 : (Lit.int .i64 n1).wf = true) (w : World) :
    Calls Try.prog 6 #[.int .u16 a, .int .u16 b, .agg #[.int .i64 n0, .int .i64 n1]] w fun e w' => e = .returned (.bool true) ∧ Below w.heap.size w w' := by
  obtain ⟨a0, a1⟩ := u16_bd wa
  obtain ⟨b0, b1⟩ := u16_bd wb
  have mA := u16_mask a a0 a1
  have mB := u16_mask b b0 b1
  generalize hA : a % 1024 = A at mA
  generalize hB : b % 1024 = B at mB
  have A0 : 0 ≤ A := by omega
  have A1 : A < 1024 := by omega
  have B0 : 0 ≤ B := by omega
  have B1 : B < 1024 := by omega
  clear hA hB
  by_cases hz : (A = 0 ∨ B = 0) ∨ (n0 < -1099511627776 ∨ 1099511627776 < n0) ∨ (n1 < -1099511627776 ∨ 1099511627776 < n1)
  · refine powers_early a b n0 n1 A B _ _ _ _ _ _ w mA mB rfl rfl rfl rfl rfl rfl ?_
    simp only [beq_iff_eq, beq_eq_false_iff_ne, decide_eq_true_eq, decide_eq_false_iff_not, ne_eq]
    omega
  · rcases cases_exp A0 A1 with hA | ⟨i, i0, i1, hA⟩
    · exact absurd (Or.inl (Or.inl hA)) hz
    · rcases cases_exp B0 B1 with hB | ⟨j, j0, j1, hB⟩
      · exact absurd (Or.inl (Or.inr hB)) hz
      · have E : ∀ x, 0 ≤ expI x ∧ expI x < 65536 := fun x => by have := expI_bd x; omega
        have P : ∀ x n y, (x * n - y) % 1023 = 0 → PowIs (expI x) n (expI y) := fun x n y h => powIs (E x).1 (E x).2 (by rw [powI_exp]; exact expI_of h)
        have M : ∀ x y z, (x + y - z) % 1023 = 0 → MulIs (expI x) (expI y) (expI z) := fun x y z h => mulIs (E x).1 (E x).2 (E y).1 (E y).2 (by rw [mulI_exp]; exact expI_of h)
        subst hA hB
        refine powers_core a b n0 n1 (expI i) (expI j) (expI (i * n0)) (expI (i * n1)) (expI (i * n0 + i * n1)) i j (expI (i + j)) (expI (i * n0 + j * n0)) (expI (j * n0)) (expI (-i)) w mA mB
          (by simp; omega) (by simp; omega) (by simp; omega) (by simp; omega) (by simp; omega) (by simp; omega) (by omega) (by omega) (by omega) (by omega) i0 i1 j0 j1
          (P _ _ _ (by simp)) (P _ _ _ (by simp)) (logIs (E i).1 (E i).2 (by rw [logI_exp]; omega) (by rw [expI_mod]; have := expI_bd i; simp; omega)) (logIs (E j).1 (E j).2 (by rw [logI_exp]; omega) (by rw [expI_mod]; have := expI_bd j; simp; omega))
          (M _ _ _ (by simp)) (P _ _ _ (by rw [Int.mul_add]; simp)) (M _ _ _ (by simp)) (P _ _ _ (by rw [Int.add_mul]; simp)) (P _ _ _ (by simp)) (M _ _ _ (by simp)) (expIs rfl) (expIs rfl) (P _ _ _ (by simp))
end Go.Proofs.Ytignmhjnjcpnnaa
namespace Go.Proofs.Ytignmhjnjcpnnaa.fieldPowers
open Go.ChangeShapes Go.WideShapes Go.ChangeAt Go.RowKit Go.Gf
set_option linter.unusedVariables false

theorem own : ownKnob Try.prog.godebug = none := by kernel_rfl

theorem walk (a0 : Int) (w0 : (Lit.int .u16 a0).wf = true) (a1 : Int) (w1 : (Lit.int .u16 a1).wf = true) (a2 b2 : Int) (w2 : (Lit.int .i64 a2).wf = true) (x2 : (Lit.int .i64 b2).wf = true) (w : World) :
    Calls Try.prog 6 #[.int .u16 a0, .int .u16 a1, .agg #[.int .i64 a2, .int .i64 b2]] w fun e w' => e = .returned (.bool true) ∧ Below w.heap.size w w' := powers_law a0 w0 a1 w1 a2 b2 w2 x2 w

set_option maxRecDepth 100000 in
theorem lifted (os : Os) (started : os.Started) (H : Type) (enc : TypeId × Value → H) :
    ReturnsInHanded {} Try.checked os 6 .any (Rows.fieldPowersSpec.pre6 enc Try.prog Try.f6 Rows.fieldPowersRow.domain false) (Rows.fieldPowersSpec.post enc Try.prog Try.f6 false true false false) := by
  refine returnsInHanded_of_change (C := Try.checked) own started (by kernel_rfl) Try.func6
    (ChangeSpec.witness6 (enc := enc) (C := Try.checked) false ⟨#[], #[.int .u16 0, .int .u16 0, .agg #[.int .i64 0, .int .i64 0]], []⟩ 8 (by kernel_rfl) (by kernel_rfl) (by kernel_rfl) (by kernel_rfl)) ?_
  intro W base args ds gs before hval0 hW hcnd _
  have hval : ∀ (j : Nat) t v, Try.f6.params[j]? = some t → args[j]? = some v → Value.okWide Try.prog W .any base t v := hval0
  have hW' := hW
  obtain ⟨p, q, hA0, hV, rfl, hfz, hnd⟩ := hW
  have hA : DataW.TrodAll enc Try.prog W 0 (fun _ => true) true Try.f6.params.toList args.toList ds p := hA0
  rw [Try.params6] at hA hval
  obtain ⟨v0, vs0, d0, ds0, p0, q0, hargs, rfl, rfl, h0, r0⟩ := trodAll_cons hA
  obtain ⟨v1, vs1, d1, ds1, p1, q1, rfl, rfl, rfl, h1, r1⟩ := trodAll_cons r0
  obtain ⟨v2, vs2, d2, ds2, p2, q2, rfl, rfl, rfl, h2, r2⟩ := trodAll_cons r1
  obtain ⟨rfl, rfl, rfl⟩ := trodAll_nil r2
  obtain rfl : args = #[v0, v1, v2] := by cases args; simp_all
  obtain ⟨rfl, rfl⟩ := trodVars_none hV
  obtain ⟨a0, rfl, rfl, rfl, w0⟩ := open_int Try.underlying22 (hval 0 22 v0 rfl rfl) h0
  obtain ⟨a1, rfl, rfl, rfl, w1⟩ := open_int Try.underlying22 (hval 1 22 v1 rfl rfl) h1
  obtain ⟨a2, b2, rfl, rfl, rfl, w2, x2⟩ := open_arr2 Try.underlying40 Try.underlying3 (by kernel_rfl : Try.prog.cellsOf 40 = 2) (by kernel_rfl : Try.prog.cellsOf 3 = 1) (hval 2 40 v2 rfl rfl) h2
  clear hA0 hval0
  simp only [List.append_nil] at hW'
  refine (walk a0 w0 a1 w1 a2 b2 w2 x2 W).mono fun e W' ⟨he, hg⟩ => ?_
  subst he
  exact ⟨_, rfl, Cl.post_below (pa := []) (pv := []) hW' (fun _ _ _ => (trodAll_cons_mk (shut_bool Try.underlying4 _) trodAll_mk0)) (fun sp _ => (trodAll_cons_mk (shut_int Try.underlying22 w0) (trodAll_cons_mk (shut_int Try.underlying22 w1) (trodAll_cons_mk (shut_arr2 Try.underlying40 Try.underlying3 (by kernel_rfl : Try.prog.cellsOf 40 = 2) (by kernel_rfl : Try.prog.cellsOf 3 = 1) w2 x2) trodAll_mk0)))) (fun _ _ => rfl) rfl
    hg (ok_one (by kernel_rfl) rfl (okWide_bool_mk Try.underlying4 _))⟩

theorem over : Rows.fieldPowersRow.holds Try.pinned (OpenSpec.ofChange Rows.fieldPowersSpec) :=
  OpenClaim.holds_of_wide 6 Try.f6 rfl rfl rfl rfl rfl rfl rfl ⟨rfl, rfl, rfl, rfl, rfl⟩ rfl rfl rfl rfl rfl (by kernel_rfl) Try.func6 (by kernel_rfl)
    (of_decide_eq_true (by kernel_rfl)) (by unfold Func.isWrapper; first | (rw [if_pos (by decide +kernel)]; kernel_rfl) | (rw [if_neg (by decide +kernel)]; exact ⟨rfl, rfl⟩))
    (fun os started H enc _ => lifted os started H enc)

/-- THE STATEMENT -/
theorem proved : Rows.FieldPowersSaid := over
end Go.Proofs.Ytignmhjnjcpnnaa.fieldPowers
