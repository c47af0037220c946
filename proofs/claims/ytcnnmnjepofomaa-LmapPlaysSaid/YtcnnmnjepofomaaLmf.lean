/- The program's ways: where they lead; led; made. -/
import Derived.Test.YtcnnmnjepofomaaLme
import Derived.Deep.Cut
namespace Go.Proofs.Ytcnnmnjepofomaa.Lm
open Go.RowKit Go.Bw Go.Proofs.Ytcnnmnjepofomaa.Vl
set_option linter.unusedVariables false
set_option linter.unusedSimpArgs false
attribute [local go_sem ↓] Cl.quiet_since
/-- the cells of a way's box -/
def wyF (g r n : Nat) (i : Nat) : Value := if i = 0 then .pointer (some ⟨g, 0, none⟩) else .slice (some ⟨r, 0, none⟩) n n
theorem way_box (w : World) (g r n : Nat) : PV (w.alloc (.cells #[.pointer (some ⟨g, 0, none⟩), .slice (some ⟨r, 0, none⟩) n n] 52)) 52 w.heap.size 2 (wyF g r n) := PV.new w 52 #[.pointer (some ⟨g, 0, none⟩), .slice (some ⟨r, 0, none⟩) n n] 2 (wyF g r n) fun i hi => by
  match i, hi with
  | 0, _ => rfl
  | 1, _ => rfl
/-- where a way leads -/
def atV (n : Nat) (β : Nat → Bool) (φ : Nat → Int) (i : Int) : Value := .tuple #[.int .i64 (if hasB n β i = true then φ i.toNat else 0), .bool (hasB n β i)]
set_option maxHeartbeats 1000000 in
theorem at_any {lo hi g h r n : Nat} {β : Nat → Bool} {φ : Nat → Int} (w : World) (W : Way w lo hi g h r n β φ) (i : Int) (hφ : hasB n β i = true → 0 ≤ φ i.toNat ∧ φ i.toNat ≤ 1048576) :
    Calls Try.prog 23 #[wayV g r n, .int .i64 i] w (We.Ans w (atV n β φ i)) := by
  have hB1 : Below w.heap.size w (w.alloc (.cells #[.pointer (some ⟨g, 0, none⟩), .slice (some ⟨r, 0, none⟩) n n] 52)) := We.below_alloc _ _
  unfold wayV atV
  have W1 := Lib.hid (W.below hB1)
  have hc := Lib.hid (has_any _ W1.out.bt i)
  replace hB1 := Lib.hid hB1
  cases hb : hasB n β i
  · rw [hb] at hc
    clear W hφ hb
    go_enter Try.func23, Try.ntmps23
    go_wp2_with (go_at_call 28; (with_reducible refine hc.out.mono ?_); rintro e w2 ⟨rfl, hB2⟩; replace hB2 := Lib.hid (We.below_trans hB1.out hB2))
    go_ret2
    exact ⟨rfl, hB2.out⟩
  · have hin : inB n i = true := by unfold hasB at hb; rw [Bool.and_eq_true] at hb; exact hb.1
    obtain ⟨p, rfl, hp⟩ := of_inB hin
    obtain ⟨f1, f2⟩ := hφ hb
    rw [hb] at hc
    rw [Int.toNat_natCast] at f1 f2
    simp only [if_true, Int.toNat_natCast]
    have hpn : (p : Int) < (n : Int) := by omega
    have cr : Hid (∀ w' : World, Below (w.alloc (.cells #[.pointer (some ⟨g, 0, none⟩), .slice (some ⟨r, 0, none⟩) n n] 52)).heap.size (w.alloc (.cells #[.pointer (some ⟨g, 0, none⟩), .slice (some ⟨r, 0, none⟩) n n] 52)) w' → w'.cell? ⟨r, p, none⟩ = some (.int .i32 (φ p))) := Lib.hid fun w' hb' => (W1.out.below hb').row.cell hp
    have cq : Hid (∀ w' : World, Below (w.alloc (.cells #[.pointer (some ⟨g, 0, none⟩), .slice (some ⟨r, 0, none⟩) n n] 52)).heap.size (w.alloc (.cells #[.pointer (some ⟨g, 0, none⟩), .slice (some ⟨r, 0, none⟩) n n] 52)) w' → w'.cell? ⟨w.heap.size, 1, none⟩ = some (.slice (some ⟨r, 0, none⟩) n n)) := Lib.hid fun w' hb' => ((way_box w g r n).below hb').cell (i := 1) (by decide)
    obtain ⟨X, hX⟩ : ∃ X, φ p = X := ⟨_, rfl⟩
    rw [hX] at cr f1 f2 ⊢
    have hcv : IntKind.i64.wrap X = X := by simp only [IntKind.wrap, IntKind.signed, IntKind.bits]; simp; omega
    replace hX := Lib.hid hX
    replace hb := Lib.hid hb
    replace hin := Lib.hid hin
    clear W hφ
    go_enter Try.func23, Try.ntmps23
    go_wp2_with (go_at_call 28; (with_reducible refine hc.out.mono ?_); rintro e w2 ⟨rfl, hB2⟩; have c2 := cr.out _ hB2; have c3 := cq.out _ hB2; replace hB2 := Lib.hid (We.below_trans hB1.out hB2))
    go_ret2
    exact ⟨rfl, hB2.out⟩
theorem keeps_mono {K K' : Nat → Prop} {w w' : World} (k : Cl.Keeps K w w') (h : ∀ q, K' q → K q) : Cl.Keeps K' w w' := ⟨k.os, k.tape, k.output, k.size, fun b hb hk => k.block b hb (h b hk)⟩
set_option maxHeartbeats 1000000 in
theorem lead_any {lo hi g h r n : Nat} {β : Nat → Bool} {φ : Nat → Int} (w : World) (W : Way w lo hi g h r n β φ) {p : Nat} (hp : p < n) (t : Int) (ht : 0 ≤ t ∧ t ≤ 1048576) :
    Calls Try.prog 24 #[wayV g r n, .int .i64 (p : Int), .int .i64 t] w fun e w' => e = .returned (.tuple #[]) ∧ Cl.Keeps (fun q => ¬ (lo ≤ q ∧ q < hi)) w w' ∧ Way w' lo hi g h r n (put β p true) (lay φ (p : Int) t) := by
  have hB1 : Below w.heap.size w (w.alloc (.cells #[.pointer (some ⟨g, 0, none⟩), .slice (some ⟨r, 0, none⟩) n n] 52)) := We.below_alloc _ _
  unfold wayV
  have bx := way_box w g r n
  have W1 := W.below hB1
  have hlt := W.row.lt
  have hrw : r ≠ w.heap.size := by omega
  clear hlt
  have hcr := W1.row.cell hp
  have hfz := W1.row.frozen p
  have hpn : (p : Int) < (n : Int) := by omega
  have hcv : IntKind.i32.wrap t = t := by simp only [IntKind.wrap, IntKind.signed, IntKind.bits]; simp; omega
  unfold nwF at hcr
  have hK := keeps_setN (K := fun q => ¬ (lo ≤ q ∧ q < hi)) (Cl.Keeps.of_below hB1) (g := r) (i := p) (v := .int .i32 t) (by obtain ⟨_, _, _, _, r5, r6⟩ := W.rng; simp; omega)
  have hb2 : Bt ((w.alloc (.cells #[.pointer (some ⟨g, 0, none⟩), .slice (some ⟨r, 0, none⟩) n n] 52)).setCell ⟨r, p, none⟩ (.int .i32 t)) g h n β := W1.bt.keep (setCell_block (w.alloc (.cells #[.pointer (some ⟨g, 0, none⟩), .slice (some ⟨r, 0, none⟩) n n] 52)) _ (Ne.symm W.nr.1)) (setCell_block (w.alloc (.cells #[.pointer (some ⟨g, 0, none⟩), .slice (some ⟨r, 0, none⟩) n n] 52)) _ (Ne.symm W.nr.2))
  have hr2 : PV ((w.alloc (.cells #[.pointer (some ⟨g, 0, none⟩), .slice (some ⟨r, 0, none⟩) n n] 52)).setCell ⟨r, p, none⟩ (.int .i32 t)) 21 r n (nwF (lay φ (p : Int) t)) := (W1.row.set_ p _).congr fun j hj => by
    show (if j = p then Value.int .i32 t else nwF φ j) = .int .i32 (lay φ (p : Int) t j)
    unfold lay nwF
    by_cases e : j = p
    · subst e; rw [if_pos rfl, if_pos rfl]
    · rw [if_neg e, if_neg (by omega)]
  have bx2 := bx.other (g' := r) (i := p) (.int .i32 t) (Ne.symm hrw)
  obtain ⟨nr, rng⟩ := (show _ ∧ _ from ⟨W.nr, W.rng⟩)
  have cb0 := bx2.cell (i := 0) (by decide)
  have cb1 := bx.cell (i := 1) (by decide)
  unfold wyF at cb0 cb1
  rw [if_pos rfl] at cb0
  rw [if_neg (by decide)] at cb1
  clear bx bx2 W W1 hB1
  replace hK := Lib.hid hK
  replace hb2 := Lib.hid hb2
  replace hr2 := Lib.hid hr2
  replace rng := Lib.hid rng
  replace nr := Lib.hid nr
  replace hrw := Lib.hid hrw
  go_enter Try.func24, Try.ntmps24
  have hs := Lib.hid (set_any _ hb2.out (p : Int) true)
  rw [upd_put hp] at hs
  go_wp2_with (go_at_call 25; (with_reducible refine hs.out.mono ?_); rintro e w3 ⟨rfl, k3, b3⟩; replace k3 := Lib.hid k3; replace b3 := Lib.hid b3)
  go_end0
  obtain ⟨r1, r2, r3, r4, r5, r6⟩ := rng.out
  refine ⟨rfl, hK.out.trans (keeps_mono k3.out fun q hq e => hq ⟨by omega, by omega⟩), b3.out, hr2.out.keep (k3.out.block r hr2.out.lt nr.out.2), nr.out, rng.out⟩
end Go.Proofs.Ytcnnmnjepofomaa.Lm
