/- Bits: contracts at what is known; worlds in which the bits alone have changed; bits put and counted. -/
import Derived.Test.YtcnnmnjepofomaaVle
namespace Go.Proofs.Ytcnnmnjepofomaa.Vl
open Go.RowKit Go.Bw
set_option linter.unusedVariables false
set_option linter.unusedSimpArgs false
theorem below_keeps {h : Nat} {w0 w1 w2 : World} (b : Below w0.heap.size w0 w1) (hh : w0.heap.size ≤ h) (k : Cl.Keeps (fun q => q ≠ h) w1 w2) : Below w0.heap.size w0 w2 :=
  ⟨k.os.trans b.os, k.tape.trans b.tape, k.output.trans b.output, Nat.le_trans b.size k.size, fun q hq => (k.block q (Nat.lt_of_lt_of_le hq b.size) (by omega)).trans (b.block q hq)⟩
theorem Tb.keeps {h : Nat} {w1 w2 : World} (t : Tb w1) (hh : 0 < h) (k : Cl.Keeps (fun q => q ≠ h) w1 w2) : Tb w2 := fun i hi => by
  have := t i hi
  rw [World.cell?_of_block (k.block 0 (World.block_lt_of_cell? w1 _ this) (by omega))]; exact this
theorem Tb.pos {w : World} (t : Tb w) : 0 < w.heap.size := World.block_lt_of_cell? w _ (t 0 (by decide))
theorem set_lit {g h n : Nat} {β : Nat → Bool} {w0 : World} (w : World) (hB : Below w0.heap.size w0 w) (hh : w0.heap.size ≤ h) (b : Bt w g h n β) (i : Int) (on r : Bool) (hr : chg n β i on = r) (β' : Nat → Bool) (hβ : upd n β i on = β') :
    Calls Try.prog 25 #[.pointer (some ⟨g, 0, none⟩), .int .i64 i, .bool on] w fun e w' => e = .returned (.bool r) ∧ Below w0.heap.size w0 w' ∧ Cl.Keeps (fun q => q ≠ h) w w' ∧ Bt w' g h n β' := by
  subst hr hβ
  exact (set_any w b i on).mono fun e w' ⟨h1, h2, h3⟩ => ⟨h1, below_keeps hB hh h2, h2, h3⟩
theorem count_lit {g h n : Nat} {β : Nat → Bool} (w : World) (b : Bt w g h n β) (A B : Int) (hA : A ≤ 9223372036854775807) (x : Int) (hx : ((pc (sel β A B) n : Nat) : Int) = x) :
    Calls Try.prog 26 #[.pointer (some ⟨g, 0, none⟩), .int .i64 A, .int .i64 B] w (Same w (.int .i64 x)) := by subst hx; exact count_any w b A B hA
theorem has_lit {g h n : Nat} {β : Nat → Bool} (w : World) (b : Bt w g h n β) (i : Int) (r : Bool) (hr : hasB n β i = r) :
    Calls Try.prog 28 #[.pointer (some ⟨g, 0, none⟩), .int .i64 i] w (We.Ans w (.bool r)) := by subst hr; exact has_any w b i
theorem Bt.keeps {g h n q : Nat} {β : Nat → Bool} {w w' : World} (b : Bt w g h n β) (k : Cl.Keeps (fun i => i ≠ q) w w') (hg : g ≠ q) (hh : h ≠ q) : Bt w' g h n β := b.keep (k.block g b.box.lt hg) (k.block h b.row.lt hh)
theorem set_no {g h n : Nat} {β : Nat → Bool} {w0 : World} (w : World) (hB : Below w0.heap.size w0 w) (hh : w0.heap.size ≤ h) (b : Bt w g h n β) (i : Int) (on : Bool) (hr : chg n β i on = false) :
    Calls Try.prog 25 #[.pointer (some ⟨g, 0, none⟩), .int .i64 i, .bool on] w fun e w' => e = .returned (.bool false) ∧ Below w0.heap.size w0 w' ∧ Cl.Keeps (fun q => q ≠ h) w w' ∧ Bt w' g h n β := by
  refine (set_any w b i on).mono fun e w' ⟨h1, h2, h3⟩ => ⟨by rw [h1, hr], below_keeps hB hh h2, h2, h3.congr fun j => (upd_same hr j).symm⟩
/-- bit p as told -/
def put (β : Nat → Bool) (p : Nat) (on : Bool) (j : Nat) : Bool := if j = p then on else β j
theorem upd_put {n p : Nat} {β : Nat → Bool} {on : Bool} (hp : p < n) : upd n β (p : Int) on = put β p on := by
  have h1 : inB n (p : Int) = true := by unfold inB; simp; omega
  funext j
  unfold upd put
  by_cases e : j = p
  · subst e; rw [if_pos ⟨h1, rfl⟩, if_pos rfl]
  · rw [if_neg e, if_neg (fun hh => e (by have := hh.2; omega))]
theorem chg_put {n p : Nat} {β : Nat → Bool} {on : Bool} (hp : p < n) : chg n β (p : Int) on = (β p != on) := by
  unfold chg inB; simp [hp]
theorem has_put {n p : Nat} {β : Nat → Bool} (hp : p < n) : hasB n β (p : Int) = β p := by
  unfold hasB inB; simp [hp]
theorem pc_put {β : Nat → Bool} {p : Nat} {on : Bool} : ∀ {k : Nat}, p < k → pc (put β p on) k + (β p).toNat = pc β k + on.toNat
  | 0, h => absurd h (Nat.not_lt_zero _)
  | k + 1, h => by
    rw [pc, pc]
    by_cases e : p = k
    · subst e
      have h1 : pc (put β p on) p = pc β p := pc_congr fun j hj => by unfold put; rw [if_neg (by omega)]
      have h2 : put β p on p = on := by unfold put; rw [if_pos rfl]
      rw [h1, h2]
      cases on <;> cases β p <;> simp
    · have ih := pc_put (β := β) (p := p) (on := on) (k := k) (by omega)
      have h2 : put β p on k = β k := by unfold put; rw [if_neg (fun e2 => e e2.symm)]
      rw [h2]
      omega
theorem pc_split {f g h : Nat → Bool} : ∀ {k : Nat}, (∀ j, j < k → h j = (f j || g j) ∧ (f j && g j) = false) → pc f k + pc g k = pc h k
  | 0, _ => rfl
  | k + 1, e => by
    have ih := pc_split (f := f) (g := g) (h := h) (k := k) fun j hj => e j (by omega)
    obtain ⟨e1, e2⟩ := e k (by omega)
    rw [pc, pc, pc, e1]
    revert e2
    cases f k <;> cases g k <;> simp <;> omega
theorem set_p {g h n : Nat} {β : Nat → Bool} {w0 : World} (w : World) (hB : Below w0.heap.size w0 w) (hh : w0.heap.size ≤ h) (b : Bt w g h n β) {p : Nat} (hp : p < n) (i : Int) (hi : i = (p : Int)) (on r : Bool) (hr : (β p != on) = r) :
    Calls Try.prog 25 #[.pointer (some ⟨g, 0, none⟩), .int .i64 i, .bool on] w fun e w' => e = .returned (.bool r) ∧ Below w0.heap.size w0 w' ∧ Cl.Keeps (fun q => q ≠ h) w w' ∧ Bt w' g h n (put β p on) := by
  subst hi
  exact set_lit w hB hh b _ on r (by rw [chg_put hp, hr]) _ (upd_put hp)
theorem has_p {g h n : Nat} {β : Nat → Bool} (w : World) (b : Bt w g h n β) {p : Nat} (hp : p < n) (i : Int) (hi : i = (p : Int)) (r : Bool) (hr : β p = r) :
    Calls Try.prog 28 #[.pointer (some ⟨g, 0, none⟩), .int .i64 i] w (We.Ans w (.bool r)) := by
  subst hi
  exact has_lit w b _ r (by rw [has_put hp, hr])
theorem put_put (β : Nat → Bool) (p : Nat) (on : Bool) : put (put β p on) p (β p) = β := by
  funext j
  unfold put
  by_cases e : j = p
  · subst e; rw [if_pos rfl]
  · rw [if_neg e, if_neg e]
theorem put_self (β : Nat → Bool) (p : Nat) : put β p (β p) = β := by
  funext j
  unfold put
  by_cases e : j = p
  · subst e; rw [if_pos rfl]
  · rw [if_neg e]
end Go.Proofs.Ytcnnmnjepofomaa.Vl
