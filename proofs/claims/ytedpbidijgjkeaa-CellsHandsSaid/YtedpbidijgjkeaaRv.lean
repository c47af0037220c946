/- The reference's quotients of polynomials. -/
import Derived.Test.YtedpbidijgjkeaaRm
namespace Go.Proofs.Ytedpbidijgjkeaa
open Go.RowKit Go.Gf

theorem Arr.far {w : World} {g : Nat} {cs : List Nat} (h : Arr w g cs) {p : Addr} (hp : g ≠ p.block) (u : Value) : Arr (w.setCell p u) g cs := (Below.heap_setCell w p u g hp).trans h
theorem Arr.drewN {w : World} {g : Nat} {cs : List Nat} (h : Arr w g cs) (k : Nat) : Arr (w.drewN k) g cs := h
theorem rm_at (xs : List Nat) : rm xs.length (at_ xs) = xs := by
  apply List.ext_getElem
  · simp [rm]
  · intro j h1 h2; rw [rm_get, at_get h2]

/-- the quotient's reckoning: t of n places done: what is left of the dividend, and the quotient -/
def dv1 (b : List Nat) (iv n : Nat) (f : Nat → Nat) : Nat → Nat → Nat
  | 0, j => f j
  | t + 1, j => mrow (dv1 b iv n f t) (gm (dv1 b iv n f t (n - 1 - t + b.length - 1)) iv) b (n - 1 - t) b.length j
def dv2 (b : List Nat) (iv n : Nat) (f : Nat → Nat) : Nat → Nat → Nat
  | 0, _ => 0
  | t + 1, j => if j = n - 1 - t then gm (dv1 b iv n f t (n - 1 - t + b.length - 1)) iv else dv2 b iv n f t j
theorem dv1_lt {b : List Nat} {iv n : Nat} {f : Nat → Nat} (hf : ∀ j, f j < 1024) (t j : Nat) : dv1 b iv n f t j < 1024 := by
  induction t generalizing j with
  | zero => exact hf j
  | succ t ih => exact mrow_lt ih (gm_lt _ (ih _)) _ _
theorem dv2_lt {b : List Nat} {iv n : Nat} {f : Nat → Nat} (hf : ∀ j, f j < 1024) (t j : Nat) : dv2 b iv n f t j < 1024 := by
  induction t generalizing j with
  | zero => show 0 < 1024; decide
  | succ t ih =>
    unfold dv2
    split
    · exact gm_lt _ (dv1_lt hf _ _)
    · exact ih j
def divN (xs ys : List Nat) : Nat := (tr xs).length + 1 - (tr ys).length
def divI (ys : List Nat) : Nat := ginv (at_ (tr ys) ((tr ys).length - 1))
def pquo (xs ys : List Nat) : List Nat := tr (rm (divN xs ys) (dv2 (tr ys) (divI ys) (divN xs ys) (at_ (tr xs)) (divN xs ys)))
def prem (xs ys : List Nat) : List Nat := tr (rm (tr xs).length (dv1 (tr ys) (divI ys) (divN xs ys) (at_ (tr xs)) (divN xs ys)))

/-- the three rows of a division -/
def Div3 (w wr : World) (g1 g2 g3 la n : Nat) (b : List Nat) (fa fq : Nat → Nat) : Prop :=
  Below w.heap.size w wr ∧ Arr wr g1 (rm la fa) ∧ Arr wr g2 b ∧ Arr wr g3 (rm n fq)
theorem arr_rm_cell {w : World} {g n : Nat} {f : Nat → Nat} (h : Arr w g (rm n f)) {i : Nat} (hi : i < n) : w.cell? ⟨g, i, none⟩ = some (.int .u16 ((f i : Nat) : Int)) := by
  have := h.cell (i := i) (by rw [rm_len]; exact hi)
  rw [rm_get] at this; exact this
theorem Div3.setA {w wr : World} {g1 g2 g3 la n : Nat} {b : List Nat} {fa fq fa' : Nat → Nat} (h : Div3 w wr g1 g2 g3 la n b fa fq) (h1 : w.heap.size ≤ g1) (h2 : g1 < g2) (h3 : g2 < g3) (i v : Nat)
    (e : ∀ j, j < la → (if j = i then v else fa j) = fa' j) : Div3 w (wr.setCell ⟨g1, i, none⟩ (.int .u16 (v : Int))) g1 g2 g3 la n b fa' fq := by
  refine ⟨h.1.setCell h1 _, ?_, h.2.2.1.far (by simp; omega) _, h.2.2.2.far (by simp; omega) _⟩
  rw [← rm_congr e, ← rm_set]; exact h.2.1.set_ i v
theorem Div3.setQ {w wr : World} {g1 g2 g3 la n : Nat} {b : List Nat} {fa fq fq' : Nat → Nat} (h : Div3 w wr g1 g2 g3 la n b fa fq) (h1 : w.heap.size ≤ g1) (h2 : g1 < g2) (h3 : g2 < g3) (i v : Nat)
    (e : ∀ j, j < n → (if j = i then v else fq j) = fq' j) : Div3 w (wr.setCell ⟨g3, i, none⟩ (.int .u16 (v : Int))) g1 g2 g3 la n b fa fq' := by
  refine ⟨h.1.setCell (by simp; omega) _, h.2.1.far (by simp; omega) _, h.2.2.1.far (by simp; omega) _, ?_⟩
  rw [← rm_congr e, ← rm_set]; exact h.2.2.2.set_ i v
theorem Div3.drewN {w wr : World} {g1 g2 g3 la n : Nat} {b : List Nat} {fa fq : Nat → Nat} (h : Div3 w wr g1 g2 g3 la n b fa fq) (k : Nat) : Div3 w (wr.drewN k) g1 g2 g3 la n b fa fq :=
  ⟨below_drewN h.1 k, h.2.1, h.2.2.1, h.2.2.2⟩
theorem Div3.congrA {w wr : World} {g1 g2 g3 la n : Nat} {b : List Nat} {fa fq fa' : Nat → Nat} (h : Div3 w wr g1 g2 g3 la n b fa fq) (e : ∀ j, j < la → fa j = fa' j) : Div3 w wr g1 g2 g3 la n b fa' fq := by
  refine ⟨h.1, ?_, h.2.2⟩
  rw [← rm_congr e]; exact h.2.1
theorem div3_start {w w2 : World} {g1 g2 n : Nat} {a b : List Nat} (hb : Below w.heap.size w w2) (h1 : Arr w2 g1 a) (h2 : Arr w2 g2 b) :
    Div3 w (w2.alloc (.cells (madeCells #[.int .u16 0] n) 27)) g1 g2 w2.heap.size a.length n b (at_ a) (fun _ => 0) := by
  refine ⟨hb.alloc hb.size _, ?_, h2.alloc _, ?_⟩
  · rw [rm_at]; exact h1.alloc _
  · rw [made_uv, rm_zero]; exact Arr.new w2 _

/-- a division's ending: quotient and rest -/
def GivesQR (w : World) (q r : List Nat) (e : Ending) (w' : World) : Prop :=
  ∃ A1 c1 A2 c2, e = .returned (.tuple #[.slice A1 q.length c1, .slice A2 r.length c2, .bool true]) ∧ SlF w' w.heap.size A1 q ∧ SlF w' w.heap.size A2 r ∧ Below w.heap.size w w'


/-- a division by nought -/
def GivesNo (w : World) (e : Ending) (w' : World) : Prop := e = .returned (.tuple #[.slice none 0 0, .slice none 0 0, .bool false]) ∧ Below w.heap.size w w'
/-- a list written out in the text -/
theorem sl_new (w : World) (o : Obj) (xs : List Nat) (g : Nat) (hg : w.heap.size = g) (ho : o = .cells (xs.map uv).toArray 27) (h : ∀ x ∈ xs, x < 65536) : Sl (w.alloc o) (w.alloc o).heap.size (some ⟨g, 0, none⟩) xs := by
  subst hg ho
  exact (Arr.new w xs).sl h
theorem below_alloc (w : World) (o : Obj) : Below w.heap.size w (w.alloc o) := (Below.refl _ _).alloc (Nat.le_refl _) _
theorem slope_le (xs : List Nat) : (slope xs).length ≤ xs.length := Nat.le_trans (tr_len _) (by rw [rm_len]; exact Nat.le_refl _)
end Go.Proofs.Ytedpbidijgjkeaa
