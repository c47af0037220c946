/- A page's points: what it holds, and what its functions do, said of whole points. -/
import Derived.Test.YtnndhbppgmnefaaRg
import Derived.Test.YtnndhbppgmnefaaAg
import Derived.Test.YtnndhbppgmnefaaWb
import Derived.Deep.Draws
namespace Go.Proofs.Ytnndhbppgmnefaa
open Go.RowKit Go.Gf Go.Fl
set_option linter.unusedVariables false
set_option linter.unusedSimpArgs false

def Ans (w : World) (v : Value) (e : Ending) (w' : World) : Prop := e = .returned v ∧ Below w.heap.size w w'
/-- a symbol's point -/
def pt (s : Nat) : Int × Int := (2 * ((s : Int) / 32 % 32) - 31, 2 * ((s : Int) % 32) - 31)
def ptAt (ps : List (Int × Int)) (i : Nat) : Int × Int := ps.getD i (0, 0)
def syAt (ss : List Nat) (i : Nat) : Nat := ss.getD i 0
/-- the first symbols' points, the others as they were -/
def progP (ps : List (Int × Int)) (ss : List Nat) (keep : Int) : List (Int × Int) := (List.range ps.length).map fun (i : Nat) => if (i : Int) < keep then pt (syAt ss i) else ptAt ps i
def progS (n : Nat) (keep : Int) : Int := if keep ≤ 0 then 0 else if (n : Int) ≤ keep then 1 else 2
def bad (p : Int × Int) (s : Nat) : Bool := decide (p = (0, 0)) || decide (slc p.1 p.2 ≠ (s : Int))
def wrongI (ps : List (Int × Int)) (ss : List Nat) : List Nat := (List.range ps.length).filter fun i => bad (ptAt ps i) (syAt ss i)
def movB (ps : List (Int × Int)) (st i a b : Int) : Bool := decide (st = 1 ∧ 0 ≤ i ∧ i < (ps.length : Int) ∧ -62 ≤ a ∧ a ≤ 62 ∧ -62 ≤ b ∧ b ≤ 62 ∧
  -1000 ≤ (ptAt ps i.toNat).1 + a ∧ (ptAt ps i.toNat).1 + a ≤ 1000 ∧ -1000 ≤ (ptAt ps i.toNat).2 + b ∧ (ptAt ps i.toNat).2 + b ≤ 1000)
def movP (ps : List (Int × Int)) (i : Nat) (a b : Int) : List (Int × Int) := ps.set i ((ptAt ps i).1 + a, (ptAt ps i).2 + b)
/-- a cell holds a whole point -/
def IsP (w : World) (a : Addr) (p : Int × Int) : Prop := ∃ x y, w.cell? a = some (.complex .f64 x y) ∧ Is x (p.1 : Rat) ∧ Is y (p.2 : Rat)
/-- block g has n cells for points, and may be written -/
def RowX (w : World) (g n : Nat) : Prop := ∃ cs, w.heap[g]? = some (.cells cs 41 (0, 0)) ∧ n ≤ cs.size
/-- the slice with address A holds the points ps, in a block from lo on -/
def Pts (w : World) (lo : Nat) (A : Option Addr) (ps : List (Int × Int)) : Prop := ps = [] ∨ ∃ g, A = some ⟨g, 0, none⟩ ∧ lo ≤ g ∧ RowX w g ps.length ∧ ∀ i, i < ps.length → IsP w ⟨g, i, none⟩ (ptAt ps i)
theorem RowX.lt {w : World} {g n : Nat} (h : RowX w g n) : g < w.heap.size := by
  obtain ⟨cs, h, _⟩ := h
  rcases Nat.lt_or_ge g w.heap.size with hlt | hge
  · exact hlt
  · rw [Array.getElem?_eq_none hge] at h; cases h
theorem RowX.keep {w w' : World} {g n : Nat} (h : RowX w g n) (hk : w'.heap[g]? = w.heap[g]?) : RowX w' g n := by
  obtain ⟨cs, h, hn⟩ := h
  exact ⟨cs, hk.trans h, hn⟩
theorem RowX.frozen {w : World} {g n : Nat} (h : RowX w g n) (i : Nat) : w.frozen? ⟨g, i, none⟩ = false := by
  obtain ⟨cs, h, _⟩ := h
  simp [World.frozen?, h]
theorem RowX.cell {w : World} {g n i : Nat} (h : RowX w g n) (hi : i < n) : ∃ v, w.cell? ⟨g, i, none⟩ = some v := by
  obtain ⟨cs, h, hn⟩ := h
  refine ⟨cs[i]'(by omega), ?_⟩
  simp [World.cell?, h]
theorem RowX.set_ {w : World} {g n : Nat} (h : RowX w g n) (k : Nat) (v : Value) : RowX (w.setCell ⟨g, k, none⟩ v) g n := by
  obtain ⟨cs, h, hn⟩ := h
  refine ⟨cs.setIfInBounds k v, ?_, by simpa using hn⟩
  simp only [World.setCell]
  rw [Array.getElem?_modify, h]
  simp
/-- a row of places -/
def Ints (w : World) (lo : Nat) (A : Option Addr) (l : List Nat) : Prop := l = [] ∨ ∃ a, A = some a ∧ lo ≤ a.block ∧ a.block < w.heap.size ∧ ∀ i, i < l.length → w.cell? (a.add i) = some (.int .i64 ((syAt l i : Nat) : Int))
/-- block k holds n cells: a point each, and the symbol that was put there -/
def RowC (w : World) (k n : Nat) : Prop := ∃ cs, w.heap[k]? = some (.cells cs 103 (0, 0)) ∧ n * 2 ≤ cs.size
/-- the i-th cell of block k -/
def CellC (w : World) (k i : Nat) (q : Int × Int) (st : Int) (x : Nat) : Prop := IsP w ⟨k, i * 2, none⟩ q ∧ ∃ s : Nat, w.cell? ⟨k, i * 2 + 1, none⟩ = some (.int .u16 (s : Int)) ∧ (st = 1 → s = x)
/-- THE PAGE (the program's own way to keep it) -/
structure Page (w : World) (F : Nat → Prop) (p : Addr) (ps : List (Int × Int)) (ss : List Nat) (st : Int) : Prop where
  shape : ∃ g k c, p = ⟨g, 0, none⟩ ∧ F g ∧ g < w.heap.size ∧ F k ∧ k < w.heap.size ∧ g ≠ k ∧ (∀ i, w.frozen? ⟨g, i, none⟩ = false) ∧
    w.cell? ⟨g, 0, none⟩ = some (.slice (some ⟨k, 0, none⟩) ps.length c) ∧ w.cell? ⟨g, 1, none⟩ = some (.int .i64 st) ∧ RowC w k ps.length ∧ ∀ i, i < ps.length → CellC w k i (ptAt ps i) st (syAt ss i)
  bound : ∀ i, -1000 ≤ (ptAt ps i).1 ∧ (ptAt ps i).1 ≤ 1000 ∧ -1000 ≤ (ptAt ps i).2 ∧ (ptAt ps i).2 ≤ 1000
  small : ps.length ≤ 65536
section
variable {w w' : World} {F F' : Nat → Prop} {p : Addr} {ps : List (Int × Int)} {ss : List Nat} {st : Int}
theorem frozen_block {w w' : World} {b : Nat} (h : w'.heap[b]? = w.heap[b]?) (i : Nat) : w'.frozen? ⟨b, i, none⟩ = w.frozen? ⟨b, i, none⟩ := by
  unfold World.frozen?
  dsimp only
  rw [h]
theorem IsP.block {w w' : World} {a : Addr} {q : Int × Int} (h : IsP w a q) (hb : w'.heap[a.block]? = w.heap[a.block]?) : IsP w' a q := by
  obtain ⟨x, y, hc, hx, hy⟩ := h
  exact ⟨x, y, (World.cell?_of_block hb).trans hc, hx, hy⟩
theorem Pts.block {w w' : World} {lo : Nat} {A : Option Addr} {ps : List (Int × Int)} (h : Pts w lo A ps) (hb : ∀ a, A = some a → w'.heap[a.block]? = w.heap[a.block]?) : Pts w' lo A ps := by
  rcases h with e | ⟨g, rfl, h1, h2, h3⟩
  · exact Or.inl e
  · have e := hb _ rfl
    exact Or.inr ⟨g, rfl, h1, h2.keep e, fun i hi => (h3 i hi).block e⟩
theorem Sl.block {w w' : World} {B B' : Nat} {A : Option Addr} {xs : List Nat} (h : Sl w B A xs) (hB : B ≤ B') (hb : ∀ a, A = some a → a.block < B → w'.heap[a.block]? = w.heap[a.block]?) : Sl w' B' A xs := by
  refine ⟨h.1, ?_⟩
  rcases h.2 with e | ⟨a, rfl, h1, h2⟩
  · exact Or.inl e
  · exact Or.inr ⟨a, rfl, by omega, fun i hi => (World.cell?_of_block (by rw [add_block]; exact hb a rfl h1)).trans (h2 i hi)⟩
theorem RowC.block {w w' : World} {k n : Nat} (h : RowC w k n) (hk : w'.heap[k]? = w.heap[k]?) : RowC w' k n := by
  obtain ⟨cs, h, hn⟩ := h
  exact ⟨cs, hk.trans h, hn⟩
theorem CellC.block {w w' : World} {k i : Nat} {q : Int × Int} {st : Int} {x : Nat} (h : CellC w k i q st x) (hk : w'.heap[k]? = w.heap[k]?) : CellC w' k i q st x := by
  obtain ⟨h1, s, h2, h3⟩ := h
  exact ⟨h1.block hk, s, (World.cell?_of_block hk).trans h2, h3⟩
/-- a page whose blocks are as they were -/
theorem Page.block (h : Page w F p ps ss st) (hs : w.heap.size ≤ w'.heap.size) (hb : ∀ b, b < w.heap.size → F b → w'.heap[b]? = w.heap[b]?) : Page w' F p ps ss st := by
  obtain ⟨⟨g, k, c, rfl, hg, hgl, hk, hkl, hgk, hfr, c0, c1, hr, hc⟩, hbd, hsm⟩ := h
  have eg := hb g hgl hg
  have ek := hb k hkl hk
  have ca : ∀ i, w'.cell? ⟨g, i, none⟩ = w.cell? ⟨g, i, none⟩ := fun i => World.cell?_of_block eg
  exact ⟨⟨g, k, c, rfl, hg, Nat.lt_of_lt_of_le hgl hs, hk, Nat.lt_of_lt_of_le hkl hs, hgk, fun i => (frozen_block eg i).trans (hfr i), (ca 0).trans c0, (ca 1).trans c1, hr.block ek, fun i hi => (hc i hi).block ek⟩, hbd, hsm⟩
theorem Page.below (h : Page w F p ps ss st) (hb : Below w.heap.size w w') : Page w' F p ps ss st := h.block hb.size fun b hlt _ => hb.block b hlt
theorem Page.keep (h : Page w F p ps ss st) (hk : Cl.Keeps F w w') : Page w' F p ps ss st := h.block hk.size fun b hlt hF => hk.block b hlt hF
theorem Page.only (h : Page w F p ps ss st) (hF : ∀ b, b < w.heap.size → F b → F' b) : Page w F' p ps ss st := by
  obtain ⟨⟨g, k, c, rfl, hg, hgl, hk, hkl, hr⟩, hbd, hsm⟩ := h
  exact ⟨⟨g, k, c, rfl, hF g hgl hg, hgl, hF k hkl hk, hkl, hr⟩, hbd, hsm⟩
end
end Go.Proofs.Ytnndhbppgmnefaa
