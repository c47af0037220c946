/- A row in a block of one's own, of values of any type. -/
import Derived.Test.YtmmpcgmhcaianaaWrd
namespace Go.Proofs.Ytmmpcgmhcaianaa.We
open Go.RowKit
set_option linter.unusedVariables false
set_option linter.unusedSimpArgs false
/-- block g begins with the n values that f says, and may be written -/
def PV (w : World) (T : TypeId) (g n : Nat) (f : Nat → Value) : Prop := ∃ cur, w.heap[g]? = some (.cells cur T (0, 0)) ∧ ∀ i, i < n → cur[i]? = some (f i)
section
variable {w w' : World} {T : TypeId} {g n : Nat} {f : Nat → Value}
theorem PV.lt (h : PV w T g n f) : g < w.heap.size := by
  obtain ⟨cur, h, _⟩ := h
  rcases Nat.lt_or_ge g w.heap.size with hlt | hge
  · exact hlt
  · rw [Array.getElem?_eq_none hge] at h; cases h
theorem PV.cell (h : PV w T g n f) {i : Nat} (hi : i < n) : w.cell? ⟨g, i, none⟩ = some (f i) := by
  obtain ⟨cur, h, hc⟩ := h
  rw [cell_of_row w g i _ T (0, 0) h]
  exact hc i hi
theorem PV.frozen (h : PV w T g n f) (i : Nat) : w.frozen? ⟨g, i, none⟩ = false := by
  obtain ⟨cur, h, hc⟩ := h
  simp [World.frozen?, h]
theorem PV.set_ (h : PV w T g n f) (i : Nat) (v : Value) : PV (w.setCell ⟨g, i, none⟩ v) T g n (fun j => if j = i then v else f j) := by
  obtain ⟨cur, h, hc⟩ := h
  refine ⟨cur.setIfInBounds i v, ?_, fun j hj => ?_⟩
  · simp only [World.setCell]
    rw [Array.getElem?_modify, h]
    simp
  · have := hc j hj
    have hlt : j < cur.size := (Array.getElem?_eq_some_iff.1 this).1
    rw [Array.getElem?_setIfInBounds]
    by_cases e : i = j
    · subst e; simp [hlt]
    · rw [if_neg e]
      show _ = some (if j = i then v else f j)
      rw [if_neg (Ne.symm e)]; exact this
theorem PV.congr (h : PV w T g n f) {f' : Nat → Value} (e : ∀ j, j < n → f j = f' j) : PV w T g n f' := by
  obtain ⟨cur, h, hc⟩ := h
  exact ⟨cur, h, fun i hi => by rw [← e i hi]; exact hc i hi⟩
theorem PV.keep (h : PV w T g n f) (hb : w'.heap[g]? = w.heap[g]?) : PV w' T g n f := by
  obtain ⟨cur, h, hc⟩ := h
  exact ⟨cur, hb.trans h, hc⟩
theorem PV.below (h : PV w T g n f) (hb : Below w.heap.size w w') : PV w' T g n f := h.keep (hb.block g h.lt)
theorem setCell_block (w : World) {g i b : Nat} (v : Value) (h : b ≠ g) : (w.setCell ⟨g, i, none⟩ v).heap[b]? = w.heap[b]? := by
  simp only [World.setCell]
  rw [Array.getElem?_modify, if_neg (fun e => h e.symm)]
theorem PV.other (h : PV w T g n f) {g' i : Nat} (v : Value) (hne : g ≠ g') : PV (w.setCell ⟨g', i, none⟩ v) T g n f := h.keep (setCell_block w v hne)
theorem PV.sf (h : PV w T g n f) : SF w w.heap.size (some ⟨g, 0, none⟩) n f := by
  refine Or.inr ⟨_, rfl, h.lt, fun i hi => ?_⟩
  have e : (⟨g, 0, none⟩ : Addr).add i = ⟨g, i, none⟩ := by unfold Addr.add; split <;> simp_all
  rw [e]; exact h.cell hi
theorem PV.new (w : World) (T : TypeId) (cs : Array Value) (n : Nat) (f : Nat → Value) (h : ∀ i, i < n → cs[i]? = some (f i)) : PV (w.alloc (.cells cs T)) T w.heap.size n f := ⟨cs, heap_alloc_new w _, h⟩
/-- a store into a block that is new since w0 -/
theorem below_set {w0 : World} {B i : Nat} (h : Below B w0 w) (hg : B ≤ g) (v : Value) : Below B w0 (w.setCell ⟨g, i, none⟩ v) := ⟨h.os, h.tape, h.output, by simp [World.setCell]; exact h.size, fun b hb => by rw [setCell_block w v (by omega)]; exact h.block b hb⟩
end
theorem infoB : (Try.prog.info? 4).map (fun i => (i.zero, i.size, i.bytes)) = some (some (.bool false), 1, 1) := by kernel_rfl
/-- n times false -/
def zF (n : Nat) : Array Value := madeCells #[.bool false] n
theorem zF_size (n : Nat) : (zF n).size = n := size_madeCells _ _
theorem zF_at {n i : Nat} (h : i < n) : (zF n)[i]? = some (.bool false) := by
  unfold zF madeCells
  simp [h, Nat.mod_one]
theorem run_makeF (w : World) (n : Nat) (hn : n ≤ 65536) : (Instr.makeSlice 39 (.int .i64 (n : Int)) (.int .i64 (n : Int))).run Try.prog w = .ok (.slice (some ⟨w.heap.size, 0, none⟩) n n) (w.alloc (.cells (zF n) 4)) := by
  have hi0 := infoB
  obtain ⟨i, hi, hrest⟩ := Option.map_eq_some_iff.1 hi0
  simp only [Prod.mk.injEq] at hrest
  obtain ⟨i1, i2, i3⟩ := hrest
  have h := run_make (P := Try.prog) w 39 4 i _ Try.underlying39 hi i1 .i64 .i64 (n : Int) (n : Int) (by omega) (Int.le_refl _) (by rw [i3]; omega) (by omega)
  rw [i2, Int.toNat_natCast, Nat.mul_one] at h
  exact h
theorem PV.ints (w : World) (n : Nat) : PV (w.alloc (.cells (zI n) 3)) 3 w.heap.size n (iF fun _ => 0) := PV.new w _ _ n _ fun i hi => zI_at hi
theorem PV.bools (w : World) (n : Nat) : PV (w.alloc (.cells (zF n) 4)) 4 w.heap.size n (bF fun _ => false) := PV.new w _ _ n _ fun i hi => zF_at hi
theorem u8_nat {a : Int} (h : (Lit.int .u8 a).wf = true) : ∃ n : Nat, n < 256 ∧ a = (n : Int) := by
  have hr : 0 ≤ a ∧ a < 256 := by simp [Lit.wf, IntKind.min, IntKind.max, IntKind.signed, IntKind.bits] at h; omega
  exact ⟨a.toNat, by omega, (Int.toNat_of_nonneg hr.1).symm⟩
end Go.Proofs.Ytmmpcgmhcaianaa.We
