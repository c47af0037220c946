/- A row in a block of one's own; rows made; the bits as they lie; New, Len, lies walked. -/
import Derived.Test.YtcnnmnjepofomaaVlb
namespace Go.Proofs.Ytcnnmnjepofomaa.Vl
open Go.RowKit Go.Bw
set_option linter.unusedVariables false
set_option linter.unusedSimpArgs false
/-- block g begins with the n values that f says, and may be written -/
def PV (w : World) (T : TypeId) (g n : Nat) (f : Nat → Value) : Prop := ∃ cur, w.heap[g]? = some (.cells cur T (0, 0)) ∧ ∀ i, i < n → cur[i]? = some (f i)
section
variable {w w' : World} {T : TypeId} {g n : Nat} {f : Nat → Value}
theorem PV.lt (h : PV w T g n f) : g < w.heap.size := by
  obtain ⟨cur, h, _⟩ := h
  rcases Nat.lt_or_ge g w.heap.size with hlt | hge
  · exact hlt
  · rw [Array.getElem?_eq_none hge] at h; cases h
theorem PV.cell (h : PV w T g n f) {i : Nat} (hi : i < n) : w.cell? ⟨g, i, none⟩ = some (f i) := by
  obtain ⟨cur, h, hc⟩ := h
  rw [cell_of_row w g i _ T (0, 0) h]
  exact hc i hi
theorem PV.frozen (h : PV w T g n f) (i : Nat) : w.frozen? ⟨g, i, none⟩ = false := by
  obtain ⟨cur, h, hc⟩ := h
  simp [World.frozen?, h]
theorem PV.set_ (h : PV w T g n f) (i : Nat) (v : Value) : PV (w.setCell ⟨g, i, none⟩ v) T g n (fun j => if j = i then v else f j) := by
  obtain ⟨cur, h, hc⟩ := h
  refine ⟨cur.setIfInBounds i v, ?_, fun j hj => ?_⟩
  · simp only [World.setCell]
    rw [Array.getElem?_modify, h]
    simp
  · have := hc j hj
    have hlt : j < cur.size := (Array.getElem?_eq_some_iff.1 this).1
    rw [Array.getElem?_setIfInBounds]
    by_cases e : i = j
    · subst e; simp [hlt]
    · rw [if_neg e]
      show _ = some (if j = i then v else f j)
      rw [if_neg (Ne.symm e)]; exact this
theorem PV.congr (h : PV w T g n f) {f' : Nat → Value} (e : ∀ j, j < n → f j = f' j) : PV w T g n f' := by
  obtain ⟨cur, h, hc⟩ := h
  exact ⟨cur, h, fun i hi => by rw [← e i hi]; exact hc i hi⟩
theorem PV.keep (h : PV w T g n f) (hb : w'.heap[g]? = w.heap[g]?) : PV w' T g n f := by
  obtain ⟨cur, h, hc⟩ := h
  exact ⟨cur, hb.trans h, hc⟩
theorem PV.below (h : PV w T g n f) (hb : Below w.heap.size w w') : PV w' T g n f := h.keep (hb.block g h.lt)
theorem setCell_block (w : World) {g i b : Nat} (v : Value) (h : b ≠ g) : (w.setCell ⟨g, i, none⟩ v).heap[b]? = w.heap[b]? := by
  simp only [World.setCell]
  rw [Array.getElem?_modify, if_neg (fun e => h e.symm)]
theorem PV.other (h : PV w T g n f) {g' i : Nat} (v : Value) (hne : g ≠ g') : PV (w.setCell ⟨g', i, none⟩ v) T g n f := h.keep (setCell_block w v hne)
theorem PV.sf (h : PV w T g n f) : We.SF w w.heap.size (some ⟨g, 0, none⟩) n f := by
  refine Or.inr ⟨_, rfl, h.lt, fun i hi => ?_⟩
  have e : (⟨g, 0, none⟩ : Addr).add i = ⟨g, i, none⟩ := by unfold Addr.add; split <;> simp_all
  rw [e]; exact h.cell hi
theorem PV.new (w : World) (T : TypeId) (cs : Array Value) (n : Nat) (f : Nat → Value) (h : ∀ i, i < n → cs[i]? = some (f i)) : PV (w.alloc (.cells cs T)) T w.heap.size n f := ⟨cs, heap_alloc_new w _, h⟩
/-- a store into a block that is new since w0 -/
theorem below_set {w0 : World} {B i : Nat} (h : Below B w0 w) (hg : B ≤ g) (v : Value) : Below B w0 (w.setCell ⟨g, i, none⟩ v) := ⟨h.os, h.tape, h.output, by simp [World.setCell]; exact h.size, fun b hb => by rw [setCell_block w v (by omega)]; exact h.block b hb⟩
end
theorem infoU : (Try.prog.info? 59).map (fun i => (i.zero, i.size, i.bytes)) = some (some (.int .u64 0), 1, 8) := by kernel_rfl
/-- n noughts, words -/
def zU (n : Nat) : Array Value := madeCells #[.int .u64 0] n
theorem zU_size (n : Nat) : (zU n).size = n := size_madeCells _ _
theorem zU_at {n i : Nat} (h : i < n) : (zU n)[i]? = some (.int .u64 0) := by
  unfold zU madeCells
  simp [h, Nat.mod_one]
theorem run_makeU (w : World) (n : Nat) (hn : n ≤ 65536) : (Instr.makeSlice 60 (.int .i64 (n : Int)) (.int .i64 (n : Int))).run Try.prog w = .ok (.slice (some ⟨w.heap.size, 0, none⟩) n n) (w.alloc (.cells (zU n) 59)) := by
  have hi0 := infoU
  obtain ⟨i, hi, hrest⟩ := Option.map_eq_some_iff.1 hi0
  simp only [Prod.mk.injEq] at hrest
  obtain ⟨i1, i2, i3⟩ := hrest
  have h := run_make (P := Try.prog) w 60 59 i _ Try.underlying60 hi i1 .i64 .i64 (n : Int) (n : Int) (by omega) (Int.le_refl _) (by rw [i3]; omega) (by omega)
  rw [i2, Int.toNat_natCast, Nat.mul_one] at h
  exact h
/-- n bits have so many words -/
def wn (n : Nat) : Nat := (n + 63) / 64
/-- the words' values -/
def wF (β : Nat → Bool) (i : Nat) : Value := .int .u64 ((wd β i : Nat) : Int)
/-- the box's two cells -/
def bxF (h n : Nat) (i : Nat) : Value := if i = 0 then .slice (some ⟨h, 0, none⟩) (wn n) (wn n) else .int .i64 (n : Int)
/-- THE BITS: n of them, β tells which are set; the box lies in g, the words in h -/
structure Bt (w : World) (g h n : Nat) (β : Nat → Bool) : Prop where
  box : PV w 62 g 2 (bxF h n)
  row : PV w 59 h (wn n) (wF β)
  ne : g ≠ h
  out : ∀ j, n ≤ j → β j = false
  le : n ≤ 1048576
section
variable {w w' : World} {g h n : Nat} {β : Nat → Bool}
theorem Bt.c0 (b : Bt w g h n β) : w.cell? ⟨g, 0, none⟩ = some (.slice (some ⟨h, 0, none⟩) (wn n) (wn n)) := b.box.cell (i := 0) (by decide)
theorem Bt.c1 (b : Bt w g h n β) : w.cell? ⟨g, 1, none⟩ = some (.int .i64 (n : Int)) := b.box.cell (i := 1) (by decide)
theorem Bt.w_ (b : Bt w g h n β) {i : Nat} (hi : i < wn n) : w.cell? ⟨h, i, none⟩ = some (.int .u64 ((wd β i : Nat) : Int)) := b.row.cell hi
theorem Bt.keep (b : Bt w g h n β) (e1 : w'.heap[g]? = w.heap[g]?) (e2 : w'.heap[h]? = w.heap[h]?) : Bt w' g h n β := ⟨b.box.keep e1, b.row.keep e2, b.ne, b.out, b.le⟩
theorem Bt.below (b : Bt w g h n β) (hb : Below w.heap.size w w') : Bt w' g h n β := ⟨b.box.below hb, b.row.below hb, b.ne, b.out, b.le⟩
theorem Bt.congr (b : Bt w g h n β) {β' : Nat → Bool} (e : ∀ j, β j = β' j) : Bt w g h n β' := by
  have : β = β' := funext e
  subst this; exact b
end
/-- nothing is made, nothing changes -/
def Same (w : World) (v : Value) (e : Ending) (w' : World) : Prop := e = .returned v ∧ w = w'
theorem len_any {g h n : Nat} {β : Nat → Bool} (w : World) (b : Bt w g h n β) :
    Calls Try.prog 31 #[.pointer (some ⟨g, 0, none⟩)] w (Same w (.int .i64 (n : Int))) := by
  have c1 := b.c1
  go_enter Try.func31, Try.ntmps31
  go_wp2
  go_ret
  exact ⟨rfl, rfl⟩
/-- there is a bit i -/
def inB (n : Nat) (i : Int) : Bool := decide (0 ≤ i) && decide (i < (n : Int))
theorem lies_any {g h n : Nat} {β : Nat → Bool} (w : World) (b : Bt w g h n β) (i : Int) :
    Calls Try.prog 29 #[.pointer (some ⟨g, 0, none⟩), .int .i64 i] w (Same w (.bool (inB n i))) := by
  have hb := Lib.hid b
  clear b
  unfold inB
  cases h0 : decide (0 ≤ i)
  · go_enter Try.func29, Try.ntmps29
    go_wp2_with fail
    go_ret
    exact ⟨rfl, rfl⟩
  · go_enter Try.func29, Try.ntmps29
    go_wp2_with (go_at_call 31; refine (len_any _ hb.out).mono ?_; rintro e w2 ⟨rfl, rfl⟩)
    go_ret
    exact ⟨rfl, rfl⟩
set_option maxHeartbeats 1000000 in
theorem new_any (n : Int) (k : Nat) (hk : k = (min (max n 0) 1048576).toNat) (w : World) :
    Calls Try.prog 27 #[.int .i64 n] w fun e w' => ∃ g h, e = .returned (.pointer (some ⟨g, 0, none⟩)) ∧ Below w.heap.size w w' ∧ w.heap.size ≤ g ∧ w.heap.size ≤ h ∧ Bt w' g h k (fun _ => false) := by
  have f0 : (if n < 0 then 0 else n) = max n 0 := by omega
  have f1 : (if 0 ≤ n then n else 0) = max n 0 := by omega
  obtain ⟨m, hm⟩ : ∃ m, max n 0 = m := ⟨_, rfl⟩
  rw [hm] at f0 f1 hk
  have f2 : (if 1048576 < m then 1048576 else m) = (k : Int) := by omega
  have f3 : (if m < 1048576 then m else 1048576) = (k : Int) := by omega
  have f4 : (if m ≤ 1048576 then m else 1048576) = (k : Int) := by omega
  have hk2 : k ≤ 1048576 := by omega
  have f5 : ((k : Int) + 64 - 1).tdiv 64 = (wn k : Nat) := by
    rw [Int.tdiv_eq_ediv_of_nonneg (by omega)]
    unfold wn; omega
  have hw2 : wn k ≤ 65536 := by unfold wn; omega
  clear hm hk
  have mk := run_makeU w (wn k) hw2
  go_enter Try.func27, Try.ntmps27
  go_wp2_with fail
  go_ret
  have hs : (w.alloc (.cells (zU (wn k)) 59)).heap.size = w.heap.size + 1 := World.size_alloc _ _
  have hB : Below w.heap.size w (w.alloc (.cells (zU (wn k)) 59)) := We.below_alloc _ _
  have hp := PV.new w 59 (zU (wn k)) (wn k) (wF fun _ => false) fun i hi => by
    rw [zU_at hi]; unfold wF
    have : wd (fun _ => false) i = 0 := by
      apply Nat.eq_of_testBit_eq; intro j; rw [tb_wd]; simp
    rw [this]; rfl
  generalize w.alloc (.cells (zU (wn k)) 59) = w1 at *
  refine ⟨w.heap.size + 1, w.heap.size, rfl, We.below_trans hB (We.below_alloc _ _), by omega, Nat.le_refl _, ?_, hp.below (We.below_alloc _ _), by omega, fun _ _ => rfl, hk2⟩
  rw [← hs]
  exact PV.new w1 _ _ 2 _ fun i hi => by
    match i, hi with
    | 0, _ => rfl
    | 1, _ => rfl
end Go.Proofs.Ytcnnmnjepofomaa.Vl
