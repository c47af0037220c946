/- The document's example, and what the laws' walks need to go on from call to call. -/
import Derived.Test.YtciafkobnlfpbaaFd
import Derived.Test.YtciafkobnlfpbaaCl
namespace Go.Proofs.Ytciafkobnlfpbaa
open Go.RowKit Go.Gf

/-- made tables lie in block g, behind all that was there when the call began -/
structure St (w : World) (g : Nat) (cs : List Nat) (w' : World) : Prop where
  below : Below w.heap.size w w'
  ge : w.heap.size ≤ g
  lt : g < w'.heap.size
  tb : Tb w' g cs
theorem St.next {w w1 w2 : World} {g : Nat} {cs : List Nat} (h : St w g cs w1) (hb : Below w1.heap.size w1 w2) : St w g cs w2 :=
  ⟨h.below.trans (hb.mono h.below.size), h.ge, Nat.lt_of_lt_of_le h.lt hb.size, h.tb.below hb h.lt⟩
theorem St.start {w w1 : World} {cs : List Nat} (hb : Below w.heap.size w w1) (ds : Array Value) :
    St w w1.heap.size cs ((w1.alloc (.cells ds 28)).setRow w1.heap.size (cells cs)) :=
  ⟨below_setRow (hb.alloc hb.size _) hb.size _, hb.size, by simp, setRow_heap _ _ _ _ _ _ (heap_alloc_new w1 _)⟩
/-- block g is tables -/
def isTb (w : World) (g : Nat) : Bool := match w.heap[g]? with
  | some (.cells cs t fr) => t == 28 && fr == (0, 0) && cs.size == 2047
  | _ => false
def tbOf (w : World) (g : Nat) : Array Value := match w.heap[g]? with
  | some (.cells cs _ _) => cs
  | _ => #[]
theorem loadAt_tb {w : World} {g : Nat} (h : isTb w g = true) : (Instr.loadAt 28 (.pointer (some ⟨g, 0, none⟩))).run Try.prog w = .ok (.agg (tbOf w g)) w := by
  unfold isTb at h
  split at h
  · rename_i cs t fr hg
    simp only [Bool.and_eq_true, beq_iff_eq] at h
    obtain ⟨⟨rfl, rfl⟩, hs⟩ := h
    have e : tbOf w g = cs := by unfold tbOf; rw [hg]
    rw [e]
    simp only [Instr.loadAt, Instr.sureAddr, Sem.run_bind, Sem.run_pure, Result.andThen]
    exact run_loadVar_row w g 28 28 cs (0, 0) _ hg Try.underlying28 rfl (by rw [size27, hs])
  · cases h
theorem St.is {w w' : World} {g : Nat} {cs : List Nat} (h : St w g cs w') (hl : cs.length = 2047) : isTb w' g = true := by
  unfold isTb
  have e : w'.heap[g]? = _ := h.tb
  rw [e]
  simp [cells_size, hl]
theorem St.of {w w' : World} {g : Nat} {cs : List Nat} (h : St w g cs w') : tbOf w' g = cells cs := by
  unfold tbOf
  have e : w'.heap[g]? = _ := h.tb
  rw [e]
/-- likewise, of a pointer to its head -/
def tbAt (w : World) : Value → Bool
  | .pointer (some ⟨g, 0, none⟩) => isTb w g
  | _ => false
def tbIn (w : World) : Value → Array Value
  | .pointer (some a) => tbOf w a.block
  | _ => #[]
theorem tbAt_ptr (w : World) (g : Nat) : tbAt w (.pointer (some ⟨g, 0, none⟩)) = isTb w g := rfl
theorem tbIn_ptr (w : World) (g : Nat) : tbIn w (.pointer (some ⟨g, 0, none⟩)) = tbOf w g := rfl
theorem exec_load_tb (ρ : Operand → Value) (d : Option Tmp) (ty : TypeId) (pos : String) (after : Array Edge) (gd : Option (Nat × Bool)) (x : Operand) (w : World) (h : tbAt w (ρ x) = true) :
    (execOp ρ ⟨d, .load 28 x, ty, pos, after, gd⟩).run Try.prog w = .ok (.value (.agg (tbIn w (ρ x)))) w := by
  generalize hv : ρ x = v at h
  unfold tbAt at h
  split at h
  · rename_i g
    simp only [execOp, hv, Sem.run_bind, loadAt_tb h, Result.andThen_ok, Sem.run_pure]
    rfl
  · cases h
attribute [local go_sem ↓] exec_load_tb
attribute [local go_sem] tbAt_ptr tbIn_ptr
theorem Laid.tab {cs : List Nat} (h : Laid cs 1023) : Tab cs := ⟨h.1, Or.inr h⟩
theorem rsize {cs : List Nat} (h : Laid cs 1023) : (Try.prog.info? 28).map (·.size) = some (cells cs).size := by rw [size27, cells_size, h.1]
theorem zsize {cs : List Nat} (h : Laid cs 1023) : (cells ZT).size = (cells cs).size := by rw [cells_size, cells_size, h.1]; exact List.length_replicate

end Go.Proofs.Ytciafkobnlfpbaa
