/- A row of noughts of one's own; an operation behind its guard. -/
import Derived.Test.YtciafkobnlfpbaaCt
namespace Go.Proofs.Ytciafkobnlfpbaa
open Go.RowKit Go.Gf

theorem OwnS.made (w : World) (m : Nat) (hm : m ≤ maxLen) : OwnS w (w.alloc (.cells (madeCells #[.int .u16 0] m) 23)) (.slice (some ⟨w.heap.size, 0, none⟩) m m) (List.replicate m 0) := by
  refine ⟨⟨by simp, Or.inr ⟨w.heap.size, m, ((List.replicate m 0).map uv).toArray, by rw [List.length_replicate], Nat.le_refl _, by rw [made_uv]; exact heap_alloc_new w _, by simp, hm, by simp, ?_⟩⟩, ?_⟩
  · simp
  · intro y hy
    obtain ⟨_, rfl⟩ := List.mem_replicate.1 hy
    decide
theorem wpList_guarded {P : Program} {ops : Array Oper} {Q : Exit → Act → World → Prop} {rest : List Oper} {o : Oper} {a : Act} {w : World} (hw : Region.wanted o (yielded ops a.tmps) = true)
    (h : wpList P ops Q ({ o with guard := none } :: rest) a w) : wpList P ops Q (o :: rest) a w := by
  have h2 : Region.wanted { o with guard := none } (yielded ops a.tmps) = true := rfl
  simp only [wpList] at h ⊢
  rw [if_pos hw]
  rw [if_pos h2] at h
  exact h
theorem front_at {m : Nat} {a : List Nat} {j : Nat} (h : j < m) : at_ (front m a) j = 0 := by
  unfold front
  rw [at_append, List.length_replicate, if_pos h, at_get (by simpa using h)]
  simp
end Go.Proofs.Ytciafkobnlfpbaa
