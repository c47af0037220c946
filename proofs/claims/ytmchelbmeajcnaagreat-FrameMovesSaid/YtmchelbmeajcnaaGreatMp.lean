/- FrameMakes: the page, or why there is none, as the document has it; read it is the same. -/
import Derived.Test.YtmchelbmeajcnaaGreatMo
import Derived.Test.YtmchelbmeajcnaaGreatMg
namespace Go.Proofs.YtmchelbmeajcnaaGreat
open Go.RowKit Go.Gf Go.Fl
set_option linter.unusedVariables false
set_option linter.unusedSimpArgs false
set_option maxRecDepth 20000
attribute [local go_sem ↓] exec_load_tb Cl.quiet_since
attribute [local go_sem] tbAt_ptr tbIn_ptr

theorem OwnS.len {w0 w : World} {v : Value} {ys : List Nat} (h : OwnS w0 w v ys) : ∃ A c, v = .slice A ys.length c ∧ Sl w w.heap.size A ys := by
  obtain ⟨A, c, e, _, hs⟩ := h.sl
  exact ⟨A, c, e, hs⟩
theorem mkW_nil {B P W K k l q : Int} {d : List Nat} (h : mkE B P W K k l q d.length ≠ 0) : mkW B P W K k l q d = [] := by unfold mkW; rw [if_neg h]
/-- what there is where a page is made -/
theorem mk_ok {B P W K k l q : Int} {d : List Nat} (hd : ∀ x ∈ d, x < 256) (h : mkE B P W K k l q d.length = 0) : ∃ W' K' N k' l' q' : Nat, W = (W' : Int) ∧ K = (K' : Int) ∧ k = (k' : Int) ∧ l = (l' : Int) ∧ q = (q' : Int) ∧ Ge.mayG B P W K = true ∧ W' * K' = N ∧ sayV N k' l' q' d ∧ mkW B P W K k l q d = pageL W' (sayL N k' l' q' d) ∧
    (mkW B P W K k l q d).length = W' * (K' + 16) ∧ (∀ y ∈ mkW B P W K k l q d, y < 1024) ∧ 1 ≤ W' ∧ W' ≤ 4 ∧ 1 ≤ K' ∧ K' ≤ 64 ∧ 8 < N ∧ N ≤ 256 := by
  have h' := h
  unfold mkE at h
  by_cases h1 : Ge.mayG B P W K = false ∨ mkB k l q = false
  · rw [if_pos h1] at h; cases h
  rw [if_neg h1] at h
  by_cases h2 : (d.length : Int) ≠ Ge.sizG B P W K
  · rw [if_pos h2] at h; cases h
  have hM : Ge.mayG B P W K = true := by
    cases e : Ge.mayG B P W K
    · exact absurd (Or.inl e) h1
    · rfl
  have hB : mkB k l q = true := by
    cases e : mkB k l q
    · exact absurd (Or.inr e) h1
    · rfl
  have hsz : (d.length : Int) = Ge.sizG B P W K := Classical.not_not.1 h2
  obtain ⟨k', l', q', rfl, rfl, rfl, hk1, hk2, hl2, hq2⟩ := mkB_of hB
  obtain ⟨W', K', N, rfl, rfl, hN, hW1, hW4, hK1, hK64, h8, h256, hsg, _⟩ := mayG_of hM
  have hdl : d.length = 10 * (N - 8) / 8 := by rw [hsg] at hsz; exact Int.ofNat.inj hsz
  have hsl := say_len (k := k') (l := l') (q := q') hdl (by omega)
  have hsb := say_bd (N := N) (d := d) hk2 hl2 hq2
  have hR : mkW B P (W' : Int) (K' : Int) (k' : Int) (l' : Int) (q' : Int) d = pageL W' (sayL N k' l' q' d) := by
    unfold mkW
    rw [h', if_pos rfl, show ((W' : Int) * (K' : Int)).toNat = N by rw [← hN, ← Int.natCast_mul, Int.toNat_natCast]]
    rfl
  refine ⟨W', K', N, k', l', q', rfl, rfl, rfl, rfl, rfl, hM, hN, ⟨hk1, hk2, hl2, hq2, hdl, hd⟩, hR, ?_, ?_, hW1, hW4, hK1, hK64, h8, h256⟩
  · rw [hR]; exact pageL_len (by rw [hsl, hN]) hW1
  · rw [hR]; exact pageL_bd (by rw [hsl, hN]) hW1 hsb
end Go.Proofs.YtmchelbmeajcnaaGreat
