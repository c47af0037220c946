/- Eight symbols in a row, turned. -/
import Derived.Test.YtciafkobnlfpbaaCt
namespace Go.Proofs.Ytciafkobnlfpbaa
open Go.RowKit Go.Gf

def bp (p : Nat) (bs : List Nat) : List (Nat × Nat) := (List.range bs.length).map fun k => (p + k, bs.getD k 0)
def nb (bs : List Nat) : Nat → Nat
  | 0 => 0
  | k + 1 => nb bs k + if bs.getD k 0 % 1024 = 0 then 0 else 1
theorem nb_le (bs : List Nat) (k : Nat) : nb bs k ≤ k := by
  induction k with
  | zero => exact Nat.le_refl _
  | succ k ih => unfold nb; split <;> omega
theorem bp_get {p k : Nat} {bs : List Nat} (h : k < bs.length) : (bp p bs).getD k (0, 0) = (p + k, bs.getD k 0) := by
  simp [bp, List.getD, h]
theorem bp_step {ws bs : List Nat} {p k b q y z : Nat} (hk : k < bs.length) (hb : bs.getD k 0 % 1024 = b) (hp : (p + k) % ws.length = q) (hy : at_ (tn ws (bp p bs) k) q = y) (hz : y ^^^ b = z) :
    tn ws (bp p bs) (k + 1) = (tn ws (bp p bs) k).set q z := by
  conv => lhs; unfold tn
  rw [bp_get hk]
  dsimp only
  rw [hp, hy, hb, hz]
theorem mod_apart {p j k n : Nat} (h : k < j) (hn : j < n) : (p + j) % n ≠ (p + k) % n := fun e => by
  have := Nat.sub_mod_eq_zero_of_mod_eq e
  rw [show p + j - (p + k) = j - k by omega, Nat.mod_eq_of_lt (by omega)] at this
  omega
theorem bp_dl {ws bs : List Nat} {p : Nat} (hW : 17 ≤ ws.length) (hb : bs.length = 8) (k : Nat) (hk : k ≤ 8) :
    dl ws (tn ws (bp p bs) k) = nb bs k ∧ ∀ j, k ≤ j → j < 8 → at_ (tn ws (bp p bs) k) ((p + j) % ws.length) = at_ ws ((p + j) % ws.length) := by
  induction k with
  | zero => exact ⟨(dl_zero rfl).2 rfl, fun _ _ _ => rfl⟩
  | succ k ih =>
    obtain ⟨h1, h2⟩ := ih (by omega)
    have hpos : (p + k) % ws.length < ws.length := Nat.mod_lt _ (by omega)
    have e0 := h2 k (Nat.le_refl _) (by omega)
    rw [bp_step (by omega) rfl rfl e0 rfl]
    refine ⟨?_, fun j hj hj8 => ?_⟩
    · rw [dl_set (tn_len k).symm hpos e0.symm, h1]
      conv => rhs; unfold nb
      congr 1
      by_cases hB : bs.getD k 0 % 1024 = 0
      · rw [hB, Nat.xor_zero, if_pos rfl, if_pos rfl]
      · rw [if_neg hB, if_neg]
        intro e
        refine hB ?_
        have e2 : at_ ws ((p + k) % ws.length) ^^^ (at_ ws ((p + k) % ws.length) ^^^ (bs.getD k 0 % 1024)) = at_ ws ((p + k) % ws.length) ^^^ at_ ws ((p + k) % ws.length) := by rw [e]
        rwa [← Nat.xor_assoc, Nat.xor_self, Nat.zero_xor] at e2
    · rw [at_set (by rw [tn_len]; exact hpos), if_neg (mod_apart (by omega) (by omega))]
      exact h2 j (by omega) hj8
/-- the row of eight lies in block h -/
def Row8 (w : World) (h : Nat) (bs : List Nat) : Prop := w.heap[h]? = some (.cells (bs.map uv).toArray 54 (0, 0))
theorem Row8.lt {w : World} {h : Nat} {bs : List Nat} (r : Row8 w h bs) : h < w.heap.size := by
  rcases Nat.lt_or_ge h w.heap.size with hlt | hge
  · exact hlt
  · unfold Row8 at r; rw [Array.getElem?_eq_none hge] at r; cases r
theorem Row8.far {w w' : World} {h : Nat} {bs : List Nat} (r : Row8 w h bs) (hb : Below w.heap.size w w') : Row8 w' h bs := (hb.block h r.lt).trans r
theorem Row8.cell {w : World} {h : Nat} {bs : List Nat} (r : Row8 w h bs) {i : Nat} (hi : i < bs.length) : w.cell? ⟨h, i, none⟩ = some (.int .u16 ((bs.getD i 0 : Nat) : Int)) := by
  rw [cell_of_row w h i _ 54 (0, 0) r]
  simp [List.getD, hi, uv]
end Go.Proofs.Ytciafkobnlfpbaa
