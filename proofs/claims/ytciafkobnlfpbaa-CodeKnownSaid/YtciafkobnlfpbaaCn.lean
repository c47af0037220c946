/- What the laws of chapter 4 have in common. -/
import Derived.Test.YtciafkobnlfpbaaAk
import Derived.Test.YtciafkobnlfpbaaSq
namespace Go.Proofs.Ytciafkobnlfpbaa
open Go.RowKit Go.Gf

theorem u8_bd {a : Int} (h : (Lit.int .u8 a).wf = true) : 0 ≤ a ∧ a < 256 := by
  simp [Lit.wf, IntKind.min, IntKind.max, IntKind.signed, IntKind.bits] at h; omega
theorem encE_inv {xs : List Nat} (h : encE xs = 0) : 0 < xs.length ∧ xs.length ≤ 1007 ∧ ∀ x ∈ xs, x < 1024 := by
  unfold encE at h
  split at h
  · cases h
  · split at h
    · cases h
    · rename_i h1 h2
      refine ⟨by omega, by omega, fun x hx => ?_⟩
      refine Classical.byContradiction fun hn => h2 (List.any_eq_true.2 ⟨x, hx, by simp; omega⟩)
theorem encE_of {xs : List Nat} (h1 : 0 < xs.length) (h2 : xs.length ≤ 1007) (h : ∀ x ∈ xs, x < 1024) : encE xs = 0 := encE_ok (by omega) fun k hk => h _ (List.getElem_mem hk)
theorem encW_of {xs : List Nat} (h : encE xs = 0) : encW xs = enc xs := by unfold encW; rw [if_pos h]
theorem encW_le (xs : List Nat) : (encW xs).length ≤ 1023 := by
  by_cases h : encE xs = 0
  · rw [encW_of h, enc_len]
    have := (encE_inv h).2.1
    omega
  · unfold encW; rw [if_neg h]; exact Nat.zero_le _
theorem at_set {xs : List Nat} {k z : Nat} (hk : k < xs.length) (j : Nat) : at_ (xs.set k z) j = if j = k then z else at_ xs j := by
  unfold at_ List.getD
  rw [List.getElem?_set]
  by_cases e : k = j
  · subst e; simp [hk]
  · rw [if_neg e, if_neg (Ne.symm e)]
theorem Pre.setl {w : World} {g n : Nat} {xs : List Nat} (h : Pre w g n (at_ xs)) (hn : xs.length = n) {k : Nat} (hk : k < n) (z : Nat) : Pre (w.setCell ⟨g, k, none⟩ (.int .u16 (z : Int))) g n (at_ (xs.set k z)) :=
  (h.set_ k z).congr fun j _ => by rw [at_set (by omega)]
theorem Pre.row {w : World} {g n : Nat} {xs : List Nat} (h : Pre w g n (at_ xs)) (hn : xs.length = n) (hx : ∀ x ∈ xs, x < 65536) : Sl w w.heap.size (some ⟨g, 0, none⟩) xs := by
  have := h.sl fun j _ => at_lt hx (by decide)
  rwa [← hn, rm_at] at this
theorem Dec.len {xs ys : List Nat} {n e : Nat} (h : Dec xs ys n e) : ys.length ≤ 1023 := by
  cases h with
  | size _ => exact Nat.zero_le _
  | arg _ _ _ _ => exact Nat.zero_le _
  | ok h1 _ ys h3 => have := h3.len; omega
  | none _ _ _ => exact Nat.zero_le _
theorem sums_nought {ws : List Nat} (h : isCw ws) {i : Nat} (hi : i < 16) : at_ (sums ws) i = 0 := cw_sums.1 h i hi
theorem sums_len16 (ws : List Nat) : (sums ws).length = 16 := by unfold sums; exact rm_len _ _
theorem set_bd {xs : List Nat} {b : Nat} (h : ∀ x ∈ xs, x < b) {k z : Nat} (hz : z < b) : ∀ x ∈ xs.set k z, x < b := by
  intro x hx
  rcases List.mem_or_eq_of_mem_set hx with h1 | h1
  · exact h x h1
  · subst h1; exact hz
/-- one number is turned, the word parts by one in 17 places -/
theorem enc_far {xs : List Nat} (h0 : xs.length ≤ 1007) (hx : ∀ x ∈ xs, x < 1024) {k z : Nat} (hk : k < xs.length) (hz : z < 1024) (hne : z ≠ xs[k]) : 16 < dl (enc xs) (enc (xs.set k z)) := by
  refine Classical.byContradiction fun hn => ?_
  have hs := set_bd hx (k := k) hz
  have e := cw_dist (by rw [enc_len, enc_len, List.length_set]) (by rw [enc_len]; omega) (enc_bd hx) (enc_bd hs) (enc_cw hx) (enc_cw hs) (Nat.le_of_not_lt hn)
  have e1 : at_ (enc xs) k = at_ (enc (xs.set k z)) k := by rw [e]
  rw [enc_pre xs hk, enc_pre _ (by rw [List.length_set]; exact hk), at_set hk, if_pos rfl, at_get hk] at e1
  exact hne e1.symm
end Go.Proofs.Ytciafkobnlfpbaa
