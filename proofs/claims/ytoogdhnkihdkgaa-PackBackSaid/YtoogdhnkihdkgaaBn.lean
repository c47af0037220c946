/- What the laws of chapter 5 have in common. -/
import Derived.Test.YtoogdhnkihdkgaaBo
import Derived.Test.YtoogdhnkihdkgaaRows
import Derived.Test.YtoogdhnkihdkgaaSq
import Derived.Test.YtoogdhnkihdkgaaSr
import Derived.Test.YtoogdhnkihdkgaaCl
namespace Go.Proofs.Ytoogdhnkihdkgaa
open Go.RowKit Go.Gf

theorem upk_back {xs : List Nat} (hx : ∀ x ∈ xs, x < 256) : upkE (pk xs) xs.length = 0 ∧ upkW (pk xs) xs.length = xs := by
  have e : upkE (pk xs) xs.length = 0 := upkE_ok (by rw [pk_len]; unfold bytN symN; omega) fun k hk => pk_bd xs _ (List.getElem_mem hk)
  refine ⟨e, ?_⟩
  unfold upkW
  rw [if_pos e, Int.toNat_natCast, upk_pk hx]
theorem upkW_le (s : List Nat) (n : Int) (hs : s.length ≤ 1000000) : (upkW s n).length ≤ 2000000 := by
  unfold upkW
  split
  · rename_i h
    rw [upk_len]
    unfold upkE at h
    split at h
    · cases h
    · unfold bytN at *; omega
  · exact Nat.zero_le _
theorem Ans.below {w w' : World} {v : Value} {e : Ending} (h : Ans w v e w') : Below w.heap.size w w' := h.2
end Go.Proofs.Ytoogdhnkihdkgaa
