/- What a page's points say: plain; the program's frame: the words mended. -/
import Derived.Test.YtmchelbmeajcnaaMd
import Derived.Test.YtmchelbmeajcnaaMh
import Derived.Test.YtmchelbmeajcnaaCg
namespace Go.Proofs.Ytmchelbmeajcnaa
open Go.RowKit Go.Gf Go.Fl
set_option linter.unusedVariables false
set_option linter.unusedSimpArgs false
set_option maxRecDepth 20000
attribute [local go_sem ↓] exec_load_tb Cl.quiet_since
attribute [local go_sem] tbAt_ptr tbIn_ptr

/-- the symbols of codeword j, of W with n each -/
def rowS (W n : Nat) (ss : List Nat) (j : Nat) : List Nat := rm n fun q => at_ ss (q * W + j)
/-- how many of its symbols are wrong, or have a point that is nought, where ys was meant -/
def nbW (W n : Nat) (ss : List Nat) (z : Nat → Bool) (j : Nat) (ys : List Nat) : Nat := bc (fun q => z (q * W + j) || decide (at_ (rowS W n ss j) q ≠ at_ ys q)) n
/-- it is read as ys -/
def GoodR (W n : Nat) (ss : List Nat) (z : Nat → Bool) (j : Nat) (ys : List Nat) : Prop := Near (rowS W n ss j) ys ∧ nbW W n ss z j ys ≤ 8
section
variable {W n j : Nat} {ss ys zs : List Nat} {z : Nat → Bool}
theorem rowS_len : (rowS W n ss j).length = n := rm_len _ _
theorem rowS_bd (h : ∀ y ∈ ss, y < 1024) : ∀ y ∈ rowS W n ss j, y < 1024 := rm_mem fun q _ => at_lt h (by decide)
theorem good_unique (hn : n ≤ 1023) (h : GoodR W n ss z j ys) (k : GoodR W n ss z j zs) : ys = zs := near_unique (by rw [rowS_len]; exact hn) h.1 k.1
theorem near_len (h : Near (rowS W n ss j) ys) : ys.length = n := by
  obtain ⟨h1, _⟩ := h
  rw [rowS_len] at h1
  exact h1
theorem near_bd' (h : Near (rowS W n ss j) ys) : ∀ y ∈ ys, y < 1024 := h.2
theorem nb_split (h : Near (rowS W n ss j) ys) : dl ys (rowS W n ss j) + uncN (fun q => z (q * W + j)) (rowS W n ss j) ys n = nbW W n ss z j ys := by
  rw [dl_bc (by rw [near_len h, rowS_len]), near_len h]
  unfold nbW uncN
  refine (bc_split fun q _ => ⟨?_, ?_⟩).symm
  · show (z (q * W + j) || decide (at_ (rowS W n ss j) q ≠ at_ ys q)) = (decide (at_ ys q ≠ at_ (rowS W n ss j) q) || (z (q * W + j) && decide (at_ (rowS W n ss j) q = at_ ys q)))
    by_cases e : at_ (rowS W n ss j) q = at_ ys q
    · simp [e]
    · have e' : ¬ at_ ys q = at_ (rowS W n ss j) q := fun h => e h.symm
      simp [e, e']
  · rintro ⟨h1, h2⟩
    rw [decide_eq_true_eq] at h1
    rw [Bool.and_eq_true, decide_eq_true_eq] at h2
    exact h1 h2.2.symm
end
theorem uncN_congr {z z' : Nat → Bool} {r y : List Nat} {n : Nat} (h : ∀ q, q < n → z q = z' q) : uncN z r y n = uncN z' r y n := bc_congr fun q hq => by rw [h q hq]
/-- the words, each without its last sixteen symbols, woven -/
def sayW (W K : Nat) (ws : Nat → List Nat) : List Nat := wvOf ((List.range W).map fun j => (ws j).take K)
/-- what mended is to answer -/
def Mnd (W K : Nat) (ss : List Nat) (z : Nat → Bool) (w : World) (e : Ending) (w' : World) : Prop :=
  ((e = .returned (.tuple #[.slice none 0 0, .int .i64 0, .bool false]) ∧ ∃ j, j < W ∧ ∀ ys, ¬ GoodR W (K + 16) ss z j ys) ∨
   ∃ v ws, e = .returned (.tuple #[v, .int .i64 ((mxF (fun j => nbW W (K + 16) ss z j (ws j)) W : Nat) : Int), .bool true]) ∧ (∀ j, j < W → GoodR W (K + 16) ss z j (ws j)) ∧ OwnS w w' v (sayW W K ws)) ∧ Below w.heap.size w w'
/-- the program's decoder, where a word is near -/
theorem dec_yes {cs : List Nat} (hcs : Tab cs) {A : Option Addr} {c : Nat} {xs ys : List Nat} {w : World} (hs : Sl w w.heap.size A xs) (h1 : 17 ≤ xs.length) (h2 : xs.length ≤ 1023) (hx : ∀ x ∈ xs, x < 1024) (hn : Near xs ys) :
    Calls Try.prog 90 #[.agg (cells cs), .slice A xs.length c] w fun e w' => ∃ A' c', e = .returned (.tuple #[.slice A' ys.length c', .int .i64 ((dl ys xs : Nat) : Int), .int .i64 0]) ∧ ys.length ≤ c' ∧ SlF w' w.heap.size A' ys ∧ Below w.heap.size w w' := by
  refine (decode_any cs hcs A c xs w hs (by omega)).mono ?_
  rintro e w' ⟨zs, n, f, A', c', hd, rfl, hc, hs', hb⟩
  rcases mdec_cases hd h1 h2 hx with ⟨rfl, hnr, rfl⟩ | ⟨_, _, _, hno⟩
  · obtain rfl := near_unique h2 hnr hn
    exact ⟨A', c', rfl, hc, hs', hb⟩
  · exact absurd hn (hno ys)
theorem dec_no {cs : List Nat} (hcs : Tab cs) {A : Option Addr} {c : Nat} {xs : List Nat} {w : World} (hs : Sl w w.heap.size A xs) (h1 : 17 ≤ xs.length) (h2 : xs.length ≤ 1023) (hx : ∀ x ∈ xs, x < 1024) (hn : ∀ c, ¬ Near xs c) :
    Calls Try.prog 90 #[.agg (cells cs), .slice A xs.length c] w fun e w' => ∃ A' c', e = .returned (.tuple #[.slice A' 0 c', .int .i64 0, .int .i64 4]) ∧ Below w.heap.size w w' := by
  refine (decode_any cs hcs A c xs w hs (by omega)).mono ?_
  rintro e w' ⟨zs, n, f, A', c', hd, rfl, hc, hs', hb⟩
  rcases mdec_cases hd h1 h2 hx with ⟨_, hnr, _⟩ | ⟨rfl, rfl, rfl, hno⟩
  · exact absurd hnr (hn zs)
  · exact ⟨A', c', rfl, hb⟩
end Go.Proofs.Ytmchelbmeajcnaa
