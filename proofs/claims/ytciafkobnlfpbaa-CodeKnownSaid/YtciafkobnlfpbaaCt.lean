/- Words that are turned, symbol by symbol; what a decoder answers, by cases. -/
import Derived.Test.YtciafkobnlfpbaaCn
import Derived.Test.YtciafkobnlfpbaaSp
namespace Go.Proofs.Ytciafkobnlfpbaa
open Go.RowKit Go.Gf

theorem add_next (a : Addr) (k : Nat) : a.add (k + 1) = ⟨(a.add k).block, (a.add k).off + 1, none⟩ := by
  rw [← Go.Deep.add_add]
  generalize a.add k = q
  unfold Addr.add
  rw [if_neg (by decide)]
theorem St.decl {w wa wr : World} {g g5 n : Nat} {f : Nat → Nat} {cs : List Nat} (h : St w g cs wa) (hL : DecL wa g5 n f wr) (hg : g < g5) : St w g cs wr :=
  ⟨hL.below h.below (by have := h.ge; omega), h.ge, Nat.lt_of_lt_of_le h.lt hL.1.size, hL.tb h.tb (by omega)⟩
/-- the word behind k turns -/
def tn (ws : List Nat) (ts : List (Nat × Nat)) : Nat → List Nat
  | 0 => ws
  | k + 1 => (tn ws ts k).set ((ts.getD k (0, 0)).1 % ws.length) (at_ (tn ws ts k) ((ts.getD k (0, 0)).1 % ws.length) ^^^ ((ts.getD k (0, 0)).2 % 1024))
section
variable {ws : List Nat} {ts : List (Nat × Nat)}
theorem tn_len (k : Nat) : (tn ws ts k).length = ws.length := by
  induction k with
  | zero => rfl
  | succ k ih => unfold tn; rw [List.length_set, ih]
theorem tn_bd (h : ∀ y ∈ ws, y < 1024) (k : Nat) : ∀ y ∈ tn ws ts k, y < 1024 := by
  induction k with
  | zero => exact h
  | succ k ih =>
    unfold tn
    exact set_bd ih (xor_lt (at_lt ih (by decide)) (Nat.mod_lt _ (by decide)))
theorem tn_step {k : Nat} (hk : k < ts.length) {p y z : Nat} (hp : ts[k].1 % ws.length = p) (hy : at_ (tn ws ts k) p = y) (hz : y ^^^ (ts[k].2 % 1024) = z) : tn ws ts (k + 1) = (tn ws ts k).set p z := by
  conv => lhs; unfold tn
  have e : ts.getD k (0, 0) = ts[k] := by simp [List.getD, hk]
  rw [e, hp, hy, hz]
end
theorem dec_cases {xs ys : List Nat} {n f : Nat} (h : Dec xs ys n f) (h1 : 17 ≤ xs.length) (h2 : xs.length ≤ 1023) (hx : ∀ x ∈ xs, x < 1024) :
    (f = 0 ∧ Near xs ys ∧ n = dl ys xs) ∨ (f = 4 ∧ ys = [] ∧ n = 0 ∧ ∀ c, ¬ Near xs c) := by
  cases h with
  | size h => omega
  | arg _ x hx1 hx2 => have := hx x hx1; omega
  | ok _ _ _ h => exact Or.inl ⟨rfl, h, rfl⟩
  | none _ _ h => exact Or.inr ⟨rfl, rfl, rfl, h⟩
theorem near_of {xs c : List Nat} (hl : c.length = xs.length) (hc : ∀ y ∈ c, y < 1024) (hw : isCw c) (hd : dl c xs ≤ 8) : Near xs c := ⟨hl, hc, hw, hd⟩
theorem dec_of_near {xs c ys : List Nat} {n f : Nat} (h1 : 17 ≤ xs.length) (h2 : xs.length ≤ 1023) (hx : ∀ x ∈ xs, x < 1024) (hn : Near xs c) (h : Dec xs ys n f) : ys = c ∧ n = dl c xs ∧ f = 0 :=
  h.unique (Dec.ok (by omega) hx c hn)
end Go.Proofs.Ytciafkobnlfpbaa
