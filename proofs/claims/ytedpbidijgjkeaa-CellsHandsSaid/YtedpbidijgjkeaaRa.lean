/- The reference's values of polynomials, and how two rows of symbols part. -/
import Derived.Test.YtedpbidijgjkeaaRt
import Derived.Deep.QuietTactic
import Derived.BigQuiet
namespace Go.Proofs.Ytedpbidijgjkeaa
open Go.RowKit Go.Gf

/-- the value of a polynomial at x -/
def ev (x : Nat) : List Nat → Nat
  | [] => 0
  | c :: p => gm (ev x p) x ^^^ (c % 1024)
theorem ev_lt (x : Nat) (p : List Nat) : ev x p < 1024 := by
  induction p with
  | nil => show 0 < 1024; decide
  | cons c p ih => exact xor_lt (gm_lt _ ih) (Nat.mod_lt _ (by decide))
theorem ev_drop {x : Nat} {xs : List Nat} {k : Nat} (h : k < xs.length) : ev x (xs.drop k) = gm (ev x (xs.drop (k + 1))) x ^^^ (xs[k] % 1024) := by
  rw [List.drop_eq_getElem_cons h]; rfl
theorem drewN_zero (w : World) : w.drewN 0 = w := rfl
/-- wr is w but for draws -/
def Drawn (w wr : World) : Prop := ∃ n, wr = w.drewN n
theorem Drawn.drewN {w wr : World} (h : Drawn w wr) (k : Nat) : Drawn w (wr.drewN k) := by
  obtain ⟨n, rfl⟩ := h
  exact ⟨n + k, by rw [World.drewN_drewN]⟩
theorem Sl.drawn {w wr : World} {B : Nat} {A : Option Addr} {xs : List Nat} (h : Sl w B A xs) (hd : Drawn w wr) : Sl wr B A xs := by
  obtain ⟨n, rfl⟩ := hd; exact h
/-- a call answers v, and at most draws -/
def Quietly (w : World) (v : Value) (e : Ending) (w' : World) : Prop := e = .returned v ∧ Drawn w w'


/-- in how many places two rows part -/
def dl (a b : List Nat) : Nat := (max a.length b.length - min a.length b.length) + (a.zip b).countP fun p => p.1 != p.2
def cnt (a b : List Nat) (k : Nat) : Nat := ((a.zip b).take k).countP fun p => p.1 != p.2
theorem cnt_zero (a b : List Nat) : cnt a b 0 = 0 := rfl
theorem cnt_step {a b : List Nat} {k : Nat} (ha : k < a.length) (hb : k < b.length) : cnt a b (k + 1) = cnt a b k + if a[k] = b[k] then 0 else 1 := by
  unfold cnt
  rw [List.take_succ_eq_append_getElem (by simp; omega), List.countP_append]
  by_cases h : a[k] = b[k] <;> simp [h]
theorem cnt_le (a b : List Nat) (k : Nat) : cnt a b k ≤ k := by
  unfold cnt
  refine Nat.le_trans List.countP_le_length ?_
  simp; omega
theorem cnt_end {a b : List Nat} {k : Nat} (h : min a.length b.length ≤ k) : cnt a b k = (a.zip b).countP fun p => p.1 != p.2 := by
  unfold cnt
  rw [List.take_of_length_le (by simp; omega)]

end Go.Proofs.Ytedpbidijgjkeaa
