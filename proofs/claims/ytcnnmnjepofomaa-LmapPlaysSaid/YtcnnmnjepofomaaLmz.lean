/- LmapPlays, as its shell asks for it. -/
import Derived.Test.YtcnnmnjepofomaaLmy
namespace Go.Proofs.Ytcnnmnjepofomaa.Lm
open Go.RowKit
theorem plays_row (a b : Int) (ha : (Lit.int .u8 a).wf = true) (hb : (Lit.int .u8 b).wf = true) (L : Option Addr) (n : Nat) (q : Nat → Int × Int × Int) (c : Nat) (_ : n ≤ c) (_ : c ≤ maxLen) (w : World) (hs : DT w w.heap.size L n q) :
    Calls Try.prog 3 #[.agg #[.int .u8 a, .int .u8 b], .slice L n c] w (We.Ans w (.bool true)) := by
  obtain ⟨N, hN, rfl⟩ := u8_nat ha
  obtain ⟨M, hM, rfl⟩ := u8_nat hb
  exact plays_law N M hN hM L n c q w hs
end Go.Proofs.Ytcnnmnjepofomaa.Lm
