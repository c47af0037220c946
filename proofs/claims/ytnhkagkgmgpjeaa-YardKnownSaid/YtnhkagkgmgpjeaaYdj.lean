/- The laws of chapter 16, as their shells ask for them, for whatever is a yard: mkT.sh's THM is '(Yd.picks_row Yd.the_yard)'. -/
import Derived.Test.YtnhkagkgmgpjeaaYde
import Derived.Test.YtnhkagkgmgpjeaaYdf
import Derived.Test.YtnhkagkgmgpjeaaYdg
import Derived.Test.YtnhkagkgmgpjeaaYdi
namespace Go.Proofs.Ytnhkagkgmgpjeaa.Yd
open Go.RowKit
set_option linter.unusedVariables false
set_option linter.unusedSimpArgs false
section
variable {Y : World → Nat → Nat → Nat → Nat → (Nat → Int) → (Nat → Int) → Prop}
theorem known_row (C : YC Y) (w : World) : Calls Try.prog 4 #[] w (We.Ans w (.bool true)) := known_law C w
theorem picks_row (C : YC Y) (a : Int) (ha : (Lit.int .u8 a).wf = true) (b : Int) (hb : (Lit.int .u8 b).wf = true) (w : World) : Calls Try.prog 5 #[.int .u8 a, .int .u8 b] w (We.Ans w (.bool true)) := by
  obtain ⟨N, hN, rfl⟩ := We.u8_nat ha
  obtain ⟨M, hM, rfl⟩ := We.u8_nat hb
  exact picks_law C N M hN hM w
theorem bad_row (C : YC Y) (a : Int) (ha : (Lit.int .u8 a).wf = true) (A : Option Addr) (n : Nat) (x : Nat → Nat → Int) (c : Nat) (hl : n ≤ c) (hm : c ≤ maxLen) (w : World) (hs : We.RF w w.heap.size A 2 n .u8 x) :
    Calls Try.prog 6 #[.int .u8 a, .slice A n c] w (We.Ans w (.bool true)) := by
  obtain ⟨N, hN, rfl⟩ := We.u8_nat ha
  exact bad_law C N hN A n x c hl hm w hs
theorem wears_row (C : YC Y) (a : Int) (ha : (Lit.int .u8 a).wf = true) (A : Option Addr) (n : Nat) (x : Nat → Int) (c : Nat) (hl : n ≤ c) (hm : c ≤ maxLen) (hx : ∀ j, (Lit.int .u8 (x j)).wf = true) (w : World) (hs : We.SF w w.heap.size A n (fun j => .int .u8 (x j))) :
    Calls Try.prog 7 #[.int .u8 a, .slice A n c] w (We.Ans w (.bool true)) := by
  obtain ⟨N, hN, rfl⟩ := We.u8_nat ha
  exact wears_law C N hN A n x c hl hm hx w hs
theorem plays_row (C : YC Y) (a : Int) (ha : (Lit.int .u8 a).wf = true) (A : Option Addr) (n : Nat) (q : Nat → Int × Int × Int) (c : Nat) (hl : n ≤ c) (hm : c ≤ maxLen) (w : World) (hs : Lm.DT w w.heap.size A n q) :
    Calls Try.prog 3 #[.int .u8 a, .slice A n c] w (We.Ans w (.bool true)) := by
  obtain ⟨N, hN, rfl⟩ := We.u8_nat ha
  exact plays_law C N hN A n c q w hs
end
end Go.Proofs.Ytnhkagkgmgpjeaa.Yd
