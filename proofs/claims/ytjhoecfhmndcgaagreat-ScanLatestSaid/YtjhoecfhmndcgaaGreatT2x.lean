/- A law of chapter 18, as its shell asks for it, for whatever has scan's contracts: mkT.sh's THM is '(Sc.latest_row Sc.the_scan)'. -/
import Derived.Test.YtjhoecfhmndcgaaGreatWScf
namespace Go.Proofs.YtjhoecfhmndcgaaGreat.Sc
open Go.RowKit
set_option linter.unusedVariables false
set_option linter.unusedSimpArgs false
theorem latest_row (C : SC) (A : Option Addr) (n : Nat) (x : Nat → Nat → Int) (c : Nat) (hl : n ≤ c) (hm : c ≤ maxLen) (w : World) (hs : We.RF w w.heap.size A 4 n .i64 x) :
    Calls Tryz.prog 3 #[.slice A n c] w (We.Ans w (.bool true)) := latest_law C A n c x w hs
end Go.Proofs.YtjhoecfhmndcgaaGreat.Sc
