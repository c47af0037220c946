/-
  No cell of these rows narrows 'for every input' (looked for: loops, veiled, ifaces, maps, wideKeys, modest, calm, conditions, laid).
  DERIVED. THE GIVEN ROWS OF THIS SEAT. 5 by the template 'for every input the law returns true; each argument reads behind the call as it read before'; 0 by the template 'total and deterministic' (their statements: YtcnnmnjepofomaaTotals.lean).
  GIVEN WITH THE SEED: the statements are not yours to turn. If you find one false, say at which input.
  Laid BY PROGRAM, IN A SANDBOX (cutbox-rows.mjs): the forced cells as the released guide's own fill.sh prints them over the translation 818fffe4004f8c8e… (all of the seat's roots in one cut). By AI agents, Wed Nov 11 2026. No macro, syntax, notation, axiom, sorry.
-/
import Derived.Test.YtcnnmnjepofomaaChecked
import GoSem.Claim
import GoSem.ClaimJoined
import GoSem.ClaimMapViews
import Derived.JoinedTies
import Derived.KernelRfl
namespace Go.Proofs.Ytcnnmnjepofomaa
/- THE CELL 'sum', in the pinned program and in every row, IS THE sha256 OF THE DUMP (.gsa) THAT YtcnnmnjepofomaaProg.lean LOADS. Nothing in Lean hashes anything: it is a label: what it is worth is what the hold of that sum in a sandbox is worth. -/
noncomputable def Try.pinned : Pinned := { name := "ytcnnmnjepofomaa", sum := "818fffe4004f8c8ec37c0f9a0602cfa39c4944ebd4de9b91467929e5432a5f73", checked := Try.checked }
namespace Rows
def none {H : Type} : Left H := { results := [], args := [] }

/-- 'blackboardlaw15.LmapPlays': WHATEVER THE INPUT: true; the input reads as it did. -/
def lmapPlaysSpec : ChangeSpec := { name := "lmapPlays", fn := fun _ => fun
  | [d1, d2] => { results := [.lit (.bool true)], args := [d1, d2] }
  | _ => none }
def lmapPlaysRow : OpenClaim := { program := "ytcnnmnjepofomaa", sum := "818fffe4004f8c8ec37c0f9a0602cfa39c4944ebd4de9b91467929e5432a5f73", func := "blackboard/blackboardlaw15.LmapPlays", spec := "lmapPlays", apart := false }
def LmapPlaysSaid : Prop := lmapPlaysRow.holds Try.pinned (OpenSpec.ofChange lmapPlaysSpec)

/-- ITS FALSE NEIGHBOUR: 'it returns false'. Refute it at one input. -/
def lmapPlaysWrong : ChangeSpec := { name := "lmapPlays", fn := fun _ => fun
  | [d1, d2] => { results := [.lit (.bool false)], args := [d1, d2] }
  | _ => none }
def LmapPlaysWrongFalsely : Prop := lmapPlaysRow.holds Try.pinned (OpenSpec.ofChange lmapPlaysWrong)

/-- 'blackboardlaw15.LmapArgs': WHATEVER THE INPUT: true; the input reads as it did. -/
def lmapArgsSpec : ChangeSpec := { name := "lmapArgs", fn := fun _ => fun
  | [d1, d2] => { results := [.lit (.bool true)], args := [d1, d2] }
  | _ => none }
def lmapArgsRow : OpenClaim := { program := "ytcnnmnjepofomaa", sum := "818fffe4004f8c8ec37c0f9a0602cfa39c4944ebd4de9b91467929e5432a5f73", func := "blackboard/blackboardlaw15.LmapArgs", spec := "lmapArgs", apart := false }
def LmapArgsSaid : Prop := lmapArgsRow.holds Try.pinned (OpenSpec.ofChange lmapArgsSpec)

/-- ITS FALSE NEIGHBOUR: 'it returns false'. Refute it at one input. -/
def lmapArgsWrong : ChangeSpec := { name := "lmapArgs", fn := fun _ => fun
  | [d1, d2] => { results := [.lit (.bool false)], args := [d1, d2] }
  | _ => none }
def LmapArgsWrongFalsely : Prop := lmapArgsRow.holds Try.pinned (OpenSpec.ofChange lmapArgsWrong)

/-- 'blackboardlaw15.LmapWays': WHATEVER THE INPUT: true; the input reads as it did. -/
def lmapWaysSpec : ChangeSpec := { name := "lmapWays", fn := fun _ => fun
  | [d] => { results := [.lit (.bool true)], args := [d] }
  | _ => none }
def lmapWaysRow : OpenClaim := { program := "ytcnnmnjepofomaa", sum := "818fffe4004f8c8ec37c0f9a0602cfa39c4944ebd4de9b91467929e5432a5f73", func := "blackboard/blackboardlaw15.LmapWays", spec := "lmapWays", apart := false }
def LmapWaysSaid : Prop := lmapWaysRow.holds Try.pinned (OpenSpec.ofChange lmapWaysSpec)

/-- ITS FALSE NEIGHBOUR: 'it returns false'. Refute it at one input. -/
def lmapWaysWrong : ChangeSpec := { name := "lmapWays", fn := fun _ => fun
  | [d] => { results := [.lit (.bool false)], args := [d] }
  | _ => none }
def LmapWaysWrongFalsely : Prop := lmapWaysRow.holds Try.pinned (OpenSpec.ofChange lmapWaysWrong)

/-- 'blackboardlaw15.LmapKnown': WHATEVER THE INPUT: true; the input reads as it did. -/
def lmapKnownSpec : ChangeSpec := { name := "lmapKnown", fn := fun _ => fun
  | [] => { results := [.lit (.bool true)], args := [] }
  | _ => none }
def lmapKnownRow : OpenClaim := { program := "ytcnnmnjepofomaa", sum := "818fffe4004f8c8ec37c0f9a0602cfa39c4944ebd4de9b91467929e5432a5f73", func := "blackboard/blackboardlaw15.LmapKnown", spec := "lmapKnown", apart := false }
def LmapKnownSaid : Prop := lmapKnownRow.holds Try.pinned (OpenSpec.ofChange lmapKnownSpec)

/-- ITS FALSE NEIGHBOUR: 'it returns false'. Refute it at one input. -/
def lmapKnownWrong : ChangeSpec := { name := "lmapKnown", fn := fun _ => fun
  | [] => { results := [.lit (.bool false)], args := [] }
  | _ => none }
def LmapKnownWrongFalsely : Prop := lmapKnownRow.holds Try.pinned (OpenSpec.ofChange lmapKnownWrong)

/-- 'blackboardlaw15.LmapMoves': WHATEVER THE INPUT: true; the input reads as it did. -/
def lmapMovesSpec : ChangeSpec := { name := "lmapMoves", fn := fun _ => fun
  | [d] => { results := [.lit (.bool true)], args := [d] }
  | _ => none }
def lmapMovesRow : OpenClaim := { program := "ytcnnmnjepofomaa", sum := "818fffe4004f8c8ec37c0f9a0602cfa39c4944ebd4de9b91467929e5432a5f73", func := "blackboard/blackboardlaw15.LmapMoves", spec := "lmapMoves", apart := false }
def LmapMovesSaid : Prop := lmapMovesRow.holds Try.pinned (OpenSpec.ofChange lmapMovesSpec)

/-- ITS FALSE NEIGHBOUR: 'it returns false'. Refute it at one input. -/
def lmapMovesWrong : ChangeSpec := { name := "lmapMoves", fn := fun _ => fun
  | [d] => { results := [.lit (.bool false)], args := [d] }
  | _ => none }
def LmapMovesWrongFalsely : Prop := lmapMovesRow.holds Try.pinned (OpenSpec.ofChange lmapMovesWrong)

/- THE SECOND FORM. 'bulk': how many values and letters a reading holds, each counted each time it is reached (what is shared counts as often as it is met; a slice's spare places count too). A statement '..UptoSaid' is the law's where the arguments, and the package variables that the reading takes, are together of bulk at most 1048576: NARROWER than '..Said'. Prove '..Said' where nothing that the law and all that it calls make is longer than what came in: it says more and counts as full. Else prove '..UptoSaid'. A law counts once. -/
mutual
def uptoBulk {H : Type} : DataW H → Nat
  | .lit (.string bytes) => bytes.length + 1
  | .lit _ => 1
  | .nil => 1
  | .ptr d => uptoBulk d + 1
  | .slice elems spare => uptoBulkAll elems + uptoBulkAll spare + 1
  | .agg parts => uptoBulkAll parts + 1
  | .iface _ d => uptoBulk d + 1
  | .map entries => uptoBulkEntries entries + 1
  | .held _ => 1
def uptoBulkAll {H : Type} : List (DataW H) → Nat
  | [] => 0
  | d :: r => uptoBulk d + uptoBulkAll r
def uptoBulkEntries {H : Type} : List (Lit × DataW H) → Nat
  | [] => 0
  | x :: r => uptoBulkEntry x + uptoBulkEntries r
def uptoBulkEntry {H : Type} : Lit × DataW H → Nat
  | (.string bytes, d) => bytes.length + uptoBulk d + 1
  | (_, d) => uptoBulk d + 1
 end
def uptoSmall : (H : Type) → List (DataW H) → Bool := fun _ ds => decide (uptoBulkAll ds ≤ 1048576)
def OpenSpec.upto (s : _root_.Go.ChangeSpec) : _root_.Go.OpenSpec := { _root_.Go.OpenSpec.ofChange s with cond := some uptoSmall }

/-- 'blackboardlaw15.LmapPlays', WHERE WHAT IT READS IS OF BULK AT MOST 1048576: true; the input reads as it did. -/
def lmapPlaysUptoRow : OpenClaim := { program := "ytcnnmnjepofomaa", sum := "818fffe4004f8c8ec37c0f9a0602cfa39c4944ebd4de9b91467929e5432a5f73", func := "blackboard/blackboardlaw15.LmapPlays", spec := "lmapPlays", apart := false, narrowed := true }
def LmapPlaysUptoSaid : Prop := lmapPlaysUptoRow.holds Try.pinned (OpenSpec.upto lmapPlaysSpec)

/-- 'blackboardlaw15.LmapArgs', WHERE WHAT IT READS IS OF BULK AT MOST 1048576: true; the input reads as it did. -/
def lmapArgsUptoRow : OpenClaim := { program := "ytcnnmnjepofomaa", sum := "818fffe4004f8c8ec37c0f9a0602cfa39c4944ebd4de9b91467929e5432a5f73", func := "blackboard/blackboardlaw15.LmapArgs", spec := "lmapArgs", apart := false, narrowed := true }
def LmapArgsUptoSaid : Prop := lmapArgsUptoRow.holds Try.pinned (OpenSpec.upto lmapArgsSpec)

/-- 'blackboardlaw15.LmapWays', WHERE WHAT IT READS IS OF BULK AT MOST 1048576: true; the input reads as it did. -/
def lmapWaysUptoRow : OpenClaim := { program := "ytcnnmnjepofomaa", sum := "818fffe4004f8c8ec37c0f9a0602cfa39c4944ebd4de9b91467929e5432a5f73", func := "blackboard/blackboardlaw15.LmapWays", spec := "lmapWays", apart := false, narrowed := true }
def LmapWaysUptoSaid : Prop := lmapWaysUptoRow.holds Try.pinned (OpenSpec.upto lmapWaysSpec)

/-- 'blackboardlaw15.LmapKnown', WHERE WHAT IT READS IS OF BULK AT MOST 1048576: true; the input reads as it did. -/
def lmapKnownUptoRow : OpenClaim := { program := "ytcnnmnjepofomaa", sum := "818fffe4004f8c8ec37c0f9a0602cfa39c4944ebd4de9b91467929e5432a5f73", func := "blackboard/blackboardlaw15.LmapKnown", spec := "lmapKnown", apart := false, narrowed := true }
def LmapKnownUptoSaid : Prop := lmapKnownUptoRow.holds Try.pinned (OpenSpec.upto lmapKnownSpec)

/-- 'blackboardlaw15.LmapMoves', WHERE WHAT IT READS IS OF BULK AT MOST 1048576: true; the input reads as it did. -/
def lmapMovesUptoRow : OpenClaim := { program := "ytcnnmnjepofomaa", sum := "818fffe4004f8c8ec37c0f9a0602cfa39c4944ebd4de9b91467929e5432a5f73", func := "blackboard/blackboardlaw15.LmapMoves", spec := "lmapMoves", apart := false, narrowed := true }
def LmapMovesUptoSaid : Prop := lmapMovesUptoRow.holds Try.pinned (OpenSpec.upto lmapMovesSpec)

end Rows
end Go.Proofs.Ytcnnmnjepofomaa
