/- LmapArgs, as its shell asks for it. -/
import Derived.Test.YtcnnmnjepofomaaLmu
namespace Go.Proofs.Ytcnnmnjepofomaa.Lm
open Go.RowKit
theorem args_row (a : Int) (_ : (Lit.int .i64 a).wf = true) (b : Int) (_ : (Lit.int .i64 b).wf = true) (w : World) : Calls Try.prog 4 #[.int .i64 a, .int .i64 b] w (We.Ans w (.bool true)) := args_law15 w a b
end Go.Proofs.Ytcnnmnjepofomaa.Lm
