/- The reference's sums of polynomials. -/
import Derived.Test.YtedpbidijgjkeaaRu
namespace Go.Proofs.Ytedpbidijgjkeaa
open Go.RowKit Go.Gf

/-- the sum, not yet without noughts at its end: of the second the first m laid -/
def addF (xs ys : List Nat) (m j : Nat) : Nat := if j < m then at_ xs j ^^^ at_ ys j else at_ xs j
def padd (xs ys : List Nat) : List Nat := tr (rm (max xs.length ys.length) fun j => at_ xs j ^^^ at_ ys j)

end Go.Proofs.Ytedpbidijgjkeaa
