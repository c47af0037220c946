/- A slice of 16-bit numbers among the arguments: how it is read as data, and read again behind a call that leaves old memory alone. -/
import Derived.Test.YtjhoecfhmndcgaaGreatV14
import Derived.ProofKit
import Derived.OpenShut
namespace Go.Proofs.YtjhoecfhmndcgaaGreat
open Go.ChangeShapes Go.WideShapes Go.ChangeAt Go.RowKit
section
variable {H : Type} {enc : TypeId × Value → H} {P : Program} {W : World}
end
end Go.Proofs.YtjhoecfhmndcgaaGreat
