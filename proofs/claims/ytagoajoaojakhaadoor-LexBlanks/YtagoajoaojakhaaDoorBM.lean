/- A module's block of ten cells. -/
import Derived.Test.YtagoajoaojakhaaDoorC1
namespace Go.Proofs.YtagoajoaojakhaaDoor
open Go.RowKit Rep
set_option linter.unusedVariables false
namespace Rep
section Blk
variable {w w' : World} {b : Nat} {c0 c1 c2 c3 c4 c5 c6 c7 c8 c9 : Value}
end Blk
end Rep
end Go.Proofs.YtagoajoaojakhaaDoor
