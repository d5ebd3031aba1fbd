/- Tokens: the document's way behind blanks and remarks. -/
import Derived.Test.YtagoajoaojakhaaDoorA4
namespace Go.Proofs.YtagoajoaojakhaaDoor
open Go.RowKit Lx
set_option linter.unusedVariables false
end Go.Proofs.YtagoajoaojakhaaDoor
