/- What the document's own function answers that tells what an instruction takes and tells: the plain function; nothing is changed. -/
import Derived.Test.YtlpnoelolkbmmaaDoorBase
namespace Go.Proofs.YtlpnoelolkbmmaaDoor
open Go.RowKit

end Go.Proofs.YtlpnoelolkbmmaaDoor
