/- What the program's Form is to answer. -/
import Derived.Test.YtlpnoelolkbmmaaDoorForm0
import Derived.Deep.RegionWith
namespace Go.Proofs.YtlpnoelolkbmmaaDoor
open Go.RowKit Rep
set_option linter.unusedVariables false

/-- what the program's Form is to answer, in worlds of which I holds -/
structure FormC (I : World → Prop) : Prop where
  keep : ∀ {w w' : World}, Below w.heap.size w w' → I w → I w'
  form : ∀ (op : Int) (w : World), I w → Calls Tryd.prog 48 #[.int .i64 op] w fun e w' => e = .returned (.int .i64 (form op)) ∧ Below w.heap.size w w'

end Go.Proofs.YtlpnoelolkbmmaaDoor
