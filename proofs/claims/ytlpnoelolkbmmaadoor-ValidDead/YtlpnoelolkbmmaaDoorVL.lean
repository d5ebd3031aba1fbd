/- The library's look at texts: its tables lie as they are laid. -/
import Derived.Test.YtlpnoelolkbmmaaDoorGV
import Derived.Lib.ValidU
import Derived.Ground.NamesProg
import Derived.WalkMore
import Derived.Shelf.Lay
import Derived.Shelf.Unicode.ValidAny
namespace Go.Proofs
open Go.RowKit Go.Shelf Go.Lib

shelf_lay Lays.n196 Nm 196 at Tryd as Tryd.laysValid

namespace YtlpnoelolkbmmaaDoor
open Go.RowKit Rep
namespace Rep
def nm (s : ByteArray) : Bool := decide ((s.size : Int) ≤ 64) && Lib.validD s.data.toList
end Rep
/-- the library's tables lie as they are laid -/
def UtfI (w : World) : Prop := Lib.Utf8Tabs (Tryd.laysValid_ren.g 3) (Tryd.laysValid_ren.g 4) w
end YtlpnoelolkbmmaaDoor
end Go.Proofs
