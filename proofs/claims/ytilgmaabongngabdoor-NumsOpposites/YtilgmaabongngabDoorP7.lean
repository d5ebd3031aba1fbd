/- The program keeps what it is to answer, where the library's table lies as it is laid. -/
import Derived.Test.YtilgmaabongngabDoorP5
import Derived.Test.YtilgmaabongngabDoorP6
import Derived.Test.YtilgmaabongngabDoorTz
import Derived.Test.YtilgmaabongngabDoorCon
namespace Go.Proofs.YtilgmaabongngabDoor
open Go.RowKit

theorem below_self (w : World) : Below w.heap.size w w := Below.refl _ _
theorem numsC : NumsC TabI where
  keep hb h := TabI.keep hb h
  bin op a b w _ h0 h1 k0 k1 := (pBinary op a b w h0 h1 k0 k1).mono (by rintro e u ⟨rfl, rfl⟩; exact ⟨rfl, below_self _⟩)
  un op a w hI h0 h1 := (pUnary op a w hI h0 h1).mono (by rintro e u ⟨rfl, rfl⟩; exact ⟨rfl, below_self _⟩)
  signed v typ w h0 h1 := (pSigned v typ w h0 h1).mono (by rintro e u ⟨rfl, rfl⟩; exact ⟨rfl, below_self _⟩)
end Go.Proofs.YtilgmaabongngabDoor
