/- The program's Name, by the library's contract. -/
import Derived.Test.YtlpnoelolkbmmaaDoorVL
namespace Go.Proofs
open Go.RowKit Go.Shelf Go.Lib
namespace YtlpnoelolkbmmaaDoor
open Go.RowKit Rep
set_option maxHeartbeats 1000000 in
set_option maxRecDepth 1000000 in
theorem pName (s : ByteArray) (w : World) (hs : s.size ≤ 9223372036854775807) (hT : UtfI w) :
    Calls Tryd.prog 60 #[.string s] w fun e w' => e = .returned (.bool (nm s)) ∧ Below w.heap.size w w' := by
  have cV : Calls Tryd.prog 79 #[.string s] w _ := Any.utf8_ValidString Tryd.laysValid s w (by omega) hT
  unfold nm
  generalize Lib.validD s.data.toList = V at cV ⊢
  have CV := hideM cV
  clear cV
  by_cases h0 : s.size ≤ 64
  · have h0z : decide ((s.size : Int) ≤ 64) = true := by simp; omega
    rw [h0z, Bool.true_and]
    go_enter Tryd.func60, Tryd.ntmps60
    go_wp2_with fail
    refine CV.out.mono ?_
    rintro e w' ⟨rfl, hb⟩
    go_wp2
    go_ret
    exact ⟨rfl, hb⟩
  · have h0z : decide ((s.size : Int) ≤ 64) = false := by simp; omega
    rw [h0z, Bool.false_and]
    clear CV
    go_enter Tryd.func60, Tryd.ntmps60
    go_wp2
    go_ret
    exact ⟨rfl, Below.refl _ _⟩
end YtlpnoelolkbmmaaDoor
end Go.Proofs
