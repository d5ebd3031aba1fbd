/- Tokens: LexBlanks, of any two texts. -/
import Derived.Test.YtagoajoaojakhaaDoorB11
namespace Go.Proofs.YtagoajoaojakhaaDoor
open Go.RowKit Lx
set_option linter.unusedVariables false
set_option maxRecDepth 100000 in
set_option maxHeartbeats 4000000 in
theorem blanksC (s b : ByteArray) (w : World) (hWL : WL w) (hs : s.size ≤ 140737488351232) (hb : b.size ≤ 140737488351232) :
    Calls Tryd.prog 5 #[.string s, .string b] w fun e w' => e = .returned (.bool true) ∧ Below w.heap.size w w' := by
  by_cases h1 : s.size ≤ 1500
  · by_cases h2 : b.size ≤ 3
    · exact blanksG s b w hWL h1 h2
    · have q1 : decide ((s.size : Int) > 1500) = false := decide_eq_false (by omega)
      have q2 : decide ((b.size : Int) > 3) = true := decide_eq_true (by omega)
      have HW := hideR (lWakes w hWL)
      clear h1 h2 hs hb hWL
      go_enter Tryd.func5, Tryd.ntmps5
      go_wp2_with fail
      refine HW.out.mono ?_
      rintro e u ⟨rfl, hb⟩
      have HB := hideR hb
      clear hb
      go_wp2
      go_ret
      exact ⟨rfl, HB.out⟩
  · have q1 : decide ((s.size : Int) > 1500) = true := decide_eq_true (by omega)
    have HW := hideR (lWakes w hWL)
    clear h1 hs hb hWL
    go_enter Tryd.func5, Tryd.ntmps5
    go_wp2_with fail
    refine HW.out.mono ?_
    rintro e u ⟨rfl, hb⟩
    have HB := hideR hb
    clear hb
    go_wp2
    go_ret
    exact ⟨rfl, HB.out⟩
end Go.Proofs.YtagoajoaojakhaaDoor
