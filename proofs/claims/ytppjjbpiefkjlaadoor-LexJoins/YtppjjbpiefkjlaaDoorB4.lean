/- Tokens: LexJoins, whole. -/
import Derived.Test.YtppjjbpiefkjlaaDoorB3b
namespace Go.Proofs.YtppjjbpiefkjlaaDoor
open Go.RowKit Lx
set_option linter.unusedVariables false
namespace Lx
theorem jD {n m : Nat} (h : 4000 < n + m) (hn : n ≤ 140737488351232) (hm : m ≤ 140737488351232) : wrap64 ((n : Int) + (m : Int)) = (n : Int) + (m : Int) ∧ decide ((n : Int) + (m : Int) > 4000) = true := by
  refine ⟨?_, decide_eq_true (by omega)⟩
  unfold wrap64; omega
end Lx
set_option maxHeartbeats 4000000 in
theorem joinsC (s t : ByteArray) (w : World) (hWL : WL w) (hs : s.size ≤ 140737488351232) (ht : t.size ≤ 140737488351232) :
    Calls Tryd.prog 4 #[.string s, .string t] w fun e w' => e = .returned (.bool true) ∧ Below w.heap.size w w' := by
  by_cases hz : 4000 < s.size + t.size
  · obtain ⟨hwa, q0⟩ := jD hz hs ht
    have HW := hideR (lWakes w hWL)
    obtain ⟨N, hN⟩ : ∃ N : Int, N = (s.size : Int) + (t.size : Int) := ⟨_, rfl⟩
    clear hWL hz hs ht
    go_enter Tryd.func4, Tryd.ntmps4
    go_wp2_with fail
    refine HW.out.mono ?_
    rintro e u ⟨rfl, hb⟩
    have HB := hideR hb
    clear hb
    go_wp2
    go_ret
    exact ⟨rfl, HB.out⟩
  · by_cases h1 : (lx s).2.2 = 0
    · by_cases h2 : (lx t).2.2 = 0
      · exact joins3 s t hz w hWL h1 h2
      · exact joins2 s t hz w hWL h1 h2
    · exact joins1 s t hz w hWL h1
end Go.Proofs.YtppjjbpiefkjlaaDoor
