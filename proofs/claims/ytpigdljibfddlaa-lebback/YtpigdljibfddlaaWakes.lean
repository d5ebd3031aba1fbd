/- The statements' own example holds: the program answers as the document's three sample numbers say. -/
import Derived.Test.YtpigdljibfddlaaS
import Derived.Test.YtpigdljibfddlaaPut
namespace Go.Proofs.Ytpigdljibfddlaa
open Go.RowKit

theorem wakes_u : Leb.uB 624485 = [229, 142, 38] := by
  rw [Leb.uB_great (by decide), Leb.uB_great (by decide), Leb.uB_small (by decide) (by decide)]; decide
theorem wakes_s : Leb.sB (-123456) = [192, 187, 120] := by
  rw [Leb.sB_great (by decide), Leb.sB_great (by decide), Leb.sB_small (by decide)]; decide
theorem wakes_r : Leb.uRead ⟨#[229, 142, 38]⟩ 0 32 = (624485, 3, 0) := by decide +kernel

theorem bel_on {w w1 w2 : World} (h1 : Below w.heap.size w w1) (h2 : Below w1.heap.size w1 w2) : Below w.heap.size w w2 := h1.trans (h2.mono h1.size)

set_option maxHeartbeats 400000 in
theorem c13 (w : World) : Calls Try.prog 13 #[] w fun e w' => e = .returned (.bool true) ∧ Below w.heap.size w w' := by
  have e1 : ((strOfNums [229, 142, 38]).toList == [229, 142, 38]) = true := by decide +kernel
  have e2 : ((strOfNums [192, 187, 120]).toList == [192, 187, 120]) = true := by decide +kernel
  go_enter Try.func13, Try.ntmps13
  go_wp2_with fail
  refine (c14 _ _ _ _ (by decide)).mono ?_
  rintro e w1 ⟨rfl, hb1⟩
  rw [wakes_r]
  go_wp2_with fail
  refine (c9 _ _ (by decide) (by decide)).mono ?_
  rintro e w2 ⟨rfl, hb2⟩
  rw [wakes_u]
  go_wp2_with fail
  refine (c11 _ _ (by decide) (by decide)).mono ?_
  rintro e w3 ⟨rfl, hb3⟩
  rw [wakes_s]
  go_wp2
  go_ret
  exact ⟨rfl, bel_on (bel_on hb1 hb2) hb3⟩
end Go.Proofs.Ytpigdljibfddlaa
