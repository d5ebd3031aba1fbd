/- What the document's own function of one value answers, of any number as instruction: the plain function; nothing is changed. -/
import Derived.Test.YtilgmaabongngaaDoorRef1
namespace Go.Proofs.YtilgmaabongngaaDoor
open Go.RowKit

theorem sig_one (op : Int) : (Nums.sig op).1 ≠ 1 → Nums.un op = fun _ => (0, false) := by
  intro h
  funext a
  unfold Nums.sig at h
  unfold Nums.un
  repeat' split at h
  all_goals first | (exfalso; exact h rfl) | skip
  all_goals rw [if_neg (by omega), if_neg (by omega), if_neg (by omega), if_neg (by omega), if_neg (by omega), if_neg (by omega), if_neg (by omega), if_neg (by omega), if_neg (by omega), if_neg (by omega), if_neg (by omega)]
theorem sig_is_one (op : Int) : (Nums.sig op).1 = 1 → op = 69 ∨ op = 80 ∨ op = 103 ∨ op = 104 ∨ op = 105 ∨ op = 121 ∨ op = 122 ∨ op = 123 ∨ op = 167 ∨ op = 172 ∨ op = 173 := by
  intro h
  unfold Nums.sig at h
  repeat' split at h
  all_goals first | omega | (exfalso; revert h; decide)

set_option maxHeartbeats 1000000 in
theorem refNot1 (op a : Int) (w : World) (h : (Nums.sig op).1 ≠ 1) :
    Calls Tryd.prog 9 #[.int .i64 op, .int .u64 a] w fun e w' => e = .returned (.tuple #[.int .u64 0, .bool false]) ∧ w' = w := by
  have h2 : ((Nums.sig op).1 == 1) = false := by simp [h]
  go_enter Tryd.func9, Tryd.ntmps9
  go_wp2_with fail
  refine (refSig _ _).mono ?_
  rintro e u ⟨rfl, rfl⟩
  generalize Nums.sig op = t at *
  go_wp2
  go_ret2
  exact ⟨rfl, rfl⟩

theorem refUnary (op a : Int) (w : World) (h0 : 0 ≤ a) (h1 : a ≤ 18446744073709551615) :
    Calls Tryd.prog 9 #[.int .i64 op, .int .u64 a] w fun e w' => e = .returned (.tuple #[.int .u64 (Nums.un op a).1, .bool (Nums.un op a).2]) ∧ w' = w := by
  by_cases h : (Nums.sig op).1 = 1
  · rcases sig_is_one op h with rfl | rfl | rfl | rfl | rfl | rfl | rfl | rfl | rfl | rfl | rfl
    · exact refUn69 a w h0 h1
    · exact refUn80 a w h0 h1
    · exact refUn103 a w h0 h1
    · exact refUn104 a w h0 h1
    · exact refUn105 a w h0 h1
    · exact refUn121 a w h0 h1
    · exact refUn122 a w h0 h1
    · exact refUn123 a w h0 h1
    · exact refUn167 a w h0 h1
    · exact refUn172 a w h0 h1
    · exact refUn173 a w h0 h1
  · rw [sig_one op h]
    exact refNot1 op a w h
end Go.Proofs.YtilgmaabongngaaDoor
