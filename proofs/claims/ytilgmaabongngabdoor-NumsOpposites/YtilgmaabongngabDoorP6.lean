/- What the program's function of one value answers, of any number as instruction: the plain function; nothing is changed. -/
import Derived.Test.YtilgmaabongngabDoorP4D
namespace Go.Proofs.YtilgmaabongngabDoor
open Go.RowKit

theorem pReckon1 (op a : Int) (w : World) (hI : TabI w) (h : (Nums.sig op).1 = 1) (h0 : 0 ≤ a) (h1 : a ≤ 18446744073709551615) :
    Calls Tryd.prog 8 #[.int .i64 op, .int .u64 a, .int .u64 0] w fun e w' => e = .returned (.tuple #[.int .u64 (Nums.un op a).1, .int .i64 0]) ∧ w' = w := by
  have k0 : (0 : Int) ≤ 0 := by decide
  have k1 : (0 : Int) ≤ 18446744073709551615 := by decide
  rcases sig_is_one op h with rfl | rfl | rfl | rfl | rfl | rfl | rfl | rfl | rfl | rfl | rfl
  · exact pReckon69 a 0 w h0 h1 k0 k1
  · exact pReckon80 a 0 w h0 h1 k0 k1
  · exact pReckon103 a 0 w h0 h1 k0 k1
  · exact pReckon104 a 0 w h0 h1 k0 k1 hI
  · exact pReckon105 a 0 w h0 h1 k0 k1
  · exact pReckon121 a 0 w h0 h1 k0 k1
  · exact pReckon122 a 0 w h0 h1 k0 k1 hI
  · exact pReckon123 a 0 w h0 h1 k0 k1
  · exact pReckon167 a 0 w h0 h1 k0 k1
  · exact pReckon172 a 0 w h0 h1 k0 k1
  · exact pReckon173 a 0 w h0 h1 k0 k1
theorem un_ok (op a : Int) (h : (Nums.sig op).1 = 1) : (Nums.un op a).2 = true := by
  rcases sig_is_one op h with rfl | rfl | rfl | rfl | rfl | rfl | rfl | rfl | rfl | rfl | rfl <;> rfl

set_option maxHeartbeats 1000000 in
theorem pUnary (op a : Int) (w : World) (hI : TabI w) (h0 : 0 ≤ a) (h1 : a ≤ 18446744073709551615) :
    Calls Tryd.prog 5 #[.int .i64 op, .int .u64 a] w fun e w' => e = .returned (.tuple #[.int .u64 (Nums.un op a).1, .bool (Nums.un op a).2]) ∧ w' = w := by
  by_cases h : (Nums.sig op).1 = 1
  · have hc : ∀ w : World, TabI w → Calls Tryd.prog 8 #[.int .i64 op, .int .u64 a, .int .u64 0] w fun e w' => e = .returned (.tuple #[.int .u64 (Nums.un op a).1, .int .i64 0]) ∧ w' = w := fun w hI => pReckon1 op a w hI h h0 h1
    rw [un_ok op a h]
    have hs : ∀ w : World, Calls Tryd.prog 7 #[.int .i64 op] w fun e w' => e = .returned (.tuple #[.int .i64 (Nums.sig op).2.1, .int .i64 (Nums.sig op).1, .int .i64 (Nums.sig op).2.2]) ∧ w' = w := fun w => pShape op w
    rw [h] at hs
    clear h
    generalize (Nums.sig op).2.1 = s1 at *
    generalize (Nums.sig op).2.2 = s2 at *
    generalize (Nums.un op a).1 = x at *
    go_enter Tryd.func5, Tryd.ntmps5
    go_wp2_with fail
    refine (hs _).mono ?_
    rintro e u ⟨rfl, rfl⟩
    go_wp2_with fail
    refine (hc _ hI).mono ?_
    rintro e u ⟨rfl, rfl⟩
    go_wp2
    go_ret2
    exact ⟨rfl, rfl⟩
  · rw [sig_one op h]
    have hs : ∀ w : World, Calls Tryd.prog 7 #[.int .i64 op] w fun e w' => e = .returned (.tuple #[.int .i64 (Nums.sig op).2.1, .int .i64 (Nums.sig op).1, .int .i64 (Nums.sig op).2.2]) ∧ w' = w := fun w => pShape op w
    have h2 : ((Nums.sig op).1 != 1) = true := by simp [h]
    clear h
    generalize Nums.sig op = s at *
    go_enter Tryd.func5, Tryd.ntmps5
    go_wp2_with fail
    refine (hs _).mono ?_
    rintro e u ⟨rfl, rfl⟩
    go_wp2
    go_ret2
    exact ⟨rfl, rfl⟩
end Go.Proofs.YtilgmaabongngabDoor
