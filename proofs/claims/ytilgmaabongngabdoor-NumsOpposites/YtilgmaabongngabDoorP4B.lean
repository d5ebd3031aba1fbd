/- What the program's reckon answers, instruction by instruction; nothing is changed. -/
import Derived.Test.YtilgmaabongngabDoorP2
import Derived.Test.YtilgmaabongngabDoorBase
namespace Go.Proofs.YtilgmaabongngabDoor
open Go.RowKit
set_option linter.unusedVariables false

set_option maxHeartbeats 1000000 in
theorem pReckon124 (a b : Int) (w : World) (h0 : 0 ≤ a) (h1 : a ≤ 18446744073709551615) (k0 : 0 ≤ b) (k1 : b ≤ 18446744073709551615) :
    Calls Tryd.prog 8 #[.int .i64 124, .int .u64 a, .int .u64 b] w fun e w' => e = .returned (.tuple #[.int .u64 (Nums.ar 0 64 (a) (b)).1, .int .i64 (Nums.ar 0 64 (a) (b)).2]) ∧ w' = w := by
  have ha : 0 ≤ a ∧ a ≤ 18446744073709551615 := by omega
  have hb : 0 ≤ b ∧ b ≤ 18446744073709551615 := by omega
  have hc : ∀ w : World, Calls Tryd.prog 15 #[.int .i64 106, .int .u64 (a), .int .u64 (b)] w fun e w' => Cuts 126 (Nums.ar 0 64 (a) (b)).1 e ∧ w' = w := fun w => psum106_64 a b w h0 h1 k0 k1
  rw [show (Nums.ar 0 64 (a) (b)).2 = 0 from rfl]
  generalize (Nums.ar 0 64 (a) (b)).1 = x at *
  go_enter Tryd.func8, Tryd.ntmps8
  go_wp2_with fail
  refine (pShape _ _).mono ?_
  rintro e u ⟨rfl, rfl⟩
  rw [show Nums.sig 124 = (2, 126, 126) from rfl]
  go_wp2_with fail
  refine (pCut _ _ _ h0 h1).mono ?_
  rintro e u ⟨rfl, rfl⟩
  rw [cut64]
  go_wp2_with fail
  refine (pCut _ _ _ k0 k1).mono ?_
  rintro e u ⟨rfl, rfl⟩
  rw [cut64]
  go_wp2_with fail
  refine (pAlike _ _ (by decide) (by decide)).mono ?_
  rintro e u ⟨rfl, rfl⟩
  rw [show Nums.alike 124 = 106 from rfl]
  go_wp2_with fail
  refine (hc _).mono ?_
  rintro e u ⟨⟨v, rfl, v0, v1, hv⟩, rfl⟩
  have Hv := hide hv
  clear hv
  go_wp2_with fail
  refine (pCut _ _ _ v0 v1).mono ?_
  rintro e u ⟨rfl, rfl⟩
  rw [Hv]
  go_wp2
  go_ret2
  exact ⟨rfl, rfl⟩

set_option maxHeartbeats 1000000 in
theorem pReckon125 (a b : Int) (w : World) (h0 : 0 ≤ a) (h1 : a ≤ 18446744073709551615) (k0 : 0 ≤ b) (k1 : b ≤ 18446744073709551615) :
    Calls Tryd.prog 8 #[.int .i64 125, .int .u64 a, .int .u64 b] w fun e w' => e = .returned (.tuple #[.int .u64 (Nums.ar 1 64 (a) (b)).1, .int .i64 (Nums.ar 1 64 (a) (b)).2]) ∧ w' = w := by
  have ha : 0 ≤ a ∧ a ≤ 18446744073709551615 := by omega
  have hb : 0 ≤ b ∧ b ≤ 18446744073709551615 := by omega
  have hc : ∀ w : World, Calls Tryd.prog 15 #[.int .i64 107, .int .u64 (a), .int .u64 (b)] w fun e w' => Cuts 126 (Nums.ar 1 64 (a) (b)).1 e ∧ w' = w := fun w => psum107_64 a b w h0 h1 k0 k1
  rw [show (Nums.ar 1 64 (a) (b)).2 = 0 from rfl]
  generalize (Nums.ar 1 64 (a) (b)).1 = x at *
  go_enter Tryd.func8, Tryd.ntmps8
  go_wp2_with fail
  refine (pShape _ _).mono ?_
  rintro e u ⟨rfl, rfl⟩
  rw [show Nums.sig 125 = (2, 126, 126) from rfl]
  go_wp2_with fail
  refine (pCut _ _ _ h0 h1).mono ?_
  rintro e u ⟨rfl, rfl⟩
  rw [cut64]
  go_wp2_with fail
  refine (pCut _ _ _ k0 k1).mono ?_
  rintro e u ⟨rfl, rfl⟩
  rw [cut64]
  go_wp2_with fail
  refine (pAlike _ _ (by decide) (by decide)).mono ?_
  rintro e u ⟨rfl, rfl⟩
  rw [show Nums.alike 125 = 107 from rfl]
  go_wp2_with fail
  refine (hc _).mono ?_
  rintro e u ⟨⟨v, rfl, v0, v1, hv⟩, rfl⟩
  have Hv := hide hv
  clear hv
  go_wp2_with fail
  refine (pCut _ _ _ v0 v1).mono ?_
  rintro e u ⟨rfl, rfl⟩
  rw [Hv]
  go_wp2
  go_ret2
  exact ⟨rfl, rfl⟩

set_option maxHeartbeats 1000000 in
theorem pReckon126 (a b : Int) (w : World) (h0 : 0 ≤ a) (h1 : a ≤ 18446744073709551615) (k0 : 0 ≤ b) (k1 : b ≤ 18446744073709551615) :
    Calls Tryd.prog 8 #[.int .i64 126, .int .u64 a, .int .u64 b] w fun e w' => e = .returned (.tuple #[.int .u64 (Nums.ar 2 64 (a) (b)).1, .int .i64 (Nums.ar 2 64 (a) (b)).2]) ∧ w' = w := by
  have ha : 0 ≤ a ∧ a ≤ 18446744073709551615 := by omega
  have hb : 0 ≤ b ∧ b ≤ 18446744073709551615 := by omega
  have hc : ∀ w : World, Calls Tryd.prog 15 #[.int .i64 108, .int .u64 (a), .int .u64 (b)] w fun e w' => Cuts 126 (Nums.ar 2 64 (a) (b)).1 e ∧ w' = w := fun w => psum108_64 a b w h0 h1 k0 k1
  rw [show (Nums.ar 2 64 (a) (b)).2 = 0 from rfl]
  generalize (Nums.ar 2 64 (a) (b)).1 = x at *
  go_enter Tryd.func8, Tryd.ntmps8
  go_wp2_with fail
  refine (pShape _ _).mono ?_
  rintro e u ⟨rfl, rfl⟩
  rw [show Nums.sig 126 = (2, 126, 126) from rfl]
  go_wp2_with fail
  refine (pCut _ _ _ h0 h1).mono ?_
  rintro e u ⟨rfl, rfl⟩
  rw [cut64]
  go_wp2_with fail
  refine (pCut _ _ _ k0 k1).mono ?_
  rintro e u ⟨rfl, rfl⟩
  rw [cut64]
  go_wp2_with fail
  refine (pAlike _ _ (by decide) (by decide)).mono ?_
  rintro e u ⟨rfl, rfl⟩
  rw [show Nums.alike 126 = 108 from rfl]
  go_wp2_with fail
  refine (hc _).mono ?_
  rintro e u ⟨⟨v, rfl, v0, v1, hv⟩, rfl⟩
  have Hv := hide hv
  clear hv
  go_wp2_with fail
  refine (pCut _ _ _ v0 v1).mono ?_
  rintro e u ⟨rfl, rfl⟩
  rw [Hv]
  go_wp2
  go_ret2
  exact ⟨rfl, rfl⟩

set_option maxHeartbeats 1000000 in
theorem pReckon127 (a b : Int) (w : World) (h0 : 0 ≤ a) (h1 : a ≤ 18446744073709551615) (k0 : 0 ≤ b) (k1 : b ≤ 18446744073709551615) :
    Calls Tryd.prog 8 #[.int .i64 127, .int .u64 a, .int .u64 b] w fun e w' => e = .returned (.tuple #[.int .u64 (Nums.ar 3 64 (a) (b)).1, .int .i64 (Nums.ar 3 64 (a) (b)).2]) ∧ w' = w := by
  have ha : 0 ≤ a ∧ a ≤ 18446744073709551615 := by omega
  have hb : 0 ≤ b ∧ b ≤ 18446744073709551615 := by omega
  have hc : ∀ w : World, Calls Tryd.prog 16 #[.int .i64 109, .int .u64 (a), .int .u64 (b), .int .i64 126] w fun e w' => Cuts2 126 (Nums.ar 3 64 (a) (b)) e ∧ w' = w := fun w => pdivide109_64 _ _ w (by omega) (by omega) (by omega) (by omega)
  generalize Nums.ar 3 64 (a) (b) = x at *
  go_enter Tryd.func8, Tryd.ntmps8
  go_wp2_with fail
  refine (pShape _ _).mono ?_
  rintro e u ⟨rfl, rfl⟩
  rw [show Nums.sig 127 = (2, 126, 126) from rfl]
  go_wp2_with fail
  refine (pCut _ _ _ h0 h1).mono ?_
  rintro e u ⟨rfl, rfl⟩
  rw [cut64]
  go_wp2_with fail
  refine (pCut _ _ _ k0 k1).mono ?_
  rintro e u ⟨rfl, rfl⟩
  rw [cut64]
  go_wp2_with fail
  refine (pAlike _ _ (by decide) (by decide)).mono ?_
  rintro e u ⟨rfl, rfl⟩
  rw [show Nums.alike 127 = 109 from rfl]
  go_wp2_with fail
  refine (hc _).mono ?_
  rintro e u ⟨⟨v, rfl, v0, v1, hv⟩, rfl⟩
  have Hv := hide hv
  clear hv
  go_wp2_with fail
  refine (pCut _ _ _ v0 v1).mono ?_
  rintro e u ⟨rfl, rfl⟩
  rw [Hv]
  go_wp2
  go_ret2
  exact ⟨rfl, rfl⟩

set_option maxHeartbeats 1000000 in
theorem pReckon128 (a b : Int) (w : World) (h0 : 0 ≤ a) (h1 : a ≤ 18446744073709551615) (k0 : 0 ≤ b) (k1 : b ≤ 18446744073709551615) :
    Calls Tryd.prog 8 #[.int .i64 128, .int .u64 a, .int .u64 b] w fun e w' => e = .returned (.tuple #[.int .u64 (Nums.ar 4 64 (a) (b)).1, .int .i64 (Nums.ar 4 64 (a) (b)).2]) ∧ w' = w := by
  have ha : 0 ≤ a ∧ a ≤ 18446744073709551615 := by omega
  have hb : 0 ≤ b ∧ b ≤ 18446744073709551615 := by omega
  have hc : ∀ w : World, Calls Tryd.prog 16 #[.int .i64 110, .int .u64 (a), .int .u64 (b), .int .i64 126] w fun e w' => Cuts2 126 (Nums.ar 4 64 (a) (b)) e ∧ w' = w := fun w => pdivide110_64 _ _ w (by omega) (by omega) (by omega) (by omega)
  generalize Nums.ar 4 64 (a) (b) = x at *
  go_enter Tryd.func8, Tryd.ntmps8
  go_wp2_with fail
  refine (pShape _ _).mono ?_
  rintro e u ⟨rfl, rfl⟩
  rw [show Nums.sig 128 = (2, 126, 126) from rfl]
  go_wp2_with fail
  refine (pCut _ _ _ h0 h1).mono ?_
  rintro e u ⟨rfl, rfl⟩
  rw [cut64]
  go_wp2_with fail
  refine (pCut _ _ _ k0 k1).mono ?_
  rintro e u ⟨rfl, rfl⟩
  rw [cut64]
  go_wp2_with fail
  refine (pAlike _ _ (by decide) (by decide)).mono ?_
  rintro e u ⟨rfl, rfl⟩
  rw [show Nums.alike 128 = 110 from rfl]
  go_wp2_with fail
  refine (hc _).mono ?_
  rintro e u ⟨⟨v, rfl, v0, v1, hv⟩, rfl⟩
  have Hv := hide hv
  clear hv
  go_wp2_with fail
  refine (pCut _ _ _ v0 v1).mono ?_
  rintro e u ⟨rfl, rfl⟩
  rw [Hv]
  go_wp2
  go_ret2
  exact ⟨rfl, rfl⟩

set_option maxHeartbeats 1000000 in
theorem pReckon129 (a b : Int) (w : World) (h0 : 0 ≤ a) (h1 : a ≤ 18446744073709551615) (k0 : 0 ≤ b) (k1 : b ≤ 18446744073709551615) :
    Calls Tryd.prog 8 #[.int .i64 129, .int .u64 a, .int .u64 b] w fun e w' => e = .returned (.tuple #[.int .u64 (Nums.ar 5 64 (a) (b)).1, .int .i64 (Nums.ar 5 64 (a) (b)).2]) ∧ w' = w := by
  have ha : 0 ≤ a ∧ a ≤ 18446744073709551615 := by omega
  have hb : 0 ≤ b ∧ b ≤ 18446744073709551615 := by omega
  have hc : ∀ w : World, Calls Tryd.prog 16 #[.int .i64 111, .int .u64 (a), .int .u64 (b), .int .i64 126] w fun e w' => Cuts2 126 (Nums.ar 5 64 (a) (b)) e ∧ w' = w := fun w => pdivide111_64 _ _ w (by omega) (by omega) (by omega) (by omega)
  generalize Nums.ar 5 64 (a) (b) = x at *
  go_enter Tryd.func8, Tryd.ntmps8
  go_wp2_with fail
  refine (pShape _ _).mono ?_
  rintro e u ⟨rfl, rfl⟩
  rw [show Nums.sig 129 = (2, 126, 126) from rfl]
  go_wp2_with fail
  refine (pCut _ _ _ h0 h1).mono ?_
  rintro e u ⟨rfl, rfl⟩
  rw [cut64]
  go_wp2_with fail
  refine (pCut _ _ _ k0 k1).mono ?_
  rintro e u ⟨rfl, rfl⟩
  rw [cut64]
  go_wp2_with fail
  refine (pAlike _ _ (by decide) (by decide)).mono ?_
  rintro e u ⟨rfl, rfl⟩
  rw [show Nums.alike 129 = 111 from rfl]
  go_wp2_with fail
  refine (hc _).mono ?_
  rintro e u ⟨⟨v, rfl, v0, v1, hv⟩, rfl⟩
  have Hv := hide hv
  clear hv
  go_wp2_with fail
  refine (pCut _ _ _ v0 v1).mono ?_
  rintro e u ⟨rfl, rfl⟩
  rw [Hv]
  go_wp2
  go_ret2
  exact ⟨rfl, rfl⟩

set_option maxHeartbeats 1000000 in
theorem pReckon130 (a b : Int) (w : World) (h0 : 0 ≤ a) (h1 : a ≤ 18446744073709551615) (k0 : 0 ≤ b) (k1 : b ≤ 18446744073709551615) :
    Calls Tryd.prog 8 #[.int .i64 130, .int .u64 a, .int .u64 b] w fun e w' => e = .returned (.tuple #[.int .u64 (Nums.ar 6 64 (a) (b)).1, .int .i64 (Nums.ar 6 64 (a) (b)).2]) ∧ w' = w := by
  have ha : 0 ≤ a ∧ a ≤ 18446744073709551615 := by omega
  have hb : 0 ≤ b ∧ b ≤ 18446744073709551615 := by omega
  have hc : ∀ w : World, Calls Tryd.prog 16 #[.int .i64 112, .int .u64 (a), .int .u64 (b), .int .i64 126] w fun e w' => Cuts2 126 (Nums.ar 6 64 (a) (b)) e ∧ w' = w := fun w => pdivide112_64 _ _ w (by omega) (by omega) (by omega) (by omega)
  generalize Nums.ar 6 64 (a) (b) = x at *
  go_enter Tryd.func8, Tryd.ntmps8
  go_wp2_with fail
  refine (pShape _ _).mono ?_
  rintro e u ⟨rfl, rfl⟩
  rw [show Nums.sig 130 = (2, 126, 126) from rfl]
  go_wp2_with fail
  refine (pCut _ _ _ h0 h1).mono ?_
  rintro e u ⟨rfl, rfl⟩
  rw [cut64]
  go_wp2_with fail
  refine (pCut _ _ _ k0 k1).mono ?_
  rintro e u ⟨rfl, rfl⟩
  rw [cut64]
  go_wp2_with fail
  refine (pAlike _ _ (by decide) (by decide)).mono ?_
  rintro e u ⟨rfl, rfl⟩
  rw [show Nums.alike 130 = 112 from rfl]
  go_wp2_with fail
  refine (hc _).mono ?_
  rintro e u ⟨⟨v, rfl, v0, v1, hv⟩, rfl⟩
  have Hv := hide hv
  clear hv
  go_wp2_with fail
  refine (pCut _ _ _ v0 v1).mono ?_
  rintro e u ⟨rfl, rfl⟩
  rw [Hv]
  go_wp2
  go_ret2
  exact ⟨rfl, rfl⟩

set_option maxHeartbeats 1000000 in
theorem pReckon131 (a b : Int) (w : World) (h0 : 0 ≤ a) (h1 : a ≤ 18446744073709551615) (k0 : 0 ≤ b) (k1 : b ≤ 18446744073709551615) :
    Calls Tryd.prog 8 #[.int .i64 131, .int .u64 a, .int .u64 b] w fun e w' => e = .returned (.tuple #[.int .u64 (Nums.ar 7 64 (a) (b)).1, .int .i64 (Nums.ar 7 64 (a) (b)).2]) ∧ w' = w := by
  have ha : 0 ≤ a ∧ a ≤ 18446744073709551615 := by omega
  have hb : 0 ≤ b ∧ b ≤ 18446744073709551615 := by omega
  have hc : ∀ w : World, Calls Tryd.prog 17 #[.int .i64 113, .int .u64 (a), .int .u64 (b)] w fun e w' => Cuts 126 (Nums.ar 7 64 (a) (b)).1 e ∧ w' = w := fun w => pcombine113_64 a b w h0 h1 k0 k1
  rw [show (Nums.ar 7 64 (a) (b)).2 = 0 from rfl]
  generalize (Nums.ar 7 64 (a) (b)).1 = x at *
  go_enter Tryd.func8, Tryd.ntmps8
  go_wp2_with fail
  refine (pShape _ _).mono ?_
  rintro e u ⟨rfl, rfl⟩
  rw [show Nums.sig 131 = (2, 126, 126) from rfl]
  go_wp2_with fail
  refine (pCut _ _ _ h0 h1).mono ?_
  rintro e u ⟨rfl, rfl⟩
  rw [cut64]
  go_wp2_with fail
  refine (pCut _ _ _ k0 k1).mono ?_
  rintro e u ⟨rfl, rfl⟩
  rw [cut64]
  go_wp2_with fail
  refine (pAlike _ _ (by decide) (by decide)).mono ?_
  rintro e u ⟨rfl, rfl⟩
  rw [show Nums.alike 131 = 113 from rfl]
  go_wp2_with fail
  refine (hc _).mono ?_
  rintro e u ⟨⟨v, rfl, v0, v1, hv⟩, rfl⟩
  have Hv := hide hv
  clear hv
  go_wp2_with fail
  refine (pCut _ _ _ v0 v1).mono ?_
  rintro e u ⟨rfl, rfl⟩
  rw [Hv]
  go_wp2
  go_ret2
  exact ⟨rfl, rfl⟩

set_option maxHeartbeats 1000000 in
theorem pReckon132 (a b : Int) (w : World) (h0 : 0 ≤ a) (h1 : a ≤ 18446744073709551615) (k0 : 0 ≤ b) (k1 : b ≤ 18446744073709551615) :
    Calls Tryd.prog 8 #[.int .i64 132, .int .u64 a, .int .u64 b] w fun e w' => e = .returned (.tuple #[.int .u64 (Nums.ar 8 64 (a) (b)).1, .int .i64 (Nums.ar 8 64 (a) (b)).2]) ∧ w' = w := by
  have ha : 0 ≤ a ∧ a ≤ 18446744073709551615 := by omega
  have hb : 0 ≤ b ∧ b ≤ 18446744073709551615 := by omega
  have hc : ∀ w : World, Calls Tryd.prog 17 #[.int .i64 114, .int .u64 (a), .int .u64 (b)] w fun e w' => Cuts 126 (Nums.ar 8 64 (a) (b)).1 e ∧ w' = w := fun w => pcombine114_64 a b w h0 h1 k0 k1
  rw [show (Nums.ar 8 64 (a) (b)).2 = 0 from rfl]
  generalize (Nums.ar 8 64 (a) (b)).1 = x at *
  go_enter Tryd.func8, Tryd.ntmps8
  go_wp2_with fail
  refine (pShape _ _).mono ?_
  rintro e u ⟨rfl, rfl⟩
  rw [show Nums.sig 132 = (2, 126, 126) from rfl]
  go_wp2_with fail
  refine (pCut _ _ _ h0 h1).mono ?_
  rintro e u ⟨rfl, rfl⟩
  rw [cut64]
  go_wp2_with fail
  refine (pCut _ _ _ k0 k1).mono ?_
  rintro e u ⟨rfl, rfl⟩
  rw [cut64]
  go_wp2_with fail
  refine (pAlike _ _ (by decide) (by decide)).mono ?_
  rintro e u ⟨rfl, rfl⟩
  rw [show Nums.alike 132 = 114 from rfl]
  go_wp2_with fail
  refine (hc _).mono ?_
  rintro e u ⟨⟨v, rfl, v0, v1, hv⟩, rfl⟩
  have Hv := hide hv
  clear hv
  go_wp2_with fail
  refine (pCut _ _ _ v0 v1).mono ?_
  rintro e u ⟨rfl, rfl⟩
  rw [Hv]
  go_wp2
  go_ret2
  exact ⟨rfl, rfl⟩

set_option maxHeartbeats 1000000 in
theorem pReckon133 (a b : Int) (w : World) (h0 : 0 ≤ a) (h1 : a ≤ 18446744073709551615) (k0 : 0 ≤ b) (k1 : b ≤ 18446744073709551615) :
    Calls Tryd.prog 8 #[.int .i64 133, .int .u64 a, .int .u64 b] w fun e w' => e = .returned (.tuple #[.int .u64 (Nums.ar 9 64 (a) (b)).1, .int .i64 (Nums.ar 9 64 (a) (b)).2]) ∧ w' = w := by
  have ha : 0 ≤ a ∧ a ≤ 18446744073709551615 := by omega
  have hb : 0 ≤ b ∧ b ≤ 18446744073709551615 := by omega
  have hc : ∀ w : World, Calls Tryd.prog 17 #[.int .i64 115, .int .u64 (a), .int .u64 (b)] w fun e w' => Cuts 126 (Nums.ar 9 64 (a) (b)).1 e ∧ w' = w := fun w => pcombine115_64 a b w h0 h1 k0 k1
  rw [show (Nums.ar 9 64 (a) (b)).2 = 0 from rfl]
  generalize (Nums.ar 9 64 (a) (b)).1 = x at *
  go_enter Tryd.func8, Tryd.ntmps8
  go_wp2_with fail
  refine (pShape _ _).mono ?_
  rintro e u ⟨rfl, rfl⟩
  rw [show Nums.sig 133 = (2, 126, 126) from rfl]
  go_wp2_with fail
  refine (pCut _ _ _ h0 h1).mono ?_
  rintro e u ⟨rfl, rfl⟩
  rw [cut64]
  go_wp2_with fail
  refine (pCut _ _ _ k0 k1).mono ?_
  rintro e u ⟨rfl, rfl⟩
  rw [cut64]
  go_wp2_with fail
  refine (pAlike _ _ (by decide) (by decide)).mono ?_
  rintro e u ⟨rfl, rfl⟩
  rw [show Nums.alike 133 = 115 from rfl]
  go_wp2_with fail
  refine (hc _).mono ?_
  rintro e u ⟨⟨v, rfl, v0, v1, hv⟩, rfl⟩
  have Hv := hide hv
  clear hv
  go_wp2_with fail
  refine (pCut _ _ _ v0 v1).mono ?_
  rintro e u ⟨rfl, rfl⟩
  rw [Hv]
  go_wp2
  go_ret2
  exact ⟨rfl, rfl⟩

set_option maxHeartbeats 1000000 in
theorem pReckon134 (a b : Int) (w : World) (h0 : 0 ≤ a) (h1 : a ≤ 18446744073709551615) (k0 : 0 ≤ b) (k1 : b ≤ 18446744073709551615) :
    Calls Tryd.prog 8 #[.int .i64 134, .int .u64 a, .int .u64 b] w fun e w' => e = .returned (.tuple #[.int .u64 (Nums.ar 10 64 (a) (b)).1, .int .i64 (Nums.ar 10 64 (a) (b)).2]) ∧ w' = w := by
  have ha : 0 ≤ a ∧ a ≤ 18446744073709551615 := by omega
  have hb : 0 ≤ b ∧ b ≤ 18446744073709551615 := by omega
  have hc : ∀ w : World, Calls Tryd.prog 18 #[.int .i64 116, .int .u64 (a), .int .u64 (b), .int .i64 126] w fun e w' => Cuts 126 (Nums.ar 10 64 (a) (b)).1 e ∧ w' = w := fun w => pmove116_64 a b w h0 h1 k0 k1
  rw [show (Nums.ar 10 64 (a) (b)).2 = 0 from rfl]
  generalize (Nums.ar 10 64 (a) (b)).1 = x at *
  go_enter Tryd.func8, Tryd.ntmps8
  go_wp2_with fail
  refine (pShape _ _).mono ?_
  rintro e u ⟨rfl, rfl⟩
  rw [show Nums.sig 134 = (2, 126, 126) from rfl]
  go_wp2_with fail
  refine (pCut _ _ _ h0 h1).mono ?_
  rintro e u ⟨rfl, rfl⟩
  rw [cut64]
  go_wp2_with fail
  refine (pCut _ _ _ k0 k1).mono ?_
  rintro e u ⟨rfl, rfl⟩
  rw [cut64]
  go_wp2_with fail
  refine (pAlike _ _ (by decide) (by decide)).mono ?_
  rintro e u ⟨rfl, rfl⟩
  rw [show Nums.alike 134 = 116 from rfl]
  go_wp2_with fail
  refine (hc _).mono ?_
  rintro e u ⟨⟨v, rfl, v0, v1, hv⟩, rfl⟩
  have Hv := hide hv
  clear hv
  go_wp2_with fail
  refine (pCut _ _ _ v0 v1).mono ?_
  rintro e u ⟨rfl, rfl⟩
  rw [Hv]
  go_wp2
  go_ret2
  exact ⟨rfl, rfl⟩

set_option maxHeartbeats 1000000 in
theorem pReckon135 (a b : Int) (w : World) (h0 : 0 ≤ a) (h1 : a ≤ 18446744073709551615) (k0 : 0 ≤ b) (k1 : b ≤ 18446744073709551615) :
    Calls Tryd.prog 8 #[.int .i64 135, .int .u64 a, .int .u64 b] w fun e w' => e = .returned (.tuple #[.int .u64 (Nums.ar 11 64 (a) (b)).1, .int .i64 (Nums.ar 11 64 (a) (b)).2]) ∧ w' = w := by
  have ha : 0 ≤ a ∧ a ≤ 18446744073709551615 := by omega
  have hb : 0 ≤ b ∧ b ≤ 18446744073709551615 := by omega
  have hc : ∀ w : World, Calls Tryd.prog 18 #[.int .i64 117, .int .u64 (a), .int .u64 (b), .int .i64 126] w fun e w' => Cuts 126 (Nums.ar 11 64 (a) (b)).1 e ∧ w' = w := fun w => pmove117_64 a b w h0 h1 k0 k1
  rw [show (Nums.ar 11 64 (a) (b)).2 = 0 from rfl]
  generalize (Nums.ar 11 64 (a) (b)).1 = x at *
  go_enter Tryd.func8, Tryd.ntmps8
  go_wp2_with fail
  refine (pShape _ _).mono ?_
  rintro e u ⟨rfl, rfl⟩
  rw [show Nums.sig 135 = (2, 126, 126) from rfl]
  go_wp2_with fail
  refine (pCut _ _ _ h0 h1).mono ?_
  rintro e u ⟨rfl, rfl⟩
  rw [cut64]
  go_wp2_with fail
  refine (pCut _ _ _ k0 k1).mono ?_
  rintro e u ⟨rfl, rfl⟩
  rw [cut64]
  go_wp2_with fail
  refine (pAlike _ _ (by decide) (by decide)).mono ?_
  rintro e u ⟨rfl, rfl⟩
  rw [show Nums.alike 135 = 117 from rfl]
  go_wp2_with fail
  refine (hc _).mono ?_
  rintro e u ⟨⟨v, rfl, v0, v1, hv⟩, rfl⟩
  have Hv := hide hv
  clear hv
  go_wp2_with fail
  refine (pCut _ _ _ v0 v1).mono ?_
  rintro e u ⟨rfl, rfl⟩
  rw [Hv]
  go_wp2
  go_ret2
  exact ⟨rfl, rfl⟩

set_option maxHeartbeats 1000000 in
theorem pReckon136 (a b : Int) (w : World) (h0 : 0 ≤ a) (h1 : a ≤ 18446744073709551615) (k0 : 0 ≤ b) (k1 : b ≤ 18446744073709551615) :
    Calls Tryd.prog 8 #[.int .i64 136, .int .u64 a, .int .u64 b] w fun e w' => e = .returned (.tuple #[.int .u64 (Nums.ar 12 64 (a) (b)).1, .int .i64 (Nums.ar 12 64 (a) (b)).2]) ∧ w' = w := by
  have ha : 0 ≤ a ∧ a ≤ 18446744073709551615 := by omega
  have hb : 0 ≤ b ∧ b ≤ 18446744073709551615 := by omega
  have hc : ∀ w : World, Calls Tryd.prog 18 #[.int .i64 118, .int .u64 (a), .int .u64 (b), .int .i64 126] w fun e w' => Cuts 126 (Nums.ar 12 64 (a) (b)).1 e ∧ w' = w := fun w => pmove118_64 a b w h0 h1 k0 k1
  rw [show (Nums.ar 12 64 (a) (b)).2 = 0 from rfl]
  generalize (Nums.ar 12 64 (a) (b)).1 = x at *
  go_enter Tryd.func8, Tryd.ntmps8
  go_wp2_with fail
  refine (pShape _ _).mono ?_
  rintro e u ⟨rfl, rfl⟩
  rw [show Nums.sig 136 = (2, 126, 126) from rfl]
  go_wp2_with fail
  refine (pCut _ _ _ h0 h1).mono ?_
  rintro e u ⟨rfl, rfl⟩
  rw [cut64]
  go_wp2_with fail
  refine (pCut _ _ _ k0 k1).mono ?_
  rintro e u ⟨rfl, rfl⟩
  rw [cut64]
  go_wp2_with fail
  refine (pAlike _ _ (by decide) (by decide)).mono ?_
  rintro e u ⟨rfl, rfl⟩
  rw [show Nums.alike 136 = 118 from rfl]
  go_wp2_with fail
  refine (hc _).mono ?_
  rintro e u ⟨⟨v, rfl, v0, v1, hv⟩, rfl⟩
  have Hv := hide hv
  clear hv
  go_wp2_with fail
  refine (pCut _ _ _ v0 v1).mono ?_
  rintro e u ⟨rfl, rfl⟩
  rw [Hv]
  go_wp2
  go_ret2
  exact ⟨rfl, rfl⟩

set_option maxHeartbeats 1000000 in
theorem pReckon137 (a b : Int) (w : World) (h0 : 0 ≤ a) (h1 : a ≤ 18446744073709551615) (k0 : 0 ≤ b) (k1 : b ≤ 18446744073709551615) :
    Calls Tryd.prog 8 #[.int .i64 137, .int .u64 a, .int .u64 b] w fun e w' => e = .returned (.tuple #[.int .u64 (Nums.ar 13 64 (a) (b)).1, .int .i64 (Nums.ar 13 64 (a) (b)).2]) ∧ w' = w := by
  have ha : 0 ≤ a ∧ a ≤ 18446744073709551615 := by omega
  have hb : 0 ≤ b ∧ b ≤ 18446744073709551615 := by omega
  have hc : ∀ w : World, Calls Tryd.prog 18 #[.int .i64 119, .int .u64 (a), .int .u64 (b), .int .i64 126] w fun e w' => Cuts 126 (Nums.ar 13 64 (a) (b)).1 e ∧ w' = w := fun w => pmove119_64 a b w h0 h1 k0 k1
  rw [show (Nums.ar 13 64 (a) (b)).2 = 0 from rfl]
  generalize (Nums.ar 13 64 (a) (b)).1 = x at *
  go_enter Tryd.func8, Tryd.ntmps8
  go_wp2_with fail
  refine (pShape _ _).mono ?_
  rintro e u ⟨rfl, rfl⟩
  rw [show Nums.sig 137 = (2, 126, 126) from rfl]
  go_wp2_with fail
  refine (pCut _ _ _ h0 h1).mono ?_
  rintro e u ⟨rfl, rfl⟩
  rw [cut64]
  go_wp2_with fail
  refine (pCut _ _ _ k0 k1).mono ?_
  rintro e u ⟨rfl, rfl⟩
  rw [cut64]
  go_wp2_with fail
  refine (pAlike _ _ (by decide) (by decide)).mono ?_
  rintro e u ⟨rfl, rfl⟩
  rw [show Nums.alike 137 = 119 from rfl]
  go_wp2_with fail
  refine (hc _).mono ?_
  rintro e u ⟨⟨v, rfl, v0, v1, hv⟩, rfl⟩
  have Hv := hide hv
  clear hv
  go_wp2_with fail
  refine (pCut _ _ _ v0 v1).mono ?_
  rintro e u ⟨rfl, rfl⟩
  rw [Hv]
  go_wp2
  go_ret2
  exact ⟨rfl, rfl⟩

set_option maxHeartbeats 1000000 in
theorem pReckon138 (a b : Int) (w : World) (h0 : 0 ≤ a) (h1 : a ≤ 18446744073709551615) (k0 : 0 ≤ b) (k1 : b ≤ 18446744073709551615) :
    Calls Tryd.prog 8 #[.int .i64 138, .int .u64 a, .int .u64 b] w fun e w' => e = .returned (.tuple #[.int .u64 (Nums.ar 14 64 (a) (b)).1, .int .i64 (Nums.ar 14 64 (a) (b)).2]) ∧ w' = w := by
  have ha : 0 ≤ a ∧ a ≤ 18446744073709551615 := by omega
  have hb : 0 ≤ b ∧ b ≤ 18446744073709551615 := by omega
  have hc : ∀ w : World, Calls Tryd.prog 18 #[.int .i64 120, .int .u64 (a), .int .u64 (b), .int .i64 126] w fun e w' => Cuts 126 (Nums.ar 14 64 (a) (b)).1 e ∧ w' = w := fun w => pmove120_64 a b w h0 h1 k0 k1
  rw [show (Nums.ar 14 64 (a) (b)).2 = 0 from rfl]
  generalize (Nums.ar 14 64 (a) (b)).1 = x at *
  go_enter Tryd.func8, Tryd.ntmps8
  go_wp2_with fail
  refine (pShape _ _).mono ?_
  rintro e u ⟨rfl, rfl⟩
  rw [show Nums.sig 138 = (2, 126, 126) from rfl]
  go_wp2_with fail
  refine (pCut _ _ _ h0 h1).mono ?_
  rintro e u ⟨rfl, rfl⟩
  rw [cut64]
  go_wp2_with fail
  refine (pCut _ _ _ k0 k1).mono ?_
  rintro e u ⟨rfl, rfl⟩
  rw [cut64]
  go_wp2_with fail
  refine (pAlike _ _ (by decide) (by decide)).mono ?_
  rintro e u ⟨rfl, rfl⟩
  rw [show Nums.alike 138 = 120 from rfl]
  go_wp2_with fail
  refine (hc _).mono ?_
  rintro e u ⟨⟨v, rfl, v0, v1, hv⟩, rfl⟩
  have Hv := hide hv
  clear hv
  go_wp2_with fail
  refine (pCut _ _ _ v0 v1).mono ?_
  rintro e u ⟨rfl, rfl⟩
  rw [Hv]
  go_wp2
  go_ret2
  exact ⟨rfl, rfl⟩

end Go.Proofs.YtilgmaabongngabDoor
