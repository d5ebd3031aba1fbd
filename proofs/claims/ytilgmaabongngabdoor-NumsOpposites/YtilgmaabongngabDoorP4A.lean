/- What the program's reckon answers, instruction by instruction; nothing is changed. -/
import Derived.Test.YtilgmaabongngabDoorP2
import Derived.Test.YtilgmaabongngabDoorBase
namespace Go.Proofs.YtilgmaabongngabDoor
open Go.RowKit
set_option linter.unusedVariables false

set_option maxHeartbeats 1000000 in
theorem pReckon106 (a b : Int) (w : World) (h0 : 0 ≤ a) (h1 : a ≤ 18446744073709551615) (k0 : 0 ≤ b) (k1 : b ≤ 18446744073709551615) :
    Calls Tryd.prog 8 #[.int .i64 106, .int .u64 a, .int .u64 b] w fun e w' => e = .returned (.tuple #[.int .u64 (Nums.ar 0 32 (a % 4294967296) (b % 4294967296)).1, .int .i64 (Nums.ar 0 32 (a % 4294967296) (b % 4294967296)).2]) ∧ w' = w := by
  have ha : 0 ≤ a % 4294967296 ∧ a % 4294967296 ≤ 18446744073709551615 := by omega
  have hb : 0 ≤ b % 4294967296 ∧ b % 4294967296 ≤ 18446744073709551615 := by omega
  have hc : ∀ w : World, Calls Tryd.prog 15 #[.int .i64 106, .int .u64 (a % 4294967296), .int .u64 (b % 4294967296)] w fun e w' => Cuts 127 (Nums.ar 0 32 (a % 4294967296) (b % 4294967296)).1 e ∧ w' = w := fun w => psum106_32 a b w h0 h1 k0 k1
  rw [show (Nums.ar 0 32 (a % 4294967296) (b % 4294967296)).2 = 0 from rfl]
  generalize (Nums.ar 0 32 (a % 4294967296) (b % 4294967296)).1 = x at *
  go_enter Tryd.func8, Tryd.ntmps8
  go_wp2_with fail
  refine (pShape _ _).mono ?_
  rintro e u ⟨rfl, rfl⟩
  rw [show Nums.sig 106 = (2, 127, 127) from rfl]
  go_wp2_with fail
  refine (pCut _ _ _ h0 h1).mono ?_
  rintro e u ⟨rfl, rfl⟩
  rw [cut32]
  go_wp2_with fail
  refine (pCut _ _ _ k0 k1).mono ?_
  rintro e u ⟨rfl, rfl⟩
  rw [cut32]
  go_wp2_with fail
  refine (pAlike _ _ (by decide) (by decide)).mono ?_
  rintro e u ⟨rfl, rfl⟩
  rw [show Nums.alike 106 = 106 from rfl]
  go_wp2_with fail
  refine (hc _).mono ?_
  rintro e u ⟨⟨v, rfl, v0, v1, hv⟩, rfl⟩
  have Hv := hide hv
  clear hv
  go_wp2_with fail
  refine (pCut _ _ _ v0 v1).mono ?_
  rintro e u ⟨rfl, rfl⟩
  rw [Hv]
  go_wp2
  go_ret2
  exact ⟨rfl, rfl⟩

set_option maxHeartbeats 1000000 in
theorem pReckon107 (a b : Int) (w : World) (h0 : 0 ≤ a) (h1 : a ≤ 18446744073709551615) (k0 : 0 ≤ b) (k1 : b ≤ 18446744073709551615) :
    Calls Tryd.prog 8 #[.int .i64 107, .int .u64 a, .int .u64 b] w fun e w' => e = .returned (.tuple #[.int .u64 (Nums.ar 1 32 (a % 4294967296) (b % 4294967296)).1, .int .i64 (Nums.ar 1 32 (a % 4294967296) (b % 4294967296)).2]) ∧ w' = w := by
  have ha : 0 ≤ a % 4294967296 ∧ a % 4294967296 ≤ 18446744073709551615 := by omega
  have hb : 0 ≤ b % 4294967296 ∧ b % 4294967296 ≤ 18446744073709551615 := by omega
  have hc : ∀ w : World, Calls Tryd.prog 15 #[.int .i64 107, .int .u64 (a % 4294967296), .int .u64 (b % 4294967296)] w fun e w' => Cuts 127 (Nums.ar 1 32 (a % 4294967296) (b % 4294967296)).1 e ∧ w' = w := fun w => psum107_32 a b w h0 h1 k0 k1
  rw [show (Nums.ar 1 32 (a % 4294967296) (b % 4294967296)).2 = 0 from rfl]
  generalize (Nums.ar 1 32 (a % 4294967296) (b % 4294967296)).1 = x at *
  go_enter Tryd.func8, Tryd.ntmps8
  go_wp2_with fail
  refine (pShape _ _).mono ?_
  rintro e u ⟨rfl, rfl⟩
  rw [show Nums.sig 107 = (2, 127, 127) from rfl]
  go_wp2_with fail
  refine (pCut _ _ _ h0 h1).mono ?_
  rintro e u ⟨rfl, rfl⟩
  rw [cut32]
  go_wp2_with fail
  refine (pCut _ _ _ k0 k1).mono ?_
  rintro e u ⟨rfl, rfl⟩
  rw [cut32]
  go_wp2_with fail
  refine (pAlike _ _ (by decide) (by decide)).mono ?_
  rintro e u ⟨rfl, rfl⟩
  rw [show Nums.alike 107 = 107 from rfl]
  go_wp2_with fail
  refine (hc _).mono ?_
  rintro e u ⟨⟨v, rfl, v0, v1, hv⟩, rfl⟩
  have Hv := hide hv
  clear hv
  go_wp2_with fail
  refine (pCut _ _ _ v0 v1).mono ?_
  rintro e u ⟨rfl, rfl⟩
  rw [Hv]
  go_wp2
  go_ret2
  exact ⟨rfl, rfl⟩

set_option maxHeartbeats 1000000 in
theorem pReckon108 (a b : Int) (w : World) (h0 : 0 ≤ a) (h1 : a ≤ 18446744073709551615) (k0 : 0 ≤ b) (k1 : b ≤ 18446744073709551615) :
    Calls Tryd.prog 8 #[.int .i64 108, .int .u64 a, .int .u64 b] w fun e w' => e = .returned (.tuple #[.int .u64 (Nums.ar 2 32 (a % 4294967296) (b % 4294967296)).1, .int .i64 (Nums.ar 2 32 (a % 4294967296) (b % 4294967296)).2]) ∧ w' = w := by
  have ha : 0 ≤ a % 4294967296 ∧ a % 4294967296 ≤ 18446744073709551615 := by omega
  have hb : 0 ≤ b % 4294967296 ∧ b % 4294967296 ≤ 18446744073709551615 := by omega
  have hc : ∀ w : World, Calls Tryd.prog 15 #[.int .i64 108, .int .u64 (a % 4294967296), .int .u64 (b % 4294967296)] w fun e w' => Cuts 127 (Nums.ar 2 32 (a % 4294967296) (b % 4294967296)).1 e ∧ w' = w := fun w => psum108_32 a b w h0 h1 k0 k1
  rw [show (Nums.ar 2 32 (a % 4294967296) (b % 4294967296)).2 = 0 from rfl]
  generalize (Nums.ar 2 32 (a % 4294967296) (b % 4294967296)).1 = x at *
  go_enter Tryd.func8, Tryd.ntmps8
  go_wp2_with fail
  refine (pShape _ _).mono ?_
  rintro e u ⟨rfl, rfl⟩
  rw [show Nums.sig 108 = (2, 127, 127) from rfl]
  go_wp2_with fail
  refine (pCut _ _ _ h0 h1).mono ?_
  rintro e u ⟨rfl, rfl⟩
  rw [cut32]
  go_wp2_with fail
  refine (pCut _ _ _ k0 k1).mono ?_
  rintro e u ⟨rfl, rfl⟩
  rw [cut32]
  go_wp2_with fail
  refine (pAlike _ _ (by decide) (by decide)).mono ?_
  rintro e u ⟨rfl, rfl⟩
  rw [show Nums.alike 108 = 108 from rfl]
  go_wp2_with fail
  refine (hc _).mono ?_
  rintro e u ⟨⟨v, rfl, v0, v1, hv⟩, rfl⟩
  have Hv := hide hv
  clear hv
  go_wp2_with fail
  refine (pCut _ _ _ v0 v1).mono ?_
  rintro e u ⟨rfl, rfl⟩
  rw [Hv]
  go_wp2
  go_ret2
  exact ⟨rfl, rfl⟩

set_option maxHeartbeats 1000000 in
theorem pReckon109 (a b : Int) (w : World) (h0 : 0 ≤ a) (h1 : a ≤ 18446744073709551615) (k0 : 0 ≤ b) (k1 : b ≤ 18446744073709551615) :
    Calls Tryd.prog 8 #[.int .i64 109, .int .u64 a, .int .u64 b] w fun e w' => e = .returned (.tuple #[.int .u64 (Nums.ar 3 32 (a % 4294967296) (b % 4294967296)).1, .int .i64 (Nums.ar 3 32 (a % 4294967296) (b % 4294967296)).2]) ∧ w' = w := by
  have ha : 0 ≤ a % 4294967296 ∧ a % 4294967296 ≤ 18446744073709551615 := by omega
  have hb : 0 ≤ b % 4294967296 ∧ b % 4294967296 ≤ 18446744073709551615 := by omega
  have hc : ∀ w : World, Calls Tryd.prog 16 #[.int .i64 109, .int .u64 (a % 4294967296), .int .u64 (b % 4294967296), .int .i64 127] w fun e w' => Cuts2 127 (Nums.ar 3 32 (a % 4294967296) (b % 4294967296)) e ∧ w' = w := fun w => pdivide109_32 _ _ w (by omega) (by omega) (by omega) (by omega)
  generalize Nums.ar 3 32 (a % 4294967296) (b % 4294967296) = x at *
  go_enter Tryd.func8, Tryd.ntmps8
  go_wp2_with fail
  refine (pShape _ _).mono ?_
  rintro e u ⟨rfl, rfl⟩
  rw [show Nums.sig 109 = (2, 127, 127) from rfl]
  go_wp2_with fail
  refine (pCut _ _ _ h0 h1).mono ?_
  rintro e u ⟨rfl, rfl⟩
  rw [cut32]
  go_wp2_with fail
  refine (pCut _ _ _ k0 k1).mono ?_
  rintro e u ⟨rfl, rfl⟩
  rw [cut32]
  go_wp2_with fail
  refine (pAlike _ _ (by decide) (by decide)).mono ?_
  rintro e u ⟨rfl, rfl⟩
  rw [show Nums.alike 109 = 109 from rfl]
  go_wp2_with fail
  refine (hc _).mono ?_
  rintro e u ⟨⟨v, rfl, v0, v1, hv⟩, rfl⟩
  have Hv := hide hv
  clear hv
  go_wp2_with fail
  refine (pCut _ _ _ v0 v1).mono ?_
  rintro e u ⟨rfl, rfl⟩
  rw [Hv]
  go_wp2
  go_ret2
  exact ⟨rfl, rfl⟩

set_option maxHeartbeats 1000000 in
theorem pReckon110 (a b : Int) (w : World) (h0 : 0 ≤ a) (h1 : a ≤ 18446744073709551615) (k0 : 0 ≤ b) (k1 : b ≤ 18446744073709551615) :
    Calls Tryd.prog 8 #[.int .i64 110, .int .u64 a, .int .u64 b] w fun e w' => e = .returned (.tuple #[.int .u64 (Nums.ar 4 32 (a % 4294967296) (b % 4294967296)).1, .int .i64 (Nums.ar 4 32 (a % 4294967296) (b % 4294967296)).2]) ∧ w' = w := by
  have ha : 0 ≤ a % 4294967296 ∧ a % 4294967296 ≤ 18446744073709551615 := by omega
  have hb : 0 ≤ b % 4294967296 ∧ b % 4294967296 ≤ 18446744073709551615 := by omega
  have hc : ∀ w : World, Calls Tryd.prog 16 #[.int .i64 110, .int .u64 (a % 4294967296), .int .u64 (b % 4294967296), .int .i64 127] w fun e w' => Cuts2 127 (Nums.ar 4 32 (a % 4294967296) (b % 4294967296)) e ∧ w' = w := fun w => pdivide110_32 _ _ w (by omega) (by omega) (by omega) (by omega)
  generalize Nums.ar 4 32 (a % 4294967296) (b % 4294967296) = x at *
  go_enter Tryd.func8, Tryd.ntmps8
  go_wp2_with fail
  refine (pShape _ _).mono ?_
  rintro e u ⟨rfl, rfl⟩
  rw [show Nums.sig 110 = (2, 127, 127) from rfl]
  go_wp2_with fail
  refine (pCut _ _ _ h0 h1).mono ?_
  rintro e u ⟨rfl, rfl⟩
  rw [cut32]
  go_wp2_with fail
  refine (pCut _ _ _ k0 k1).mono ?_
  rintro e u ⟨rfl, rfl⟩
  rw [cut32]
  go_wp2_with fail
  refine (pAlike _ _ (by decide) (by decide)).mono ?_
  rintro e u ⟨rfl, rfl⟩
  rw [show Nums.alike 110 = 110 from rfl]
  go_wp2_with fail
  refine (hc _).mono ?_
  rintro e u ⟨⟨v, rfl, v0, v1, hv⟩, rfl⟩
  have Hv := hide hv
  clear hv
  go_wp2_with fail
  refine (pCut _ _ _ v0 v1).mono ?_
  rintro e u ⟨rfl, rfl⟩
  rw [Hv]
  go_wp2
  go_ret2
  exact ⟨rfl, rfl⟩

set_option maxHeartbeats 1000000 in
theorem pReckon111 (a b : Int) (w : World) (h0 : 0 ≤ a) (h1 : a ≤ 18446744073709551615) (k0 : 0 ≤ b) (k1 : b ≤ 18446744073709551615) :
    Calls Tryd.prog 8 #[.int .i64 111, .int .u64 a, .int .u64 b] w fun e w' => e = .returned (.tuple #[.int .u64 (Nums.ar 5 32 (a % 4294967296) (b % 4294967296)).1, .int .i64 (Nums.ar 5 32 (a % 4294967296) (b % 4294967296)).2]) ∧ w' = w := by
  have ha : 0 ≤ a % 4294967296 ∧ a % 4294967296 ≤ 18446744073709551615 := by omega
  have hb : 0 ≤ b % 4294967296 ∧ b % 4294967296 ≤ 18446744073709551615 := by omega
  have hc : ∀ w : World, Calls Tryd.prog 16 #[.int .i64 111, .int .u64 (a % 4294967296), .int .u64 (b % 4294967296), .int .i64 127] w fun e w' => Cuts2 127 (Nums.ar 5 32 (a % 4294967296) (b % 4294967296)) e ∧ w' = w := fun w => pdivide111_32 _ _ w (by omega) (by omega) (by omega) (by omega)
  generalize Nums.ar 5 32 (a % 4294967296) (b % 4294967296) = x at *
  go_enter Tryd.func8, Tryd.ntmps8
  go_wp2_with fail
  refine (pShape _ _).mono ?_
  rintro e u ⟨rfl, rfl⟩
  rw [show Nums.sig 111 = (2, 127, 127) from rfl]
  go_wp2_with fail
  refine (pCut _ _ _ h0 h1).mono ?_
  rintro e u ⟨rfl, rfl⟩
  rw [cut32]
  go_wp2_with fail
  refine (pCut _ _ _ k0 k1).mono ?_
  rintro e u ⟨rfl, rfl⟩
  rw [cut32]
  go_wp2_with fail
  refine (pAlike _ _ (by decide) (by decide)).mono ?_
  rintro e u ⟨rfl, rfl⟩
  rw [show Nums.alike 111 = 111 from rfl]
  go_wp2_with fail
  refine (hc _).mono ?_
  rintro e u ⟨⟨v, rfl, v0, v1, hv⟩, rfl⟩
  have Hv := hide hv
  clear hv
  go_wp2_with fail
  refine (pCut _ _ _ v0 v1).mono ?_
  rintro e u ⟨rfl, rfl⟩
  rw [Hv]
  go_wp2
  go_ret2
  exact ⟨rfl, rfl⟩

set_option maxHeartbeats 1000000 in
theorem pReckon112 (a b : Int) (w : World) (h0 : 0 ≤ a) (h1 : a ≤ 18446744073709551615) (k0 : 0 ≤ b) (k1 : b ≤ 18446744073709551615) :
    Calls Tryd.prog 8 #[.int .i64 112, .int .u64 a, .int .u64 b] w fun e w' => e = .returned (.tuple #[.int .u64 (Nums.ar 6 32 (a % 4294967296) (b % 4294967296)).1, .int .i64 (Nums.ar 6 32 (a % 4294967296) (b % 4294967296)).2]) ∧ w' = w := by
  have ha : 0 ≤ a % 4294967296 ∧ a % 4294967296 ≤ 18446744073709551615 := by omega
  have hb : 0 ≤ b % 4294967296 ∧ b % 4294967296 ≤ 18446744073709551615 := by omega
  have hc : ∀ w : World, Calls Tryd.prog 16 #[.int .i64 112, .int .u64 (a % 4294967296), .int .u64 (b % 4294967296), .int .i64 127] w fun e w' => Cuts2 127 (Nums.ar 6 32 (a % 4294967296) (b % 4294967296)) e ∧ w' = w := fun w => pdivide112_32 _ _ w (by omega) (by omega) (by omega) (by omega)
  generalize Nums.ar 6 32 (a % 4294967296) (b % 4294967296) = x at *
  go_enter Tryd.func8, Tryd.ntmps8
  go_wp2_with fail
  refine (pShape _ _).mono ?_
  rintro e u ⟨rfl, rfl⟩
  rw [show Nums.sig 112 = (2, 127, 127) from rfl]
  go_wp2_with fail
  refine (pCut _ _ _ h0 h1).mono ?_
  rintro e u ⟨rfl, rfl⟩
  rw [cut32]
  go_wp2_with fail
  refine (pCut _ _ _ k0 k1).mono ?_
  rintro e u ⟨rfl, rfl⟩
  rw [cut32]
  go_wp2_with fail
  refine (pAlike _ _ (by decide) (by decide)).mono ?_
  rintro e u ⟨rfl, rfl⟩
  rw [show Nums.alike 112 = 112 from rfl]
  go_wp2_with fail
  refine (hc _).mono ?_
  rintro e u ⟨⟨v, rfl, v0, v1, hv⟩, rfl⟩
  have Hv := hide hv
  clear hv
  go_wp2_with fail
  refine (pCut _ _ _ v0 v1).mono ?_
  rintro e u ⟨rfl, rfl⟩
  rw [Hv]
  go_wp2
  go_ret2
  exact ⟨rfl, rfl⟩

set_option maxHeartbeats 1000000 in
theorem pReckon113 (a b : Int) (w : World) (h0 : 0 ≤ a) (h1 : a ≤ 18446744073709551615) (k0 : 0 ≤ b) (k1 : b ≤ 18446744073709551615) :
    Calls Tryd.prog 8 #[.int .i64 113, .int .u64 a, .int .u64 b] w fun e w' => e = .returned (.tuple #[.int .u64 (Nums.ar 7 32 (a % 4294967296) (b % 4294967296)).1, .int .i64 (Nums.ar 7 32 (a % 4294967296) (b % 4294967296)).2]) ∧ w' = w := by
  have ha : 0 ≤ a % 4294967296 ∧ a % 4294967296 ≤ 18446744073709551615 := by omega
  have hb : 0 ≤ b % 4294967296 ∧ b % 4294967296 ≤ 18446744073709551615 := by omega
  have hc : ∀ w : World, Calls Tryd.prog 17 #[.int .i64 113, .int .u64 (a % 4294967296), .int .u64 (b % 4294967296)] w fun e w' => Cuts 127 (Nums.ar 7 32 (a % 4294967296) (b % 4294967296)).1 e ∧ w' = w := fun w => pcombine113_32 a b w h0 h1 k0 k1
  rw [show (Nums.ar 7 32 (a % 4294967296) (b % 4294967296)).2 = 0 from rfl]
  generalize (Nums.ar 7 32 (a % 4294967296) (b % 4294967296)).1 = x at *
  go_enter Tryd.func8, Tryd.ntmps8
  go_wp2_with fail
  refine (pShape _ _).mono ?_
  rintro e u ⟨rfl, rfl⟩
  rw [show Nums.sig 113 = (2, 127, 127) from rfl]
  go_wp2_with fail
  refine (pCut _ _ _ h0 h1).mono ?_
  rintro e u ⟨rfl, rfl⟩
  rw [cut32]
  go_wp2_with fail
  refine (pCut _ _ _ k0 k1).mono ?_
  rintro e u ⟨rfl, rfl⟩
  rw [cut32]
  go_wp2_with fail
  refine (pAlike _ _ (by decide) (by decide)).mono ?_
  rintro e u ⟨rfl, rfl⟩
  rw [show Nums.alike 113 = 113 from rfl]
  go_wp2_with fail
  refine (hc _).mono ?_
  rintro e u ⟨⟨v, rfl, v0, v1, hv⟩, rfl⟩
  have Hv := hide hv
  clear hv
  go_wp2_with fail
  refine (pCut _ _ _ v0 v1).mono ?_
  rintro e u ⟨rfl, rfl⟩
  rw [Hv]
  go_wp2
  go_ret2
  exact ⟨rfl, rfl⟩

set_option maxHeartbeats 1000000 in
theorem pReckon114 (a b : Int) (w : World) (h0 : 0 ≤ a) (h1 : a ≤ 18446744073709551615) (k0 : 0 ≤ b) (k1 : b ≤ 18446744073709551615) :
    Calls Tryd.prog 8 #[.int .i64 114, .int .u64 a, .int .u64 b] w fun e w' => e = .returned (.tuple #[.int .u64 (Nums.ar 8 32 (a % 4294967296) (b % 4294967296)).1, .int .i64 (Nums.ar 8 32 (a % 4294967296) (b % 4294967296)).2]) ∧ w' = w := by
  have ha : 0 ≤ a % 4294967296 ∧ a % 4294967296 ≤ 18446744073709551615 := by omega
  have hb : 0 ≤ b % 4294967296 ∧ b % 4294967296 ≤ 18446744073709551615 := by omega
  have hc : ∀ w : World, Calls Tryd.prog 17 #[.int .i64 114, .int .u64 (a % 4294967296), .int .u64 (b % 4294967296)] w fun e w' => Cuts 127 (Nums.ar 8 32 (a % 4294967296) (b % 4294967296)).1 e ∧ w' = w := fun w => pcombine114_32 a b w h0 h1 k0 k1
  rw [show (Nums.ar 8 32 (a % 4294967296) (b % 4294967296)).2 = 0 from rfl]
  generalize (Nums.ar 8 32 (a % 4294967296) (b % 4294967296)).1 = x at *
  go_enter Tryd.func8, Tryd.ntmps8
  go_wp2_with fail
  refine (pShape _ _).mono ?_
  rintro e u ⟨rfl, rfl⟩
  rw [show Nums.sig 114 = (2, 127, 127) from rfl]
  go_wp2_with fail
  refine (pCut _ _ _ h0 h1).mono ?_
  rintro e u ⟨rfl, rfl⟩
  rw [cut32]
  go_wp2_with fail
  refine (pCut _ _ _ k0 k1).mono ?_
  rintro e u ⟨rfl, rfl⟩
  rw [cut32]
  go_wp2_with fail
  refine (pAlike _ _ (by decide) (by decide)).mono ?_
  rintro e u ⟨rfl, rfl⟩
  rw [show Nums.alike 114 = 114 from rfl]
  go_wp2_with fail
  refine (hc _).mono ?_
  rintro e u ⟨⟨v, rfl, v0, v1, hv⟩, rfl⟩
  have Hv := hide hv
  clear hv
  go_wp2_with fail
  refine (pCut _ _ _ v0 v1).mono ?_
  rintro e u ⟨rfl, rfl⟩
  rw [Hv]
  go_wp2
  go_ret2
  exact ⟨rfl, rfl⟩

set_option maxHeartbeats 1000000 in
theorem pReckon115 (a b : Int) (w : World) (h0 : 0 ≤ a) (h1 : a ≤ 18446744073709551615) (k0 : 0 ≤ b) (k1 : b ≤ 18446744073709551615) :
    Calls Tryd.prog 8 #[.int .i64 115, .int .u64 a, .int .u64 b] w fun e w' => e = .returned (.tuple #[.int .u64 (Nums.ar 9 32 (a % 4294967296) (b % 4294967296)).1, .int .i64 (Nums.ar 9 32 (a % 4294967296) (b % 4294967296)).2]) ∧ w' = w := by
  have ha : 0 ≤ a % 4294967296 ∧ a % 4294967296 ≤ 18446744073709551615 := by omega
  have hb : 0 ≤ b % 4294967296 ∧ b % 4294967296 ≤ 18446744073709551615 := by omega
  have hc : ∀ w : World, Calls Tryd.prog 17 #[.int .i64 115, .int .u64 (a % 4294967296), .int .u64 (b % 4294967296)] w fun e w' => Cuts 127 (Nums.ar 9 32 (a % 4294967296) (b % 4294967296)).1 e ∧ w' = w := fun w => pcombine115_32 a b w h0 h1 k0 k1
  rw [show (Nums.ar 9 32 (a % 4294967296) (b % 4294967296)).2 = 0 from rfl]
  generalize (Nums.ar 9 32 (a % 4294967296) (b % 4294967296)).1 = x at *
  go_enter Tryd.func8, Tryd.ntmps8
  go_wp2_with fail
  refine (pShape _ _).mono ?_
  rintro e u ⟨rfl, rfl⟩
  rw [show Nums.sig 115 = (2, 127, 127) from rfl]
  go_wp2_with fail
  refine (pCut _ _ _ h0 h1).mono ?_
  rintro e u ⟨rfl, rfl⟩
  rw [cut32]
  go_wp2_with fail
  refine (pCut _ _ _ k0 k1).mono ?_
  rintro e u ⟨rfl, rfl⟩
  rw [cut32]
  go_wp2_with fail
  refine (pAlike _ _ (by decide) (by decide)).mono ?_
  rintro e u ⟨rfl, rfl⟩
  rw [show Nums.alike 115 = 115 from rfl]
  go_wp2_with fail
  refine (hc _).mono ?_
  rintro e u ⟨⟨v, rfl, v0, v1, hv⟩, rfl⟩
  have Hv := hide hv
  clear hv
  go_wp2_with fail
  refine (pCut _ _ _ v0 v1).mono ?_
  rintro e u ⟨rfl, rfl⟩
  rw [Hv]
  go_wp2
  go_ret2
  exact ⟨rfl, rfl⟩

set_option maxHeartbeats 1000000 in
theorem pReckon116 (a b : Int) (w : World) (h0 : 0 ≤ a) (h1 : a ≤ 18446744073709551615) (k0 : 0 ≤ b) (k1 : b ≤ 18446744073709551615) :
    Calls Tryd.prog 8 #[.int .i64 116, .int .u64 a, .int .u64 b] w fun e w' => e = .returned (.tuple #[.int .u64 (Nums.ar 10 32 (a % 4294967296) (b % 4294967296)).1, .int .i64 (Nums.ar 10 32 (a % 4294967296) (b % 4294967296)).2]) ∧ w' = w := by
  have ha : 0 ≤ a % 4294967296 ∧ a % 4294967296 ≤ 18446744073709551615 := by omega
  have hb : 0 ≤ b % 4294967296 ∧ b % 4294967296 ≤ 18446744073709551615 := by omega
  have hc : ∀ w : World, Calls Tryd.prog 18 #[.int .i64 116, .int .u64 (a % 4294967296), .int .u64 (b % 4294967296), .int .i64 127] w fun e w' => Cuts 127 (Nums.ar 10 32 (a % 4294967296) (b % 4294967296)).1 e ∧ w' = w := fun w => pmove116_32 a b w h0 h1 k0 k1
  rw [show (Nums.ar 10 32 (a % 4294967296) (b % 4294967296)).2 = 0 from rfl]
  generalize (Nums.ar 10 32 (a % 4294967296) (b % 4294967296)).1 = x at *
  go_enter Tryd.func8, Tryd.ntmps8
  go_wp2_with fail
  refine (pShape _ _).mono ?_
  rintro e u ⟨rfl, rfl⟩
  rw [show Nums.sig 116 = (2, 127, 127) from rfl]
  go_wp2_with fail
  refine (pCut _ _ _ h0 h1).mono ?_
  rintro e u ⟨rfl, rfl⟩
  rw [cut32]
  go_wp2_with fail
  refine (pCut _ _ _ k0 k1).mono ?_
  rintro e u ⟨rfl, rfl⟩
  rw [cut32]
  go_wp2_with fail
  refine (pAlike _ _ (by decide) (by decide)).mono ?_
  rintro e u ⟨rfl, rfl⟩
  rw [show Nums.alike 116 = 116 from rfl]
  go_wp2_with fail
  refine (hc _).mono ?_
  rintro e u ⟨⟨v, rfl, v0, v1, hv⟩, rfl⟩
  have Hv := hide hv
  clear hv
  go_wp2_with fail
  refine (pCut _ _ _ v0 v1).mono ?_
  rintro e u ⟨rfl, rfl⟩
  rw [Hv]
  go_wp2
  go_ret2
  exact ⟨rfl, rfl⟩

set_option maxHeartbeats 1000000 in
theorem pReckon117 (a b : Int) (w : World) (h0 : 0 ≤ a) (h1 : a ≤ 18446744073709551615) (k0 : 0 ≤ b) (k1 : b ≤ 18446744073709551615) :
    Calls Tryd.prog 8 #[.int .i64 117, .int .u64 a, .int .u64 b] w fun e w' => e = .returned (.tuple #[.int .u64 (Nums.ar 11 32 (a % 4294967296) (b % 4294967296)).1, .int .i64 (Nums.ar 11 32 (a % 4294967296) (b % 4294967296)).2]) ∧ w' = w := by
  have ha : 0 ≤ a % 4294967296 ∧ a % 4294967296 ≤ 18446744073709551615 := by omega
  have hb : 0 ≤ b % 4294967296 ∧ b % 4294967296 ≤ 18446744073709551615 := by omega
  have hc : ∀ w : World, Calls Tryd.prog 18 #[.int .i64 117, .int .u64 (a % 4294967296), .int .u64 (b % 4294967296), .int .i64 127] w fun e w' => Cuts 127 (Nums.ar 11 32 (a % 4294967296) (b % 4294967296)).1 e ∧ w' = w := fun w => pmove117_32 a b w h0 h1 k0 k1
  rw [show (Nums.ar 11 32 (a % 4294967296) (b % 4294967296)).2 = 0 from rfl]
  generalize (Nums.ar 11 32 (a % 4294967296) (b % 4294967296)).1 = x at *
  go_enter Tryd.func8, Tryd.ntmps8
  go_wp2_with fail
  refine (pShape _ _).mono ?_
  rintro e u ⟨rfl, rfl⟩
  rw [show Nums.sig 117 = (2, 127, 127) from rfl]
  go_wp2_with fail
  refine (pCut _ _ _ h0 h1).mono ?_
  rintro e u ⟨rfl, rfl⟩
  rw [cut32]
  go_wp2_with fail
  refine (pCut _ _ _ k0 k1).mono ?_
  rintro e u ⟨rfl, rfl⟩
  rw [cut32]
  go_wp2_with fail
  refine (pAlike _ _ (by decide) (by decide)).mono ?_
  rintro e u ⟨rfl, rfl⟩
  rw [show Nums.alike 117 = 117 from rfl]
  go_wp2_with fail
  refine (hc _).mono ?_
  rintro e u ⟨⟨v, rfl, v0, v1, hv⟩, rfl⟩
  have Hv := hide hv
  clear hv
  go_wp2_with fail
  refine (pCut _ _ _ v0 v1).mono ?_
  rintro e u ⟨rfl, rfl⟩
  rw [Hv]
  go_wp2
  go_ret2
  exact ⟨rfl, rfl⟩

set_option maxHeartbeats 1000000 in
theorem pReckon118 (a b : Int) (w : World) (h0 : 0 ≤ a) (h1 : a ≤ 18446744073709551615) (k0 : 0 ≤ b) (k1 : b ≤ 18446744073709551615) :
    Calls Tryd.prog 8 #[.int .i64 118, .int .u64 a, .int .u64 b] w fun e w' => e = .returned (.tuple #[.int .u64 (Nums.ar 12 32 (a % 4294967296) (b % 4294967296)).1, .int .i64 (Nums.ar 12 32 (a % 4294967296) (b % 4294967296)).2]) ∧ w' = w := by
  have ha : 0 ≤ a % 4294967296 ∧ a % 4294967296 ≤ 18446744073709551615 := by omega
  have hb : 0 ≤ b % 4294967296 ∧ b % 4294967296 ≤ 18446744073709551615 := by omega
  have hc : ∀ w : World, Calls Tryd.prog 18 #[.int .i64 118, .int .u64 (a % 4294967296), .int .u64 (b % 4294967296), .int .i64 127] w fun e w' => Cuts 127 (Nums.ar 12 32 (a % 4294967296) (b % 4294967296)).1 e ∧ w' = w := fun w => pmove118_32 a b w h0 h1 k0 k1
  rw [show (Nums.ar 12 32 (a % 4294967296) (b % 4294967296)).2 = 0 from rfl]
  generalize (Nums.ar 12 32 (a % 4294967296) (b % 4294967296)).1 = x at *
  go_enter Tryd.func8, Tryd.ntmps8
  go_wp2_with fail
  refine (pShape _ _).mono ?_
  rintro e u ⟨rfl, rfl⟩
  rw [show Nums.sig 118 = (2, 127, 127) from rfl]
  go_wp2_with fail
  refine (pCut _ _ _ h0 h1).mono ?_
  rintro e u ⟨rfl, rfl⟩
  rw [cut32]
  go_wp2_with fail
  refine (pCut _ _ _ k0 k1).mono ?_
  rintro e u ⟨rfl, rfl⟩
  rw [cut32]
  go_wp2_with fail
  refine (pAlike _ _ (by decide) (by decide)).mono ?_
  rintro e u ⟨rfl, rfl⟩
  rw [show Nums.alike 118 = 118 from rfl]
  go_wp2_with fail
  refine (hc _).mono ?_
  rintro e u ⟨⟨v, rfl, v0, v1, hv⟩, rfl⟩
  have Hv := hide hv
  clear hv
  go_wp2_with fail
  refine (pCut _ _ _ v0 v1).mono ?_
  rintro e u ⟨rfl, rfl⟩
  rw [Hv]
  go_wp2
  go_ret2
  exact ⟨rfl, rfl⟩

set_option maxHeartbeats 1000000 in
theorem pReckon119 (a b : Int) (w : World) (h0 : 0 ≤ a) (h1 : a ≤ 18446744073709551615) (k0 : 0 ≤ b) (k1 : b ≤ 18446744073709551615) :
    Calls Tryd.prog 8 #[.int .i64 119, .int .u64 a, .int .u64 b] w fun e w' => e = .returned (.tuple #[.int .u64 (Nums.ar 13 32 (a % 4294967296) (b % 4294967296)).1, .int .i64 (Nums.ar 13 32 (a % 4294967296) (b % 4294967296)).2]) ∧ w' = w := by
  have ha : 0 ≤ a % 4294967296 ∧ a % 4294967296 ≤ 18446744073709551615 := by omega
  have hb : 0 ≤ b % 4294967296 ∧ b % 4294967296 ≤ 18446744073709551615 := by omega
  have hc : ∀ w : World, Calls Tryd.prog 18 #[.int .i64 119, .int .u64 (a % 4294967296), .int .u64 (b % 4294967296), .int .i64 127] w fun e w' => Cuts 127 (Nums.ar 13 32 (a % 4294967296) (b % 4294967296)).1 e ∧ w' = w := fun w => pmove119_32 a b w h0 h1 k0 k1
  rw [show (Nums.ar 13 32 (a % 4294967296) (b % 4294967296)).2 = 0 from rfl]
  generalize (Nums.ar 13 32 (a % 4294967296) (b % 4294967296)).1 = x at *
  go_enter Tryd.func8, Tryd.ntmps8
  go_wp2_with fail
  refine (pShape _ _).mono ?_
  rintro e u ⟨rfl, rfl⟩
  rw [show Nums.sig 119 = (2, 127, 127) from rfl]
  go_wp2_with fail
  refine (pCut _ _ _ h0 h1).mono ?_
  rintro e u ⟨rfl, rfl⟩
  rw [cut32]
  go_wp2_with fail
  refine (pCut _ _ _ k0 k1).mono ?_
  rintro e u ⟨rfl, rfl⟩
  rw [cut32]
  go_wp2_with fail
  refine (pAlike _ _ (by decide) (by decide)).mono ?_
  rintro e u ⟨rfl, rfl⟩
  rw [show Nums.alike 119 = 119 from rfl]
  go_wp2_with fail
  refine (hc _).mono ?_
  rintro e u ⟨⟨v, rfl, v0, v1, hv⟩, rfl⟩
  have Hv := hide hv
  clear hv
  go_wp2_with fail
  refine (pCut _ _ _ v0 v1).mono ?_
  rintro e u ⟨rfl, rfl⟩
  rw [Hv]
  go_wp2
  go_ret2
  exact ⟨rfl, rfl⟩

set_option maxHeartbeats 1000000 in
theorem pReckon120 (a b : Int) (w : World) (h0 : 0 ≤ a) (h1 : a ≤ 18446744073709551615) (k0 : 0 ≤ b) (k1 : b ≤ 18446744073709551615) :
    Calls Tryd.prog 8 #[.int .i64 120, .int .u64 a, .int .u64 b] w fun e w' => e = .returned (.tuple #[.int .u64 (Nums.ar 14 32 (a % 4294967296) (b % 4294967296)).1, .int .i64 (Nums.ar 14 32 (a % 4294967296) (b % 4294967296)).2]) ∧ w' = w := by
  have ha : 0 ≤ a % 4294967296 ∧ a % 4294967296 ≤ 18446744073709551615 := by omega
  have hb : 0 ≤ b % 4294967296 ∧ b % 4294967296 ≤ 18446744073709551615 := by omega
  have hc : ∀ w : World, Calls Tryd.prog 18 #[.int .i64 120, .int .u64 (a % 4294967296), .int .u64 (b % 4294967296), .int .i64 127] w fun e w' => Cuts 127 (Nums.ar 14 32 (a % 4294967296) (b % 4294967296)).1 e ∧ w' = w := fun w => pmove120_32 a b w h0 h1 k0 k1
  rw [show (Nums.ar 14 32 (a % 4294967296) (b % 4294967296)).2 = 0 from rfl]
  generalize (Nums.ar 14 32 (a % 4294967296) (b % 4294967296)).1 = x at *
  go_enter Tryd.func8, Tryd.ntmps8
  go_wp2_with fail
  refine (pShape _ _).mono ?_
  rintro e u ⟨rfl, rfl⟩
  rw [show Nums.sig 120 = (2, 127, 127) from rfl]
  go_wp2_with fail
  refine (pCut _ _ _ h0 h1).mono ?_
  rintro e u ⟨rfl, rfl⟩
  rw [cut32]
  go_wp2_with fail
  refine (pCut _ _ _ k0 k1).mono ?_
  rintro e u ⟨rfl, rfl⟩
  rw [cut32]
  go_wp2_with fail
  refine (pAlike _ _ (by decide) (by decide)).mono ?_
  rintro e u ⟨rfl, rfl⟩
  rw [show Nums.alike 120 = 120 from rfl]
  go_wp2_with fail
  refine (hc _).mono ?_
  rintro e u ⟨⟨v, rfl, v0, v1, hv⟩, rfl⟩
  have Hv := hide hv
  clear hv
  go_wp2_with fail
  refine (pCut _ _ _ v0 v1).mono ?_
  rintro e u ⟨rfl, rfl⟩
  rw [Hv]
  go_wp2
  go_ret2
  exact ⟨rfl, rfl⟩

end Go.Proofs.YtilgmaabongngabDoor
