/- What the document's own function of two values answers, the reckoning ones of 64 bits: the plain function; nothing is changed. -/
import Derived.Test.YtilgmaabongngaaDoorRefA
namespace Go.Proofs.YtilgmaabongngaaDoor
open Go.RowKit
set_option linter.unusedVariables false

set_option maxHeartbeats 1000000 in
theorem refAr124 (a b : Int) (w : World) (h0 : 0 ≤ a) (h1 : a ≤ 18446744073709551615) (k0 : 0 ≤ b) (k1 : b ≤ 18446744073709551615) :
    Calls Tryd.prog 12 #[.int .i64 124, .int .u64 a, .int .u64 b] w fun e w' => e = .returned (.tuple #[.int .u64 (Nums.ar 0 64 (a) (b)).1, .int .i64 (Nums.ar 0 64 (a) (b)).2, .bool true]) ∧ w' = w := by
  have ha : 0 ≤ a ∧ a ≤ 18446744073709551615 := by omega
  have hb : 0 ≤ b ∧ b ≤ 18446744073709551615 := by omega
  go_enter Tryd.func12, Tryd.ntmps12
  go_wp2_with fail
  refine (refSig _ _).mono ?_
  rintro e u ⟨rfl, rfl⟩
  rw [show Nums.sig 124 = (2, 126, 126) from rfl]
  go_wp2_with fail
  refine (refSigned _ _ _ ha.1 ha.2).mono ?_
  rintro e u ⟨rfl, rfl⟩
  go_wp2_with fail
  refine (refSigned _ _ _ hb.1 hb.2).mono ?_
  rintro e u ⟨rfl, rfl⟩
  go_wp2
  go_ret3
  exact ⟨uib_ret (by rw [Nums.ar0_64 a b]; rfl), rfl⟩

set_option maxHeartbeats 1000000 in
theorem refAr125 (a b : Int) (w : World) (h0 : 0 ≤ a) (h1 : a ≤ 18446744073709551615) (k0 : 0 ≤ b) (k1 : b ≤ 18446744073709551615) :
    Calls Tryd.prog 12 #[.int .i64 125, .int .u64 a, .int .u64 b] w fun e w' => e = .returned (.tuple #[.int .u64 (Nums.ar 1 64 (a) (b)).1, .int .i64 (Nums.ar 1 64 (a) (b)).2, .bool true]) ∧ w' = w := by
  have ha : 0 ≤ a ∧ a ≤ 18446744073709551615 := by omega
  have hb : 0 ≤ b ∧ b ≤ 18446744073709551615 := by omega
  go_enter Tryd.func12, Tryd.ntmps12
  go_wp2_with fail
  refine (refSig _ _).mono ?_
  rintro e u ⟨rfl, rfl⟩
  rw [show Nums.sig 125 = (2, 126, 126) from rfl]
  go_wp2_with fail
  refine (refSigned _ _ _ ha.1 ha.2).mono ?_
  rintro e u ⟨rfl, rfl⟩
  go_wp2_with fail
  refine (refSigned _ _ _ hb.1 hb.2).mono ?_
  rintro e u ⟨rfl, rfl⟩
  go_wp2
  go_ret3
  exact ⟨uib_ret (by rw [Nums.ar1_64 a b]; rfl), rfl⟩

set_option maxHeartbeats 1000000 in
theorem refAr126 (a b : Int) (w : World) (h0 : 0 ≤ a) (h1 : a ≤ 18446744073709551615) (k0 : 0 ≤ b) (k1 : b ≤ 18446744073709551615) :
    Calls Tryd.prog 12 #[.int .i64 126, .int .u64 a, .int .u64 b] w fun e w' => e = .returned (.tuple #[.int .u64 (Nums.ar 2 64 (a) (b)).1, .int .i64 (Nums.ar 2 64 (a) (b)).2, .bool true]) ∧ w' = w := by
  have ha : 0 ≤ a ∧ a ≤ 18446744073709551615 := by omega
  have hb : 0 ≤ b ∧ b ≤ 18446744073709551615 := by omega
  go_enter Tryd.func12, Tryd.ntmps12
  go_wp2_with fail
  refine (refSig _ _).mono ?_
  rintro e u ⟨rfl, rfl⟩
  rw [show Nums.sig 126 = (2, 126, 126) from rfl]
  go_wp2_with fail
  refine (refSigned _ _ _ ha.1 ha.2).mono ?_
  rintro e u ⟨rfl, rfl⟩
  go_wp2_with fail
  refine (refSigned _ _ _ hb.1 hb.2).mono ?_
  rintro e u ⟨rfl, rfl⟩
  go_wp2
  go_ret3
  exact ⟨uib_ret (by rw [Nums.ar2_64 a b]; rfl), rfl⟩

set_option maxHeartbeats 1000000 in
theorem refAr127 (a b : Int) (w : World) (h0 : 0 ≤ a) (h1 : a ≤ 18446744073709551615) (k0 : 0 ≤ b) (k1 : b ≤ 18446744073709551615) :
    Calls Tryd.prog 12 #[.int .i64 127, .int .u64 a, .int .u64 b] w fun e w' => e = .returned (.tuple #[.int .u64 (Nums.ar 3 64 (a) (b)).1, .int .i64 (Nums.ar 3 64 (a) (b)).2, .bool true]) ∧ w' = w := by
  have ha : 0 ≤ a ∧ a ≤ 18446744073709551615 := by omega
  have hb : 0 ≤ b ∧ b ≤ 18446744073709551615 := by omega
  go_enter Tryd.func12, Tryd.ntmps12
  go_wp2_with fail
  refine (refSig _ _).mono ?_
  rintro e u ⟨rfl, rfl⟩
  rw [show Nums.sig 127 = (2, 126, 126) from rfl]
  go_wp2_with fail
  refine (refSigned _ _ _ ha.1 ha.2).mono ?_
  rintro e u ⟨rfl, rfl⟩
  go_wp2_with fail
  refine (refSigned _ _ _ hb.1 hb.2).mono ?_
  rintro e u ⟨rfl, rfl⟩
  have hr := Nums.sg_bd64 a h0 h1
  have hr' := Nums.sg_bd64 b k0 k1
  go_wp2_with fail
  refine (refDivide _ _ _ _ _ _ _ (Nums.sg_ne64 b k1) ha.1 ha.2 hb.1 hb.2 hr.1 hr.2 hr'.1 hr'.2 (by decide) (by decide)).mono ?_
  rintro e u ⟨rfl, rfl⟩
  rw [← ar3_64 a b]
  go_wp2
  go_ret3
  exact ⟨rfl, rfl⟩

set_option maxHeartbeats 1000000 in
theorem refAr128 (a b : Int) (w : World) (h0 : 0 ≤ a) (h1 : a ≤ 18446744073709551615) (k0 : 0 ≤ b) (k1 : b ≤ 18446744073709551615) :
    Calls Tryd.prog 12 #[.int .i64 128, .int .u64 a, .int .u64 b] w fun e w' => e = .returned (.tuple #[.int .u64 (Nums.ar 4 64 (a) (b)).1, .int .i64 (Nums.ar 4 64 (a) (b)).2, .bool true]) ∧ w' = w := by
  have ha : 0 ≤ a ∧ a ≤ 18446744073709551615 := by omega
  have hb : 0 ≤ b ∧ b ≤ 18446744073709551615 := by omega
  go_enter Tryd.func12, Tryd.ntmps12
  go_wp2_with fail
  refine (refSig _ _).mono ?_
  rintro e u ⟨rfl, rfl⟩
  rw [show Nums.sig 128 = (2, 126, 126) from rfl]
  go_wp2_with fail
  refine (refSigned _ _ _ ha.1 ha.2).mono ?_
  rintro e u ⟨rfl, rfl⟩
  go_wp2_with fail
  refine (refSigned _ _ _ hb.1 hb.2).mono ?_
  rintro e u ⟨rfl, rfl⟩
  have hr := Nums.sg_bd64 a h0 h1
  have hr' := Nums.sg_bd64 b k0 k1
  go_wp2_with fail
  refine (refDivide _ _ _ _ _ _ _ (Nums.sg_ne64 b k1) ha.1 ha.2 hb.1 hb.2 hr.1 hr.2 hr'.1 hr'.2 (by decide) (by decide)).mono ?_
  rintro e u ⟨rfl, rfl⟩
  rw [← ar4_64 a b]
  go_wp2
  go_ret3
  exact ⟨rfl, rfl⟩

set_option maxHeartbeats 1000000 in
theorem refAr129 (a b : Int) (w : World) (h0 : 0 ≤ a) (h1 : a ≤ 18446744073709551615) (k0 : 0 ≤ b) (k1 : b ≤ 18446744073709551615) :
    Calls Tryd.prog 12 #[.int .i64 129, .int .u64 a, .int .u64 b] w fun e w' => e = .returned (.tuple #[.int .u64 (Nums.ar 5 64 (a) (b)).1, .int .i64 (Nums.ar 5 64 (a) (b)).2, .bool true]) ∧ w' = w := by
  have ha : 0 ≤ a ∧ a ≤ 18446744073709551615 := by omega
  have hb : 0 ≤ b ∧ b ≤ 18446744073709551615 := by omega
  go_enter Tryd.func12, Tryd.ntmps12
  go_wp2_with fail
  refine (refSig _ _).mono ?_
  rintro e u ⟨rfl, rfl⟩
  rw [show Nums.sig 129 = (2, 126, 126) from rfl]
  go_wp2_with fail
  refine (refSigned _ _ _ ha.1 ha.2).mono ?_
  rintro e u ⟨rfl, rfl⟩
  go_wp2_with fail
  refine (refSigned _ _ _ hb.1 hb.2).mono ?_
  rintro e u ⟨rfl, rfl⟩
  have hr := Nums.sg_bd64 a h0 h1
  have hr' := Nums.sg_bd64 b k0 k1
  go_wp2_with fail
  refine (refDivide _ _ _ _ _ _ _ (Nums.sg_ne64 b k1) ha.1 ha.2 hb.1 hb.2 hr.1 hr.2 hr'.1 hr'.2 (by decide) (by decide)).mono ?_
  rintro e u ⟨rfl, rfl⟩
  rw [← ar5_64 a b]
  go_wp2
  go_ret3
  exact ⟨rfl, rfl⟩

set_option maxHeartbeats 1000000 in
theorem refAr130 (a b : Int) (w : World) (h0 : 0 ≤ a) (h1 : a ≤ 18446744073709551615) (k0 : 0 ≤ b) (k1 : b ≤ 18446744073709551615) :
    Calls Tryd.prog 12 #[.int .i64 130, .int .u64 a, .int .u64 b] w fun e w' => e = .returned (.tuple #[.int .u64 (Nums.ar 6 64 (a) (b)).1, .int .i64 (Nums.ar 6 64 (a) (b)).2, .bool true]) ∧ w' = w := by
  have ha : 0 ≤ a ∧ a ≤ 18446744073709551615 := by omega
  have hb : 0 ≤ b ∧ b ≤ 18446744073709551615 := by omega
  go_enter Tryd.func12, Tryd.ntmps12
  go_wp2_with fail
  refine (refSig _ _).mono ?_
  rintro e u ⟨rfl, rfl⟩
  rw [show Nums.sig 130 = (2, 126, 126) from rfl]
  go_wp2_with fail
  refine (refSigned _ _ _ ha.1 ha.2).mono ?_
  rintro e u ⟨rfl, rfl⟩
  go_wp2_with fail
  refine (refSigned _ _ _ hb.1 hb.2).mono ?_
  rintro e u ⟨rfl, rfl⟩
  have hr := Nums.sg_bd64 a h0 h1
  have hr' := Nums.sg_bd64 b k0 k1
  go_wp2_with fail
  refine (refDivide _ _ _ _ _ _ _ (Nums.sg_ne64 b k1) ha.1 ha.2 hb.1 hb.2 hr.1 hr.2 hr'.1 hr'.2 (by decide) (by decide)).mono ?_
  rintro e u ⟨rfl, rfl⟩
  rw [← ar6_64 a b]
  go_wp2
  go_ret3
  exact ⟨rfl, rfl⟩

set_option maxHeartbeats 1000000 in
theorem refAr131 (a b : Int) (w : World) (h0 : 0 ≤ a) (h1 : a ≤ 18446744073709551615) (k0 : 0 ≤ b) (k1 : b ≤ 18446744073709551615) :
    Calls Tryd.prog 12 #[.int .i64 131, .int .u64 a, .int .u64 b] w fun e w' => e = .returned (.tuple #[.int .u64 (Nums.ar 7 64 (a) (b)).1, .int .i64 (Nums.ar 7 64 (a) (b)).2, .bool true]) ∧ w' = w := by
  have ha : 0 ≤ a ∧ a ≤ 18446744073709551615 := by omega
  have hb : 0 ≤ b ∧ b ≤ 18446744073709551615 := by omega
  go_enter Tryd.func12, Tryd.ntmps12
  go_wp2_with fail
  refine (refSig _ _).mono ?_
  rintro e u ⟨rfl, rfl⟩
  rw [show Nums.sig 131 = (2, 126, 126) from rfl]
  go_wp2_with fail
  refine (refSigned _ _ _ ha.1 ha.2).mono ?_
  rintro e u ⟨rfl, rfl⟩
  go_wp2_with fail
  refine (refSigned _ _ _ hb.1 hb.2).mono ?_
  rintro e u ⟨rfl, rfl⟩
  go_wp2
  go_ret3
  exact ⟨uib_ret (by rw [Nums.ar7_64 a b]; rfl), rfl⟩

set_option maxHeartbeats 1000000 in
theorem refAr132 (a b : Int) (w : World) (h0 : 0 ≤ a) (h1 : a ≤ 18446744073709551615) (k0 : 0 ≤ b) (k1 : b ≤ 18446744073709551615) :
    Calls Tryd.prog 12 #[.int .i64 132, .int .u64 a, .int .u64 b] w fun e w' => e = .returned (.tuple #[.int .u64 (Nums.ar 8 64 (a) (b)).1, .int .i64 (Nums.ar 8 64 (a) (b)).2, .bool true]) ∧ w' = w := by
  have ha : 0 ≤ a ∧ a ≤ 18446744073709551615 := by omega
  have hb : 0 ≤ b ∧ b ≤ 18446744073709551615 := by omega
  go_enter Tryd.func12, Tryd.ntmps12
  go_wp2_with fail
  refine (refSig _ _).mono ?_
  rintro e u ⟨rfl, rfl⟩
  rw [show Nums.sig 132 = (2, 126, 126) from rfl]
  go_wp2_with fail
  refine (refSigned _ _ _ ha.1 ha.2).mono ?_
  rintro e u ⟨rfl, rfl⟩
  go_wp2_with fail
  refine (refSigned _ _ _ hb.1 hb.2).mono ?_
  rintro e u ⟨rfl, rfl⟩
  go_wp2
  go_ret3
  exact ⟨uib_ret (by rw [Nums.ar8_64 a b]; rfl), rfl⟩

set_option maxHeartbeats 1000000 in
theorem refAr133 (a b : Int) (w : World) (h0 : 0 ≤ a) (h1 : a ≤ 18446744073709551615) (k0 : 0 ≤ b) (k1 : b ≤ 18446744073709551615) :
    Calls Tryd.prog 12 #[.int .i64 133, .int .u64 a, .int .u64 b] w fun e w' => e = .returned (.tuple #[.int .u64 (Nums.ar 9 64 (a) (b)).1, .int .i64 (Nums.ar 9 64 (a) (b)).2, .bool true]) ∧ w' = w := by
  have ha : 0 ≤ a ∧ a ≤ 18446744073709551615 := by omega
  have hb : 0 ≤ b ∧ b ≤ 18446744073709551615 := by omega
  go_enter Tryd.func12, Tryd.ntmps12
  go_wp2_with fail
  refine (refSig _ _).mono ?_
  rintro e u ⟨rfl, rfl⟩
  rw [show Nums.sig 133 = (2, 126, 126) from rfl]
  go_wp2_with fail
  refine (refSigned _ _ _ ha.1 ha.2).mono ?_
  rintro e u ⟨rfl, rfl⟩
  go_wp2_with fail
  refine (refSigned _ _ _ hb.1 hb.2).mono ?_
  rintro e u ⟨rfl, rfl⟩
  go_wp2
  go_ret3
  exact ⟨uib_ret (by rw [Nums.ar9_64 a b]; rfl), rfl⟩

set_option maxHeartbeats 1000000 in
theorem refAr134 (a b : Int) (w : World) (h0 : 0 ≤ a) (h1 : a ≤ 18446744073709551615) (k0 : 0 ≤ b) (k1 : b ≤ 18446744073709551615) :
    Calls Tryd.prog 12 #[.int .i64 134, .int .u64 a, .int .u64 b] w fun e w' => e = .returned (.tuple #[.int .u64 (Nums.ar 10 64 (a) (b)).1, .int .i64 (Nums.ar 10 64 (a) (b)).2, .bool true]) ∧ w' = w := by
  have ha : 0 ≤ a ∧ a ≤ 18446744073709551615 := by omega
  have hb : 0 ≤ b ∧ b ≤ 18446744073709551615 := by omega
  go_enter Tryd.func12, Tryd.ntmps12
  go_wp2_with fail
  refine (refSig _ _).mono ?_
  rintro e u ⟨rfl, rfl⟩
  rw [show Nums.sig 134 = (2, 126, 126) from rfl]
  go_wp2_with fail
  refine (refSigned _ _ _ ha.1 ha.2).mono ?_
  rintro e u ⟨rfl, rfl⟩
  go_wp2_with fail
  refine (refSigned _ _ _ hb.1 hb.2).mono ?_
  rintro e u ⟨rfl, rfl⟩
  go_wp2
  go_ret3
  exact ⟨uib_ret (by rw [Nums.ar10_64 a b]; rfl), rfl⟩

set_option maxHeartbeats 1000000 in
theorem refAr135 (a b : Int) (w : World) (h0 : 0 ≤ a) (h1 : a ≤ 18446744073709551615) (k0 : 0 ≤ b) (k1 : b ≤ 18446744073709551615) :
    Calls Tryd.prog 12 #[.int .i64 135, .int .u64 a, .int .u64 b] w fun e w' => e = .returned (.tuple #[.int .u64 (Nums.ar 11 64 (a) (b)).1, .int .i64 (Nums.ar 11 64 (a) (b)).2, .bool true]) ∧ w' = w := by
  have ha : 0 ≤ a ∧ a ≤ 18446744073709551615 := by omega
  have hb : 0 ≤ b ∧ b ≤ 18446744073709551615 := by omega
  go_enter Tryd.func12, Tryd.ntmps12
  go_wp2_with fail
  refine (refSig _ _).mono ?_
  rintro e u ⟨rfl, rfl⟩
  rw [show Nums.sig 135 = (2, 126, 126) from rfl]
  go_wp2_with fail
  refine (refSigned _ _ _ ha.1 ha.2).mono ?_
  rintro e u ⟨rfl, rfl⟩
  go_wp2_with fail
  refine (refSigned _ _ _ hb.1 hb.2).mono ?_
  rintro e u ⟨rfl, rfl⟩
  go_wp2
  go_ret3
  exact ⟨uib_ret (by rw [Nums.ar11_64 a b]; rfl), rfl⟩

set_option maxHeartbeats 1000000 in
theorem refAr136 (a b : Int) (w : World) (h0 : 0 ≤ a) (h1 : a ≤ 18446744073709551615) (k0 : 0 ≤ b) (k1 : b ≤ 18446744073709551615) :
    Calls Tryd.prog 12 #[.int .i64 136, .int .u64 a, .int .u64 b] w fun e w' => e = .returned (.tuple #[.int .u64 (Nums.ar 12 64 (a) (b)).1, .int .i64 (Nums.ar 12 64 (a) (b)).2, .bool true]) ∧ w' = w := by
  have ha : 0 ≤ a ∧ a ≤ 18446744073709551615 := by omega
  have hb : 0 ≤ b ∧ b ≤ 18446744073709551615 := by omega
  go_enter Tryd.func12, Tryd.ntmps12
  go_wp2_with fail
  refine (refSig _ _).mono ?_
  rintro e u ⟨rfl, rfl⟩
  rw [show Nums.sig 136 = (2, 126, 126) from rfl]
  go_wp2_with fail
  refine (refSigned _ _ _ ha.1 ha.2).mono ?_
  rintro e u ⟨rfl, rfl⟩
  go_wp2_with fail
  refine (refSigned _ _ _ hb.1 hb.2).mono ?_
  rintro e u ⟨rfl, rfl⟩
  go_wp2
  go_ret3
  exact ⟨uib_ret (by rw [Nums.ar12_64 a b]; rfl), rfl⟩

set_option maxHeartbeats 1000000 in
theorem refAr137 (a b : Int) (w : World) (h0 : 0 ≤ a) (h1 : a ≤ 18446744073709551615) (k0 : 0 ≤ b) (k1 : b ≤ 18446744073709551615) :
    Calls Tryd.prog 12 #[.int .i64 137, .int .u64 a, .int .u64 b] w fun e w' => e = .returned (.tuple #[.int .u64 (Nums.ar 13 64 (a) (b)).1, .int .i64 (Nums.ar 13 64 (a) (b)).2, .bool true]) ∧ w' = w := by
  have ha : 0 ≤ a ∧ a ≤ 18446744073709551615 := by omega
  have hb : 0 ≤ b ∧ b ≤ 18446744073709551615 := by omega
  go_enter Tryd.func12, Tryd.ntmps12
  go_wp2_with fail
  refine (refSig _ _).mono ?_
  rintro e u ⟨rfl, rfl⟩
  rw [show Nums.sig 137 = (2, 126, 126) from rfl]
  go_wp2_with fail
  refine (refSigned _ _ _ ha.1 ha.2).mono ?_
  rintro e u ⟨rfl, rfl⟩
  go_wp2_with fail
  refine (refSigned _ _ _ hb.1 hb.2).mono ?_
  rintro e u ⟨rfl, rfl⟩
  go_wp2
  go_ret3
  exact ⟨uib_ret (by rw [Nums.ar13_64 a b h0 h1]; rfl), rfl⟩

set_option maxHeartbeats 1000000 in
theorem refAr138 (a b : Int) (w : World) (h0 : 0 ≤ a) (h1 : a ≤ 18446744073709551615) (k0 : 0 ≤ b) (k1 : b ≤ 18446744073709551615) :
    Calls Tryd.prog 12 #[.int .i64 138, .int .u64 a, .int .u64 b] w fun e w' => e = .returned (.tuple #[.int .u64 (Nums.ar 14 64 (a) (b)).1, .int .i64 (Nums.ar 14 64 (a) (b)).2, .bool true]) ∧ w' = w := by
  have ha : 0 ≤ a ∧ a ≤ 18446744073709551615 := by omega
  have hb : 0 ≤ b ∧ b ≤ 18446744073709551615 := by omega
  go_enter Tryd.func12, Tryd.ntmps12
  go_wp2_with fail
  refine (refSig _ _).mono ?_
  rintro e u ⟨rfl, rfl⟩
  rw [show Nums.sig 138 = (2, 126, 126) from rfl]
  go_wp2_with fail
  refine (refSigned _ _ _ ha.1 ha.2).mono ?_
  rintro e u ⟨rfl, rfl⟩
  go_wp2_with fail
  refine (refSigned _ _ _ hb.1 hb.2).mono ?_
  rintro e u ⟨rfl, rfl⟩
  go_wp2
  go_ret3
  exact ⟨uib_ret (by rw [Nums.ar14_64 a b h0 h1]; rfl), rfl⟩

end Go.Proofs.YtilgmaabongngaaDoor
