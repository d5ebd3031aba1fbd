/- What the document's own function of two values answers, the comparing ones: the plain function; nothing is changed. -/
import Derived.Test.YtilgmaabongngaaDoorRef
import Derived.Test.YtilgmaabongngaaDoorAr
namespace Go.Proofs.YtilgmaabongngaaDoor
open Go.RowKit
set_option linter.unusedVariables false

theorem holds_cm (k W : Nat) (A B : Int) (hk : k < 10) : Nums.holds k A B (Nums.sg W A) (Nums.sg W B) = Nums.cm k W A B := by
  rcases (by omega : k = 0 ∨ k = 1 ∨ k = 2 ∨ k = 3 ∨ k = 4 ∨ k = 5 ∨ k = 6 ∨ k = 7 ∨ k = 8 ∨ k = 9) with rfl | rfl | rfl | rfl | rfl | rfl | rfl | rfl | rfl | rfl <;> rfl
theorem holds_cm32 (k : Nat) (a b : Int) (hk : k < 10) : Nums.holds k (a % 4294967296) (b % 4294967296) (Nums.signed (a % 4294967296) 127) (Nums.signed (b % 4294967296) 127) = Nums.cm k 32 (a % 4294967296) (b % 4294967296) := by
  rw [Nums.signed32, Nums.signed32]; exact holds_cm k 32 _ _ hk
theorem holds_cm64 (k : Nat) (a b : Int) (hk : k < 10) : Nums.holds k a b (Nums.signed a 126) (Nums.signed b 126) = Nums.cm k 64 a b := holds_cm k 64 _ _ hk

set_option maxHeartbeats 1000000 in
theorem refCm70 (a b : Int) (w : World) (h0 : 0 ≤ a) (h1 : a ≤ 18446744073709551615) (k0 : 0 ≤ b) (k1 : b ≤ 18446744073709551615) :
    Calls Tryd.prog 12 #[.int .i64 70, .int .u64 a, .int .u64 b] w fun e w' => e = .returned (.tuple #[.int .u64 (Nums.cmv 0 32 (a % 4294967296) (b % 4294967296)), .int .i64 0, .bool true]) ∧ w' = w := by
  have ha : 0 ≤ a % 4294967296 ∧ a % 4294967296 ≤ 18446744073709551615 := by omega
  have hb : 0 ≤ b % 4294967296 ∧ b % 4294967296 ≤ 18446744073709551615 := by omega
  have hh : Nums.holds 0 (a % 4294967296) (b % 4294967296) (Nums.signed (a % 4294967296) 127) (Nums.signed (b % 4294967296) 127) = Nums.cm 0 32 (a % 4294967296) (b % 4294967296) := holds_cm32 0 a b (by decide)
  have hv : Nums.cmv 0 32 (a % 4294967296) (b % 4294967296) = if Nums.cm 0 32 (a % 4294967296) (b % 4294967296) = true then 1 else 0 := rfl
  rw [hv]
  generalize Nums.cm 0 32 (a % 4294967296) (b % 4294967296) = c at *
  have H := hide hh
  clear hh hv
  cases c
  all_goals
    go_enter Tryd.func12, Tryd.ntmps12
    go_wp2_with fail
    refine (refSig _ _).mono ?_
    rintro e u ⟨rfl, rfl⟩
    rw [show Nums.sig 70 = (2, 127, 127) from rfl]
    go_wp2_with fail
    refine (refSigned _ _ _ ha.1 ha.2).mono ?_
    rintro e u ⟨rfl, rfl⟩
    go_wp2_with fail
    refine (refSigned _ _ _ hb.1 hb.2).mono ?_
    rintro e u ⟨rfl, rfl⟩
    go_wp2_with fail
    refine (refHolds _ _ _ _ _ _).mono ?_
    rintro e u ⟨rfl, rfl⟩
    have hh := unhide H
    rw [hh]
    go_wp2
    go_ret3
    exact ⟨rfl, rfl⟩

set_option maxHeartbeats 1000000 in
theorem refCm71 (a b : Int) (w : World) (h0 : 0 ≤ a) (h1 : a ≤ 18446744073709551615) (k0 : 0 ≤ b) (k1 : b ≤ 18446744073709551615) :
    Calls Tryd.prog 12 #[.int .i64 71, .int .u64 a, .int .u64 b] w fun e w' => e = .returned (.tuple #[.int .u64 (Nums.cmv 1 32 (a % 4294967296) (b % 4294967296)), .int .i64 0, .bool true]) ∧ w' = w := by
  have ha : 0 ≤ a % 4294967296 ∧ a % 4294967296 ≤ 18446744073709551615 := by omega
  have hb : 0 ≤ b % 4294967296 ∧ b % 4294967296 ≤ 18446744073709551615 := by omega
  have hh : Nums.holds 1 (a % 4294967296) (b % 4294967296) (Nums.signed (a % 4294967296) 127) (Nums.signed (b % 4294967296) 127) = Nums.cm 1 32 (a % 4294967296) (b % 4294967296) := holds_cm32 1 a b (by decide)
  have hv : Nums.cmv 1 32 (a % 4294967296) (b % 4294967296) = if Nums.cm 1 32 (a % 4294967296) (b % 4294967296) = true then 1 else 0 := rfl
  rw [hv]
  generalize Nums.cm 1 32 (a % 4294967296) (b % 4294967296) = c at *
  have H := hide hh
  clear hh hv
  cases c
  all_goals
    go_enter Tryd.func12, Tryd.ntmps12
    go_wp2_with fail
    refine (refSig _ _).mono ?_
    rintro e u ⟨rfl, rfl⟩
    rw [show Nums.sig 71 = (2, 127, 127) from rfl]
    go_wp2_with fail
    refine (refSigned _ _ _ ha.1 ha.2).mono ?_
    rintro e u ⟨rfl, rfl⟩
    go_wp2_with fail
    refine (refSigned _ _ _ hb.1 hb.2).mono ?_
    rintro e u ⟨rfl, rfl⟩
    go_wp2_with fail
    refine (refHolds _ _ _ _ _ _).mono ?_
    rintro e u ⟨rfl, rfl⟩
    have hh := unhide H
    rw [hh]
    go_wp2
    go_ret3
    exact ⟨rfl, rfl⟩

set_option maxHeartbeats 1000000 in
theorem refCm72 (a b : Int) (w : World) (h0 : 0 ≤ a) (h1 : a ≤ 18446744073709551615) (k0 : 0 ≤ b) (k1 : b ≤ 18446744073709551615) :
    Calls Tryd.prog 12 #[.int .i64 72, .int .u64 a, .int .u64 b] w fun e w' => e = .returned (.tuple #[.int .u64 (Nums.cmv 2 32 (a % 4294967296) (b % 4294967296)), .int .i64 0, .bool true]) ∧ w' = w := by
  have ha : 0 ≤ a % 4294967296 ∧ a % 4294967296 ≤ 18446744073709551615 := by omega
  have hb : 0 ≤ b % 4294967296 ∧ b % 4294967296 ≤ 18446744073709551615 := by omega
  have hh : Nums.holds 2 (a % 4294967296) (b % 4294967296) (Nums.signed (a % 4294967296) 127) (Nums.signed (b % 4294967296) 127) = Nums.cm 2 32 (a % 4294967296) (b % 4294967296) := holds_cm32 2 a b (by decide)
  have hv : Nums.cmv 2 32 (a % 4294967296) (b % 4294967296) = if Nums.cm 2 32 (a % 4294967296) (b % 4294967296) = true then 1 else 0 := rfl
  rw [hv]
  generalize Nums.cm 2 32 (a % 4294967296) (b % 4294967296) = c at *
  have H := hide hh
  clear hh hv
  cases c
  all_goals
    go_enter Tryd.func12, Tryd.ntmps12
    go_wp2_with fail
    refine (refSig _ _).mono ?_
    rintro e u ⟨rfl, rfl⟩
    rw [show Nums.sig 72 = (2, 127, 127) from rfl]
    go_wp2_with fail
    refine (refSigned _ _ _ ha.1 ha.2).mono ?_
    rintro e u ⟨rfl, rfl⟩
    go_wp2_with fail
    refine (refSigned _ _ _ hb.1 hb.2).mono ?_
    rintro e u ⟨rfl, rfl⟩
    go_wp2_with fail
    refine (refHolds _ _ _ _ _ _).mono ?_
    rintro e u ⟨rfl, rfl⟩
    have hh := unhide H
    rw [hh]
    go_wp2
    go_ret3
    exact ⟨rfl, rfl⟩

set_option maxHeartbeats 1000000 in
theorem refCm73 (a b : Int) (w : World) (h0 : 0 ≤ a) (h1 : a ≤ 18446744073709551615) (k0 : 0 ≤ b) (k1 : b ≤ 18446744073709551615) :
    Calls Tryd.prog 12 #[.int .i64 73, .int .u64 a, .int .u64 b] w fun e w' => e = .returned (.tuple #[.int .u64 (Nums.cmv 3 32 (a % 4294967296) (b % 4294967296)), .int .i64 0, .bool true]) ∧ w' = w := by
  have ha : 0 ≤ a % 4294967296 ∧ a % 4294967296 ≤ 18446744073709551615 := by omega
  have hb : 0 ≤ b % 4294967296 ∧ b % 4294967296 ≤ 18446744073709551615 := by omega
  have hh : Nums.holds 3 (a % 4294967296) (b % 4294967296) (Nums.signed (a % 4294967296) 127) (Nums.signed (b % 4294967296) 127) = Nums.cm 3 32 (a % 4294967296) (b % 4294967296) := holds_cm32 3 a b (by decide)
  have hv : Nums.cmv 3 32 (a % 4294967296) (b % 4294967296) = if Nums.cm 3 32 (a % 4294967296) (b % 4294967296) = true then 1 else 0 := rfl
  rw [hv]
  generalize Nums.cm 3 32 (a % 4294967296) (b % 4294967296) = c at *
  have H := hide hh
  clear hh hv
  cases c
  all_goals
    go_enter Tryd.func12, Tryd.ntmps12
    go_wp2_with fail
    refine (refSig _ _).mono ?_
    rintro e u ⟨rfl, rfl⟩
    rw [show Nums.sig 73 = (2, 127, 127) from rfl]
    go_wp2_with fail
    refine (refSigned _ _ _ ha.1 ha.2).mono ?_
    rintro e u ⟨rfl, rfl⟩
    go_wp2_with fail
    refine (refSigned _ _ _ hb.1 hb.2).mono ?_
    rintro e u ⟨rfl, rfl⟩
    go_wp2_with fail
    refine (refHolds _ _ _ _ _ _).mono ?_
    rintro e u ⟨rfl, rfl⟩
    have hh := unhide H
    rw [hh]
    go_wp2
    go_ret3
    exact ⟨rfl, rfl⟩

set_option maxHeartbeats 1000000 in
theorem refCm74 (a b : Int) (w : World) (h0 : 0 ≤ a) (h1 : a ≤ 18446744073709551615) (k0 : 0 ≤ b) (k1 : b ≤ 18446744073709551615) :
    Calls Tryd.prog 12 #[.int .i64 74, .int .u64 a, .int .u64 b] w fun e w' => e = .returned (.tuple #[.int .u64 (Nums.cmv 4 32 (a % 4294967296) (b % 4294967296)), .int .i64 0, .bool true]) ∧ w' = w := by
  have ha : 0 ≤ a % 4294967296 ∧ a % 4294967296 ≤ 18446744073709551615 := by omega
  have hb : 0 ≤ b % 4294967296 ∧ b % 4294967296 ≤ 18446744073709551615 := by omega
  have hh : Nums.holds 4 (a % 4294967296) (b % 4294967296) (Nums.signed (a % 4294967296) 127) (Nums.signed (b % 4294967296) 127) = Nums.cm 4 32 (a % 4294967296) (b % 4294967296) := holds_cm32 4 a b (by decide)
  have hv : Nums.cmv 4 32 (a % 4294967296) (b % 4294967296) = if Nums.cm 4 32 (a % 4294967296) (b % 4294967296) = true then 1 else 0 := rfl
  rw [hv]
  generalize Nums.cm 4 32 (a % 4294967296) (b % 4294967296) = c at *
  have H := hide hh
  clear hh hv
  cases c
  all_goals
    go_enter Tryd.func12, Tryd.ntmps12
    go_wp2_with fail
    refine (refSig _ _).mono ?_
    rintro e u ⟨rfl, rfl⟩
    rw [show Nums.sig 74 = (2, 127, 127) from rfl]
    go_wp2_with fail
    refine (refSigned _ _ _ ha.1 ha.2).mono ?_
    rintro e u ⟨rfl, rfl⟩
    go_wp2_with fail
    refine (refSigned _ _ _ hb.1 hb.2).mono ?_
    rintro e u ⟨rfl, rfl⟩
    go_wp2_with fail
    refine (refHolds _ _ _ _ _ _).mono ?_
    rintro e u ⟨rfl, rfl⟩
    have hh := unhide H
    rw [hh]
    go_wp2
    go_ret3
    exact ⟨rfl, rfl⟩

set_option maxHeartbeats 1000000 in
theorem refCm75 (a b : Int) (w : World) (h0 : 0 ≤ a) (h1 : a ≤ 18446744073709551615) (k0 : 0 ≤ b) (k1 : b ≤ 18446744073709551615) :
    Calls Tryd.prog 12 #[.int .i64 75, .int .u64 a, .int .u64 b] w fun e w' => e = .returned (.tuple #[.int .u64 (Nums.cmv 5 32 (a % 4294967296) (b % 4294967296)), .int .i64 0, .bool true]) ∧ w' = w := by
  have ha : 0 ≤ a % 4294967296 ∧ a % 4294967296 ≤ 18446744073709551615 := by omega
  have hb : 0 ≤ b % 4294967296 ∧ b % 4294967296 ≤ 18446744073709551615 := by omega
  have hh : Nums.holds 5 (a % 4294967296) (b % 4294967296) (Nums.signed (a % 4294967296) 127) (Nums.signed (b % 4294967296) 127) = Nums.cm 5 32 (a % 4294967296) (b % 4294967296) := holds_cm32 5 a b (by decide)
  have hv : Nums.cmv 5 32 (a % 4294967296) (b % 4294967296) = if Nums.cm 5 32 (a % 4294967296) (b % 4294967296) = true then 1 else 0 := rfl
  rw [hv]
  generalize Nums.cm 5 32 (a % 4294967296) (b % 4294967296) = c at *
  have H := hide hh
  clear hh hv
  cases c
  all_goals
    go_enter Tryd.func12, Tryd.ntmps12
    go_wp2_with fail
    refine (refSig _ _).mono ?_
    rintro e u ⟨rfl, rfl⟩
    rw [show Nums.sig 75 = (2, 127, 127) from rfl]
    go_wp2_with fail
    refine (refSigned _ _ _ ha.1 ha.2).mono ?_
    rintro e u ⟨rfl, rfl⟩
    go_wp2_with fail
    refine (refSigned _ _ _ hb.1 hb.2).mono ?_
    rintro e u ⟨rfl, rfl⟩
    go_wp2_with fail
    refine (refHolds _ _ _ _ _ _).mono ?_
    rintro e u ⟨rfl, rfl⟩
    have hh := unhide H
    rw [hh]
    go_wp2
    go_ret3
    exact ⟨rfl, rfl⟩

set_option maxHeartbeats 1000000 in
theorem refCm76 (a b : Int) (w : World) (h0 : 0 ≤ a) (h1 : a ≤ 18446744073709551615) (k0 : 0 ≤ b) (k1 : b ≤ 18446744073709551615) :
    Calls Tryd.prog 12 #[.int .i64 76, .int .u64 a, .int .u64 b] w fun e w' => e = .returned (.tuple #[.int .u64 (Nums.cmv 6 32 (a % 4294967296) (b % 4294967296)), .int .i64 0, .bool true]) ∧ w' = w := by
  have ha : 0 ≤ a % 4294967296 ∧ a % 4294967296 ≤ 18446744073709551615 := by omega
  have hb : 0 ≤ b % 4294967296 ∧ b % 4294967296 ≤ 18446744073709551615 := by omega
  have hh : Nums.holds 6 (a % 4294967296) (b % 4294967296) (Nums.signed (a % 4294967296) 127) (Nums.signed (b % 4294967296) 127) = Nums.cm 6 32 (a % 4294967296) (b % 4294967296) := holds_cm32 6 a b (by decide)
  have hv : Nums.cmv 6 32 (a % 4294967296) (b % 4294967296) = if Nums.cm 6 32 (a % 4294967296) (b % 4294967296) = true then 1 else 0 := rfl
  rw [hv]
  generalize Nums.cm 6 32 (a % 4294967296) (b % 4294967296) = c at *
  have H := hide hh
  clear hh hv
  cases c
  all_goals
    go_enter Tryd.func12, Tryd.ntmps12
    go_wp2_with fail
    refine (refSig _ _).mono ?_
    rintro e u ⟨rfl, rfl⟩
    rw [show Nums.sig 76 = (2, 127, 127) from rfl]
    go_wp2_with fail
    refine (refSigned _ _ _ ha.1 ha.2).mono ?_
    rintro e u ⟨rfl, rfl⟩
    go_wp2_with fail
    refine (refSigned _ _ _ hb.1 hb.2).mono ?_
    rintro e u ⟨rfl, rfl⟩
    go_wp2_with fail
    refine (refHolds _ _ _ _ _ _).mono ?_
    rintro e u ⟨rfl, rfl⟩
    have hh := unhide H
    rw [hh]
    go_wp2
    go_ret3
    exact ⟨rfl, rfl⟩

set_option maxHeartbeats 1000000 in
theorem refCm77 (a b : Int) (w : World) (h0 : 0 ≤ a) (h1 : a ≤ 18446744073709551615) (k0 : 0 ≤ b) (k1 : b ≤ 18446744073709551615) :
    Calls Tryd.prog 12 #[.int .i64 77, .int .u64 a, .int .u64 b] w fun e w' => e = .returned (.tuple #[.int .u64 (Nums.cmv 7 32 (a % 4294967296) (b % 4294967296)), .int .i64 0, .bool true]) ∧ w' = w := by
  have ha : 0 ≤ a % 4294967296 ∧ a % 4294967296 ≤ 18446744073709551615 := by omega
  have hb : 0 ≤ b % 4294967296 ∧ b % 4294967296 ≤ 18446744073709551615 := by omega
  have hh : Nums.holds 7 (a % 4294967296) (b % 4294967296) (Nums.signed (a % 4294967296) 127) (Nums.signed (b % 4294967296) 127) = Nums.cm 7 32 (a % 4294967296) (b % 4294967296) := holds_cm32 7 a b (by decide)
  have hv : Nums.cmv 7 32 (a % 4294967296) (b % 4294967296) = if Nums.cm 7 32 (a % 4294967296) (b % 4294967296) = true then 1 else 0 := rfl
  rw [hv]
  generalize Nums.cm 7 32 (a % 4294967296) (b % 4294967296) = c at *
  have H := hide hh
  clear hh hv
  cases c
  all_goals
    go_enter Tryd.func12, Tryd.ntmps12
    go_wp2_with fail
    refine (refSig _ _).mono ?_
    rintro e u ⟨rfl, rfl⟩
    rw [show Nums.sig 77 = (2, 127, 127) from rfl]
    go_wp2_with fail
    refine (refSigned _ _ _ ha.1 ha.2).mono ?_
    rintro e u ⟨rfl, rfl⟩
    go_wp2_with fail
    refine (refSigned _ _ _ hb.1 hb.2).mono ?_
    rintro e u ⟨rfl, rfl⟩
    go_wp2_with fail
    refine (refHolds _ _ _ _ _ _).mono ?_
    rintro e u ⟨rfl, rfl⟩
    have hh := unhide H
    rw [hh]
    go_wp2
    go_ret3
    exact ⟨rfl, rfl⟩

set_option maxHeartbeats 1000000 in
theorem refCm78 (a b : Int) (w : World) (h0 : 0 ≤ a) (h1 : a ≤ 18446744073709551615) (k0 : 0 ≤ b) (k1 : b ≤ 18446744073709551615) :
    Calls Tryd.prog 12 #[.int .i64 78, .int .u64 a, .int .u64 b] w fun e w' => e = .returned (.tuple #[.int .u64 (Nums.cmv 8 32 (a % 4294967296) (b % 4294967296)), .int .i64 0, .bool true]) ∧ w' = w := by
  have ha : 0 ≤ a % 4294967296 ∧ a % 4294967296 ≤ 18446744073709551615 := by omega
  have hb : 0 ≤ b % 4294967296 ∧ b % 4294967296 ≤ 18446744073709551615 := by omega
  have hh : Nums.holds 8 (a % 4294967296) (b % 4294967296) (Nums.signed (a % 4294967296) 127) (Nums.signed (b % 4294967296) 127) = Nums.cm 8 32 (a % 4294967296) (b % 4294967296) := holds_cm32 8 a b (by decide)
  have hv : Nums.cmv 8 32 (a % 4294967296) (b % 4294967296) = if Nums.cm 8 32 (a % 4294967296) (b % 4294967296) = true then 1 else 0 := rfl
  rw [hv]
  generalize Nums.cm 8 32 (a % 4294967296) (b % 4294967296) = c at *
  have H := hide hh
  clear hh hv
  cases c
  all_goals
    go_enter Tryd.func12, Tryd.ntmps12
    go_wp2_with fail
    refine (refSig _ _).mono ?_
    rintro e u ⟨rfl, rfl⟩
    rw [show Nums.sig 78 = (2, 127, 127) from rfl]
    go_wp2_with fail
    refine (refSigned _ _ _ ha.1 ha.2).mono ?_
    rintro e u ⟨rfl, rfl⟩
    go_wp2_with fail
    refine (refSigned _ _ _ hb.1 hb.2).mono ?_
    rintro e u ⟨rfl, rfl⟩
    go_wp2_with fail
    refine (refHolds _ _ _ _ _ _).mono ?_
    rintro e u ⟨rfl, rfl⟩
    have hh := unhide H
    rw [hh]
    go_wp2
    go_ret3
    exact ⟨rfl, rfl⟩

set_option maxHeartbeats 1000000 in
theorem refCm79 (a b : Int) (w : World) (h0 : 0 ≤ a) (h1 : a ≤ 18446744073709551615) (k0 : 0 ≤ b) (k1 : b ≤ 18446744073709551615) :
    Calls Tryd.prog 12 #[.int .i64 79, .int .u64 a, .int .u64 b] w fun e w' => e = .returned (.tuple #[.int .u64 (Nums.cmv 9 32 (a % 4294967296) (b % 4294967296)), .int .i64 0, .bool true]) ∧ w' = w := by
  have ha : 0 ≤ a % 4294967296 ∧ a % 4294967296 ≤ 18446744073709551615 := by omega
  have hb : 0 ≤ b % 4294967296 ∧ b % 4294967296 ≤ 18446744073709551615 := by omega
  have hh : Nums.holds 9 (a % 4294967296) (b % 4294967296) (Nums.signed (a % 4294967296) 127) (Nums.signed (b % 4294967296) 127) = Nums.cm 9 32 (a % 4294967296) (b % 4294967296) := holds_cm32 9 a b (by decide)
  have hv : Nums.cmv 9 32 (a % 4294967296) (b % 4294967296) = if Nums.cm 9 32 (a % 4294967296) (b % 4294967296) = true then 1 else 0 := rfl
  rw [hv]
  generalize Nums.cm 9 32 (a % 4294967296) (b % 4294967296) = c at *
  have H := hide hh
  clear hh hv
  cases c
  all_goals
    go_enter Tryd.func12, Tryd.ntmps12
    go_wp2_with fail
    refine (refSig _ _).mono ?_
    rintro e u ⟨rfl, rfl⟩
    rw [show Nums.sig 79 = (2, 127, 127) from rfl]
    go_wp2_with fail
    refine (refSigned _ _ _ ha.1 ha.2).mono ?_
    rintro e u ⟨rfl, rfl⟩
    go_wp2_with fail
    refine (refSigned _ _ _ hb.1 hb.2).mono ?_
    rintro e u ⟨rfl, rfl⟩
    go_wp2_with fail
    refine (refHolds _ _ _ _ _ _).mono ?_
    rintro e u ⟨rfl, rfl⟩
    have hh := unhide H
    rw [hh]
    go_wp2
    go_ret3
    exact ⟨rfl, rfl⟩

set_option maxHeartbeats 1000000 in
theorem refCm81 (a b : Int) (w : World) (h0 : 0 ≤ a) (h1 : a ≤ 18446744073709551615) (k0 : 0 ≤ b) (k1 : b ≤ 18446744073709551615) :
    Calls Tryd.prog 12 #[.int .i64 81, .int .u64 a, .int .u64 b] w fun e w' => e = .returned (.tuple #[.int .u64 (Nums.cmv 0 64 (a) (b)), .int .i64 0, .bool true]) ∧ w' = w := by
  have ha : 0 ≤ a ∧ a ≤ 18446744073709551615 := by omega
  have hb : 0 ≤ b ∧ b ≤ 18446744073709551615 := by omega
  have hh : Nums.holds 0 (a) (b) (Nums.signed (a) 126) (Nums.signed (b) 126) = Nums.cm 0 64 (a) (b) := holds_cm64 0 a b (by decide)
  have hv : Nums.cmv 0 64 (a) (b) = if Nums.cm 0 64 (a) (b) = true then 1 else 0 := rfl
  rw [hv]
  generalize Nums.cm 0 64 (a) (b) = c at *
  have H := hide hh
  clear hh hv
  cases c
  all_goals
    go_enter Tryd.func12, Tryd.ntmps12
    go_wp2_with fail
    refine (refSig _ _).mono ?_
    rintro e u ⟨rfl, rfl⟩
    rw [show Nums.sig 81 = (2, 126, 127) from rfl]
    go_wp2_with fail
    refine (refSigned _ _ _ ha.1 ha.2).mono ?_
    rintro e u ⟨rfl, rfl⟩
    go_wp2_with fail
    refine (refSigned _ _ _ hb.1 hb.2).mono ?_
    rintro e u ⟨rfl, rfl⟩
    go_wp2_with fail
    refine (refHolds _ _ _ _ _ _).mono ?_
    rintro e u ⟨rfl, rfl⟩
    have hh := unhide H
    rw [hh]
    go_wp2
    go_ret3
    exact ⟨rfl, rfl⟩

set_option maxHeartbeats 1000000 in
theorem refCm82 (a b : Int) (w : World) (h0 : 0 ≤ a) (h1 : a ≤ 18446744073709551615) (k0 : 0 ≤ b) (k1 : b ≤ 18446744073709551615) :
    Calls Tryd.prog 12 #[.int .i64 82, .int .u64 a, .int .u64 b] w fun e w' => e = .returned (.tuple #[.int .u64 (Nums.cmv 1 64 (a) (b)), .int .i64 0, .bool true]) ∧ w' = w := by
  have ha : 0 ≤ a ∧ a ≤ 18446744073709551615 := by omega
  have hb : 0 ≤ b ∧ b ≤ 18446744073709551615 := by omega
  have hh : Nums.holds 1 (a) (b) (Nums.signed (a) 126) (Nums.signed (b) 126) = Nums.cm 1 64 (a) (b) := holds_cm64 1 a b (by decide)
  have hv : Nums.cmv 1 64 (a) (b) = if Nums.cm 1 64 (a) (b) = true then 1 else 0 := rfl
  rw [hv]
  generalize Nums.cm 1 64 (a) (b) = c at *
  have H := hide hh
  clear hh hv
  cases c
  all_goals
    go_enter Tryd.func12, Tryd.ntmps12
    go_wp2_with fail
    refine (refSig _ _).mono ?_
    rintro e u ⟨rfl, rfl⟩
    rw [show Nums.sig 82 = (2, 126, 127) from rfl]
    go_wp2_with fail
    refine (refSigned _ _ _ ha.1 ha.2).mono ?_
    rintro e u ⟨rfl, rfl⟩
    go_wp2_with fail
    refine (refSigned _ _ _ hb.1 hb.2).mono ?_
    rintro e u ⟨rfl, rfl⟩
    go_wp2_with fail
    refine (refHolds _ _ _ _ _ _).mono ?_
    rintro e u ⟨rfl, rfl⟩
    have hh := unhide H
    rw [hh]
    go_wp2
    go_ret3
    exact ⟨rfl, rfl⟩

set_option maxHeartbeats 1000000 in
theorem refCm83 (a b : Int) (w : World) (h0 : 0 ≤ a) (h1 : a ≤ 18446744073709551615) (k0 : 0 ≤ b) (k1 : b ≤ 18446744073709551615) :
    Calls Tryd.prog 12 #[.int .i64 83, .int .u64 a, .int .u64 b] w fun e w' => e = .returned (.tuple #[.int .u64 (Nums.cmv 2 64 (a) (b)), .int .i64 0, .bool true]) ∧ w' = w := by
  have ha : 0 ≤ a ∧ a ≤ 18446744073709551615 := by omega
  have hb : 0 ≤ b ∧ b ≤ 18446744073709551615 := by omega
  have hh : Nums.holds 2 (a) (b) (Nums.signed (a) 126) (Nums.signed (b) 126) = Nums.cm 2 64 (a) (b) := holds_cm64 2 a b (by decide)
  have hv : Nums.cmv 2 64 (a) (b) = if Nums.cm 2 64 (a) (b) = true then 1 else 0 := rfl
  rw [hv]
  generalize Nums.cm 2 64 (a) (b) = c at *
  have H := hide hh
  clear hh hv
  cases c
  all_goals
    go_enter Tryd.func12, Tryd.ntmps12
    go_wp2_with fail
    refine (refSig _ _).mono ?_
    rintro e u ⟨rfl, rfl⟩
    rw [show Nums.sig 83 = (2, 126, 127) from rfl]
    go_wp2_with fail
    refine (refSigned _ _ _ ha.1 ha.2).mono ?_
    rintro e u ⟨rfl, rfl⟩
    go_wp2_with fail
    refine (refSigned _ _ _ hb.1 hb.2).mono ?_
    rintro e u ⟨rfl, rfl⟩
    go_wp2_with fail
    refine (refHolds _ _ _ _ _ _).mono ?_
    rintro e u ⟨rfl, rfl⟩
    have hh := unhide H
    rw [hh]
    go_wp2
    go_ret3
    exact ⟨rfl, rfl⟩

set_option maxHeartbeats 1000000 in
theorem refCm84 (a b : Int) (w : World) (h0 : 0 ≤ a) (h1 : a ≤ 18446744073709551615) (k0 : 0 ≤ b) (k1 : b ≤ 18446744073709551615) :
    Calls Tryd.prog 12 #[.int .i64 84, .int .u64 a, .int .u64 b] w fun e w' => e = .returned (.tuple #[.int .u64 (Nums.cmv 3 64 (a) (b)), .int .i64 0, .bool true]) ∧ w' = w := by
  have ha : 0 ≤ a ∧ a ≤ 18446744073709551615 := by omega
  have hb : 0 ≤ b ∧ b ≤ 18446744073709551615 := by omega
  have hh : Nums.holds 3 (a) (b) (Nums.signed (a) 126) (Nums.signed (b) 126) = Nums.cm 3 64 (a) (b) := holds_cm64 3 a b (by decide)
  have hv : Nums.cmv 3 64 (a) (b) = if Nums.cm 3 64 (a) (b) = true then 1 else 0 := rfl
  rw [hv]
  generalize Nums.cm 3 64 (a) (b) = c at *
  have H := hide hh
  clear hh hv
  cases c
  all_goals
    go_enter Tryd.func12, Tryd.ntmps12
    go_wp2_with fail
    refine (refSig _ _).mono ?_
    rintro e u ⟨rfl, rfl⟩
    rw [show Nums.sig 84 = (2, 126, 127) from rfl]
    go_wp2_with fail
    refine (refSigned _ _ _ ha.1 ha.2).mono ?_
    rintro e u ⟨rfl, rfl⟩
    go_wp2_with fail
    refine (refSigned _ _ _ hb.1 hb.2).mono ?_
    rintro e u ⟨rfl, rfl⟩
    go_wp2_with fail
    refine (refHolds _ _ _ _ _ _).mono ?_
    rintro e u ⟨rfl, rfl⟩
    have hh := unhide H
    rw [hh]
    go_wp2
    go_ret3
    exact ⟨rfl, rfl⟩

set_option maxHeartbeats 1000000 in
theorem refCm85 (a b : Int) (w : World) (h0 : 0 ≤ a) (h1 : a ≤ 18446744073709551615) (k0 : 0 ≤ b) (k1 : b ≤ 18446744073709551615) :
    Calls Tryd.prog 12 #[.int .i64 85, .int .u64 a, .int .u64 b] w fun e w' => e = .returned (.tuple #[.int .u64 (Nums.cmv 4 64 (a) (b)), .int .i64 0, .bool true]) ∧ w' = w := by
  have ha : 0 ≤ a ∧ a ≤ 18446744073709551615 := by omega
  have hb : 0 ≤ b ∧ b ≤ 18446744073709551615 := by omega
  have hh : Nums.holds 4 (a) (b) (Nums.signed (a) 126) (Nums.signed (b) 126) = Nums.cm 4 64 (a) (b) := holds_cm64 4 a b (by decide)
  have hv : Nums.cmv 4 64 (a) (b) = if Nums.cm 4 64 (a) (b) = true then 1 else 0 := rfl
  rw [hv]
  generalize Nums.cm 4 64 (a) (b) = c at *
  have H := hide hh
  clear hh hv
  cases c
  all_goals
    go_enter Tryd.func12, Tryd.ntmps12
    go_wp2_with fail
    refine (refSig _ _).mono ?_
    rintro e u ⟨rfl, rfl⟩
    rw [show Nums.sig 85 = (2, 126, 127) from rfl]
    go_wp2_with fail
    refine (refSigned _ _ _ ha.1 ha.2).mono ?_
    rintro e u ⟨rfl, rfl⟩
    go_wp2_with fail
    refine (refSigned _ _ _ hb.1 hb.2).mono ?_
    rintro e u ⟨rfl, rfl⟩
    go_wp2_with fail
    refine (refHolds _ _ _ _ _ _).mono ?_
    rintro e u ⟨rfl, rfl⟩
    have hh := unhide H
    rw [hh]
    go_wp2
    go_ret3
    exact ⟨rfl, rfl⟩

set_option maxHeartbeats 1000000 in
theorem refCm86 (a b : Int) (w : World) (h0 : 0 ≤ a) (h1 : a ≤ 18446744073709551615) (k0 : 0 ≤ b) (k1 : b ≤ 18446744073709551615) :
    Calls Tryd.prog 12 #[.int .i64 86, .int .u64 a, .int .u64 b] w fun e w' => e = .returned (.tuple #[.int .u64 (Nums.cmv 5 64 (a) (b)), .int .i64 0, .bool true]) ∧ w' = w := by
  have ha : 0 ≤ a ∧ a ≤ 18446744073709551615 := by omega
  have hb : 0 ≤ b ∧ b ≤ 18446744073709551615 := by omega
  have hh : Nums.holds 5 (a) (b) (Nums.signed (a) 126) (Nums.signed (b) 126) = Nums.cm 5 64 (a) (b) := holds_cm64 5 a b (by decide)
  have hv : Nums.cmv 5 64 (a) (b) = if Nums.cm 5 64 (a) (b) = true then 1 else 0 := rfl
  rw [hv]
  generalize Nums.cm 5 64 (a) (b) = c at *
  have H := hide hh
  clear hh hv
  cases c
  all_goals
    go_enter Tryd.func12, Tryd.ntmps12
    go_wp2_with fail
    refine (refSig _ _).mono ?_
    rintro e u ⟨rfl, rfl⟩
    rw [show Nums.sig 86 = (2, 126, 127) from rfl]
    go_wp2_with fail
    refine (refSigned _ _ _ ha.1 ha.2).mono ?_
    rintro e u ⟨rfl, rfl⟩
    go_wp2_with fail
    refine (refSigned _ _ _ hb.1 hb.2).mono ?_
    rintro e u ⟨rfl, rfl⟩
    go_wp2_with fail
    refine (refHolds _ _ _ _ _ _).mono ?_
    rintro e u ⟨rfl, rfl⟩
    have hh := unhide H
    rw [hh]
    go_wp2
    go_ret3
    exact ⟨rfl, rfl⟩

set_option maxHeartbeats 1000000 in
theorem refCm87 (a b : Int) (w : World) (h0 : 0 ≤ a) (h1 : a ≤ 18446744073709551615) (k0 : 0 ≤ b) (k1 : b ≤ 18446744073709551615) :
    Calls Tryd.prog 12 #[.int .i64 87, .int .u64 a, .int .u64 b] w fun e w' => e = .returned (.tuple #[.int .u64 (Nums.cmv 6 64 (a) (b)), .int .i64 0, .bool true]) ∧ w' = w := by
  have ha : 0 ≤ a ∧ a ≤ 18446744073709551615 := by omega
  have hb : 0 ≤ b ∧ b ≤ 18446744073709551615 := by omega
  have hh : Nums.holds 6 (a) (b) (Nums.signed (a) 126) (Nums.signed (b) 126) = Nums.cm 6 64 (a) (b) := holds_cm64 6 a b (by decide)
  have hv : Nums.cmv 6 64 (a) (b) = if Nums.cm 6 64 (a) (b) = true then 1 else 0 := rfl
  rw [hv]
  generalize Nums.cm 6 64 (a) (b) = c at *
  have H := hide hh
  clear hh hv
  cases c
  all_goals
    go_enter Tryd.func12, Tryd.ntmps12
    go_wp2_with fail
    refine (refSig _ _).mono ?_
    rintro e u ⟨rfl, rfl⟩
    rw [show Nums.sig 87 = (2, 126, 127) from rfl]
    go_wp2_with fail
    refine (refSigned _ _ _ ha.1 ha.2).mono ?_
    rintro e u ⟨rfl, rfl⟩
    go_wp2_with fail
    refine (refSigned _ _ _ hb.1 hb.2).mono ?_
    rintro e u ⟨rfl, rfl⟩
    go_wp2_with fail
    refine (refHolds _ _ _ _ _ _).mono ?_
    rintro e u ⟨rfl, rfl⟩
    have hh := unhide H
    rw [hh]
    go_wp2
    go_ret3
    exact ⟨rfl, rfl⟩

set_option maxHeartbeats 1000000 in
theorem refCm88 (a b : Int) (w : World) (h0 : 0 ≤ a) (h1 : a ≤ 18446744073709551615) (k0 : 0 ≤ b) (k1 : b ≤ 18446744073709551615) :
    Calls Tryd.prog 12 #[.int .i64 88, .int .u64 a, .int .u64 b] w fun e w' => e = .returned (.tuple #[.int .u64 (Nums.cmv 7 64 (a) (b)), .int .i64 0, .bool true]) ∧ w' = w := by
  have ha : 0 ≤ a ∧ a ≤ 18446744073709551615 := by omega
  have hb : 0 ≤ b ∧ b ≤ 18446744073709551615 := by omega
  have hh : Nums.holds 7 (a) (b) (Nums.signed (a) 126) (Nums.signed (b) 126) = Nums.cm 7 64 (a) (b) := holds_cm64 7 a b (by decide)
  have hv : Nums.cmv 7 64 (a) (b) = if Nums.cm 7 64 (a) (b) = true then 1 else 0 := rfl
  rw [hv]
  generalize Nums.cm 7 64 (a) (b) = c at *
  have H := hide hh
  clear hh hv
  cases c
  all_goals
    go_enter Tryd.func12, Tryd.ntmps12
    go_wp2_with fail
    refine (refSig _ _).mono ?_
    rintro e u ⟨rfl, rfl⟩
    rw [show Nums.sig 88 = (2, 126, 127) from rfl]
    go_wp2_with fail
    refine (refSigned _ _ _ ha.1 ha.2).mono ?_
    rintro e u ⟨rfl, rfl⟩
    go_wp2_with fail
    refine (refSigned _ _ _ hb.1 hb.2).mono ?_
    rintro e u ⟨rfl, rfl⟩
    go_wp2_with fail
    refine (refHolds _ _ _ _ _ _).mono ?_
    rintro e u ⟨rfl, rfl⟩
    have hh := unhide H
    rw [hh]
    go_wp2
    go_ret3
    exact ⟨rfl, rfl⟩

set_option maxHeartbeats 1000000 in
theorem refCm89 (a b : Int) (w : World) (h0 : 0 ≤ a) (h1 : a ≤ 18446744073709551615) (k0 : 0 ≤ b) (k1 : b ≤ 18446744073709551615) :
    Calls Tryd.prog 12 #[.int .i64 89, .int .u64 a, .int .u64 b] w fun e w' => e = .returned (.tuple #[.int .u64 (Nums.cmv 8 64 (a) (b)), .int .i64 0, .bool true]) ∧ w' = w := by
  have ha : 0 ≤ a ∧ a ≤ 18446744073709551615 := by omega
  have hb : 0 ≤ b ∧ b ≤ 18446744073709551615 := by omega
  have hh : Nums.holds 8 (a) (b) (Nums.signed (a) 126) (Nums.signed (b) 126) = Nums.cm 8 64 (a) (b) := holds_cm64 8 a b (by decide)
  have hv : Nums.cmv 8 64 (a) (b) = if Nums.cm 8 64 (a) (b) = true then 1 else 0 := rfl
  rw [hv]
  generalize Nums.cm 8 64 (a) (b) = c at *
  have H := hide hh
  clear hh hv
  cases c
  all_goals
    go_enter Tryd.func12, Tryd.ntmps12
    go_wp2_with fail
    refine (refSig _ _).mono ?_
    rintro e u ⟨rfl, rfl⟩
    rw [show Nums.sig 89 = (2, 126, 127) from rfl]
    go_wp2_with fail
    refine (refSigned _ _ _ ha.1 ha.2).mono ?_
    rintro e u ⟨rfl, rfl⟩
    go_wp2_with fail
    refine (refSigned _ _ _ hb.1 hb.2).mono ?_
    rintro e u ⟨rfl, rfl⟩
    go_wp2_with fail
    refine (refHolds _ _ _ _ _ _).mono ?_
    rintro e u ⟨rfl, rfl⟩
    have hh := unhide H
    rw [hh]
    go_wp2
    go_ret3
    exact ⟨rfl, rfl⟩

set_option maxHeartbeats 1000000 in
theorem refCm90 (a b : Int) (w : World) (h0 : 0 ≤ a) (h1 : a ≤ 18446744073709551615) (k0 : 0 ≤ b) (k1 : b ≤ 18446744073709551615) :
    Calls Tryd.prog 12 #[.int .i64 90, .int .u64 a, .int .u64 b] w fun e w' => e = .returned (.tuple #[.int .u64 (Nums.cmv 9 64 (a) (b)), .int .i64 0, .bool true]) ∧ w' = w := by
  have ha : 0 ≤ a ∧ a ≤ 18446744073709551615 := by omega
  have hb : 0 ≤ b ∧ b ≤ 18446744073709551615 := by omega
  have hh : Nums.holds 9 (a) (b) (Nums.signed (a) 126) (Nums.signed (b) 126) = Nums.cm 9 64 (a) (b) := holds_cm64 9 a b (by decide)
  have hv : Nums.cmv 9 64 (a) (b) = if Nums.cm 9 64 (a) (b) = true then 1 else 0 := rfl
  rw [hv]
  generalize Nums.cm 9 64 (a) (b) = c at *
  have H := hide hh
  clear hh hv
  cases c
  all_goals
    go_enter Tryd.func12, Tryd.ntmps12
    go_wp2_with fail
    refine (refSig _ _).mono ?_
    rintro e u ⟨rfl, rfl⟩
    rw [show Nums.sig 90 = (2, 126, 127) from rfl]
    go_wp2_with fail
    refine (refSigned _ _ _ ha.1 ha.2).mono ?_
    rintro e u ⟨rfl, rfl⟩
    go_wp2_with fail
    refine (refSigned _ _ _ hb.1 hb.2).mono ?_
    rintro e u ⟨rfl, rfl⟩
    go_wp2_with fail
    refine (refHolds _ _ _ _ _ _).mono ?_
    rintro e u ⟨rfl, rfl⟩
    have hh := unhide H
    rw [hh]
    go_wp2
    go_ret3
    exact ⟨rfl, rfl⟩

end Go.Proofs.YtilgmaabongngaaDoor
