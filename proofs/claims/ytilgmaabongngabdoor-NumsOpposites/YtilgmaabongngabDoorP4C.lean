/- What the program's reckon answers, instruction by instruction; nothing is changed. -/
import Derived.Test.YtilgmaabongngabDoorP2
import Derived.Test.YtilgmaabongngabDoorBase
namespace Go.Proofs.YtilgmaabongngabDoor
open Go.RowKit
set_option linter.unusedVariables false

theorem flag_bd (c : Bool) : 0 ≤ Nums.flag c ∧ Nums.flag c ≤ 1 := by cases c <;> decide

set_option maxHeartbeats 1000000 in
theorem pReckon70 (a b : Int) (w : World) (h0 : 0 ≤ a) (h1 : a ≤ 18446744073709551615) (k0 : 0 ≤ b) (k1 : b ≤ 18446744073709551615) :
    Calls Tryd.prog 8 #[.int .i64 70, .int .u64 a, .int .u64 b] w fun e w' => e = .returned (.tuple #[.int .u64 (Nums.cmv 0 32 (a % 4294967296) (b % 4294967296)), .int .i64 0]) ∧ w' = w := by
  have ha : 0 ≤ a % 4294967296 ∧ a % 4294967296 ≤ 18446744073709551615 := by omega
  have hb : 0 ≤ b % 4294967296 ∧ b % 4294967296 ≤ 18446744073709551615 := by omega
  have hh : Nums.pholds 70 (a % 4294967296) (b % 4294967296) (Nums.signed (a % 4294967296) 127) (Nums.signed (b % 4294967296) 127) = Nums.cm 0 32 (a % 4294967296) (b % 4294967296) := holds_cm32 0 a b (by decide)
  have hv : Nums.cmv 0 32 (a % 4294967296) (b % 4294967296) = Nums.flag (Nums.cm 0 32 (a % 4294967296) (b % 4294967296)) := rfl
  rw [hv]
  have hf := flag_bd (Nums.cm 0 32 (a % 4294967296) (b % 4294967296))
  generalize Nums.cm 0 32 (a % 4294967296) (b % 4294967296) = c at *
  have H := hide hh
  have hF : ∀ w : World, Calls Tryd.prog 12 #[.bool c] w fun e w' => e = .returned (.int .u64 (Nums.flag c)) ∧ w' = w := fun w => pFlag c w
  generalize Nums.flag c = x at *
  have HF := hide hf
  clear hh hv hf
  go_enter Tryd.func8, Tryd.ntmps8
  go_wp2_with fail
  refine (pShape _ _).mono ?_
  rintro e u ⟨rfl, rfl⟩
  rw [show Nums.sig 70 = (2, 127, 127) from rfl]
  go_wp2_with fail
  refine (pCut _ _ _ h0 h1).mono ?_
  rintro e u ⟨rfl, rfl⟩
  rw [cut32]
  go_wp2_with fail
  refine (pCut _ _ _ k0 k1).mono ?_
  rintro e u ⟨rfl, rfl⟩
  rw [cut32]
  go_wp2_with fail
  refine (pAlike _ _ (by decide) (by decide)).mono ?_
  rintro e u ⟨rfl, rfl⟩
  rw [show Nums.alike 70 = 70 from rfl]
  go_wp2_with fail
  refine (pHolds _ _ _ _ _ ha.1 ha.2 hb.1 hb.2).mono ?_
  rintro e u ⟨rfl, rfl⟩
  rw [H]
  go_wp2_with fail
  refine (hF _).mono ?_
  rintro e u ⟨rfl, rfl⟩
  have hf := unhide HF
  go_wp2_with fail
  refine (pCut _ _ _ (by omega) (by omega)).mono ?_
  rintro e u ⟨rfl, rfl⟩
  rw [cut32, Int.emod_eq_of_lt (by omega) (by omega)]
  go_wp2
  go_ret2
  exact ⟨rfl, rfl⟩

set_option maxHeartbeats 1000000 in
theorem pReckon71 (a b : Int) (w : World) (h0 : 0 ≤ a) (h1 : a ≤ 18446744073709551615) (k0 : 0 ≤ b) (k1 : b ≤ 18446744073709551615) :
    Calls Tryd.prog 8 #[.int .i64 71, .int .u64 a, .int .u64 b] w fun e w' => e = .returned (.tuple #[.int .u64 (Nums.cmv 1 32 (a % 4294967296) (b % 4294967296)), .int .i64 0]) ∧ w' = w := by
  have ha : 0 ≤ a % 4294967296 ∧ a % 4294967296 ≤ 18446744073709551615 := by omega
  have hb : 0 ≤ b % 4294967296 ∧ b % 4294967296 ≤ 18446744073709551615 := by omega
  have hh : Nums.pholds 71 (a % 4294967296) (b % 4294967296) (Nums.signed (a % 4294967296) 127) (Nums.signed (b % 4294967296) 127) = Nums.cm 1 32 (a % 4294967296) (b % 4294967296) := holds_cm32 1 a b (by decide)
  have hv : Nums.cmv 1 32 (a % 4294967296) (b % 4294967296) = Nums.flag (Nums.cm 1 32 (a % 4294967296) (b % 4294967296)) := rfl
  rw [hv]
  have hf := flag_bd (Nums.cm 1 32 (a % 4294967296) (b % 4294967296))
  generalize Nums.cm 1 32 (a % 4294967296) (b % 4294967296) = c at *
  have H := hide hh
  have hF : ∀ w : World, Calls Tryd.prog 12 #[.bool c] w fun e w' => e = .returned (.int .u64 (Nums.flag c)) ∧ w' = w := fun w => pFlag c w
  generalize Nums.flag c = x at *
  have HF := hide hf
  clear hh hv hf
  go_enter Tryd.func8, Tryd.ntmps8
  go_wp2_with fail
  refine (pShape _ _).mono ?_
  rintro e u ⟨rfl, rfl⟩
  rw [show Nums.sig 71 = (2, 127, 127) from rfl]
  go_wp2_with fail
  refine (pCut _ _ _ h0 h1).mono ?_
  rintro e u ⟨rfl, rfl⟩
  rw [cut32]
  go_wp2_with fail
  refine (pCut _ _ _ k0 k1).mono ?_
  rintro e u ⟨rfl, rfl⟩
  rw [cut32]
  go_wp2_with fail
  refine (pAlike _ _ (by decide) (by decide)).mono ?_
  rintro e u ⟨rfl, rfl⟩
  rw [show Nums.alike 71 = 71 from rfl]
  go_wp2_with fail
  refine (pHolds _ _ _ _ _ ha.1 ha.2 hb.1 hb.2).mono ?_
  rintro e u ⟨rfl, rfl⟩
  rw [H]
  go_wp2_with fail
  refine (hF _).mono ?_
  rintro e u ⟨rfl, rfl⟩
  have hf := unhide HF
  go_wp2_with fail
  refine (pCut _ _ _ (by omega) (by omega)).mono ?_
  rintro e u ⟨rfl, rfl⟩
  rw [cut32, Int.emod_eq_of_lt (by omega) (by omega)]
  go_wp2
  go_ret2
  exact ⟨rfl, rfl⟩

set_option maxHeartbeats 1000000 in
theorem pReckon72 (a b : Int) (w : World) (h0 : 0 ≤ a) (h1 : a ≤ 18446744073709551615) (k0 : 0 ≤ b) (k1 : b ≤ 18446744073709551615) :
    Calls Tryd.prog 8 #[.int .i64 72, .int .u64 a, .int .u64 b] w fun e w' => e = .returned (.tuple #[.int .u64 (Nums.cmv 2 32 (a % 4294967296) (b % 4294967296)), .int .i64 0]) ∧ w' = w := by
  have ha : 0 ≤ a % 4294967296 ∧ a % 4294967296 ≤ 18446744073709551615 := by omega
  have hb : 0 ≤ b % 4294967296 ∧ b % 4294967296 ≤ 18446744073709551615 := by omega
  have hh : Nums.pholds 72 (a % 4294967296) (b % 4294967296) (Nums.signed (a % 4294967296) 127) (Nums.signed (b % 4294967296) 127) = Nums.cm 2 32 (a % 4294967296) (b % 4294967296) := holds_cm32 2 a b (by decide)
  have hv : Nums.cmv 2 32 (a % 4294967296) (b % 4294967296) = Nums.flag (Nums.cm 2 32 (a % 4294967296) (b % 4294967296)) := rfl
  rw [hv]
  have hf := flag_bd (Nums.cm 2 32 (a % 4294967296) (b % 4294967296))
  generalize Nums.cm 2 32 (a % 4294967296) (b % 4294967296) = c at *
  have H := hide hh
  have hF : ∀ w : World, Calls Tryd.prog 12 #[.bool c] w fun e w' => e = .returned (.int .u64 (Nums.flag c)) ∧ w' = w := fun w => pFlag c w
  generalize Nums.flag c = x at *
  have HF := hide hf
  clear hh hv hf
  go_enter Tryd.func8, Tryd.ntmps8
  go_wp2_with fail
  refine (pShape _ _).mono ?_
  rintro e u ⟨rfl, rfl⟩
  rw [show Nums.sig 72 = (2, 127, 127) from rfl]
  go_wp2_with fail
  refine (pCut _ _ _ h0 h1).mono ?_
  rintro e u ⟨rfl, rfl⟩
  rw [cut32]
  go_wp2_with fail
  refine (pCut _ _ _ k0 k1).mono ?_
  rintro e u ⟨rfl, rfl⟩
  rw [cut32]
  go_wp2_with fail
  refine (pAlike _ _ (by decide) (by decide)).mono ?_
  rintro e u ⟨rfl, rfl⟩
  rw [show Nums.alike 72 = 72 from rfl]
  go_wp2_with fail
  refine (pHolds _ _ _ _ _ ha.1 ha.2 hb.1 hb.2).mono ?_
  rintro e u ⟨rfl, rfl⟩
  rw [H]
  go_wp2_with fail
  refine (hF _).mono ?_
  rintro e u ⟨rfl, rfl⟩
  have hf := unhide HF
  go_wp2_with fail
  refine (pCut _ _ _ (by omega) (by omega)).mono ?_
  rintro e u ⟨rfl, rfl⟩
  rw [cut32, Int.emod_eq_of_lt (by omega) (by omega)]
  go_wp2
  go_ret2
  exact ⟨rfl, rfl⟩

set_option maxHeartbeats 1000000 in
theorem pReckon73 (a b : Int) (w : World) (h0 : 0 ≤ a) (h1 : a ≤ 18446744073709551615) (k0 : 0 ≤ b) (k1 : b ≤ 18446744073709551615) :
    Calls Tryd.prog 8 #[.int .i64 73, .int .u64 a, .int .u64 b] w fun e w' => e = .returned (.tuple #[.int .u64 (Nums.cmv 3 32 (a % 4294967296) (b % 4294967296)), .int .i64 0]) ∧ w' = w := by
  have ha : 0 ≤ a % 4294967296 ∧ a % 4294967296 ≤ 18446744073709551615 := by omega
  have hb : 0 ≤ b % 4294967296 ∧ b % 4294967296 ≤ 18446744073709551615 := by omega
  have hh : Nums.pholds 73 (a % 4294967296) (b % 4294967296) (Nums.signed (a % 4294967296) 127) (Nums.signed (b % 4294967296) 127) = Nums.cm 3 32 (a % 4294967296) (b % 4294967296) := holds_cm32 3 a b (by decide)
  have hv : Nums.cmv 3 32 (a % 4294967296) (b % 4294967296) = Nums.flag (Nums.cm 3 32 (a % 4294967296) (b % 4294967296)) := rfl
  rw [hv]
  have hf := flag_bd (Nums.cm 3 32 (a % 4294967296) (b % 4294967296))
  generalize Nums.cm 3 32 (a % 4294967296) (b % 4294967296) = c at *
  have H := hide hh
  have hF : ∀ w : World, Calls Tryd.prog 12 #[.bool c] w fun e w' => e = .returned (.int .u64 (Nums.flag c)) ∧ w' = w := fun w => pFlag c w
  generalize Nums.flag c = x at *
  have HF := hide hf
  clear hh hv hf
  go_enter Tryd.func8, Tryd.ntmps8
  go_wp2_with fail
  refine (pShape _ _).mono ?_
  rintro e u ⟨rfl, rfl⟩
  rw [show Nums.sig 73 = (2, 127, 127) from rfl]
  go_wp2_with fail
  refine (pCut _ _ _ h0 h1).mono ?_
  rintro e u ⟨rfl, rfl⟩
  rw [cut32]
  go_wp2_with fail
  refine (pCut _ _ _ k0 k1).mono ?_
  rintro e u ⟨rfl, rfl⟩
  rw [cut32]
  go_wp2_with fail
  refine (pAlike _ _ (by decide) (by decide)).mono ?_
  rintro e u ⟨rfl, rfl⟩
  rw [show Nums.alike 73 = 73 from rfl]
  go_wp2_with fail
  refine (pHolds _ _ _ _ _ ha.1 ha.2 hb.1 hb.2).mono ?_
  rintro e u ⟨rfl, rfl⟩
  rw [H]
  go_wp2_with fail
  refine (hF _).mono ?_
  rintro e u ⟨rfl, rfl⟩
  have hf := unhide HF
  go_wp2_with fail
  refine (pCut _ _ _ (by omega) (by omega)).mono ?_
  rintro e u ⟨rfl, rfl⟩
  rw [cut32, Int.emod_eq_of_lt (by omega) (by omega)]
  go_wp2
  go_ret2
  exact ⟨rfl, rfl⟩

set_option maxHeartbeats 1000000 in
theorem pReckon74 (a b : Int) (w : World) (h0 : 0 ≤ a) (h1 : a ≤ 18446744073709551615) (k0 : 0 ≤ b) (k1 : b ≤ 18446744073709551615) :
    Calls Tryd.prog 8 #[.int .i64 74, .int .u64 a, .int .u64 b] w fun e w' => e = .returned (.tuple #[.int .u64 (Nums.cmv 4 32 (a % 4294967296) (b % 4294967296)), .int .i64 0]) ∧ w' = w := by
  have ha : 0 ≤ a % 4294967296 ∧ a % 4294967296 ≤ 18446744073709551615 := by omega
  have hb : 0 ≤ b % 4294967296 ∧ b % 4294967296 ≤ 18446744073709551615 := by omega
  have hh : Nums.pholds 74 (a % 4294967296) (b % 4294967296) (Nums.signed (a % 4294967296) 127) (Nums.signed (b % 4294967296) 127) = Nums.cm 4 32 (a % 4294967296) (b % 4294967296) := holds_cm32 4 a b (by decide)
  have hv : Nums.cmv 4 32 (a % 4294967296) (b % 4294967296) = Nums.flag (Nums.cm 4 32 (a % 4294967296) (b % 4294967296)) := rfl
  rw [hv]
  have hf := flag_bd (Nums.cm 4 32 (a % 4294967296) (b % 4294967296))
  generalize Nums.cm 4 32 (a % 4294967296) (b % 4294967296) = c at *
  have H := hide hh
  have hF : ∀ w : World, Calls Tryd.prog 12 #[.bool c] w fun e w' => e = .returned (.int .u64 (Nums.flag c)) ∧ w' = w := fun w => pFlag c w
  generalize Nums.flag c = x at *
  have HF := hide hf
  clear hh hv hf
  go_enter Tryd.func8, Tryd.ntmps8
  go_wp2_with fail
  refine (pShape _ _).mono ?_
  rintro e u ⟨rfl, rfl⟩
  rw [show Nums.sig 74 = (2, 127, 127) from rfl]
  go_wp2_with fail
  refine (pCut _ _ _ h0 h1).mono ?_
  rintro e u ⟨rfl, rfl⟩
  rw [cut32]
  go_wp2_with fail
  refine (pCut _ _ _ k0 k1).mono ?_
  rintro e u ⟨rfl, rfl⟩
  rw [cut32]
  go_wp2_with fail
  refine (pAlike _ _ (by decide) (by decide)).mono ?_
  rintro e u ⟨rfl, rfl⟩
  rw [show Nums.alike 74 = 74 from rfl]
  go_wp2_with fail
  refine (pHolds _ _ _ _ _ ha.1 ha.2 hb.1 hb.2).mono ?_
  rintro e u ⟨rfl, rfl⟩
  rw [H]
  go_wp2_with fail
  refine (hF _).mono ?_
  rintro e u ⟨rfl, rfl⟩
  have hf := unhide HF
  go_wp2_with fail
  refine (pCut _ _ _ (by omega) (by omega)).mono ?_
  rintro e u ⟨rfl, rfl⟩
  rw [cut32, Int.emod_eq_of_lt (by omega) (by omega)]
  go_wp2
  go_ret2
  exact ⟨rfl, rfl⟩

set_option maxHeartbeats 1000000 in
theorem pReckon75 (a b : Int) (w : World) (h0 : 0 ≤ a) (h1 : a ≤ 18446744073709551615) (k0 : 0 ≤ b) (k1 : b ≤ 18446744073709551615) :
    Calls Tryd.prog 8 #[.int .i64 75, .int .u64 a, .int .u64 b] w fun e w' => e = .returned (.tuple #[.int .u64 (Nums.cmv 5 32 (a % 4294967296) (b % 4294967296)), .int .i64 0]) ∧ w' = w := by
  have ha : 0 ≤ a % 4294967296 ∧ a % 4294967296 ≤ 18446744073709551615 := by omega
  have hb : 0 ≤ b % 4294967296 ∧ b % 4294967296 ≤ 18446744073709551615 := by omega
  have hh : Nums.pholds 75 (a % 4294967296) (b % 4294967296) (Nums.signed (a % 4294967296) 127) (Nums.signed (b % 4294967296) 127) = Nums.cm 5 32 (a % 4294967296) (b % 4294967296) := holds_cm32 5 a b (by decide)
  have hv : Nums.cmv 5 32 (a % 4294967296) (b % 4294967296) = Nums.flag (Nums.cm 5 32 (a % 4294967296) (b % 4294967296)) := rfl
  rw [hv]
  have hf := flag_bd (Nums.cm 5 32 (a % 4294967296) (b % 4294967296))
  generalize Nums.cm 5 32 (a % 4294967296) (b % 4294967296) = c at *
  have H := hide hh
  have hF : ∀ w : World, Calls Tryd.prog 12 #[.bool c] w fun e w' => e = .returned (.int .u64 (Nums.flag c)) ∧ w' = w := fun w => pFlag c w
  generalize Nums.flag c = x at *
  have HF := hide hf
  clear hh hv hf
  go_enter Tryd.func8, Tryd.ntmps8
  go_wp2_with fail
  refine (pShape _ _).mono ?_
  rintro e u ⟨rfl, rfl⟩
  rw [show Nums.sig 75 = (2, 127, 127) from rfl]
  go_wp2_with fail
  refine (pCut _ _ _ h0 h1).mono ?_
  rintro e u ⟨rfl, rfl⟩
  rw [cut32]
  go_wp2_with fail
  refine (pCut _ _ _ k0 k1).mono ?_
  rintro e u ⟨rfl, rfl⟩
  rw [cut32]
  go_wp2_with fail
  refine (pAlike _ _ (by decide) (by decide)).mono ?_
  rintro e u ⟨rfl, rfl⟩
  rw [show Nums.alike 75 = 75 from rfl]
  go_wp2_with fail
  refine (pHolds _ _ _ _ _ ha.1 ha.2 hb.1 hb.2).mono ?_
  rintro e u ⟨rfl, rfl⟩
  rw [H]
  go_wp2_with fail
  refine (hF _).mono ?_
  rintro e u ⟨rfl, rfl⟩
  have hf := unhide HF
  go_wp2_with fail
  refine (pCut _ _ _ (by omega) (by omega)).mono ?_
  rintro e u ⟨rfl, rfl⟩
  rw [cut32, Int.emod_eq_of_lt (by omega) (by omega)]
  go_wp2
  go_ret2
  exact ⟨rfl, rfl⟩

set_option maxHeartbeats 1000000 in
theorem pReckon76 (a b : Int) (w : World) (h0 : 0 ≤ a) (h1 : a ≤ 18446744073709551615) (k0 : 0 ≤ b) (k1 : b ≤ 18446744073709551615) :
    Calls Tryd.prog 8 #[.int .i64 76, .int .u64 a, .int .u64 b] w fun e w' => e = .returned (.tuple #[.int .u64 (Nums.cmv 6 32 (a % 4294967296) (b % 4294967296)), .int .i64 0]) ∧ w' = w := by
  have ha : 0 ≤ a % 4294967296 ∧ a % 4294967296 ≤ 18446744073709551615 := by omega
  have hb : 0 ≤ b % 4294967296 ∧ b % 4294967296 ≤ 18446744073709551615 := by omega
  have hh : Nums.pholds 76 (a % 4294967296) (b % 4294967296) (Nums.signed (a % 4294967296) 127) (Nums.signed (b % 4294967296) 127) = Nums.cm 6 32 (a % 4294967296) (b % 4294967296) := holds_cm32 6 a b (by decide)
  have hv : Nums.cmv 6 32 (a % 4294967296) (b % 4294967296) = Nums.flag (Nums.cm 6 32 (a % 4294967296) (b % 4294967296)) := rfl
  rw [hv]
  have hf := flag_bd (Nums.cm 6 32 (a % 4294967296) (b % 4294967296))
  generalize Nums.cm 6 32 (a % 4294967296) (b % 4294967296) = c at *
  have H := hide hh
  have hF : ∀ w : World, Calls Tryd.prog 12 #[.bool c] w fun e w' => e = .returned (.int .u64 (Nums.flag c)) ∧ w' = w := fun w => pFlag c w
  generalize Nums.flag c = x at *
  have HF := hide hf
  clear hh hv hf
  go_enter Tryd.func8, Tryd.ntmps8
  go_wp2_with fail
  refine (pShape _ _).mono ?_
  rintro e u ⟨rfl, rfl⟩
  rw [show Nums.sig 76 = (2, 127, 127) from rfl]
  go_wp2_with fail
  refine (pCut _ _ _ h0 h1).mono ?_
  rintro e u ⟨rfl, rfl⟩
  rw [cut32]
  go_wp2_with fail
  refine (pCut _ _ _ k0 k1).mono ?_
  rintro e u ⟨rfl, rfl⟩
  rw [cut32]
  go_wp2_with fail
  refine (pAlike _ _ (by decide) (by decide)).mono ?_
  rintro e u ⟨rfl, rfl⟩
  rw [show Nums.alike 76 = 76 from rfl]
  go_wp2_with fail
  refine (pHolds _ _ _ _ _ ha.1 ha.2 hb.1 hb.2).mono ?_
  rintro e u ⟨rfl, rfl⟩
  rw [H]
  go_wp2_with fail
  refine (hF _).mono ?_
  rintro e u ⟨rfl, rfl⟩
  have hf := unhide HF
  go_wp2_with fail
  refine (pCut _ _ _ (by omega) (by omega)).mono ?_
  rintro e u ⟨rfl, rfl⟩
  rw [cut32, Int.emod_eq_of_lt (by omega) (by omega)]
  go_wp2
  go_ret2
  exact ⟨rfl, rfl⟩

set_option maxHeartbeats 1000000 in
theorem pReckon77 (a b : Int) (w : World) (h0 : 0 ≤ a) (h1 : a ≤ 18446744073709551615) (k0 : 0 ≤ b) (k1 : b ≤ 18446744073709551615) :
    Calls Tryd.prog 8 #[.int .i64 77, .int .u64 a, .int .u64 b] w fun e w' => e = .returned (.tuple #[.int .u64 (Nums.cmv 7 32 (a % 4294967296) (b % 4294967296)), .int .i64 0]) ∧ w' = w := by
  have ha : 0 ≤ a % 4294967296 ∧ a % 4294967296 ≤ 18446744073709551615 := by omega
  have hb : 0 ≤ b % 4294967296 ∧ b % 4294967296 ≤ 18446744073709551615 := by omega
  have hh : Nums.pholds 77 (a % 4294967296) (b % 4294967296) (Nums.signed (a % 4294967296) 127) (Nums.signed (b % 4294967296) 127) = Nums.cm 7 32 (a % 4294967296) (b % 4294967296) := holds_cm32 7 a b (by decide)
  have hv : Nums.cmv 7 32 (a % 4294967296) (b % 4294967296) = Nums.flag (Nums.cm 7 32 (a % 4294967296) (b % 4294967296)) := rfl
  rw [hv]
  have hf := flag_bd (Nums.cm 7 32 (a % 4294967296) (b % 4294967296))
  generalize Nums.cm 7 32 (a % 4294967296) (b % 4294967296) = c at *
  have H := hide hh
  have hF : ∀ w : World, Calls Tryd.prog 12 #[.bool c] w fun e w' => e = .returned (.int .u64 (Nums.flag c)) ∧ w' = w := fun w => pFlag c w
  generalize Nums.flag c = x at *
  have HF := hide hf
  clear hh hv hf
  go_enter Tryd.func8, Tryd.ntmps8
  go_wp2_with fail
  refine (pShape _ _).mono ?_
  rintro e u ⟨rfl, rfl⟩
  rw [show Nums.sig 77 = (2, 127, 127) from rfl]
  go_wp2_with fail
  refine (pCut _ _ _ h0 h1).mono ?_
  rintro e u ⟨rfl, rfl⟩
  rw [cut32]
  go_wp2_with fail
  refine (pCut _ _ _ k0 k1).mono ?_
  rintro e u ⟨rfl, rfl⟩
  rw [cut32]
  go_wp2_with fail
  refine (pAlike _ _ (by decide) (by decide)).mono ?_
  rintro e u ⟨rfl, rfl⟩
  rw [show Nums.alike 77 = 77 from rfl]
  go_wp2_with fail
  refine (pHolds _ _ _ _ _ ha.1 ha.2 hb.1 hb.2).mono ?_
  rintro e u ⟨rfl, rfl⟩
  rw [H]
  go_wp2_with fail
  refine (hF _).mono ?_
  rintro e u ⟨rfl, rfl⟩
  have hf := unhide HF
  go_wp2_with fail
  refine (pCut _ _ _ (by omega) (by omega)).mono ?_
  rintro e u ⟨rfl, rfl⟩
  rw [cut32, Int.emod_eq_of_lt (by omega) (by omega)]
  go_wp2
  go_ret2
  exact ⟨rfl, rfl⟩

set_option maxHeartbeats 1000000 in
theorem pReckon78 (a b : Int) (w : World) (h0 : 0 ≤ a) (h1 : a ≤ 18446744073709551615) (k0 : 0 ≤ b) (k1 : b ≤ 18446744073709551615) :
    Calls Tryd.prog 8 #[.int .i64 78, .int .u64 a, .int .u64 b] w fun e w' => e = .returned (.tuple #[.int .u64 (Nums.cmv 8 32 (a % 4294967296) (b % 4294967296)), .int .i64 0]) ∧ w' = w := by
  have ha : 0 ≤ a % 4294967296 ∧ a % 4294967296 ≤ 18446744073709551615 := by omega
  have hb : 0 ≤ b % 4294967296 ∧ b % 4294967296 ≤ 18446744073709551615 := by omega
  have hh : Nums.pholds 78 (a % 4294967296) (b % 4294967296) (Nums.signed (a % 4294967296) 127) (Nums.signed (b % 4294967296) 127) = Nums.cm 8 32 (a % 4294967296) (b % 4294967296) := holds_cm32 8 a b (by decide)
  have hv : Nums.cmv 8 32 (a % 4294967296) (b % 4294967296) = Nums.flag (Nums.cm 8 32 (a % 4294967296) (b % 4294967296)) := rfl
  rw [hv]
  have hf := flag_bd (Nums.cm 8 32 (a % 4294967296) (b % 4294967296))
  generalize Nums.cm 8 32 (a % 4294967296) (b % 4294967296) = c at *
  have H := hide hh
  have hF : ∀ w : World, Calls Tryd.prog 12 #[.bool c] w fun e w' => e = .returned (.int .u64 (Nums.flag c)) ∧ w' = w := fun w => pFlag c w
  generalize Nums.flag c = x at *
  have HF := hide hf
  clear hh hv hf
  go_enter Tryd.func8, Tryd.ntmps8
  go_wp2_with fail
  refine (pShape _ _).mono ?_
  rintro e u ⟨rfl, rfl⟩
  rw [show Nums.sig 78 = (2, 127, 127) from rfl]
  go_wp2_with fail
  refine (pCut _ _ _ h0 h1).mono ?_
  rintro e u ⟨rfl, rfl⟩
  rw [cut32]
  go_wp2_with fail
  refine (pCut _ _ _ k0 k1).mono ?_
  rintro e u ⟨rfl, rfl⟩
  rw [cut32]
  go_wp2_with fail
  refine (pAlike _ _ (by decide) (by decide)).mono ?_
  rintro e u ⟨rfl, rfl⟩
  rw [show Nums.alike 78 = 78 from rfl]
  go_wp2_with fail
  refine (pHolds _ _ _ _ _ ha.1 ha.2 hb.1 hb.2).mono ?_
  rintro e u ⟨rfl, rfl⟩
  rw [H]
  go_wp2_with fail
  refine (hF _).mono ?_
  rintro e u ⟨rfl, rfl⟩
  have hf := unhide HF
  go_wp2_with fail
  refine (pCut _ _ _ (by omega) (by omega)).mono ?_
  rintro e u ⟨rfl, rfl⟩
  rw [cut32, Int.emod_eq_of_lt (by omega) (by omega)]
  go_wp2
  go_ret2
  exact ⟨rfl, rfl⟩

set_option maxHeartbeats 1000000 in
theorem pReckon79 (a b : Int) (w : World) (h0 : 0 ≤ a) (h1 : a ≤ 18446744073709551615) (k0 : 0 ≤ b) (k1 : b ≤ 18446744073709551615) :
    Calls Tryd.prog 8 #[.int .i64 79, .int .u64 a, .int .u64 b] w fun e w' => e = .returned (.tuple #[.int .u64 (Nums.cmv 9 32 (a % 4294967296) (b % 4294967296)), .int .i64 0]) ∧ w' = w := by
  have ha : 0 ≤ a % 4294967296 ∧ a % 4294967296 ≤ 18446744073709551615 := by omega
  have hb : 0 ≤ b % 4294967296 ∧ b % 4294967296 ≤ 18446744073709551615 := by omega
  have hh : Nums.pholds 79 (a % 4294967296) (b % 4294967296) (Nums.signed (a % 4294967296) 127) (Nums.signed (b % 4294967296) 127) = Nums.cm 9 32 (a % 4294967296) (b % 4294967296) := holds_cm32 9 a b (by decide)
  have hv : Nums.cmv 9 32 (a % 4294967296) (b % 4294967296) = Nums.flag (Nums.cm 9 32 (a % 4294967296) (b % 4294967296)) := rfl
  rw [hv]
  have hf := flag_bd (Nums.cm 9 32 (a % 4294967296) (b % 4294967296))
  generalize Nums.cm 9 32 (a % 4294967296) (b % 4294967296) = c at *
  have H := hide hh
  have hF : ∀ w : World, Calls Tryd.prog 12 #[.bool c] w fun e w' => e = .returned (.int .u64 (Nums.flag c)) ∧ w' = w := fun w => pFlag c w
  generalize Nums.flag c = x at *
  have HF := hide hf
  clear hh hv hf
  go_enter Tryd.func8, Tryd.ntmps8
  go_wp2_with fail
  refine (pShape _ _).mono ?_
  rintro e u ⟨rfl, rfl⟩
  rw [show Nums.sig 79 = (2, 127, 127) from rfl]
  go_wp2_with fail
  refine (pCut _ _ _ h0 h1).mono ?_
  rintro e u ⟨rfl, rfl⟩
  rw [cut32]
  go_wp2_with fail
  refine (pCut _ _ _ k0 k1).mono ?_
  rintro e u ⟨rfl, rfl⟩
  rw [cut32]
  go_wp2_with fail
  refine (pAlike _ _ (by decide) (by decide)).mono ?_
  rintro e u ⟨rfl, rfl⟩
  rw [show Nums.alike 79 = 79 from rfl]
  go_wp2_with fail
  refine (pHolds _ _ _ _ _ ha.1 ha.2 hb.1 hb.2).mono ?_
  rintro e u ⟨rfl, rfl⟩
  rw [H]
  go_wp2_with fail
  refine (hF _).mono ?_
  rintro e u ⟨rfl, rfl⟩
  have hf := unhide HF
  go_wp2_with fail
  refine (pCut _ _ _ (by omega) (by omega)).mono ?_
  rintro e u ⟨rfl, rfl⟩
  rw [cut32, Int.emod_eq_of_lt (by omega) (by omega)]
  go_wp2
  go_ret2
  exact ⟨rfl, rfl⟩

set_option maxHeartbeats 1000000 in
theorem pReckon81 (a b : Int) (w : World) (h0 : 0 ≤ a) (h1 : a ≤ 18446744073709551615) (k0 : 0 ≤ b) (k1 : b ≤ 18446744073709551615) :
    Calls Tryd.prog 8 #[.int .i64 81, .int .u64 a, .int .u64 b] w fun e w' => e = .returned (.tuple #[.int .u64 (Nums.cmv 0 64 (a) (b)), .int .i64 0]) ∧ w' = w := by
  have ha : 0 ≤ a ∧ a ≤ 18446744073709551615 := by omega
  have hb : 0 ≤ b ∧ b ≤ 18446744073709551615 := by omega
  have hh : Nums.pholds 70 (a) (b) (Nums.signed (a) 126) (Nums.signed (b) 126) = Nums.cm 0 64 (a) (b) := holds_cm64 0 a b (by decide)
  have hv : Nums.cmv 0 64 (a) (b) = Nums.flag (Nums.cm 0 64 (a) (b)) := rfl
  rw [hv]
  have hf := flag_bd (Nums.cm 0 64 (a) (b))
  generalize Nums.cm 0 64 (a) (b) = c at *
  have H := hide hh
  have hF : ∀ w : World, Calls Tryd.prog 12 #[.bool c] w fun e w' => e = .returned (.int .u64 (Nums.flag c)) ∧ w' = w := fun w => pFlag c w
  generalize Nums.flag c = x at *
  have HF := hide hf
  clear hh hv hf
  go_enter Tryd.func8, Tryd.ntmps8
  go_wp2_with fail
  refine (pShape _ _).mono ?_
  rintro e u ⟨rfl, rfl⟩
  rw [show Nums.sig 81 = (2, 126, 127) from rfl]
  go_wp2_with fail
  refine (pCut _ _ _ h0 h1).mono ?_
  rintro e u ⟨rfl, rfl⟩
  rw [cut64]
  go_wp2_with fail
  refine (pCut _ _ _ k0 k1).mono ?_
  rintro e u ⟨rfl, rfl⟩
  rw [cut64]
  go_wp2_with fail
  refine (pAlike _ _ (by decide) (by decide)).mono ?_
  rintro e u ⟨rfl, rfl⟩
  rw [show Nums.alike 81 = 70 from rfl]
  go_wp2_with fail
  refine (pHolds _ _ _ _ _ ha.1 ha.2 hb.1 hb.2).mono ?_
  rintro e u ⟨rfl, rfl⟩
  rw [H]
  go_wp2_with fail
  refine (hF _).mono ?_
  rintro e u ⟨rfl, rfl⟩
  have hf := unhide HF
  go_wp2_with fail
  refine (pCut _ _ _ (by omega) (by omega)).mono ?_
  rintro e u ⟨rfl, rfl⟩
  rw [cut32, Int.emod_eq_of_lt (by omega) (by omega)]
  go_wp2
  go_ret2
  exact ⟨rfl, rfl⟩

set_option maxHeartbeats 1000000 in
theorem pReckon82 (a b : Int) (w : World) (h0 : 0 ≤ a) (h1 : a ≤ 18446744073709551615) (k0 : 0 ≤ b) (k1 : b ≤ 18446744073709551615) :
    Calls Tryd.prog 8 #[.int .i64 82, .int .u64 a, .int .u64 b] w fun e w' => e = .returned (.tuple #[.int .u64 (Nums.cmv 1 64 (a) (b)), .int .i64 0]) ∧ w' = w := by
  have ha : 0 ≤ a ∧ a ≤ 18446744073709551615 := by omega
  have hb : 0 ≤ b ∧ b ≤ 18446744073709551615 := by omega
  have hh : Nums.pholds 71 (a) (b) (Nums.signed (a) 126) (Nums.signed (b) 126) = Nums.cm 1 64 (a) (b) := holds_cm64 1 a b (by decide)
  have hv : Nums.cmv 1 64 (a) (b) = Nums.flag (Nums.cm 1 64 (a) (b)) := rfl
  rw [hv]
  have hf := flag_bd (Nums.cm 1 64 (a) (b))
  generalize Nums.cm 1 64 (a) (b) = c at *
  have H := hide hh
  have hF : ∀ w : World, Calls Tryd.prog 12 #[.bool c] w fun e w' => e = .returned (.int .u64 (Nums.flag c)) ∧ w' = w := fun w => pFlag c w
  generalize Nums.flag c = x at *
  have HF := hide hf
  clear hh hv hf
  go_enter Tryd.func8, Tryd.ntmps8
  go_wp2_with fail
  refine (pShape _ _).mono ?_
  rintro e u ⟨rfl, rfl⟩
  rw [show Nums.sig 82 = (2, 126, 127) from rfl]
  go_wp2_with fail
  refine (pCut _ _ _ h0 h1).mono ?_
  rintro e u ⟨rfl, rfl⟩
  rw [cut64]
  go_wp2_with fail
  refine (pCut _ _ _ k0 k1).mono ?_
  rintro e u ⟨rfl, rfl⟩
  rw [cut64]
  go_wp2_with fail
  refine (pAlike _ _ (by decide) (by decide)).mono ?_
  rintro e u ⟨rfl, rfl⟩
  rw [show Nums.alike 82 = 71 from rfl]
  go_wp2_with fail
  refine (pHolds _ _ _ _ _ ha.1 ha.2 hb.1 hb.2).mono ?_
  rintro e u ⟨rfl, rfl⟩
  rw [H]
  go_wp2_with fail
  refine (hF _).mono ?_
  rintro e u ⟨rfl, rfl⟩
  have hf := unhide HF
  go_wp2_with fail
  refine (pCut _ _ _ (by omega) (by omega)).mono ?_
  rintro e u ⟨rfl, rfl⟩
  rw [cut32, Int.emod_eq_of_lt (by omega) (by omega)]
  go_wp2
  go_ret2
  exact ⟨rfl, rfl⟩

set_option maxHeartbeats 1000000 in
theorem pReckon83 (a b : Int) (w : World) (h0 : 0 ≤ a) (h1 : a ≤ 18446744073709551615) (k0 : 0 ≤ b) (k1 : b ≤ 18446744073709551615) :
    Calls Tryd.prog 8 #[.int .i64 83, .int .u64 a, .int .u64 b] w fun e w' => e = .returned (.tuple #[.int .u64 (Nums.cmv 2 64 (a) (b)), .int .i64 0]) ∧ w' = w := by
  have ha : 0 ≤ a ∧ a ≤ 18446744073709551615 := by omega
  have hb : 0 ≤ b ∧ b ≤ 18446744073709551615 := by omega
  have hh : Nums.pholds 72 (a) (b) (Nums.signed (a) 126) (Nums.signed (b) 126) = Nums.cm 2 64 (a) (b) := holds_cm64 2 a b (by decide)
  have hv : Nums.cmv 2 64 (a) (b) = Nums.flag (Nums.cm 2 64 (a) (b)) := rfl
  rw [hv]
  have hf := flag_bd (Nums.cm 2 64 (a) (b))
  generalize Nums.cm 2 64 (a) (b) = c at *
  have H := hide hh
  have hF : ∀ w : World, Calls Tryd.prog 12 #[.bool c] w fun e w' => e = .returned (.int .u64 (Nums.flag c)) ∧ w' = w := fun w => pFlag c w
  generalize Nums.flag c = x at *
  have HF := hide hf
  clear hh hv hf
  go_enter Tryd.func8, Tryd.ntmps8
  go_wp2_with fail
  refine (pShape _ _).mono ?_
  rintro e u ⟨rfl, rfl⟩
  rw [show Nums.sig 83 = (2, 126, 127) from rfl]
  go_wp2_with fail
  refine (pCut _ _ _ h0 h1).mono ?_
  rintro e u ⟨rfl, rfl⟩
  rw [cut64]
  go_wp2_with fail
  refine (pCut _ _ _ k0 k1).mono ?_
  rintro e u ⟨rfl, rfl⟩
  rw [cut64]
  go_wp2_with fail
  refine (pAlike _ _ (by decide) (by decide)).mono ?_
  rintro e u ⟨rfl, rfl⟩
  rw [show Nums.alike 83 = 72 from rfl]
  go_wp2_with fail
  refine (pHolds _ _ _ _ _ ha.1 ha.2 hb.1 hb.2).mono ?_
  rintro e u ⟨rfl, rfl⟩
  rw [H]
  go_wp2_with fail
  refine (hF _).mono ?_
  rintro e u ⟨rfl, rfl⟩
  have hf := unhide HF
  go_wp2_with fail
  refine (pCut _ _ _ (by omega) (by omega)).mono ?_
  rintro e u ⟨rfl, rfl⟩
  rw [cut32, Int.emod_eq_of_lt (by omega) (by omega)]
  go_wp2
  go_ret2
  exact ⟨rfl, rfl⟩

set_option maxHeartbeats 1000000 in
theorem pReckon84 (a b : Int) (w : World) (h0 : 0 ≤ a) (h1 : a ≤ 18446744073709551615) (k0 : 0 ≤ b) (k1 : b ≤ 18446744073709551615) :
    Calls Tryd.prog 8 #[.int .i64 84, .int .u64 a, .int .u64 b] w fun e w' => e = .returned (.tuple #[.int .u64 (Nums.cmv 3 64 (a) (b)), .int .i64 0]) ∧ w' = w := by
  have ha : 0 ≤ a ∧ a ≤ 18446744073709551615 := by omega
  have hb : 0 ≤ b ∧ b ≤ 18446744073709551615 := by omega
  have hh : Nums.pholds 73 (a) (b) (Nums.signed (a) 126) (Nums.signed (b) 126) = Nums.cm 3 64 (a) (b) := holds_cm64 3 a b (by decide)
  have hv : Nums.cmv 3 64 (a) (b) = Nums.flag (Nums.cm 3 64 (a) (b)) := rfl
  rw [hv]
  have hf := flag_bd (Nums.cm 3 64 (a) (b))
  generalize Nums.cm 3 64 (a) (b) = c at *
  have H := hide hh
  have hF : ∀ w : World, Calls Tryd.prog 12 #[.bool c] w fun e w' => e = .returned (.int .u64 (Nums.flag c)) ∧ w' = w := fun w => pFlag c w
  generalize Nums.flag c = x at *
  have HF := hide hf
  clear hh hv hf
  go_enter Tryd.func8, Tryd.ntmps8
  go_wp2_with fail
  refine (pShape _ _).mono ?_
  rintro e u ⟨rfl, rfl⟩
  rw [show Nums.sig 84 = (2, 126, 127) from rfl]
  go_wp2_with fail
  refine (pCut _ _ _ h0 h1).mono ?_
  rintro e u ⟨rfl, rfl⟩
  rw [cut64]
  go_wp2_with fail
  refine (pCut _ _ _ k0 k1).mono ?_
  rintro e u ⟨rfl, rfl⟩
  rw [cut64]
  go_wp2_with fail
  refine (pAlike _ _ (by decide) (by decide)).mono ?_
  rintro e u ⟨rfl, rfl⟩
  rw [show Nums.alike 84 = 73 from rfl]
  go_wp2_with fail
  refine (pHolds _ _ _ _ _ ha.1 ha.2 hb.1 hb.2).mono ?_
  rintro e u ⟨rfl, rfl⟩
  rw [H]
  go_wp2_with fail
  refine (hF _).mono ?_
  rintro e u ⟨rfl, rfl⟩
  have hf := unhide HF
  go_wp2_with fail
  refine (pCut _ _ _ (by omega) (by omega)).mono ?_
  rintro e u ⟨rfl, rfl⟩
  rw [cut32, Int.emod_eq_of_lt (by omega) (by omega)]
  go_wp2
  go_ret2
  exact ⟨rfl, rfl⟩

set_option maxHeartbeats 1000000 in
theorem pReckon85 (a b : Int) (w : World) (h0 : 0 ≤ a) (h1 : a ≤ 18446744073709551615) (k0 : 0 ≤ b) (k1 : b ≤ 18446744073709551615) :
    Calls Tryd.prog 8 #[.int .i64 85, .int .u64 a, .int .u64 b] w fun e w' => e = .returned (.tuple #[.int .u64 (Nums.cmv 4 64 (a) (b)), .int .i64 0]) ∧ w' = w := by
  have ha : 0 ≤ a ∧ a ≤ 18446744073709551615 := by omega
  have hb : 0 ≤ b ∧ b ≤ 18446744073709551615 := by omega
  have hh : Nums.pholds 74 (a) (b) (Nums.signed (a) 126) (Nums.signed (b) 126) = Nums.cm 4 64 (a) (b) := holds_cm64 4 a b (by decide)
  have hv : Nums.cmv 4 64 (a) (b) = Nums.flag (Nums.cm 4 64 (a) (b)) := rfl
  rw [hv]
  have hf := flag_bd (Nums.cm 4 64 (a) (b))
  generalize Nums.cm 4 64 (a) (b) = c at *
  have H := hide hh
  have hF : ∀ w : World, Calls Tryd.prog 12 #[.bool c] w fun e w' => e = .returned (.int .u64 (Nums.flag c)) ∧ w' = w := fun w => pFlag c w
  generalize Nums.flag c = x at *
  have HF := hide hf
  clear hh hv hf
  go_enter Tryd.func8, Tryd.ntmps8
  go_wp2_with fail
  refine (pShape _ _).mono ?_
  rintro e u ⟨rfl, rfl⟩
  rw [show Nums.sig 85 = (2, 126, 127) from rfl]
  go_wp2_with fail
  refine (pCut _ _ _ h0 h1).mono ?_
  rintro e u ⟨rfl, rfl⟩
  rw [cut64]
  go_wp2_with fail
  refine (pCut _ _ _ k0 k1).mono ?_
  rintro e u ⟨rfl, rfl⟩
  rw [cut64]
  go_wp2_with fail
  refine (pAlike _ _ (by decide) (by decide)).mono ?_
  rintro e u ⟨rfl, rfl⟩
  rw [show Nums.alike 85 = 74 from rfl]
  go_wp2_with fail
  refine (pHolds _ _ _ _ _ ha.1 ha.2 hb.1 hb.2).mono ?_
  rintro e u ⟨rfl, rfl⟩
  rw [H]
  go_wp2_with fail
  refine (hF _).mono ?_
  rintro e u ⟨rfl, rfl⟩
  have hf := unhide HF
  go_wp2_with fail
  refine (pCut _ _ _ (by omega) (by omega)).mono ?_
  rintro e u ⟨rfl, rfl⟩
  rw [cut32, Int.emod_eq_of_lt (by omega) (by omega)]
  go_wp2
  go_ret2
  exact ⟨rfl, rfl⟩

set_option maxHeartbeats 1000000 in
theorem pReckon86 (a b : Int) (w : World) (h0 : 0 ≤ a) (h1 : a ≤ 18446744073709551615) (k0 : 0 ≤ b) (k1 : b ≤ 18446744073709551615) :
    Calls Tryd.prog 8 #[.int .i64 86, .int .u64 a, .int .u64 b] w fun e w' => e = .returned (.tuple #[.int .u64 (Nums.cmv 5 64 (a) (b)), .int .i64 0]) ∧ w' = w := by
  have ha : 0 ≤ a ∧ a ≤ 18446744073709551615 := by omega
  have hb : 0 ≤ b ∧ b ≤ 18446744073709551615 := by omega
  have hh : Nums.pholds 75 (a) (b) (Nums.signed (a) 126) (Nums.signed (b) 126) = Nums.cm 5 64 (a) (b) := holds_cm64 5 a b (by decide)
  have hv : Nums.cmv 5 64 (a) (b) = Nums.flag (Nums.cm 5 64 (a) (b)) := rfl
  rw [hv]
  have hf := flag_bd (Nums.cm 5 64 (a) (b))
  generalize Nums.cm 5 64 (a) (b) = c at *
  have H := hide hh
  have hF : ∀ w : World, Calls Tryd.prog 12 #[.bool c] w fun e w' => e = .returned (.int .u64 (Nums.flag c)) ∧ w' = w := fun w => pFlag c w
  generalize Nums.flag c = x at *
  have HF := hide hf
  clear hh hv hf
  go_enter Tryd.func8, Tryd.ntmps8
  go_wp2_with fail
  refine (pShape _ _).mono ?_
  rintro e u ⟨rfl, rfl⟩
  rw [show Nums.sig 86 = (2, 126, 127) from rfl]
  go_wp2_with fail
  refine (pCut _ _ _ h0 h1).mono ?_
  rintro e u ⟨rfl, rfl⟩
  rw [cut64]
  go_wp2_with fail
  refine (pCut _ _ _ k0 k1).mono ?_
  rintro e u ⟨rfl, rfl⟩
  rw [cut64]
  go_wp2_with fail
  refine (pAlike _ _ (by decide) (by decide)).mono ?_
  rintro e u ⟨rfl, rfl⟩
  rw [show Nums.alike 86 = 75 from rfl]
  go_wp2_with fail
  refine (pHolds _ _ _ _ _ ha.1 ha.2 hb.1 hb.2).mono ?_
  rintro e u ⟨rfl, rfl⟩
  rw [H]
  go_wp2_with fail
  refine (hF _).mono ?_
  rintro e u ⟨rfl, rfl⟩
  have hf := unhide HF
  go_wp2_with fail
  refine (pCut _ _ _ (by omega) (by omega)).mono ?_
  rintro e u ⟨rfl, rfl⟩
  rw [cut32, Int.emod_eq_of_lt (by omega) (by omega)]
  go_wp2
  go_ret2
  exact ⟨rfl, rfl⟩

set_option maxHeartbeats 1000000 in
theorem pReckon87 (a b : Int) (w : World) (h0 : 0 ≤ a) (h1 : a ≤ 18446744073709551615) (k0 : 0 ≤ b) (k1 : b ≤ 18446744073709551615) :
    Calls Tryd.prog 8 #[.int .i64 87, .int .u64 a, .int .u64 b] w fun e w' => e = .returned (.tuple #[.int .u64 (Nums.cmv 6 64 (a) (b)), .int .i64 0]) ∧ w' = w := by
  have ha : 0 ≤ a ∧ a ≤ 18446744073709551615 := by omega
  have hb : 0 ≤ b ∧ b ≤ 18446744073709551615 := by omega
  have hh : Nums.pholds 76 (a) (b) (Nums.signed (a) 126) (Nums.signed (b) 126) = Nums.cm 6 64 (a) (b) := holds_cm64 6 a b (by decide)
  have hv : Nums.cmv 6 64 (a) (b) = Nums.flag (Nums.cm 6 64 (a) (b)) := rfl
  rw [hv]
  have hf := flag_bd (Nums.cm 6 64 (a) (b))
  generalize Nums.cm 6 64 (a) (b) = c at *
  have H := hide hh
  have hF : ∀ w : World, Calls Tryd.prog 12 #[.bool c] w fun e w' => e = .returned (.int .u64 (Nums.flag c)) ∧ w' = w := fun w => pFlag c w
  generalize Nums.flag c = x at *
  have HF := hide hf
  clear hh hv hf
  go_enter Tryd.func8, Tryd.ntmps8
  go_wp2_with fail
  refine (pShape _ _).mono ?_
  rintro e u ⟨rfl, rfl⟩
  rw [show Nums.sig 87 = (2, 126, 127) from rfl]
  go_wp2_with fail
  refine (pCut _ _ _ h0 h1).mono ?_
  rintro e u ⟨rfl, rfl⟩
  rw [cut64]
  go_wp2_with fail
  refine (pCut _ _ _ k0 k1).mono ?_
  rintro e u ⟨rfl, rfl⟩
  rw [cut64]
  go_wp2_with fail
  refine (pAlike _ _ (by decide) (by decide)).mono ?_
  rintro e u ⟨rfl, rfl⟩
  rw [show Nums.alike 87 = 76 from rfl]
  go_wp2_with fail
  refine (pHolds _ _ _ _ _ ha.1 ha.2 hb.1 hb.2).mono ?_
  rintro e u ⟨rfl, rfl⟩
  rw [H]
  go_wp2_with fail
  refine (hF _).mono ?_
  rintro e u ⟨rfl, rfl⟩
  have hf := unhide HF
  go_wp2_with fail
  refine (pCut _ _ _ (by omega) (by omega)).mono ?_
  rintro e u ⟨rfl, rfl⟩
  rw [cut32, Int.emod_eq_of_lt (by omega) (by omega)]
  go_wp2
  go_ret2
  exact ⟨rfl, rfl⟩

set_option maxHeartbeats 1000000 in
theorem pReckon88 (a b : Int) (w : World) (h0 : 0 ≤ a) (h1 : a ≤ 18446744073709551615) (k0 : 0 ≤ b) (k1 : b ≤ 18446744073709551615) :
    Calls Tryd.prog 8 #[.int .i64 88, .int .u64 a, .int .u64 b] w fun e w' => e = .returned (.tuple #[.int .u64 (Nums.cmv 7 64 (a) (b)), .int .i64 0]) ∧ w' = w := by
  have ha : 0 ≤ a ∧ a ≤ 18446744073709551615 := by omega
  have hb : 0 ≤ b ∧ b ≤ 18446744073709551615 := by omega
  have hh : Nums.pholds 77 (a) (b) (Nums.signed (a) 126) (Nums.signed (b) 126) = Nums.cm 7 64 (a) (b) := holds_cm64 7 a b (by decide)
  have hv : Nums.cmv 7 64 (a) (b) = Nums.flag (Nums.cm 7 64 (a) (b)) := rfl
  rw [hv]
  have hf := flag_bd (Nums.cm 7 64 (a) (b))
  generalize Nums.cm 7 64 (a) (b) = c at *
  have H := hide hh
  have hF : ∀ w : World, Calls Tryd.prog 12 #[.bool c] w fun e w' => e = .returned (.int .u64 (Nums.flag c)) ∧ w' = w := fun w => pFlag c w
  generalize Nums.flag c = x at *
  have HF := hide hf
  clear hh hv hf
  go_enter Tryd.func8, Tryd.ntmps8
  go_wp2_with fail
  refine (pShape _ _).mono ?_
  rintro e u ⟨rfl, rfl⟩
  rw [show Nums.sig 88 = (2, 126, 127) from rfl]
  go_wp2_with fail
  refine (pCut _ _ _ h0 h1).mono ?_
  rintro e u ⟨rfl, rfl⟩
  rw [cut64]
  go_wp2_with fail
  refine (pCut _ _ _ k0 k1).mono ?_
  rintro e u ⟨rfl, rfl⟩
  rw [cut64]
  go_wp2_with fail
  refine (pAlike _ _ (by decide) (by decide)).mono ?_
  rintro e u ⟨rfl, rfl⟩
  rw [show Nums.alike 88 = 77 from rfl]
  go_wp2_with fail
  refine (pHolds _ _ _ _ _ ha.1 ha.2 hb.1 hb.2).mono ?_
  rintro e u ⟨rfl, rfl⟩
  rw [H]
  go_wp2_with fail
  refine (hF _).mono ?_
  rintro e u ⟨rfl, rfl⟩
  have hf := unhide HF
  go_wp2_with fail
  refine (pCut _ _ _ (by omega) (by omega)).mono ?_
  rintro e u ⟨rfl, rfl⟩
  rw [cut32, Int.emod_eq_of_lt (by omega) (by omega)]
  go_wp2
  go_ret2
  exact ⟨rfl, rfl⟩

set_option maxHeartbeats 1000000 in
theorem pReckon89 (a b : Int) (w : World) (h0 : 0 ≤ a) (h1 : a ≤ 18446744073709551615) (k0 : 0 ≤ b) (k1 : b ≤ 18446744073709551615) :
    Calls Tryd.prog 8 #[.int .i64 89, .int .u64 a, .int .u64 b] w fun e w' => e = .returned (.tuple #[.int .u64 (Nums.cmv 8 64 (a) (b)), .int .i64 0]) ∧ w' = w := by
  have ha : 0 ≤ a ∧ a ≤ 18446744073709551615 := by omega
  have hb : 0 ≤ b ∧ b ≤ 18446744073709551615 := by omega
  have hh : Nums.pholds 78 (a) (b) (Nums.signed (a) 126) (Nums.signed (b) 126) = Nums.cm 8 64 (a) (b) := holds_cm64 8 a b (by decide)
  have hv : Nums.cmv 8 64 (a) (b) = Nums.flag (Nums.cm 8 64 (a) (b)) := rfl
  rw [hv]
  have hf := flag_bd (Nums.cm 8 64 (a) (b))
  generalize Nums.cm 8 64 (a) (b) = c at *
  have H := hide hh
  have hF : ∀ w : World, Calls Tryd.prog 12 #[.bool c] w fun e w' => e = .returned (.int .u64 (Nums.flag c)) ∧ w' = w := fun w => pFlag c w
  generalize Nums.flag c = x at *
  have HF := hide hf
  clear hh hv hf
  go_enter Tryd.func8, Tryd.ntmps8
  go_wp2_with fail
  refine (pShape _ _).mono ?_
  rintro e u ⟨rfl, rfl⟩
  rw [show Nums.sig 89 = (2, 126, 127) from rfl]
  go_wp2_with fail
  refine (pCut _ _ _ h0 h1).mono ?_
  rintro e u ⟨rfl, rfl⟩
  rw [cut64]
  go_wp2_with fail
  refine (pCut _ _ _ k0 k1).mono ?_
  rintro e u ⟨rfl, rfl⟩
  rw [cut64]
  go_wp2_with fail
  refine (pAlike _ _ (by decide) (by decide)).mono ?_
  rintro e u ⟨rfl, rfl⟩
  rw [show Nums.alike 89 = 78 from rfl]
  go_wp2_with fail
  refine (pHolds _ _ _ _ _ ha.1 ha.2 hb.1 hb.2).mono ?_
  rintro e u ⟨rfl, rfl⟩
  rw [H]
  go_wp2_with fail
  refine (hF _).mono ?_
  rintro e u ⟨rfl, rfl⟩
  have hf := unhide HF
  go_wp2_with fail
  refine (pCut _ _ _ (by omega) (by omega)).mono ?_
  rintro e u ⟨rfl, rfl⟩
  rw [cut32, Int.emod_eq_of_lt (by omega) (by omega)]
  go_wp2
  go_ret2
  exact ⟨rfl, rfl⟩

set_option maxHeartbeats 1000000 in
theorem pReckon90 (a b : Int) (w : World) (h0 : 0 ≤ a) (h1 : a ≤ 18446744073709551615) (k0 : 0 ≤ b) (k1 : b ≤ 18446744073709551615) :
    Calls Tryd.prog 8 #[.int .i64 90, .int .u64 a, .int .u64 b] w fun e w' => e = .returned (.tuple #[.int .u64 (Nums.cmv 9 64 (a) (b)), .int .i64 0]) ∧ w' = w := by
  have ha : 0 ≤ a ∧ a ≤ 18446744073709551615 := by omega
  have hb : 0 ≤ b ∧ b ≤ 18446744073709551615 := by omega
  have hh : Nums.pholds 79 (a) (b) (Nums.signed (a) 126) (Nums.signed (b) 126) = Nums.cm 9 64 (a) (b) := holds_cm64 9 a b (by decide)
  have hv : Nums.cmv 9 64 (a) (b) = Nums.flag (Nums.cm 9 64 (a) (b)) := rfl
  rw [hv]
  have hf := flag_bd (Nums.cm 9 64 (a) (b))
  generalize Nums.cm 9 64 (a) (b) = c at *
  have H := hide hh
  have hF : ∀ w : World, Calls Tryd.prog 12 #[.bool c] w fun e w' => e = .returned (.int .u64 (Nums.flag c)) ∧ w' = w := fun w => pFlag c w
  generalize Nums.flag c = x at *
  have HF := hide hf
  clear hh hv hf
  go_enter Tryd.func8, Tryd.ntmps8
  go_wp2_with fail
  refine (pShape _ _).mono ?_
  rintro e u ⟨rfl, rfl⟩
  rw [show Nums.sig 90 = (2, 126, 127) from rfl]
  go_wp2_with fail
  refine (pCut _ _ _ h0 h1).mono ?_
  rintro e u ⟨rfl, rfl⟩
  rw [cut64]
  go_wp2_with fail
  refine (pCut _ _ _ k0 k1).mono ?_
  rintro e u ⟨rfl, rfl⟩
  rw [cut64]
  go_wp2_with fail
  refine (pAlike _ _ (by decide) (by decide)).mono ?_
  rintro e u ⟨rfl, rfl⟩
  rw [show Nums.alike 90 = 79 from rfl]
  go_wp2_with fail
  refine (pHolds _ _ _ _ _ ha.1 ha.2 hb.1 hb.2).mono ?_
  rintro e u ⟨rfl, rfl⟩
  rw [H]
  go_wp2_with fail
  refine (hF _).mono ?_
  rintro e u ⟨rfl, rfl⟩
  have hf := unhide HF
  go_wp2_with fail
  refine (pCut _ _ _ (by omega) (by omega)).mono ?_
  rintro e u ⟨rfl, rfl⟩
  rw [cut32, Int.emod_eq_of_lt (by omega) (by omega)]
  go_wp2
  go_ret2
  exact ⟨rfl, rfl⟩

end Go.Proofs.YtilgmaabongngabDoor
