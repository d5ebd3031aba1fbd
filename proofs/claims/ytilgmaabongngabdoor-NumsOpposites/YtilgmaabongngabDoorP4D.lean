/- What the program's reckon answers, instruction by instruction; nothing is changed. -/
import Derived.Test.YtilgmaabongngabDoorP3
import Derived.Test.YtilgmaabongngabDoorP1
namespace Go.Proofs.YtilgmaabongngabDoor
open Go.RowKit
set_option linter.unusedVariables false

theorem flag_bd' (c : Bool) : 0 ≤ Nums.flag c ∧ Nums.flag c ≤ 1 := by cases c <;> decide
theorem pholds69 (a b x y : Int) : Nums.pholds 69 a b x y = decide (a = 0) := rfl
theorem flag_ite (p : Prop) [Decidable p] : Nums.flag (decide p) = if p then 1 else 0 := by unfold Nums.flag; by_cases h : p <;> simp [h]

set_option maxHeartbeats 1000000 in
theorem pReckon69 (a b : Int) (w : World) (h0 : 0 ≤ a) (h1 : a ≤ 18446744073709551615) (k0 : 0 ≤ b) (k1 : b ≤ 18446744073709551615) :
    Calls Tryd.prog 8 #[.int .i64 69, .int .u64 a, .int .u64 b] w fun e w' => e = .returned (.tuple #[.int .u64 (if a % 4294967296 = 0 then 1 else 0), .int .i64 0]) ∧ w' = w := by
  have ha : 0 ≤ a % 4294967296 ∧ a % 4294967296 ≤ 18446744073709551615 := by omega
  have hb : 0 ≤ b % 4294967296 ∧ b % 4294967296 ≤ 18446744073709551615 := by omega
  rw [← flag_ite]
  have hf := flag_bd' (decide (a % 4294967296 = 0))
  generalize hd : decide (a % 4294967296 = 0) = c at *
  have H := hide hd
  have hF : ∀ w : World, Calls Tryd.prog 12 #[.bool c] w fun e w' => e = .returned (.int .u64 (Nums.flag c)) ∧ w' = w := fun w => pFlag c w
  generalize Nums.flag c = x at *
  have HF := hide hf
  clear hd hf
  go_enter Tryd.func8, Tryd.ntmps8
  go_wp2_with fail
  refine (pShape _ _).mono ?_
  rintro e u ⟨rfl, rfl⟩
  rw [show Nums.sig 69 = (1, 127, 127) from rfl]
  go_wp2_with fail
  refine (pCut _ _ _ h0 h1).mono ?_
  rintro e u ⟨rfl, rfl⟩
  rw [cut32]
  go_wp2_with fail
  refine (pCut _ _ _ k0 k1).mono ?_
  rintro e u ⟨rfl, rfl⟩
  rw [cut32]
  go_wp2_with fail
  refine (pAlike _ _ (by decide) (by decide)).mono ?_
  rintro e u ⟨rfl, rfl⟩
  rw [show Nums.alike 69 = 69 from rfl]
  go_wp2_with fail
  refine (pHolds _ _ _ _ _ ha.1 ha.2 hb.1 hb.2).mono ?_
  rintro e u ⟨rfl, rfl⟩
  rw [pholds69, H]
  go_wp2_with fail
  refine (hF _).mono ?_
  rintro e u ⟨rfl, rfl⟩
  have hf := unhide HF
  go_wp2_with fail
  refine (pCut _ _ _ (by omega) (by omega)).mono ?_
  rintro e u ⟨rfl, rfl⟩
  rw [cut32, Int.emod_eq_of_lt (by omega) (by omega)]
  go_wp2
  go_ret2
  exact ⟨rfl, rfl⟩

set_option maxHeartbeats 1000000 in
theorem pReckon80 (a b : Int) (w : World) (h0 : 0 ≤ a) (h1 : a ≤ 18446744073709551615) (k0 : 0 ≤ b) (k1 : b ≤ 18446744073709551615) :
    Calls Tryd.prog 8 #[.int .i64 80, .int .u64 a, .int .u64 b] w fun e w' => e = .returned (.tuple #[.int .u64 (if a = 0 then 1 else 0), .int .i64 0]) ∧ w' = w := by
  have ha : 0 ≤ a ∧ a ≤ 18446744073709551615 := by omega
  have hb : 0 ≤ b ∧ b ≤ 18446744073709551615 := by omega
  rw [← flag_ite]
  have hf := flag_bd' (decide (a = 0))
  generalize hd : decide (a = 0) = c at *
  have H := hide hd
  have hF : ∀ w : World, Calls Tryd.prog 12 #[.bool c] w fun e w' => e = .returned (.int .u64 (Nums.flag c)) ∧ w' = w := fun w => pFlag c w
  generalize Nums.flag c = x at *
  have HF := hide hf
  clear hd hf
  go_enter Tryd.func8, Tryd.ntmps8
  go_wp2_with fail
  refine (pShape _ _).mono ?_
  rintro e u ⟨rfl, rfl⟩
  rw [show Nums.sig 80 = (1, 126, 127) from rfl]
  go_wp2_with fail
  refine (pCut _ _ _ h0 h1).mono ?_
  rintro e u ⟨rfl, rfl⟩
  rw [cut64]
  go_wp2_with fail
  refine (pCut _ _ _ k0 k1).mono ?_
  rintro e u ⟨rfl, rfl⟩
  rw [cut64]
  go_wp2_with fail
  refine (pAlike _ _ (by decide) (by decide)).mono ?_
  rintro e u ⟨rfl, rfl⟩
  rw [show Nums.alike 80 = 69 from rfl]
  go_wp2_with fail
  refine (pHolds _ _ _ _ _ ha.1 ha.2 hb.1 hb.2).mono ?_
  rintro e u ⟨rfl, rfl⟩
  rw [pholds69, H]
  go_wp2_with fail
  refine (hF _).mono ?_
  rintro e u ⟨rfl, rfl⟩
  have hf := unhide HF
  go_wp2_with fail
  refine (pCut _ _ _ (by omega) (by omega)).mono ?_
  rintro e u ⟨rfl, rfl⟩
  rw [cut32, Int.emod_eq_of_lt (by omega) (by omega)]
  go_wp2
  go_ret2
  exact ⟨rfl, rfl⟩

set_option maxHeartbeats 1000000 in
theorem pReckon103 (a b : Int) (w : World) (h0 : 0 ≤ a) (h1 : a ≤ 18446744073709551615) (k0 : 0 ≤ b) (k1 : b ≤ 18446744073709551615) :
    Calls Tryd.prog 8 #[.int .i64 103, .int .u64 a, .int .u64 b] w fun e w' => e = .returned (.tuple #[.int .u64 ((Nums.clz (a % 4294967296) 32) : Nat), .int .i64 0]) ∧ w' = w := by
  have ha : 0 ≤ a % 4294967296 ∧ a % 4294967296 ≤ 18446744073709551615 := by omega
  have hb : 0 ≤ b % 4294967296 ∧ b % 4294967296 ≤ 18446744073709551615 := by omega
  have hle := Nums.clz_le (a % 4294967296) 32
  have hc : ∀ w : World, Calls Tryd.prog 14 #[.int .i64 103, .int .u64 (a % 4294967296), .int .i64 127] w fun e w' => e = .returned (.int .u64 ((Nums.clz (a % 4294967296) 32) : Nat)) ∧ w' = w := by
    obtain ⟨n, hn⟩ := Int.eq_ofNat_of_zero_le ha.1
    rw [hn]
    exact fun w => pcount103_32 n w (by omega)
  generalize (Nums.clz (a % 4294967296) 32) = r at *
  go_enter Tryd.func8, Tryd.ntmps8
  go_wp2_with fail
  refine (pShape _ _).mono ?_
  rintro e u ⟨rfl, rfl⟩
  rw [show Nums.sig 103 = (1, 127, 127) from rfl]
  go_wp2_with fail
  refine (pCut _ _ _ h0 h1).mono ?_
  rintro e u ⟨rfl, rfl⟩
  rw [cut32]
  go_wp2_with fail
  refine (pCut _ _ _ k0 k1).mono ?_
  rintro e u ⟨rfl, rfl⟩
  rw [cut32]
  go_wp2_with fail
  refine (pAlike _ _ (by decide) (by decide)).mono ?_
  rintro e u ⟨rfl, rfl⟩
  rw [show Nums.alike 103 = 103 from rfl]
  go_wp2_with fail
  refine (hc _).mono ?_
  rintro e u ⟨rfl, rfl⟩
  go_wp2_with fail
  refine (pCut _ _ _ (by omega) (by omega)).mono ?_
  rintro e u ⟨rfl, rfl⟩
  rw [cut32, Int.emod_eq_of_lt (by omega) (by omega)]
  go_wp2
  go_ret2
  exact ⟨rfl, rfl⟩

set_option maxHeartbeats 1000000 in
theorem pReckon104 (a b : Int) (w : World) (h0 : 0 ≤ a) (h1 : a ≤ 18446744073709551615) (k0 : 0 ≤ b) (k1 : b ≤ 18446744073709551615) (hI : TabI w) :
    Calls Tryd.prog 8 #[.int .i64 104, .int .u64 a, .int .u64 b] w fun e w' => e = .returned (.tuple #[.int .u64 ((Nums.ctz 32 (a % 4294967296)) : Nat), .int .i64 0]) ∧ w' = w := by
  have ha : 0 ≤ a % 4294967296 ∧ a % 4294967296 ≤ 18446744073709551615 := by omega
  have hb : 0 ≤ b % 4294967296 ∧ b % 4294967296 ≤ 18446744073709551615 := by omega
  have hle := Nums.ctz_le 32 (a % 4294967296)
  have hc : ∀ w : World, TabI w → Calls Tryd.prog 14 #[.int .i64 104, .int .u64 (a % 4294967296), .int .i64 127] w fun e w' => e = .returned (.int .u64 ((Nums.ctz 32 (a % 4294967296)) : Nat)) ∧ w' = w := by
    obtain ⟨n, hn⟩ := Int.eq_ofNat_of_zero_le ha.1
    rw [hn]
    exact fun w h => pcount104_32 n w (by omega) h
  generalize (Nums.ctz 32 (a % 4294967296)) = r at *
  go_enter Tryd.func8, Tryd.ntmps8
  go_wp2_with fail
  refine (pShape _ _).mono ?_
  rintro e u ⟨rfl, rfl⟩
  rw [show Nums.sig 104 = (1, 127, 127) from rfl]
  go_wp2_with fail
  refine (pCut _ _ _ h0 h1).mono ?_
  rintro e u ⟨rfl, rfl⟩
  rw [cut32]
  go_wp2_with fail
  refine (pCut _ _ _ k0 k1).mono ?_
  rintro e u ⟨rfl, rfl⟩
  rw [cut32]
  go_wp2_with fail
  refine (pAlike _ _ (by decide) (by decide)).mono ?_
  rintro e u ⟨rfl, rfl⟩
  rw [show Nums.alike 104 = 104 from rfl]
  go_wp2_with fail
  refine (hc _ hI).mono ?_
  rintro e u ⟨rfl, rfl⟩
  go_wp2_with fail
  refine (pCut _ _ _ (by omega) (by omega)).mono ?_
  rintro e u ⟨rfl, rfl⟩
  rw [cut32, Int.emod_eq_of_lt (by omega) (by omega)]
  go_wp2
  go_ret2
  exact ⟨rfl, rfl⟩

set_option maxHeartbeats 1000000 in
theorem pReckon105 (a b : Int) (w : World) (h0 : 0 ≤ a) (h1 : a ≤ 18446744073709551615) (k0 : 0 ≤ b) (k1 : b ≤ 18446744073709551615) :
    Calls Tryd.prog 8 #[.int .i64 105, .int .u64 a, .int .u64 b] w fun e w' => e = .returned (.tuple #[.int .u64 ((Nums.pop 32 (a % 4294967296)) : Nat), .int .i64 0]) ∧ w' = w := by
  have ha : 0 ≤ a % 4294967296 ∧ a % 4294967296 ≤ 18446744073709551615 := by omega
  have hb : 0 ≤ b % 4294967296 ∧ b % 4294967296 ≤ 18446744073709551615 := by omega
  have hle := Nums.pop_le 32 (a % 4294967296)
  have hc : ∀ w : World, Calls Tryd.prog 14 #[.int .i64 105, .int .u64 (a % 4294967296), .int .i64 127] w fun e w' => e = .returned (.int .u64 ((Nums.pop 32 (a % 4294967296)) : Nat)) ∧ w' = w := by
    obtain ⟨n, hn⟩ := Int.eq_ofNat_of_zero_le ha.1
    rw [hn]
    exact fun w => pcount105_32 n w (by omega)
  generalize (Nums.pop 32 (a % 4294967296)) = r at *
  go_enter Tryd.func8, Tryd.ntmps8
  go_wp2_with fail
  refine (pShape _ _).mono ?_
  rintro e u ⟨rfl, rfl⟩
  rw [show Nums.sig 105 = (1, 127, 127) from rfl]
  go_wp2_with fail
  refine (pCut _ _ _ h0 h1).mono ?_
  rintro e u ⟨rfl, rfl⟩
  rw [cut32]
  go_wp2_with fail
  refine (pCut _ _ _ k0 k1).mono ?_
  rintro e u ⟨rfl, rfl⟩
  rw [cut32]
  go_wp2_with fail
  refine (pAlike _ _ (by decide) (by decide)).mono ?_
  rintro e u ⟨rfl, rfl⟩
  rw [show Nums.alike 105 = 105 from rfl]
  go_wp2_with fail
  refine (hc _).mono ?_
  rintro e u ⟨rfl, rfl⟩
  go_wp2_with fail
  refine (pCut _ _ _ (by omega) (by omega)).mono ?_
  rintro e u ⟨rfl, rfl⟩
  rw [cut32, Int.emod_eq_of_lt (by omega) (by omega)]
  go_wp2
  go_ret2
  exact ⟨rfl, rfl⟩

set_option maxHeartbeats 1000000 in
theorem pReckon121 (a b : Int) (w : World) (h0 : 0 ≤ a) (h1 : a ≤ 18446744073709551615) (k0 : 0 ≤ b) (k1 : b ≤ 18446744073709551615) :
    Calls Tryd.prog 8 #[.int .i64 121, .int .u64 a, .int .u64 b] w fun e w' => e = .returned (.tuple #[.int .u64 ((Nums.clz (a) 64) : Nat), .int .i64 0]) ∧ w' = w := by
  have ha : 0 ≤ a ∧ a ≤ 18446744073709551615 := by omega
  have hb : 0 ≤ b ∧ b ≤ 18446744073709551615 := by omega
  have hle := Nums.clz_le (a) 64
  have hc : ∀ w : World, Calls Tryd.prog 14 #[.int .i64 103, .int .u64 (a), .int .i64 126] w fun e w' => e = .returned (.int .u64 ((Nums.clz (a) 64) : Nat)) ∧ w' = w := by
    obtain ⟨n, hn⟩ := Int.eq_ofNat_of_zero_le ha.1
    rw [hn]
    exact fun w => pcount103_64 n w (by omega)
  generalize (Nums.clz (a) 64) = r at *
  go_enter Tryd.func8, Tryd.ntmps8
  go_wp2_with fail
  refine (pShape _ _).mono ?_
  rintro e u ⟨rfl, rfl⟩
  rw [show Nums.sig 121 = (1, 126, 126) from rfl]
  go_wp2_with fail
  refine (pCut _ _ _ h0 h1).mono ?_
  rintro e u ⟨rfl, rfl⟩
  rw [cut64]
  go_wp2_with fail
  refine (pCut _ _ _ k0 k1).mono ?_
  rintro e u ⟨rfl, rfl⟩
  rw [cut64]
  go_wp2_with fail
  refine (pAlike _ _ (by decide) (by decide)).mono ?_
  rintro e u ⟨rfl, rfl⟩
  rw [show Nums.alike 121 = 103 from rfl]
  go_wp2_with fail
  refine (hc _).mono ?_
  rintro e u ⟨rfl, rfl⟩
  go_wp2_with fail
  refine (pCut _ _ _ (by omega) (by omega)).mono ?_
  rintro e u ⟨rfl, rfl⟩
  rw [cut64]
  go_wp2
  go_ret2
  exact ⟨rfl, rfl⟩

set_option maxHeartbeats 1000000 in
theorem pReckon122 (a b : Int) (w : World) (h0 : 0 ≤ a) (h1 : a ≤ 18446744073709551615) (k0 : 0 ≤ b) (k1 : b ≤ 18446744073709551615) (hI : TabI w) :
    Calls Tryd.prog 8 #[.int .i64 122, .int .u64 a, .int .u64 b] w fun e w' => e = .returned (.tuple #[.int .u64 ((Nums.ctz 64 (a)) : Nat), .int .i64 0]) ∧ w' = w := by
  have ha : 0 ≤ a ∧ a ≤ 18446744073709551615 := by omega
  have hb : 0 ≤ b ∧ b ≤ 18446744073709551615 := by omega
  have hle := Nums.ctz_le 64 (a)
  have hc : ∀ w : World, TabI w → Calls Tryd.prog 14 #[.int .i64 104, .int .u64 (a), .int .i64 126] w fun e w' => e = .returned (.int .u64 ((Nums.ctz 64 (a)) : Nat)) ∧ w' = w := by
    obtain ⟨n, hn⟩ := Int.eq_ofNat_of_zero_le ha.1
    rw [hn]
    exact fun w h => pcount104_64 n w (by omega) h
  generalize (Nums.ctz 64 (a)) = r at *
  go_enter Tryd.func8, Tryd.ntmps8
  go_wp2_with fail
  refine (pShape _ _).mono ?_
  rintro e u ⟨rfl, rfl⟩
  rw [show Nums.sig 122 = (1, 126, 126) from rfl]
  go_wp2_with fail
  refine (pCut _ _ _ h0 h1).mono ?_
  rintro e u ⟨rfl, rfl⟩
  rw [cut64]
  go_wp2_with fail
  refine (pCut _ _ _ k0 k1).mono ?_
  rintro e u ⟨rfl, rfl⟩
  rw [cut64]
  go_wp2_with fail
  refine (pAlike _ _ (by decide) (by decide)).mono ?_
  rintro e u ⟨rfl, rfl⟩
  rw [show Nums.alike 122 = 104 from rfl]
  go_wp2_with fail
  refine (hc _ hI).mono ?_
  rintro e u ⟨rfl, rfl⟩
  go_wp2_with fail
  refine (pCut _ _ _ (by omega) (by omega)).mono ?_
  rintro e u ⟨rfl, rfl⟩
  rw [cut64]
  go_wp2
  go_ret2
  exact ⟨rfl, rfl⟩

set_option maxHeartbeats 1000000 in
theorem pReckon123 (a b : Int) (w : World) (h0 : 0 ≤ a) (h1 : a ≤ 18446744073709551615) (k0 : 0 ≤ b) (k1 : b ≤ 18446744073709551615) :
    Calls Tryd.prog 8 #[.int .i64 123, .int .u64 a, .int .u64 b] w fun e w' => e = .returned (.tuple #[.int .u64 ((Nums.pop 64 (a)) : Nat), .int .i64 0]) ∧ w' = w := by
  have ha : 0 ≤ a ∧ a ≤ 18446744073709551615 := by omega
  have hb : 0 ≤ b ∧ b ≤ 18446744073709551615 := by omega
  have hle := Nums.pop_le 64 (a)
  have hc : ∀ w : World, Calls Tryd.prog 14 #[.int .i64 105, .int .u64 (a), .int .i64 126] w fun e w' => e = .returned (.int .u64 ((Nums.pop 64 (a)) : Nat)) ∧ w' = w := by
    obtain ⟨n, hn⟩ := Int.eq_ofNat_of_zero_le ha.1
    rw [hn]
    exact fun w => pcount105_64 n w (by omega)
  generalize (Nums.pop 64 (a)) = r at *
  go_enter Tryd.func8, Tryd.ntmps8
  go_wp2_with fail
  refine (pShape _ _).mono ?_
  rintro e u ⟨rfl, rfl⟩
  rw [show Nums.sig 123 = (1, 126, 126) from rfl]
  go_wp2_with fail
  refine (pCut _ _ _ h0 h1).mono ?_
  rintro e u ⟨rfl, rfl⟩
  rw [cut64]
  go_wp2_with fail
  refine (pCut _ _ _ k0 k1).mono ?_
  rintro e u ⟨rfl, rfl⟩
  rw [cut64]
  go_wp2_with fail
  refine (pAlike _ _ (by decide) (by decide)).mono ?_
  rintro e u ⟨rfl, rfl⟩
  rw [show Nums.alike 123 = 105 from rfl]
  go_wp2_with fail
  refine (hc _).mono ?_
  rintro e u ⟨rfl, rfl⟩
  go_wp2_with fail
  refine (pCut _ _ _ (by omega) (by omega)).mono ?_
  rintro e u ⟨rfl, rfl⟩
  rw [cut64]
  go_wp2
  go_ret2
  exact ⟨rfl, rfl⟩

set_option maxHeartbeats 1000000 in
theorem pReckon167 (a b : Int) (w : World) (h0 : 0 ≤ a) (h1 : a ≤ 18446744073709551615) (k0 : 0 ≤ b) (k1 : b ≤ 18446744073709551615) :
    Calls Tryd.prog 8 #[.int .i64 167, .int .u64 a, .int .u64 b] w fun e w' => e = .returned (.tuple #[.int .u64 (a % 4294967296), .int .i64 0]) ∧ w' = w := by
  have ha : 0 ≤ a ∧ a ≤ 18446744073709551615 := by omega
  have hb : 0 ≤ b ∧ b ≤ 18446744073709551615 := by omega
  go_enter Tryd.func8, Tryd.ntmps8
  go_wp2_with fail
  refine (pShape _ _).mono ?_
  rintro e u ⟨rfl, rfl⟩
  rw [show Nums.sig 167 = (1, 126, 127) from rfl]
  go_wp2_with fail
  refine (pCut _ _ _ h0 h1).mono ?_
  rintro e u ⟨rfl, rfl⟩
  rw [cut64]
  go_wp2_with fail
  refine (pCut _ _ _ k0 k1).mono ?_
  rintro e u ⟨rfl, rfl⟩
  rw [cut64]
  go_wp2_with fail
  refine (pAlike _ _ (by decide) (by decide)).mono ?_
  rintro e u ⟨rfl, rfl⟩
  rw [show Nums.alike 167 = 167 from rfl]
  go_wp2_with fail
  refine (pCut _ _ _ ha.1 ha.2).mono ?_
  rintro e u ⟨rfl, rfl⟩
  rw [cut32]
  go_wp2
  go_ret2
  exact ⟨rfl, rfl⟩

set_option maxHeartbeats 1000000 in
theorem pReckon172 (a b : Int) (w : World) (h0 : 0 ≤ a) (h1 : a ≤ 18446744073709551615) (k0 : 0 ≤ b) (k1 : b ≤ 18446744073709551615) :
    Calls Tryd.prog 8 #[.int .i64 172, .int .u64 a, .int .u64 b] w fun e w' => e = .returned (.tuple #[.int .u64 (Nums.sg 32 (a % 4294967296) % 18446744073709551616), .int .i64 0]) ∧ w' = w := by
  have ha : 0 ≤ a % 4294967296 ∧ a % 4294967296 ≤ 18446744073709551615 := by omega
  have hb : 0 ≤ b % 4294967296 ∧ b % 4294967296 ≤ 18446744073709551615 := by omega
  go_enter Tryd.func8, Tryd.ntmps8
  go_wp2_with fail
  refine (pShape _ _).mono ?_
  rintro e u ⟨rfl, rfl⟩
  rw [show Nums.sig 172 = (1, 127, 126) from rfl]
  go_wp2_with fail
  refine (pCut _ _ _ h0 h1).mono ?_
  rintro e u ⟨rfl, rfl⟩
  rw [cut32]
  go_wp2_with fail
  refine (pCut _ _ _ k0 k1).mono ?_
  rintro e u ⟨rfl, rfl⟩
  rw [cut32]
  go_wp2_with fail
  refine (pAlike _ _ (by decide) (by decide)).mono ?_
  rintro e u ⟨rfl, rfl⟩
  rw [show Nums.alike 172 = 172 from rfl]
  go_wp2_with fail
  refine (pSigned _ _ _ ha.1 ha.2).mono ?_
  rintro e u ⟨rfl, rfl⟩
  rw [Nums.signed32]
  go_wp2_with fail
  have hw := wrap_bd (Nums.sg 32 (a % 4294967296))
  refine (pCut _ _ _ hw.1 hw.2).mono ?_
  rintro e u ⟨rfl, rfl⟩
  rw [cut64, IntKind.wrap_u64]
  go_wp2
  go_ret2
  exact ⟨rfl, rfl⟩

set_option maxHeartbeats 1000000 in
theorem pReckon173 (a b : Int) (w : World) (h0 : 0 ≤ a) (h1 : a ≤ 18446744073709551615) (k0 : 0 ≤ b) (k1 : b ≤ 18446744073709551615) :
    Calls Tryd.prog 8 #[.int .i64 173, .int .u64 a, .int .u64 b] w fun e w' => e = .returned (.tuple #[.int .u64 (a % 4294967296), .int .i64 0]) ∧ w' = w := by
  have ha : 0 ≤ a % 4294967296 ∧ a % 4294967296 ≤ 18446744073709551615 := by omega
  have hb : 0 ≤ b % 4294967296 ∧ b % 4294967296 ≤ 18446744073709551615 := by omega
  go_enter Tryd.func8, Tryd.ntmps8
  go_wp2_with fail
  refine (pShape _ _).mono ?_
  rintro e u ⟨rfl, rfl⟩
  rw [show Nums.sig 173 = (1, 127, 126) from rfl]
  go_wp2_with fail
  refine (pCut _ _ _ h0 h1).mono ?_
  rintro e u ⟨rfl, rfl⟩
  rw [cut32]
  go_wp2_with fail
  refine (pCut _ _ _ k0 k1).mono ?_
  rintro e u ⟨rfl, rfl⟩
  rw [cut32]
  go_wp2_with fail
  refine (pAlike _ _ (by decide) (by decide)).mono ?_
  rintro e u ⟨rfl, rfl⟩
  rw [show Nums.alike 173 = 173 from rfl]
  go_wp2_with fail
  refine (pCut _ _ _ ha.1 ha.2).mono ?_
  rintro e u ⟨rfl, rfl⟩
  rw [cut64]
  go_wp2
  go_ret2
  exact ⟨rfl, rfl⟩

end Go.Proofs.YtilgmaabongngabDoor
