/- What the program's functions of two values answer, one by one, by width; nothing is changed. -/
import Derived.Test.YtilgmaabongngabDoorP0
namespace Go.Proofs.YtilgmaabongngabDoor
open Go.RowKit
set_option linter.unusedVariables false

/-- an ending that hands over a value whose lower bits, by its type, are x -/
def Cuts (typ x : Int) (e : Ending) : Prop := ∃ v : Int, e = .returned (.int .u64 v) ∧ 0 ≤ v ∧ v ≤ 18446744073709551615 ∧ Nums.cut v typ = x
theorem cut32 (v : Int) : Nums.cut v 127 = v % 4294967296 := rfl
theorem cut64 (v : Int) : Nums.cut v 126 = v := rfl
theorem wrap_bd (v : Int) : 0 ≤ IntKind.u64.wrap v ∧ IntKind.u64.wrap v ≤ 18446744073709551615 := by rw [IntKind.wrap_u64]; omega
theorem em32 (b : Int) : b % 4294967296 % 32 = b % 32 := by omega
theorem ar0_32' (a b : Int) : (a % 4294967296 + b % 4294967296) % 4294967296 = (Nums.ar 0 32 (a % 4294967296) (b % 4294967296)).1 := rfl

set_option maxHeartbeats 1000000 in
theorem psum106_32 (a b : Int) (w : World) (h0 : 0 ≤ a) (h1 : a ≤ 18446744073709551615) (k0 : 0 ≤ b) (k1 : b ≤ 18446744073709551615) :
    Calls Tryd.prog 15 #[.int .i64 106, .int .u64 (a % 4294967296), .int .u64 (b % 4294967296)] w fun e w' => Cuts 127 (Nums.ar 0 32 (a % 4294967296) (b % 4294967296)).1 e ∧ w' = w := by
  have ha : 0 ≤ a % 4294967296 ∧ a % 4294967296 ≤ 18446744073709551615 := by omega
  have hb : 0 ≤ b % 4294967296 ∧ b % 4294967296 ≤ 18446744073709551615 := by omega
  go_enter Tryd.func15, Tryd.ntmps15
  go_wp2
  all_goals go_ret
  refine ⟨⟨_, rfl, ?_, ?_, ?_⟩, rfl⟩
  · first | exact (wrap_bd _).1 | omega
  · first | exact (wrap_bd _).2 | omega
  · rw [cut32]; first | exact ar0_32' a b | exact Nums.ar0_32 a b | (rw [IntKind.wrap_u64]; show _ = _ % Nums.md 32; rw [Nums.md32]; omega)

set_option maxHeartbeats 1000000 in
theorem psum107_32 (a b : Int) (w : World) (h0 : 0 ≤ a) (h1 : a ≤ 18446744073709551615) (k0 : 0 ≤ b) (k1 : b ≤ 18446744073709551615) :
    Calls Tryd.prog 15 #[.int .i64 107, .int .u64 (a % 4294967296), .int .u64 (b % 4294967296)] w fun e w' => Cuts 127 (Nums.ar 1 32 (a % 4294967296) (b % 4294967296)).1 e ∧ w' = w := by
  have ha : 0 ≤ a % 4294967296 ∧ a % 4294967296 ≤ 18446744073709551615 := by omega
  have hb : 0 ≤ b % 4294967296 ∧ b % 4294967296 ≤ 18446744073709551615 := by omega
  go_enter Tryd.func15, Tryd.ntmps15
  go_wp2
  all_goals go_ret
  refine ⟨⟨_, rfl, ?_, ?_, ?_⟩, rfl⟩
  · first | exact (wrap_bd _).1 | omega
  · first | exact (wrap_bd _).2 | omega
  · rw [cut32]; first | exact ar0_32' a b | exact Nums.ar1_32 a b | (rw [IntKind.wrap_u64]; show _ = _ % Nums.md 32; rw [Nums.md32]; omega)

set_option maxHeartbeats 1000000 in
theorem psum108_32 (a b : Int) (w : World) (h0 : 0 ≤ a) (h1 : a ≤ 18446744073709551615) (k0 : 0 ≤ b) (k1 : b ≤ 18446744073709551615) :
    Calls Tryd.prog 15 #[.int .i64 108, .int .u64 (a % 4294967296), .int .u64 (b % 4294967296)] w fun e w' => Cuts 127 (Nums.ar 2 32 (a % 4294967296) (b % 4294967296)).1 e ∧ w' = w := by
  have ha : 0 ≤ a % 4294967296 ∧ a % 4294967296 ≤ 18446744073709551615 := by omega
  have hb : 0 ≤ b % 4294967296 ∧ b % 4294967296 ≤ 18446744073709551615 := by omega
  go_enter Tryd.func15, Tryd.ntmps15
  go_wp2
  all_goals go_ret
  refine ⟨⟨_, rfl, ?_, ?_, ?_⟩, rfl⟩
  · first | exact (wrap_bd _).1 | omega
  · first | exact (wrap_bd _).2 | omega
  · rw [cut32]; first | exact ar0_32' a b | exact Nums.ar2_32 a b | (rw [IntKind.wrap_u64]; show _ = _ % Nums.md 32; rw [Nums.md32]; omega)

set_option maxHeartbeats 1000000 in
theorem pcombine113_32 (a b : Int) (w : World) (h0 : 0 ≤ a) (h1 : a ≤ 18446744073709551615) (k0 : 0 ≤ b) (k1 : b ≤ 18446744073709551615) :
    Calls Tryd.prog 17 #[.int .i64 113, .int .u64 (a % 4294967296), .int .u64 (b % 4294967296)] w fun e w' => Cuts 127 (Nums.ar 7 32 (a % 4294967296) (b % 4294967296)).1 e ∧ w' = w := by
  have ha : 0 ≤ a % 4294967296 ∧ a % 4294967296 ≤ 18446744073709551615 := by omega
  have hb : 0 ≤ b % 4294967296 ∧ b % 4294967296 ≤ 18446744073709551615 := by omega
  have hd := Nums.bits_bd .and (by simp) (a % 4294967296) (b % 4294967296)
  go_enter Tryd.func17, Tryd.ntmps17
  go_wp2
  all_goals go_ret
  exact ⟨⟨_, rfl, hd.1, hd.2, Nums.ar7_32 a b⟩, rfl⟩

set_option maxHeartbeats 1000000 in
theorem pcombine114_32 (a b : Int) (w : World) (h0 : 0 ≤ a) (h1 : a ≤ 18446744073709551615) (k0 : 0 ≤ b) (k1 : b ≤ 18446744073709551615) :
    Calls Tryd.prog 17 #[.int .i64 114, .int .u64 (a % 4294967296), .int .u64 (b % 4294967296)] w fun e w' => Cuts 127 (Nums.ar 8 32 (a % 4294967296) (b % 4294967296)).1 e ∧ w' = w := by
  have ha : 0 ≤ a % 4294967296 ∧ a % 4294967296 ≤ 18446744073709551615 := by omega
  have hb : 0 ≤ b % 4294967296 ∧ b % 4294967296 ≤ 18446744073709551615 := by omega
  have hd := Nums.bits_bd .or (by simp) (a % 4294967296) (b % 4294967296)
  go_enter Tryd.func17, Tryd.ntmps17
  go_wp2
  all_goals go_ret
  exact ⟨⟨_, rfl, hd.1, hd.2, Nums.ar8_32 a b⟩, rfl⟩

set_option maxHeartbeats 1000000 in
theorem pcombine115_32 (a b : Int) (w : World) (h0 : 0 ≤ a) (h1 : a ≤ 18446744073709551615) (k0 : 0 ≤ b) (k1 : b ≤ 18446744073709551615) :
    Calls Tryd.prog 17 #[.int .i64 115, .int .u64 (a % 4294967296), .int .u64 (b % 4294967296)] w fun e w' => Cuts 127 (Nums.ar 9 32 (a % 4294967296) (b % 4294967296)).1 e ∧ w' = w := by
  have ha : 0 ≤ a % 4294967296 ∧ a % 4294967296 ≤ 18446744073709551615 := by omega
  have hb : 0 ≤ b % 4294967296 ∧ b % 4294967296 ≤ 18446744073709551615 := by omega
  have hd := Nums.bits_bd .xor (by simp) (a % 4294967296) (b % 4294967296)
  go_enter Tryd.func17, Tryd.ntmps17
  go_wp2
  all_goals go_ret
  exact ⟨⟨_, rfl, hd.1, hd.2, Nums.ar9_32 a b⟩, rfl⟩

set_option maxHeartbeats 1000000 in
theorem pmove116_32 (a b : Int) (w : World) (h0 : 0 ≤ a) (h1 : a ≤ 18446744073709551615) (k0 : 0 ≤ b) (k1 : b ≤ 18446744073709551615) :
    Calls Tryd.prog 18 #[.int .i64 116, .int .u64 (a % 4294967296), .int .u64 (b % 4294967296), .int .i64 127] w fun e w' => Cuts 127 (Nums.ar 10 32 (a % 4294967296) (b % 4294967296)).1 e ∧ w' = w := by
  have ha : 0 ≤ a % 4294967296 ∧ a % 4294967296 ≤ 18446744073709551615 := by omega
  have hb : 0 ≤ b % 4294967296 ∧ b % 4294967296 ≤ 18446744073709551615 := by omega
  go_enter Tryd.func18, Tryd.ntmps18
  go_wp2_with fail
  refine (pWidth _ _).mono ?_
  rintro e u ⟨rfl, rfl⟩
  rw [show Nums.wid 127 = 32 from rfl]
  go_wp2
  all_goals go_ret
  refine ⟨⟨_, rfl, ?_, ?_, ?_⟩, rfl⟩
  · exact (wrap_bd _).1
  · exact (wrap_bd _).2
  · rw [cut32, ← Nums.ar10_32 a b]

set_option maxHeartbeats 1000000 in
theorem pmove117_32 (a b : Int) (w : World) (h0 : 0 ≤ a) (h1 : a ≤ 18446744073709551615) (k0 : 0 ≤ b) (k1 : b ≤ 18446744073709551615) :
    Calls Tryd.prog 18 #[.int .i64 117, .int .u64 (a % 4294967296), .int .u64 (b % 4294967296), .int .i64 127] w fun e w' => Cuts 127 (Nums.ar 11 32 (a % 4294967296) (b % 4294967296)).1 e ∧ w' = w := by
  have ha : 0 ≤ a % 4294967296 ∧ a % 4294967296 ≤ 18446744073709551615 := by omega
  have hb : 0 ≤ b % 4294967296 ∧ b % 4294967296 ≤ 18446744073709551615 := by omega
  go_enter Tryd.func18, Tryd.ntmps18
  go_wp2_with fail
  refine (pWidth _ _).mono ?_
  rintro e u ⟨rfl, rfl⟩
  rw [show Nums.wid 127 = 32 from rfl]
  go_wp2_with fail
  refine (pSigned _ _ _ ha.1 ha.2).mono ?_
  rintro e u ⟨rfl, rfl⟩
  go_wp2
  all_goals go_ret
  refine ⟨⟨_, rfl, ?_, ?_, ?_⟩, rfl⟩
  · exact (wrap_bd _).1
  · exact (wrap_bd _).2
  · rw [cut32, ← Nums.ar11_32 a b]

set_option maxHeartbeats 1000000 in
theorem pmove118_32 (a b : Int) (w : World) (h0 : 0 ≤ a) (h1 : a ≤ 18446744073709551615) (k0 : 0 ≤ b) (k1 : b ≤ 18446744073709551615) :
    Calls Tryd.prog 18 #[.int .i64 118, .int .u64 (a % 4294967296), .int .u64 (b % 4294967296), .int .i64 127] w fun e w' => Cuts 127 (Nums.ar 12 32 (a % 4294967296) (b % 4294967296)).1 e ∧ w' = w := by
  have ha : 0 ≤ a % 4294967296 ∧ a % 4294967296 ≤ 18446744073709551615 := by omega
  have hb : 0 ≤ b % 4294967296 ∧ b % 4294967296 ≤ 18446744073709551615 := by omega
  go_enter Tryd.func18, Tryd.ntmps18
  go_wp2_with fail
  refine (pWidth _ _).mono ?_
  rintro e u ⟨rfl, rfl⟩
  rw [show Nums.wid 127 = 32 from rfl]
  go_wp2
  all_goals go_ret
  refine ⟨⟨_, rfl, ?_, ?_, ?_⟩, rfl⟩
  · exact (Nums.div_bd _ _ ha.1).1
  · exact Int.le_trans (Nums.div_bd _ _ ha.1).2 ha.2
  · rw [cut32, ← Nums.ar12_32 a b]

set_option maxHeartbeats 1000000 in
theorem pmove119_32 (a b : Int) (w : World) (h0 : 0 ≤ a) (h1 : a ≤ 18446744073709551615) (k0 : 0 ≤ b) (k1 : b ≤ 18446744073709551615) :
    Calls Tryd.prog 18 #[.int .i64 119, .int .u64 (a % 4294967296), .int .u64 (b % 4294967296), .int .i64 127] w fun e w' => Cuts 127 (Nums.ar 13 32 (a % 4294967296) (b % 4294967296)).1 e ∧ w' = w := by
  have ha : 0 ≤ a % 4294967296 ∧ a % 4294967296 ≤ 18446744073709551615 := by omega
  have hb : 0 ≤ b % 4294967296 ∧ b % 4294967296 ≤ 18446744073709551615 := by omega
  go_enter Tryd.func18, Tryd.ntmps18
  go_wp2_with fail
  refine (pWidth _ _).mono ?_
  rintro e u ⟨rfl, rfl⟩
  rw [show Nums.wid 127 = 32 from rfl]
  go_wp2
  all_goals go_ret
  refine ⟨⟨_, rfl, ?_, ?_, ?_⟩, rfl⟩
  · exact (Nums.bits_bd .or (by simp) _ _).1
  · exact (Nums.bits_bd .or (by simp) _ _).2
  · rw [cut32, ← Nums.ar13_32 a b]

set_option maxHeartbeats 1000000 in
theorem pmove120_32 (a b : Int) (w : World) (h0 : 0 ≤ a) (h1 : a ≤ 18446744073709551615) (k0 : 0 ≤ b) (k1 : b ≤ 18446744073709551615) :
    Calls Tryd.prog 18 #[.int .i64 120, .int .u64 (a % 4294967296), .int .u64 (b % 4294967296), .int .i64 127] w fun e w' => Cuts 127 (Nums.ar 14 32 (a % 4294967296) (b % 4294967296)).1 e ∧ w' = w := by
  have ha : 0 ≤ a % 4294967296 ∧ a % 4294967296 ≤ 18446744073709551615 := by omega
  have hb : 0 ≤ b % 4294967296 ∧ b % 4294967296 ≤ 18446744073709551615 := by omega
  go_enter Tryd.func18, Tryd.ntmps18
  go_wp2_with fail
  refine (pWidth _ _).mono ?_
  rintro e u ⟨rfl, rfl⟩
  rw [show Nums.wid 127 = 32 from rfl]
  go_wp2
  all_goals go_ret
  refine ⟨⟨_, rfl, ?_, ?_, ?_⟩, rfl⟩
  · exact (Nums.bits_bd .or (by simp) _ _).1
  · exact (Nums.bits_bd .or (by simp) _ _).2
  · rw [cut32, ← Nums.ar14_32 a b]

set_option maxHeartbeats 1000000 in
theorem psum106_64 (a b : Int) (w : World) (h0 : 0 ≤ a) (h1 : a ≤ 18446744073709551615) (k0 : 0 ≤ b) (k1 : b ≤ 18446744073709551615) :
    Calls Tryd.prog 15 #[.int .i64 106, .int .u64 (a), .int .u64 (b)] w fun e w' => Cuts 126 (Nums.ar 0 64 (a) (b)).1 e ∧ w' = w := by
  have ha : 0 ≤ a ∧ a ≤ 18446744073709551615 := by omega
  have hb : 0 ≤ b ∧ b ≤ 18446744073709551615 := by omega
  go_enter Tryd.func15, Tryd.ntmps15
  go_wp2
  all_goals go_ret
  refine ⟨⟨_, rfl, ?_, ?_, ?_⟩, rfl⟩
  · first | exact (wrap_bd _).1 | omega
  · first | exact (wrap_bd _).2 | omega
  · rw [cut64]; first | exact ar0_32' a b | exact Nums.ar0_64 a b | (rw [IntKind.wrap_u64]; show _ = _ % Nums.md 64; rw [Nums.md64]; omega)

set_option maxHeartbeats 1000000 in
theorem psum107_64 (a b : Int) (w : World) (h0 : 0 ≤ a) (h1 : a ≤ 18446744073709551615) (k0 : 0 ≤ b) (k1 : b ≤ 18446744073709551615) :
    Calls Tryd.prog 15 #[.int .i64 107, .int .u64 (a), .int .u64 (b)] w fun e w' => Cuts 126 (Nums.ar 1 64 (a) (b)).1 e ∧ w' = w := by
  have ha : 0 ≤ a ∧ a ≤ 18446744073709551615 := by omega
  have hb : 0 ≤ b ∧ b ≤ 18446744073709551615 := by omega
  go_enter Tryd.func15, Tryd.ntmps15
  go_wp2
  all_goals go_ret
  refine ⟨⟨_, rfl, ?_, ?_, ?_⟩, rfl⟩
  · first | exact (wrap_bd _).1 | omega
  · first | exact (wrap_bd _).2 | omega
  · rw [cut64]; first | exact ar0_32' a b | exact Nums.ar1_64 a b | (rw [IntKind.wrap_u64]; show _ = _ % Nums.md 64; rw [Nums.md64]; omega)

set_option maxHeartbeats 1000000 in
theorem psum108_64 (a b : Int) (w : World) (h0 : 0 ≤ a) (h1 : a ≤ 18446744073709551615) (k0 : 0 ≤ b) (k1 : b ≤ 18446744073709551615) :
    Calls Tryd.prog 15 #[.int .i64 108, .int .u64 (a), .int .u64 (b)] w fun e w' => Cuts 126 (Nums.ar 2 64 (a) (b)).1 e ∧ w' = w := by
  have ha : 0 ≤ a ∧ a ≤ 18446744073709551615 := by omega
  have hb : 0 ≤ b ∧ b ≤ 18446744073709551615 := by omega
  go_enter Tryd.func15, Tryd.ntmps15
  go_wp2
  all_goals go_ret
  refine ⟨⟨_, rfl, ?_, ?_, ?_⟩, rfl⟩
  · first | exact (wrap_bd _).1 | omega
  · first | exact (wrap_bd _).2 | omega
  · rw [cut64]; first | exact ar0_32' a b | exact Nums.ar2_64 a b | (rw [IntKind.wrap_u64]; show _ = _ % Nums.md 64; rw [Nums.md64]; omega)

set_option maxHeartbeats 1000000 in
theorem pcombine113_64 (a b : Int) (w : World) (h0 : 0 ≤ a) (h1 : a ≤ 18446744073709551615) (k0 : 0 ≤ b) (k1 : b ≤ 18446744073709551615) :
    Calls Tryd.prog 17 #[.int .i64 113, .int .u64 (a), .int .u64 (b)] w fun e w' => Cuts 126 (Nums.ar 7 64 (a) (b)).1 e ∧ w' = w := by
  have ha : 0 ≤ a ∧ a ≤ 18446744073709551615 := by omega
  have hb : 0 ≤ b ∧ b ≤ 18446744073709551615 := by omega
  have hd := Nums.bits_bd .and (by simp) (a) (b)
  go_enter Tryd.func17, Tryd.ntmps17
  go_wp2
  all_goals go_ret
  exact ⟨⟨_, rfl, hd.1, hd.2, Nums.ar7_64 a b⟩, rfl⟩

set_option maxHeartbeats 1000000 in
theorem pcombine114_64 (a b : Int) (w : World) (h0 : 0 ≤ a) (h1 : a ≤ 18446744073709551615) (k0 : 0 ≤ b) (k1 : b ≤ 18446744073709551615) :
    Calls Tryd.prog 17 #[.int .i64 114, .int .u64 (a), .int .u64 (b)] w fun e w' => Cuts 126 (Nums.ar 8 64 (a) (b)).1 e ∧ w' = w := by
  have ha : 0 ≤ a ∧ a ≤ 18446744073709551615 := by omega
  have hb : 0 ≤ b ∧ b ≤ 18446744073709551615 := by omega
  have hd := Nums.bits_bd .or (by simp) (a) (b)
  go_enter Tryd.func17, Tryd.ntmps17
  go_wp2
  all_goals go_ret
  exact ⟨⟨_, rfl, hd.1, hd.2, Nums.ar8_64 a b⟩, rfl⟩

set_option maxHeartbeats 1000000 in
theorem pcombine115_64 (a b : Int) (w : World) (h0 : 0 ≤ a) (h1 : a ≤ 18446744073709551615) (k0 : 0 ≤ b) (k1 : b ≤ 18446744073709551615) :
    Calls Tryd.prog 17 #[.int .i64 115, .int .u64 (a), .int .u64 (b)] w fun e w' => Cuts 126 (Nums.ar 9 64 (a) (b)).1 e ∧ w' = w := by
  have ha : 0 ≤ a ∧ a ≤ 18446744073709551615 := by omega
  have hb : 0 ≤ b ∧ b ≤ 18446744073709551615 := by omega
  have hd := Nums.bits_bd .xor (by simp) (a) (b)
  go_enter Tryd.func17, Tryd.ntmps17
  go_wp2
  all_goals go_ret
  exact ⟨⟨_, rfl, hd.1, hd.2, Nums.ar9_64 a b⟩, rfl⟩

set_option maxHeartbeats 1000000 in
theorem pmove116_64 (a b : Int) (w : World) (h0 : 0 ≤ a) (h1 : a ≤ 18446744073709551615) (k0 : 0 ≤ b) (k1 : b ≤ 18446744073709551615) :
    Calls Tryd.prog 18 #[.int .i64 116, .int .u64 (a), .int .u64 (b), .int .i64 126] w fun e w' => Cuts 126 (Nums.ar 10 64 (a) (b)).1 e ∧ w' = w := by
  have ha : 0 ≤ a ∧ a ≤ 18446744073709551615 := by omega
  have hb : 0 ≤ b ∧ b ≤ 18446744073709551615 := by omega
  go_enter Tryd.func18, Tryd.ntmps18
  go_wp2_with fail
  refine (pWidth _ _).mono ?_
  rintro e u ⟨rfl, rfl⟩
  rw [show Nums.wid 126 = 64 from rfl]
  go_wp2
  all_goals go_ret
  refine ⟨⟨_, rfl, ?_, ?_, ?_⟩, rfl⟩
  · exact (wrap_bd _).1
  · exact (wrap_bd _).2
  · rw [cut64, ← Nums.ar10_64 a b]

set_option maxHeartbeats 1000000 in
theorem pmove117_64 (a b : Int) (w : World) (h0 : 0 ≤ a) (h1 : a ≤ 18446744073709551615) (k0 : 0 ≤ b) (k1 : b ≤ 18446744073709551615) :
    Calls Tryd.prog 18 #[.int .i64 117, .int .u64 (a), .int .u64 (b), .int .i64 126] w fun e w' => Cuts 126 (Nums.ar 11 64 (a) (b)).1 e ∧ w' = w := by
  have ha : 0 ≤ a ∧ a ≤ 18446744073709551615 := by omega
  have hb : 0 ≤ b ∧ b ≤ 18446744073709551615 := by omega
  go_enter Tryd.func18, Tryd.ntmps18
  go_wp2_with fail
  refine (pWidth _ _).mono ?_
  rintro e u ⟨rfl, rfl⟩
  rw [show Nums.wid 126 = 64 from rfl]
  go_wp2_with fail
  refine (pSigned _ _ _ ha.1 ha.2).mono ?_
  rintro e u ⟨rfl, rfl⟩
  go_wp2
  all_goals go_ret
  refine ⟨⟨_, rfl, ?_, ?_, ?_⟩, rfl⟩
  · exact (wrap_bd _).1
  · exact (wrap_bd _).2
  · rw [cut64, ← Nums.ar11_64 a b]

set_option maxHeartbeats 1000000 in
theorem pmove118_64 (a b : Int) (w : World) (h0 : 0 ≤ a) (h1 : a ≤ 18446744073709551615) (k0 : 0 ≤ b) (k1 : b ≤ 18446744073709551615) :
    Calls Tryd.prog 18 #[.int .i64 118, .int .u64 (a), .int .u64 (b), .int .i64 126] w fun e w' => Cuts 126 (Nums.ar 12 64 (a) (b)).1 e ∧ w' = w := by
  have ha : 0 ≤ a ∧ a ≤ 18446744073709551615 := by omega
  have hb : 0 ≤ b ∧ b ≤ 18446744073709551615 := by omega
  go_enter Tryd.func18, Tryd.ntmps18
  go_wp2_with fail
  refine (pWidth _ _).mono ?_
  rintro e u ⟨rfl, rfl⟩
  rw [show Nums.wid 126 = 64 from rfl]
  go_wp2
  all_goals go_ret
  refine ⟨⟨_, rfl, ?_, ?_, ?_⟩, rfl⟩
  · exact (Nums.div_bd _ _ ha.1).1
  · exact Int.le_trans (Nums.div_bd _ _ ha.1).2 ha.2
  · rw [cut64, ← Nums.ar12_64 a b]

set_option maxHeartbeats 1000000 in
theorem pmove119_64 (a b : Int) (w : World) (h0 : 0 ≤ a) (h1 : a ≤ 18446744073709551615) (k0 : 0 ≤ b) (k1 : b ≤ 18446744073709551615) :
    Calls Tryd.prog 18 #[.int .i64 119, .int .u64 (a), .int .u64 (b), .int .i64 126] w fun e w' => Cuts 126 (Nums.ar 13 64 (a) (b)).1 e ∧ w' = w := by
  have ha : 0 ≤ a ∧ a ≤ 18446744073709551615 := by omega
  have hb : 0 ≤ b ∧ b ≤ 18446744073709551615 := by omega
  go_enter Tryd.func18, Tryd.ntmps18
  go_wp2_with fail
  refine (pWidth _ _).mono ?_
  rintro e u ⟨rfl, rfl⟩
  rw [show Nums.wid 126 = 64 from rfl]
  go_wp2
  all_goals go_ret
  refine ⟨⟨_, rfl, ?_, ?_, ?_⟩, rfl⟩
  · exact (Nums.bits_bd .or (by simp) _ _).1
  · exact (Nums.bits_bd .or (by simp) _ _).2
  · rw [cut64, ← Nums.ar13_64 a b h0 h1]

set_option maxHeartbeats 1000000 in
theorem pmove120_64 (a b : Int) (w : World) (h0 : 0 ≤ a) (h1 : a ≤ 18446744073709551615) (k0 : 0 ≤ b) (k1 : b ≤ 18446744073709551615) :
    Calls Tryd.prog 18 #[.int .i64 120, .int .u64 (a), .int .u64 (b), .int .i64 126] w fun e w' => Cuts 126 (Nums.ar 14 64 (a) (b)).1 e ∧ w' = w := by
  have ha : 0 ≤ a ∧ a ≤ 18446744073709551615 := by omega
  have hb : 0 ≤ b ∧ b ≤ 18446744073709551615 := by omega
  go_enter Tryd.func18, Tryd.ntmps18
  go_wp2_with fail
  refine (pWidth _ _).mono ?_
  rintro e u ⟨rfl, rfl⟩
  rw [show Nums.wid 126 = 64 from rfl]
  go_wp2
  all_goals go_ret
  refine ⟨⟨_, rfl, ?_, ?_, ?_⟩, rfl⟩
  · exact (Nums.bits_bd .or (by simp) _ _).1
  · exact (Nums.bits_bd .or (by simp) _ _).2
  · rw [cut64, ← Nums.ar14_64 a b h0 h1]

end Go.Proofs.YtilgmaabongngabDoor
