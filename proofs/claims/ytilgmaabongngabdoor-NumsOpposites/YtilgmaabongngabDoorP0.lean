/- What the program's small functions of layer 2 answer: the plain functions; nothing is changed. -/
import Derived.Test.YtilgmaabongngabDoorPure
namespace Go.Proofs.YtilgmaabongngabDoor
open Go.RowKit
set_option linter.unusedVariables false

def Nums.cut (v typ : Int) : Int := if typ = 127 then v % 4294967296 else v
def Nums.wid (typ : Int) : Int := if typ = 127 then 32 else 64
def Nums.alike (op : Int) : Int := if 80 ≤ op ∧ op ≤ 90 then op - 80 + 69 else if 121 ≤ op ∧ op ≤ 138 then op - 121 + 103 else op
def Nums.pholds (k a b x y : Int) : Bool := if k = 69 then decide (a = 0) else Nums.holds (k - 70) a b x y
theorem sg32_of' (v : Int) : wrap64 (wrap32 v) = Nums.sg 32 (v % 4294967296) := by
  have : wrap32 v = wrap32 (v % 4294967296) := by unfold wrap32; omega
  rw [this]; exact sg32_of v
def Nums.flag (c : Bool) : Int := if c = true then 1 else 0

set_option maxHeartbeats 1000000 in
theorem pShape (op : Int) (w : World) :
    Calls Tryd.prog 7 #[.int .i64 op] w fun e w' => e = .returned (.tuple #[.int .i64 (Nums.sig op).2.1, .int .i64 (Nums.sig op).1, .int .i64 (Nums.sig op).2.2]) ∧ w' = w := by
  go_enter Tryd.func7, Tryd.ntmps7
  go_wp2
  all_goals go_ret3
  all_goals refine ⟨three_ret ?_, rfl⟩
  all_goals simp only [beq_iff_eq, beq_eq_false_iff_ne, ne_eq] at *
  all_goals unfold Nums.sig
  all_goals repeat first | rw [if_neg (by omega)] | rw [if_pos (by omega)]

set_option maxHeartbeats 400000 in
theorem pWidth (typ : Int) (w : World) :
    Calls Tryd.prog 19 #[.int .i64 typ] w fun e w' => e = .returned (.int .u64 (Nums.wid typ)) ∧ w' = w := by
  go_enter Tryd.func19, Tryd.ntmps19
  go_wp2
  all_goals go_ret
  all_goals refine ⟨ret_int ?_, rfl⟩
  all_goals simp only [beq_iff_eq, beq_eq_false_iff_ne, ne_eq] at *
  all_goals simp only [Nums.wid, *, if_true, if_false]

set_option maxHeartbeats 400000 in
theorem pCut (v typ : Int) (w : World) (h0 : 0 ≤ v) (h1 : v ≤ 18446744073709551615) :
    Calls Tryd.prog 10 #[.int .u64 v, .int .i64 typ] w fun e w' => e = .returned (.int .u64 (Nums.cut v typ)) ∧ w' = w := by
  go_enter Tryd.func10, Tryd.ntmps10
  go_wp2
  all_goals go_ret
  all_goals refine ⟨ret_int ?_, rfl⟩
  all_goals simp only [beq_iff_eq, beq_eq_false_iff_ne, ne_eq] at *
  all_goals simp only [Nums.cut, *, if_true, if_false]
  all_goals first | exact Nums.and32 v h0 h1 | rfl | skip

set_option maxHeartbeats 400000 in
theorem pAlike (op : Int) (w : World) (h0 : 0 ≤ op) (h1 : op ≤ 200) :
    Calls Tryd.prog 11 #[.int .i64 op] w fun e w' => e = .returned (.int .i64 (Nums.alike op)) ∧ w' = w := by
  go_enter Tryd.func11, Tryd.ntmps11
  go_wp2
  all_goals go_ret
  all_goals refine ⟨ret_int ?_, rfl⟩
  all_goals unfold Nums.alike
  all_goals repeat first | rw [if_neg (by omega)] | rw [if_pos (by omega)]
  all_goals first | rfl | omega | skip

set_option maxHeartbeats 400000 in
theorem pFlag (c : Bool) (w : World) :
    Calls Tryd.prog 12 #[.bool c] w fun e w' => e = .returned (.int .u64 (Nums.flag c)) ∧ w' = w := by
  cases c
  all_goals
    go_enter Tryd.func12, Tryd.ntmps12
    go_wp2
    all_goals go_ret
    all_goals exact ⟨rfl, rfl⟩

set_option maxHeartbeats 400000 in
theorem pSigned (v typ : Int) (w : World) (h0 : 0 ≤ v) (h1 : v ≤ 18446744073709551615) :
    Calls Tryd.prog 9 #[.int .u64 v, .int .i64 typ] w fun e w' => e = .returned (.int .i64 (Nums.signed v typ)) ∧ w' = w := by
  go_enter Tryd.func9, Tryd.ntmps9
  go_wp2
  all_goals go_ret
  all_goals refine ⟨ret_int ?_, rfl⟩
  all_goals simp only [beq_iff_eq, beq_eq_false_iff_ne, ne_eq] at *
  all_goals simp only [Nums.signed, *, if_true, if_false]
  all_goals first | exact sg32_of' v | exact sg64_of v h0 h1 | skip

theorem cut_value (n typ : Int) (h : typ = 127 ∨ typ = 126) : Nums.cut (n % 18446744073709551616) typ = Nums.value n typ := by
  unfold Nums.cut Nums.value
  rcases h with rfl | rfl
  · rw [if_pos rfl, if_pos rfl]; omega
  · rw [if_neg (by decide), if_neg (by decide), if_pos rfl]


set_option maxHeartbeats 1000000 in
theorem pHolds (k a b typ : Int) (w : World) (h0 : 0 ≤ a) (h1 : a ≤ 18446744073709551615) (k0 : 0 ≤ b) (k1 : b ≤ 18446744073709551615) :
    Calls Tryd.prog 13 #[.int .i64 k, .int .u64 a, .int .u64 b, .int .i64 typ] w fun e w' => e = .returned (.bool (Nums.pholds k a b (Nums.signed a typ) (Nums.signed b typ))) ∧ w' = w := by
  go_enter Tryd.func13, Tryd.ntmps13
  go_wp2_with fail
  refine (pSigned _ _ _ h0 h1).mono ?_
  rintro e u ⟨rfl, rfl⟩
  go_wp2_with fail
  refine (pSigned _ _ _ k0 k1).mono ?_
  rintro e u ⟨rfl, rfl⟩
  go_wp2
  all_goals go_ret
  all_goals refine ⟨ret_bool ?_, rfl⟩
  all_goals generalize Nums.signed a typ = x
  all_goals generalize Nums.signed b typ = y
  all_goals unfold Nums.pholds
  all_goals simp only [beq_iff_eq, beq_eq_false_iff_ne, ne_eq] at *
  · rw [if_pos (by omega)]; rw [Bool.eq_iff_iff]; simp
  all_goals rw [if_neg (by omega)]
  all_goals unfold Nums.holds
  all_goals repeat first | rw [if_neg (by omega)] | rw [if_pos (by omega)]
  all_goals first | rfl | (rw [Bool.eq_iff_iff]; simp; done)
end Go.Proofs.YtilgmaabongngabDoor
