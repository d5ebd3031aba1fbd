/- What the program's Form asks: whether an instruction only reckons (handed in), whether it is of floating numbers. -/
import Derived.Test.YtlpnoelolkbmmaaDoorFC
namespace Go.Proofs.YtlpnoelolkbmmaaDoor
open Go.RowKit Rep
set_option linter.unusedVariables false

namespace Rep
def rkn (op : Int) : Bool := decide ((69 ≤ op ∧ op ≤ 90) ∨ (103 ≤ op ∧ op ≤ 138) ∨ op = 167 ∨ op = 172 ∨ op = 173)
def flt (op : Int) : Bool := decide (op = 42 ∨ op = 43 ∨ op = 56 ∨ op = 57 ∨ op = 67 ∨ op = 68 ∨ (91 ≤ op ∧ op ≤ 102) ∨ (139 ≤ op ∧ op ≤ 166) ∨ (168 ≤ op ∧ op ≤ 171) ∨ (174 ≤ op ∧ op ≤ 191))
end Rep
/-- what the program's reckons is to answer, in worlds of which I holds -/
structure ReckC (I : World → Prop) : Prop where
  keep : ∀ {w w' : World}, Below w.heap.size w w' → I w → I w'
  reckons : ∀ (op : Int) (w : World), I w → Calls Tryd.prog 62 #[.int .i64 op] w fun e w' => e = .returned (.bool (rkn op)) ∧ Below w.heap.size w w'

set_option maxHeartbeats 1000000 in
theorem pfloats0 (op : Int) (w : World) (h : op ≤ 41) : Calls Tryd.prog 63 #[.int .i64 op] w fun e w' => e = .returned (.bool false) ∧ w' = w := by
  have q42 : (op == 42) = false := by rw [beq_eq_false_iff_ne]; omega
  have q43 : (op == 43) = false := by rw [beq_eq_false_iff_ne]; omega
  have q56 : (op == 56) = false := by rw [beq_eq_false_iff_ne]; omega
  have q57 : (op == 57) = false := by rw [beq_eq_false_iff_ne]; omega
  have q67 : (op == 67) = false := by rw [beq_eq_false_iff_ne]; omega
  have q68 : (op == 68) = false := by rw [beq_eq_false_iff_ne]; omega
  have a91 : decide ((91 : Int) ≤ op) = false := decide_eq_false (by omega)
  have a139 : decide ((139 : Int) ≤ op) = false := decide_eq_false (by omega)
  have a168 : decide ((168 : Int) ≤ op) = false := decide_eq_false (by omega)
  have a174 : decide ((174 : Int) ≤ op) = false := decide_eq_false (by omega)
  clear h
  go_enter Tryd.func63, Tryd.ntmps63
  go_wp2
  go_ret
  exact ⟨rfl, rfl⟩
set_option maxHeartbeats 1000000 in
theorem pfloats1 (op : Int) (w : World) (h : 42 ≤ op ∧ op ≤ 42) : Calls Tryd.prog 63 #[.int .i64 op] w fun e w' => e = .returned (.bool true) ∧ w' = w := by
  obtain rfl : op = 42 := by omega
  clear h
  go_enter Tryd.func63, Tryd.ntmps63
  go_wp2
  go_ret
  exact ⟨rfl, rfl⟩
set_option maxHeartbeats 1000000 in
theorem pfloats2 (op : Int) (w : World) (h : 43 ≤ op ∧ op ≤ 43) : Calls Tryd.prog 63 #[.int .i64 op] w fun e w' => e = .returned (.bool true) ∧ w' = w := by
  obtain rfl : op = 43 := by omega
  clear h
  go_enter Tryd.func63, Tryd.ntmps63
  go_wp2
  go_ret
  exact ⟨rfl, rfl⟩
set_option maxHeartbeats 1000000 in
theorem pfloats3 (op : Int) (w : World) (h : 44 ≤ op ∧ op ≤ 55) : Calls Tryd.prog 63 #[.int .i64 op] w fun e w' => e = .returned (.bool false) ∧ w' = w := by
  have q42 : (op == 42) = false := by rw [beq_eq_false_iff_ne]; omega
  have q43 : (op == 43) = false := by rw [beq_eq_false_iff_ne]; omega
  have q56 : (op == 56) = false := by rw [beq_eq_false_iff_ne]; omega
  have q57 : (op == 57) = false := by rw [beq_eq_false_iff_ne]; omega
  have q67 : (op == 67) = false := by rw [beq_eq_false_iff_ne]; omega
  have q68 : (op == 68) = false := by rw [beq_eq_false_iff_ne]; omega
  have a91 : decide ((91 : Int) ≤ op) = false := decide_eq_false (by omega)
  have a139 : decide ((139 : Int) ≤ op) = false := decide_eq_false (by omega)
  have a168 : decide ((168 : Int) ≤ op) = false := decide_eq_false (by omega)
  have a174 : decide ((174 : Int) ≤ op) = false := decide_eq_false (by omega)
  clear h
  go_enter Tryd.func63, Tryd.ntmps63
  go_wp2
  go_ret
  exact ⟨rfl, rfl⟩
set_option maxHeartbeats 1000000 in
theorem pfloats4 (op : Int) (w : World) (h : 56 ≤ op ∧ op ≤ 56) : Calls Tryd.prog 63 #[.int .i64 op] w fun e w' => e = .returned (.bool true) ∧ w' = w := by
  obtain rfl : op = 56 := by omega
  clear h
  go_enter Tryd.func63, Tryd.ntmps63
  go_wp2
  go_ret
  exact ⟨rfl, rfl⟩
set_option maxHeartbeats 1000000 in
theorem pfloats5 (op : Int) (w : World) (h : 57 ≤ op ∧ op ≤ 57) : Calls Tryd.prog 63 #[.int .i64 op] w fun e w' => e = .returned (.bool true) ∧ w' = w := by
  obtain rfl : op = 57 := by omega
  clear h
  go_enter Tryd.func63, Tryd.ntmps63
  go_wp2
  go_ret
  exact ⟨rfl, rfl⟩
set_option maxHeartbeats 1000000 in
theorem pfloats6 (op : Int) (w : World) (h : 58 ≤ op ∧ op ≤ 66) : Calls Tryd.prog 63 #[.int .i64 op] w fun e w' => e = .returned (.bool false) ∧ w' = w := by
  have q42 : (op == 42) = false := by rw [beq_eq_false_iff_ne]; omega
  have q43 : (op == 43) = false := by rw [beq_eq_false_iff_ne]; omega
  have q56 : (op == 56) = false := by rw [beq_eq_false_iff_ne]; omega
  have q57 : (op == 57) = false := by rw [beq_eq_false_iff_ne]; omega
  have q67 : (op == 67) = false := by rw [beq_eq_false_iff_ne]; omega
  have q68 : (op == 68) = false := by rw [beq_eq_false_iff_ne]; omega
  have a91 : decide ((91 : Int) ≤ op) = false := decide_eq_false (by omega)
  have a139 : decide ((139 : Int) ≤ op) = false := decide_eq_false (by omega)
  have a168 : decide ((168 : Int) ≤ op) = false := decide_eq_false (by omega)
  have a174 : decide ((174 : Int) ≤ op) = false := decide_eq_false (by omega)
  clear h
  go_enter Tryd.func63, Tryd.ntmps63
  go_wp2
  go_ret
  exact ⟨rfl, rfl⟩
set_option maxHeartbeats 1000000 in
theorem pfloats7 (op : Int) (w : World) (h : 67 ≤ op ∧ op ≤ 67) : Calls Tryd.prog 63 #[.int .i64 op] w fun e w' => e = .returned (.bool true) ∧ w' = w := by
  obtain rfl : op = 67 := by omega
  clear h
  go_enter Tryd.func63, Tryd.ntmps63
  go_wp2
  go_ret
  exact ⟨rfl, rfl⟩
set_option maxHeartbeats 1000000 in
theorem pfloats8 (op : Int) (w : World) (h : 68 ≤ op ∧ op ≤ 68) : Calls Tryd.prog 63 #[.int .i64 op] w fun e w' => e = .returned (.bool true) ∧ w' = w := by
  obtain rfl : op = 68 := by omega
  clear h
  go_enter Tryd.func63, Tryd.ntmps63
  go_wp2
  go_ret
  exact ⟨rfl, rfl⟩
set_option maxHeartbeats 1000000 in
theorem pfloats9 (op : Int) (w : World) (h : 69 ≤ op ∧ op ≤ 90) : Calls Tryd.prog 63 #[.int .i64 op] w fun e w' => e = .returned (.bool false) ∧ w' = w := by
  have q42 : (op == 42) = false := by rw [beq_eq_false_iff_ne]; omega
  have q43 : (op == 43) = false := by rw [beq_eq_false_iff_ne]; omega
  have q56 : (op == 56) = false := by rw [beq_eq_false_iff_ne]; omega
  have q57 : (op == 57) = false := by rw [beq_eq_false_iff_ne]; omega
  have q67 : (op == 67) = false := by rw [beq_eq_false_iff_ne]; omega
  have q68 : (op == 68) = false := by rw [beq_eq_false_iff_ne]; omega
  have a91 : decide ((91 : Int) ≤ op) = false := decide_eq_false (by omega)
  have a139 : decide ((139 : Int) ≤ op) = false := decide_eq_false (by omega)
  have a168 : decide ((168 : Int) ≤ op) = false := decide_eq_false (by omega)
  have a174 : decide ((174 : Int) ≤ op) = false := decide_eq_false (by omega)
  clear h
  go_enter Tryd.func63, Tryd.ntmps63
  go_wp2
  go_ret
  exact ⟨rfl, rfl⟩
set_option maxHeartbeats 1000000 in
theorem pfloats10 (op : Int) (w : World) (h : 91 ≤ op ∧ op ≤ 102) : Calls Tryd.prog 63 #[.int .i64 op] w fun e w' => e = .returned (.bool true) ∧ w' = w := by
  have q42 : (op == 42) = false := by rw [beq_eq_false_iff_ne]; omega
  have q43 : (op == 43) = false := by rw [beq_eq_false_iff_ne]; omega
  have q56 : (op == 56) = false := by rw [beq_eq_false_iff_ne]; omega
  have q57 : (op == 57) = false := by rw [beq_eq_false_iff_ne]; omega
  have q67 : (op == 67) = false := by rw [beq_eq_false_iff_ne]; omega
  have q68 : (op == 68) = false := by rw [beq_eq_false_iff_ne]; omega
  have a91 : decide ((91 : Int) ≤ op) = true := decide_eq_true (by omega)
  have b102 : decide (op ≤ (102 : Int)) = true := decide_eq_true (by omega)
  have a139 : decide ((139 : Int) ≤ op) = false := decide_eq_false (by omega)
  have a168 : decide ((168 : Int) ≤ op) = false := decide_eq_false (by omega)
  have a174 : decide ((174 : Int) ≤ op) = false := decide_eq_false (by omega)
  clear h
  go_enter Tryd.func63, Tryd.ntmps63
  go_wp2
  go_ret
  exact ⟨rfl, rfl⟩
set_option maxHeartbeats 1000000 in
theorem pfloats11 (op : Int) (w : World) (h : 103 ≤ op ∧ op ≤ 138) : Calls Tryd.prog 63 #[.int .i64 op] w fun e w' => e = .returned (.bool false) ∧ w' = w := by
  have q42 : (op == 42) = false := by rw [beq_eq_false_iff_ne]; omega
  have q43 : (op == 43) = false := by rw [beq_eq_false_iff_ne]; omega
  have q56 : (op == 56) = false := by rw [beq_eq_false_iff_ne]; omega
  have q57 : (op == 57) = false := by rw [beq_eq_false_iff_ne]; omega
  have q67 : (op == 67) = false := by rw [beq_eq_false_iff_ne]; omega
  have q68 : (op == 68) = false := by rw [beq_eq_false_iff_ne]; omega
  have a91 : decide ((91 : Int) ≤ op) = true := decide_eq_true (by omega)
  have b102 : decide (op ≤ (102 : Int)) = false := decide_eq_false (by omega)
  have a139 : decide ((139 : Int) ≤ op) = false := decide_eq_false (by omega)
  have a168 : decide ((168 : Int) ≤ op) = false := decide_eq_false (by omega)
  have a174 : decide ((174 : Int) ≤ op) = false := decide_eq_false (by omega)
  clear h
  go_enter Tryd.func63, Tryd.ntmps63
  go_wp2
  go_ret
  exact ⟨rfl, rfl⟩
set_option maxHeartbeats 1000000 in
theorem pfloats12 (op : Int) (w : World) (h : 139 ≤ op ∧ op ≤ 166) : Calls Tryd.prog 63 #[.int .i64 op] w fun e w' => e = .returned (.bool true) ∧ w' = w := by
  have q42 : (op == 42) = false := by rw [beq_eq_false_iff_ne]; omega
  have q43 : (op == 43) = false := by rw [beq_eq_false_iff_ne]; omega
  have q56 : (op == 56) = false := by rw [beq_eq_false_iff_ne]; omega
  have q57 : (op == 57) = false := by rw [beq_eq_false_iff_ne]; omega
  have q67 : (op == 67) = false := by rw [beq_eq_false_iff_ne]; omega
  have q68 : (op == 68) = false := by rw [beq_eq_false_iff_ne]; omega
  have a91 : decide ((91 : Int) ≤ op) = true := decide_eq_true (by omega)
  have b102 : decide (op ≤ (102 : Int)) = false := decide_eq_false (by omega)
  have a139 : decide ((139 : Int) ≤ op) = true := decide_eq_true (by omega)
  have b166 : decide (op ≤ (166 : Int)) = true := decide_eq_true (by omega)
  have a168 : decide ((168 : Int) ≤ op) = false := decide_eq_false (by omega)
  have a174 : decide ((174 : Int) ≤ op) = false := decide_eq_false (by omega)
  clear h
  go_enter Tryd.func63, Tryd.ntmps63
  go_wp2
  go_ret
  exact ⟨rfl, rfl⟩
set_option maxHeartbeats 1000000 in
theorem pfloats13 (op : Int) (w : World) (h : 167 ≤ op ∧ op ≤ 167) : Calls Tryd.prog 63 #[.int .i64 op] w fun e w' => e = .returned (.bool false) ∧ w' = w := by
  obtain rfl : op = 167 := by omega
  clear h
  go_enter Tryd.func63, Tryd.ntmps63
  go_wp2
  go_ret
  exact ⟨rfl, rfl⟩
set_option maxHeartbeats 1000000 in
theorem pfloats14 (op : Int) (w : World) (h : 168 ≤ op ∧ op ≤ 171) : Calls Tryd.prog 63 #[.int .i64 op] w fun e w' => e = .returned (.bool true) ∧ w' = w := by
  have q42 : (op == 42) = false := by rw [beq_eq_false_iff_ne]; omega
  have q43 : (op == 43) = false := by rw [beq_eq_false_iff_ne]; omega
  have q56 : (op == 56) = false := by rw [beq_eq_false_iff_ne]; omega
  have q57 : (op == 57) = false := by rw [beq_eq_false_iff_ne]; omega
  have q67 : (op == 67) = false := by rw [beq_eq_false_iff_ne]; omega
  have q68 : (op == 68) = false := by rw [beq_eq_false_iff_ne]; omega
  have a91 : decide ((91 : Int) ≤ op) = true := decide_eq_true (by omega)
  have b102 : decide (op ≤ (102 : Int)) = false := decide_eq_false (by omega)
  have a139 : decide ((139 : Int) ≤ op) = true := decide_eq_true (by omega)
  have b166 : decide (op ≤ (166 : Int)) = false := decide_eq_false (by omega)
  have a168 : decide ((168 : Int) ≤ op) = true := decide_eq_true (by omega)
  have b171 : decide (op ≤ (171 : Int)) = true := decide_eq_true (by omega)
  have a174 : decide ((174 : Int) ≤ op) = false := decide_eq_false (by omega)
  clear h
  go_enter Tryd.func63, Tryd.ntmps63
  go_wp2
  go_ret
  exact ⟨rfl, rfl⟩
set_option maxHeartbeats 1000000 in
theorem pfloats15 (op : Int) (w : World) (h : 172 ≤ op ∧ op ≤ 173) : Calls Tryd.prog 63 #[.int .i64 op] w fun e w' => e = .returned (.bool false) ∧ w' = w := by
  have q42 : (op == 42) = false := by rw [beq_eq_false_iff_ne]; omega
  have q43 : (op == 43) = false := by rw [beq_eq_false_iff_ne]; omega
  have q56 : (op == 56) = false := by rw [beq_eq_false_iff_ne]; omega
  have q57 : (op == 57) = false := by rw [beq_eq_false_iff_ne]; omega
  have q67 : (op == 67) = false := by rw [beq_eq_false_iff_ne]; omega
  have q68 : (op == 68) = false := by rw [beq_eq_false_iff_ne]; omega
  have a91 : decide ((91 : Int) ≤ op) = true := decide_eq_true (by omega)
  have b102 : decide (op ≤ (102 : Int)) = false := decide_eq_false (by omega)
  have a139 : decide ((139 : Int) ≤ op) = true := decide_eq_true (by omega)
  have b166 : decide (op ≤ (166 : Int)) = false := decide_eq_false (by omega)
  have a168 : decide ((168 : Int) ≤ op) = true := decide_eq_true (by omega)
  have b171 : decide (op ≤ (171 : Int)) = false := decide_eq_false (by omega)
  have a174 : decide ((174 : Int) ≤ op) = false := decide_eq_false (by omega)
  clear h
  go_enter Tryd.func63, Tryd.ntmps63
  go_wp2
  go_ret
  exact ⟨rfl, rfl⟩
set_option maxHeartbeats 1000000 in
theorem pfloats16 (op : Int) (w : World) (h : 174 ≤ op ∧ op ≤ 191) : Calls Tryd.prog 63 #[.int .i64 op] w fun e w' => e = .returned (.bool true) ∧ w' = w := by
  have q42 : (op == 42) = false := by rw [beq_eq_false_iff_ne]; omega
  have q43 : (op == 43) = false := by rw [beq_eq_false_iff_ne]; omega
  have q56 : (op == 56) = false := by rw [beq_eq_false_iff_ne]; omega
  have q57 : (op == 57) = false := by rw [beq_eq_false_iff_ne]; omega
  have q67 : (op == 67) = false := by rw [beq_eq_false_iff_ne]; omega
  have q68 : (op == 68) = false := by rw [beq_eq_false_iff_ne]; omega
  have a91 : decide ((91 : Int) ≤ op) = true := decide_eq_true (by omega)
  have b102 : decide (op ≤ (102 : Int)) = false := decide_eq_false (by omega)
  have a139 : decide ((139 : Int) ≤ op) = true := decide_eq_true (by omega)
  have b166 : decide (op ≤ (166 : Int)) = false := decide_eq_false (by omega)
  have a168 : decide ((168 : Int) ≤ op) = true := decide_eq_true (by omega)
  have b171 : decide (op ≤ (171 : Int)) = false := decide_eq_false (by omega)
  have a174 : decide ((174 : Int) ≤ op) = true := decide_eq_true (by omega)
  have b191 : decide (op ≤ (191 : Int)) = true := decide_eq_true (by omega)
  clear h
  go_enter Tryd.func63, Tryd.ntmps63
  go_wp2
  go_ret
  exact ⟨rfl, rfl⟩
set_option maxHeartbeats 1000000 in
theorem pfloats17 (op : Int) (w : World) (h : 192 ≤ op) : Calls Tryd.prog 63 #[.int .i64 op] w fun e w' => e = .returned (.bool false) ∧ w' = w := by
  have q42 : (op == 42) = false := by rw [beq_eq_false_iff_ne]; omega
  have q43 : (op == 43) = false := by rw [beq_eq_false_iff_ne]; omega
  have q56 : (op == 56) = false := by rw [beq_eq_false_iff_ne]; omega
  have q57 : (op == 57) = false := by rw [beq_eq_false_iff_ne]; omega
  have q67 : (op == 67) = false := by rw [beq_eq_false_iff_ne]; omega
  have q68 : (op == 68) = false := by rw [beq_eq_false_iff_ne]; omega
  have a91 : decide ((91 : Int) ≤ op) = true := decide_eq_true (by omega)
  have b102 : decide (op ≤ (102 : Int)) = false := decide_eq_false (by omega)
  have a139 : decide ((139 : Int) ≤ op) = true := decide_eq_true (by omega)
  have b166 : decide (op ≤ (166 : Int)) = false := decide_eq_false (by omega)
  have a168 : decide ((168 : Int) ≤ op) = true := decide_eq_true (by omega)
  have b171 : decide (op ≤ (171 : Int)) = false := decide_eq_false (by omega)
  have a174 : decide ((174 : Int) ≤ op) = true := decide_eq_true (by omega)
  have b191 : decide (op ≤ (191 : Int)) = false := decide_eq_false (by omega)
  clear h
  go_enter Tryd.func63, Tryd.ntmps63
  go_wp2
  go_ret
  exact ⟨rfl, rfl⟩
theorem pfloats (op : Int) (w : World) : Calls Tryd.prog 63 #[.int .i64 op] w fun e w' => e = .returned (.bool (flt op)) ∧ w' = w := by
  by_cases c0 : op ≤ 41
  · rw [show flt op = false from decide_eq_false (by omega)]; exact pfloats0 op w (by omega)
  by_cases c1 : op ≤ 42
  · rw [show flt op = true from decide_eq_true (by omega)]; exact pfloats1 op w (by omega)
  by_cases c2 : op ≤ 43
  · rw [show flt op = true from decide_eq_true (by omega)]; exact pfloats2 op w (by omega)
  by_cases c3 : op ≤ 55
  · rw [show flt op = false from decide_eq_false (by omega)]; exact pfloats3 op w (by omega)
  by_cases c4 : op ≤ 56
  · rw [show flt op = true from decide_eq_true (by omega)]; exact pfloats4 op w (by omega)
  by_cases c5 : op ≤ 57
  · rw [show flt op = true from decide_eq_true (by omega)]; exact pfloats5 op w (by omega)
  by_cases c6 : op ≤ 66
  · rw [show flt op = false from decide_eq_false (by omega)]; exact pfloats6 op w (by omega)
  by_cases c7 : op ≤ 67
  · rw [show flt op = true from decide_eq_true (by omega)]; exact pfloats7 op w (by omega)
  by_cases c8 : op ≤ 68
  · rw [show flt op = true from decide_eq_true (by omega)]; exact pfloats8 op w (by omega)
  by_cases c9 : op ≤ 90
  · rw [show flt op = false from decide_eq_false (by omega)]; exact pfloats9 op w (by omega)
  by_cases c10 : op ≤ 102
  · rw [show flt op = true from decide_eq_true (by omega)]; exact pfloats10 op w (by omega)
  by_cases c11 : op ≤ 138
  · rw [show flt op = false from decide_eq_false (by omega)]; exact pfloats11 op w (by omega)
  by_cases c12 : op ≤ 166
  · rw [show flt op = true from decide_eq_true (by omega)]; exact pfloats12 op w (by omega)
  by_cases c13 : op ≤ 167
  · rw [show flt op = false from decide_eq_false (by omega)]; exact pfloats13 op w (by omega)
  by_cases c14 : op ≤ 171
  · rw [show flt op = true from decide_eq_true (by omega)]; exact pfloats14 op w (by omega)
  by_cases c15 : op ≤ 173
  · rw [show flt op = false from decide_eq_false (by omega)]; exact pfloats15 op w (by omega)
  by_cases c16 : op ≤ 191
  · rw [show flt op = true from decide_eq_true (by omega)]; exact pfloats16 op w (by omega)
  rw [show flt op = false from decide_eq_false (by omega)]; exact pfloats17 op w (by omega)
end Go.Proofs.YtlpnoelolkbmmaaDoor
