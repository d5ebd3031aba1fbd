/- QJ1: several texts in one. -/
import Derived.Test.YtloelineidlenaaGreatDoorForm0
import Derived.Test.YtloelineidlenaaGreatDoorQJ0
import Derived.Lib.AppendZeros
import Derived.Deep.AppendSrc
import Derived.Test.YtloelineidlenaaGreatDoorW8
import Derived.Defers
import Derived.Recover
import Derived.Laws.Pointers
import Derived.Test.YtloelineidlenaaGreatDoorW1
import Derived.Test.YtloelineidlenaaGreatDoorW5
import Derived.Test.YtloelineidlenaaGreatDoorW10
import Derived.Lib.ValidU
namespace Go.Proofs.YtloelineidlenaaGreatDoor
open Go.RowKit Rep
set_option linter.unusedVariables false

set_option maxHeartbeats 1000000 in
theorem refForm28 (op : Int) (w : World) (h : 64 ≤ op ∧ op ≤ 64) : Calls Tryz.prog 127 #[.int .i64 op] w fun e w' => e = .returned (.int .i64 1) ∧ w' = w := by
  have hs := sig_pos op
  have hp : decide (0 < (Nums.sig op).1) = false := by exact decide_eq_false (fun hp => by have := hs.1 hp; omega)
  clear hs
  obtain rfl : op = 64 := by omega
  clear h
  go_enter Tryz.func127, Tryz.ntmps127
  go_wp2_with fail
  refine (refSig _ _).mono ?_
  rintro e u ⟨rfl, rfl⟩
  generalize Nums.sig 64 = t at *
  go_wp2
  go_ret
  exact ⟨rfl, rfl⟩

set_option maxHeartbeats 1000000 in
theorem refForm29 (op : Int) (w : World) (h : 65 ≤ op ∧ op ≤ 65) : Calls Tryz.prog 127 #[.int .i64 op] w fun e w' => e = .returned (.int .i64 9) ∧ w' = w := by
  have hs := sig_pos op
  have hp : decide (0 < (Nums.sig op).1) = false := by exact decide_eq_false (fun hp => by have := hs.1 hp; omega)
  clear hs
  obtain rfl : op = 65 := by omega
  clear h
  go_enter Tryz.func127, Tryz.ntmps127
  go_wp2_with fail
  refine (refSig _ _).mono ?_
  rintro e u ⟨rfl, rfl⟩
  generalize Nums.sig 65 = t at *
  go_wp2_with fail
  refine (refIn _ _ _ _).mono ?_
  rintro e u ⟨rfl, rfl⟩
  rw [show decide ((32 : Int) ≤ 65 ∧ (65 : Int) ≤ 36) = false by decide]
  go_wp2_with fail
  refine (refIn _ _ _ _).mono ?_
  rintro e u ⟨rfl, rfl⟩
  rw [show decide ((44 : Int) ≤ 65 ∧ (65 : Int) ≤ 55) = false by decide]
  go_wp2_with fail
  refine (refIn _ _ _ _).mono ?_
  rintro e u ⟨rfl, rfl⟩
  rw [show decide ((58 : Int) ≤ 65 ∧ (65 : Int) ≤ 62) = false by decide]
  go_wp2
  go_ret
  exact ⟨rfl, rfl⟩

set_option maxHeartbeats 1000000 in
theorem refForm30 (op : Int) (w : World) (h : 66 ≤ op ∧ op ≤ 66) : Calls Tryz.prog 127 #[.int .i64 op] w fun e w' => e = .returned (.int .i64 9) ∧ w' = w := by
  have hs := sig_pos op
  have hp : decide (0 < (Nums.sig op).1) = false := by exact decide_eq_false (fun hp => by have := hs.1 hp; omega)
  clear hs
  obtain rfl : op = 66 := by omega
  clear h
  go_enter Tryz.func127, Tryz.ntmps127
  go_wp2_with fail
  refine (refSig _ _).mono ?_
  rintro e u ⟨rfl, rfl⟩
  generalize Nums.sig 66 = t at *
  go_wp2_with fail
  refine (refIn _ _ _ _).mono ?_
  rintro e u ⟨rfl, rfl⟩
  rw [show decide ((32 : Int) ≤ 66 ∧ (66 : Int) ≤ 36) = false by decide]
  go_wp2_with fail
  refine (refIn _ _ _ _).mono ?_
  rintro e u ⟨rfl, rfl⟩
  rw [show decide ((44 : Int) ≤ 66 ∧ (66 : Int) ≤ 55) = false by decide]
  go_wp2_with fail
  refine (refIn _ _ _ _).mono ?_
  rintro e u ⟨rfl, rfl⟩
  rw [show decide ((58 : Int) ≤ 66 ∧ (66 : Int) ≤ 62) = false by decide]
  go_wp2
  go_ret
  exact ⟨rfl, rfl⟩

set_option maxHeartbeats 1000000 in
theorem refForm31 (op : Int) (w : World) (h : 67 ≤ op ∧ op ≤ 67) : Calls Tryz.prog 127 #[.int .i64 op] w fun e w' => e = .returned (.int .i64 10) ∧ w' = w := by
  have hs := sig_pos op
  have hp : decide (0 < (Nums.sig op).1) = false := by exact decide_eq_false (fun hp => by have := hs.1 hp; omega)
  clear hs
  obtain rfl : op = 67 := by omega
  clear h
  go_enter Tryz.func127, Tryz.ntmps127
  go_wp2_with fail
  refine (refSig _ _).mono ?_
  rintro e u ⟨rfl, rfl⟩
  generalize Nums.sig 67 = t at *
  go_wp2_with fail
  refine (refIn _ _ _ _).mono ?_
  rintro e u ⟨rfl, rfl⟩
  rw [show decide ((32 : Int) ≤ 67 ∧ (67 : Int) ≤ 36) = false by decide]
  go_wp2_with fail
  refine (refIn _ _ _ _).mono ?_
  rintro e u ⟨rfl, rfl⟩
  rw [show decide ((44 : Int) ≤ 67 ∧ (67 : Int) ≤ 55) = false by decide]
  go_wp2_with fail
  refine (refIn _ _ _ _).mono ?_
  rintro e u ⟨rfl, rfl⟩
  rw [show decide ((58 : Int) ≤ 67 ∧ (67 : Int) ≤ 62) = false by decide]
  go_wp2
  go_ret
  exact ⟨rfl, rfl⟩

set_option maxHeartbeats 1000000 in
theorem refForm32 (op : Int) (w : World) (h : 68 ≤ op ∧ op ≤ 68) : Calls Tryz.prog 127 #[.int .i64 op] w fun e w' => e = .returned (.int .i64 10) ∧ w' = w := by
  have hs := sig_pos op
  have hp : decide (0 < (Nums.sig op).1) = false := by exact decide_eq_false (fun hp => by have := hs.1 hp; omega)
  clear hs
  obtain rfl : op = 68 := by omega
  clear h
  go_enter Tryz.func127, Tryz.ntmps127
  go_wp2_with fail
  refine (refSig _ _).mono ?_
  rintro e u ⟨rfl, rfl⟩
  generalize Nums.sig 68 = t at *
  go_wp2_with fail
  refine (refIn _ _ _ _).mono ?_
  rintro e u ⟨rfl, rfl⟩
  rw [show decide ((32 : Int) ≤ 68 ∧ (68 : Int) ≤ 36) = false by decide]
  go_wp2_with fail
  refine (refIn _ _ _ _).mono ?_
  rintro e u ⟨rfl, rfl⟩
  rw [show decide ((44 : Int) ≤ 68 ∧ (68 : Int) ≤ 55) = false by decide]
  go_wp2_with fail
  refine (refIn _ _ _ _).mono ?_
  rintro e u ⟨rfl, rfl⟩
  rw [show decide ((58 : Int) ≤ 68 ∧ (68 : Int) ≤ 62) = false by decide]
  go_wp2
  go_ret
  exact ⟨rfl, rfl⟩

set_option maxHeartbeats 1000000 in
theorem refForm33 (op : Int) (w : World) (h : 69 ≤ op ∧ op ≤ 90) : Calls Tryz.prog 127 #[.int .i64 op] w fun e w' => e = .returned (.int .i64 1) ∧ w' = w := by
  have hs := sig_pos op
  have hp : decide (0 < (Nums.sig op).1) = true := by exact decide_eq_true (hs.2 (by omega))
  clear hs
  have q0 : (op == 0) = false := by rw [beq_eq_false_iff_ne]; omega
  have q1 : (op == 1) = false := by rw [beq_eq_false_iff_ne]; omega
  have q15 : (op == 15) = false := by rw [beq_eq_false_iff_ne]; omega
  have q26 : (op == 26) = false := by rw [beq_eq_false_iff_ne]; omega
  have q27 : (op == 27) = false := by rw [beq_eq_false_iff_ne]; omega
  have q63 : (op == 63) = false := by rw [beq_eq_false_iff_ne]; omega
  have q64 : (op == 64) = false := by rw [beq_eq_false_iff_ne]; omega
  have q2 : (op == 2) = false := by rw [beq_eq_false_iff_ne]; omega
  have q3 : (op == 3) = false := by rw [beq_eq_false_iff_ne]; omega
  have q4 : (op == 4) = false := by rw [beq_eq_false_iff_ne]; omega
  have q12 : (op == 12) = false := by rw [beq_eq_false_iff_ne]; omega
  have q13 : (op == 13) = false := by rw [beq_eq_false_iff_ne]; omega
  have q14 : (op == 14) = false := by rw [beq_eq_false_iff_ne]; omega
  have q16 : (op == 16) = false := by rw [beq_eq_false_iff_ne]; omega
  have q17 : (op == 17) = false := by rw [beq_eq_false_iff_ne]; omega
  have q40 : (op == 40) = false := by rw [beq_eq_false_iff_ne]; omega
  have q41 : (op == 41) = false := by rw [beq_eq_false_iff_ne]; omega
  have q65 : (op == 65) = false := by rw [beq_eq_false_iff_ne]; omega
  have q66 : (op == 66) = false := by rw [beq_eq_false_iff_ne]; omega
  have q42 : (op == 42) = false := by rw [beq_eq_false_iff_ne]; omega
  have q43 : (op == 43) = false := by rw [beq_eq_false_iff_ne]; omega
  have q56 : (op == 56) = false := by rw [beq_eq_false_iff_ne]; omega
  have q57 : (op == 57) = false := by rw [beq_eq_false_iff_ne]; omega
  have q67 : (op == 67) = false := by rw [beq_eq_false_iff_ne]; omega
  have q68 : (op == 68) = false := by rw [beq_eq_false_iff_ne]; omega
  have r32 : decide (32 ≤ op ∧ op ≤ 36) = false := decide_eq_false (by omega)
  have R32 := hideM r32
  clear r32
  have r44 : decide (44 ≤ op ∧ op ≤ 55) = false := decide_eq_false (by omega)
  have R44 := hideM r44
  clear r44
  have r58 : decide (58 ≤ op ∧ op ≤ 62) = false := decide_eq_false (by omega)
  have R58 := hideM r58
  clear r58
  have r91 : decide (91 ≤ op ∧ op ≤ 102) = false := decide_eq_false (by omega)
  have R91 := hideM r91
  clear r91
  have r139 : decide (139 ≤ op ∧ op ≤ 166) = false := decide_eq_false (by omega)
  have R139 := hideM r139
  clear r139
  have r168 : decide (168 ≤ op ∧ op ≤ 171) = false := decide_eq_false (by omega)
  have R168 := hideM r168
  clear r168
  have r174 : decide (174 ≤ op ∧ op ≤ 191) = false := decide_eq_false (by omega)
  have R174 := hideM r174
  clear r174
  clear h
  go_enter Tryz.func127, Tryz.ntmps127
  go_wp2_with fail
  refine (refSig _ _).mono ?_
  rintro e u ⟨rfl, rfl⟩
  generalize Nums.sig op = t at *
  go_wp2
  go_ret
  exact ⟨rfl, rfl⟩

set_option maxHeartbeats 1000000 in
theorem refForm34 (op : Int) (w : World) (h : 91 ≤ op ∧ op ≤ 102) : Calls Tryz.prog 127 #[.int .i64 op] w fun e w' => e = .returned (.int .i64 10) ∧ w' = w := by
  have hs := sig_pos op
  have hp : decide (0 < (Nums.sig op).1) = false := by exact decide_eq_false (fun hp => by have := hs.1 hp; omega)
  clear hs
  have q0 : (op == 0) = false := by rw [beq_eq_false_iff_ne]; omega
  have q1 : (op == 1) = false := by rw [beq_eq_false_iff_ne]; omega
  have q15 : (op == 15) = false := by rw [beq_eq_false_iff_ne]; omega
  have q26 : (op == 26) = false := by rw [beq_eq_false_iff_ne]; omega
  have q27 : (op == 27) = false := by rw [beq_eq_false_iff_ne]; omega
  have q63 : (op == 63) = false := by rw [beq_eq_false_iff_ne]; omega
  have q64 : (op == 64) = false := by rw [beq_eq_false_iff_ne]; omega
  have q2 : (op == 2) = false := by rw [beq_eq_false_iff_ne]; omega
  have q3 : (op == 3) = false := by rw [beq_eq_false_iff_ne]; omega
  have q4 : (op == 4) = false := by rw [beq_eq_false_iff_ne]; omega
  have q12 : (op == 12) = false := by rw [beq_eq_false_iff_ne]; omega
  have q13 : (op == 13) = false := by rw [beq_eq_false_iff_ne]; omega
  have q14 : (op == 14) = false := by rw [beq_eq_false_iff_ne]; omega
  have q16 : (op == 16) = false := by rw [beq_eq_false_iff_ne]; omega
  have q17 : (op == 17) = false := by rw [beq_eq_false_iff_ne]; omega
  have q40 : (op == 40) = false := by rw [beq_eq_false_iff_ne]; omega
  have q41 : (op == 41) = false := by rw [beq_eq_false_iff_ne]; omega
  have q65 : (op == 65) = false := by rw [beq_eq_false_iff_ne]; omega
  have q66 : (op == 66) = false := by rw [beq_eq_false_iff_ne]; omega
  have q42 : (op == 42) = false := by rw [beq_eq_false_iff_ne]; omega
  have q43 : (op == 43) = false := by rw [beq_eq_false_iff_ne]; omega
  have q56 : (op == 56) = false := by rw [beq_eq_false_iff_ne]; omega
  have q57 : (op == 57) = false := by rw [beq_eq_false_iff_ne]; omega
  have q67 : (op == 67) = false := by rw [beq_eq_false_iff_ne]; omega
  have q68 : (op == 68) = false := by rw [beq_eq_false_iff_ne]; omega
  have r32 : decide (32 ≤ op ∧ op ≤ 36) = false := decide_eq_false (by omega)
  have R32 := hideM r32
  clear r32
  have r44 : decide (44 ≤ op ∧ op ≤ 55) = false := decide_eq_false (by omega)
  have R44 := hideM r44
  clear r44
  have r58 : decide (58 ≤ op ∧ op ≤ 62) = false := decide_eq_false (by omega)
  have R58 := hideM r58
  clear r58
  have r91 : decide (91 ≤ op ∧ op ≤ 102) = true := decide_eq_true (by omega)
  have R91 := hideM r91
  clear r91
  have r139 : decide (139 ≤ op ∧ op ≤ 166) = false := decide_eq_false (by omega)
  have R139 := hideM r139
  clear r139
  have r168 : decide (168 ≤ op ∧ op ≤ 171) = false := decide_eq_false (by omega)
  have R168 := hideM r168
  clear r168
  have r174 : decide (174 ≤ op ∧ op ≤ 191) = false := decide_eq_false (by omega)
  have R174 := hideM r174
  clear r174
  clear h
  go_enter Tryz.func127, Tryz.ntmps127
  go_wp2_with fail
  refine (refSig _ _).mono ?_
  rintro e u ⟨rfl, rfl⟩
  generalize Nums.sig op = t at *
  go_wp2_with fail
  refine (refIn _ _ _ _).mono ?_
  rintro e u ⟨rfl, rfl⟩
  rw [R32.out]
  go_wp2_with fail
  refine (refIn _ _ _ _).mono ?_
  rintro e u ⟨rfl, rfl⟩
  rw [R44.out]
  go_wp2_with fail
  refine (refIn _ _ _ _).mono ?_
  rintro e u ⟨rfl, rfl⟩
  rw [R58.out]
  go_wp2_with fail
  refine (refIn _ _ _ _).mono ?_
  rintro e u ⟨rfl, rfl⟩
  rw [R91.out]
  go_wp2
  go_ret
  exact ⟨rfl, rfl⟩

set_option maxHeartbeats 1000000 in
theorem refForm35 (op : Int) (w : World) (h : 103 ≤ op ∧ op ≤ 138) : Calls Tryz.prog 127 #[.int .i64 op] w fun e w' => e = .returned (.int .i64 1) ∧ w' = w := by
  have hs := sig_pos op
  have hp : decide (0 < (Nums.sig op).1) = true := by exact decide_eq_true (hs.2 (by omega))
  clear hs
  have q0 : (op == 0) = false := by rw [beq_eq_false_iff_ne]; omega
  have q1 : (op == 1) = false := by rw [beq_eq_false_iff_ne]; omega
  have q15 : (op == 15) = false := by rw [beq_eq_false_iff_ne]; omega
  have q26 : (op == 26) = false := by rw [beq_eq_false_iff_ne]; omega
  have q27 : (op == 27) = false := by rw [beq_eq_false_iff_ne]; omega
  have q63 : (op == 63) = false := by rw [beq_eq_false_iff_ne]; omega
  have q64 : (op == 64) = false := by rw [beq_eq_false_iff_ne]; omega
  have q2 : (op == 2) = false := by rw [beq_eq_false_iff_ne]; omega
  have q3 : (op == 3) = false := by rw [beq_eq_false_iff_ne]; omega
  have q4 : (op == 4) = false := by rw [beq_eq_false_iff_ne]; omega
  have q12 : (op == 12) = false := by rw [beq_eq_false_iff_ne]; omega
  have q13 : (op == 13) = false := by rw [beq_eq_false_iff_ne]; omega
  have q14 : (op == 14) = false := by rw [beq_eq_false_iff_ne]; omega
  have q16 : (op == 16) = false := by rw [beq_eq_false_iff_ne]; omega
  have q17 : (op == 17) = false := by rw [beq_eq_false_iff_ne]; omega
  have q40 : (op == 40) = false := by rw [beq_eq_false_iff_ne]; omega
  have q41 : (op == 41) = false := by rw [beq_eq_false_iff_ne]; omega
  have q65 : (op == 65) = false := by rw [beq_eq_false_iff_ne]; omega
  have q66 : (op == 66) = false := by rw [beq_eq_false_iff_ne]; omega
  have q42 : (op == 42) = false := by rw [beq_eq_false_iff_ne]; omega
  have q43 : (op == 43) = false := by rw [beq_eq_false_iff_ne]; omega
  have q56 : (op == 56) = false := by rw [beq_eq_false_iff_ne]; omega
  have q57 : (op == 57) = false := by rw [beq_eq_false_iff_ne]; omega
  have q67 : (op == 67) = false := by rw [beq_eq_false_iff_ne]; omega
  have q68 : (op == 68) = false := by rw [beq_eq_false_iff_ne]; omega
  have r32 : decide (32 ≤ op ∧ op ≤ 36) = false := decide_eq_false (by omega)
  have R32 := hideM r32
  clear r32
  have r44 : decide (44 ≤ op ∧ op ≤ 55) = false := decide_eq_false (by omega)
  have R44 := hideM r44
  clear r44
  have r58 : decide (58 ≤ op ∧ op ≤ 62) = false := decide_eq_false (by omega)
  have R58 := hideM r58
  clear r58
  have r91 : decide (91 ≤ op ∧ op ≤ 102) = false := decide_eq_false (by omega)
  have R91 := hideM r91
  clear r91
  have r139 : decide (139 ≤ op ∧ op ≤ 166) = false := decide_eq_false (by omega)
  have R139 := hideM r139
  clear r139
  have r168 : decide (168 ≤ op ∧ op ≤ 171) = false := decide_eq_false (by omega)
  have R168 := hideM r168
  clear r168
  have r174 : decide (174 ≤ op ∧ op ≤ 191) = false := decide_eq_false (by omega)
  have R174 := hideM r174
  clear r174
  clear h
  go_enter Tryz.func127, Tryz.ntmps127
  go_wp2_with fail
  refine (refSig _ _).mono ?_
  rintro e u ⟨rfl, rfl⟩
  generalize Nums.sig op = t at *
  go_wp2
  go_ret
  exact ⟨rfl, rfl⟩

set_option maxHeartbeats 1000000 in
theorem refForm36 (op : Int) (w : World) (h : 139 ≤ op ∧ op ≤ 166) : Calls Tryz.prog 127 #[.int .i64 op] w fun e w' => e = .returned (.int .i64 10) ∧ w' = w := by
  have hs := sig_pos op
  have hp : decide (0 < (Nums.sig op).1) = false := by exact decide_eq_false (fun hp => by have := hs.1 hp; omega)
  clear hs
  have q0 : (op == 0) = false := by rw [beq_eq_false_iff_ne]; omega
  have q1 : (op == 1) = false := by rw [beq_eq_false_iff_ne]; omega
  have q15 : (op == 15) = false := by rw [beq_eq_false_iff_ne]; omega
  have q26 : (op == 26) = false := by rw [beq_eq_false_iff_ne]; omega
  have q27 : (op == 27) = false := by rw [beq_eq_false_iff_ne]; omega
  have q63 : (op == 63) = false := by rw [beq_eq_false_iff_ne]; omega
  have q64 : (op == 64) = false := by rw [beq_eq_false_iff_ne]; omega
  have q2 : (op == 2) = false := by rw [beq_eq_false_iff_ne]; omega
  have q3 : (op == 3) = false := by rw [beq_eq_false_iff_ne]; omega
  have q4 : (op == 4) = false := by rw [beq_eq_false_iff_ne]; omega
  have q12 : (op == 12) = false := by rw [beq_eq_false_iff_ne]; omega
  have q13 : (op == 13) = false := by rw [beq_eq_false_iff_ne]; omega
  have q14 : (op == 14) = false := by rw [beq_eq_false_iff_ne]; omega
  have q16 : (op == 16) = false := by rw [beq_eq_false_iff_ne]; omega
  have q17 : (op == 17) = false := by rw [beq_eq_false_iff_ne]; omega
  have q40 : (op == 40) = false := by rw [beq_eq_false_iff_ne]; omega
  have q41 : (op == 41) = false := by rw [beq_eq_false_iff_ne]; omega
  have q65 : (op == 65) = false := by rw [beq_eq_false_iff_ne]; omega
  have q66 : (op == 66) = false := by rw [beq_eq_false_iff_ne]; omega
  have q42 : (op == 42) = false := by rw [beq_eq_false_iff_ne]; omega
  have q43 : (op == 43) = false := by rw [beq_eq_false_iff_ne]; omega
  have q56 : (op == 56) = false := by rw [beq_eq_false_iff_ne]; omega
  have q57 : (op == 57) = false := by rw [beq_eq_false_iff_ne]; omega
  have q67 : (op == 67) = false := by rw [beq_eq_false_iff_ne]; omega
  have q68 : (op == 68) = false := by rw [beq_eq_false_iff_ne]; omega
  have r32 : decide (32 ≤ op ∧ op ≤ 36) = false := decide_eq_false (by omega)
  have R32 := hideM r32
  clear r32
  have r44 : decide (44 ≤ op ∧ op ≤ 55) = false := decide_eq_false (by omega)
  have R44 := hideM r44
  clear r44
  have r58 : decide (58 ≤ op ∧ op ≤ 62) = false := decide_eq_false (by omega)
  have R58 := hideM r58
  clear r58
  have r91 : decide (91 ≤ op ∧ op ≤ 102) = false := decide_eq_false (by omega)
  have R91 := hideM r91
  clear r91
  have r139 : decide (139 ≤ op ∧ op ≤ 166) = true := decide_eq_true (by omega)
  have R139 := hideM r139
  clear r139
  have r168 : decide (168 ≤ op ∧ op ≤ 171) = false := decide_eq_false (by omega)
  have R168 := hideM r168
  clear r168
  have r174 : decide (174 ≤ op ∧ op ≤ 191) = false := decide_eq_false (by omega)
  have R174 := hideM r174
  clear r174
  clear h
  go_enter Tryz.func127, Tryz.ntmps127
  go_wp2_with fail
  refine (refSig _ _).mono ?_
  rintro e u ⟨rfl, rfl⟩
  generalize Nums.sig op = t at *
  go_wp2_with fail
  refine (refIn _ _ _ _).mono ?_
  rintro e u ⟨rfl, rfl⟩
  rw [R32.out]
  go_wp2_with fail
  refine (refIn _ _ _ _).mono ?_
  rintro e u ⟨rfl, rfl⟩
  rw [R44.out]
  go_wp2_with fail
  refine (refIn _ _ _ _).mono ?_
  rintro e u ⟨rfl, rfl⟩
  rw [R58.out]
  go_wp2_with fail
  refine (refIn _ _ _ _).mono ?_
  rintro e u ⟨rfl, rfl⟩
  rw [R91.out]
  go_wp2_with fail
  refine (refIn _ _ _ _).mono ?_
  rintro e u ⟨rfl, rfl⟩
  rw [R139.out]
  go_wp2
  go_ret
  exact ⟨rfl, rfl⟩

set_option maxHeartbeats 1000000 in
theorem refForm37 (op : Int) (w : World) (h : 167 ≤ op ∧ op ≤ 167) : Calls Tryz.prog 127 #[.int .i64 op] w fun e w' => e = .returned (.int .i64 1) ∧ w' = w := by
  have hs := sig_pos op
  have hp : decide (0 < (Nums.sig op).1) = true := by exact decide_eq_true (hs.2 (by omega))
  clear hs
  obtain rfl : op = 167 := by omega
  clear h
  go_enter Tryz.func127, Tryz.ntmps127
  go_wp2_with fail
  refine (refSig _ _).mono ?_
  rintro e u ⟨rfl, rfl⟩
  generalize Nums.sig 167 = t at *
  go_wp2
  go_ret
  exact ⟨rfl, rfl⟩

set_option maxHeartbeats 1000000 in
theorem refForm38 (op : Int) (w : World) (h : 168 ≤ op ∧ op ≤ 171) : Calls Tryz.prog 127 #[.int .i64 op] w fun e w' => e = .returned (.int .i64 10) ∧ w' = w := by
  have hs := sig_pos op
  have hp : decide (0 < (Nums.sig op).1) = false := by exact decide_eq_false (fun hp => by have := hs.1 hp; omega)
  clear hs
  have q0 : (op == 0) = false := by rw [beq_eq_false_iff_ne]; omega
  have q1 : (op == 1) = false := by rw [beq_eq_false_iff_ne]; omega
  have q15 : (op == 15) = false := by rw [beq_eq_false_iff_ne]; omega
  have q26 : (op == 26) = false := by rw [beq_eq_false_iff_ne]; omega
  have q27 : (op == 27) = false := by rw [beq_eq_false_iff_ne]; omega
  have q63 : (op == 63) = false := by rw [beq_eq_false_iff_ne]; omega
  have q64 : (op == 64) = false := by rw [beq_eq_false_iff_ne]; omega
  have q2 : (op == 2) = false := by rw [beq_eq_false_iff_ne]; omega
  have q3 : (op == 3) = false := by rw [beq_eq_false_iff_ne]; omega
  have q4 : (op == 4) = false := by rw [beq_eq_false_iff_ne]; omega
  have q12 : (op == 12) = false := by rw [beq_eq_false_iff_ne]; omega
  have q13 : (op == 13) = false := by rw [beq_eq_false_iff_ne]; omega
  have q14 : (op == 14) = false := by rw [beq_eq_false_iff_ne]; omega
  have q16 : (op == 16) = false := by rw [beq_eq_false_iff_ne]; omega
  have q17 : (op == 17) = false := by rw [beq_eq_false_iff_ne]; omega
  have q40 : (op == 40) = false := by rw [beq_eq_false_iff_ne]; omega
  have q41 : (op == 41) = false := by rw [beq_eq_false_iff_ne]; omega
  have q65 : (op == 65) = false := by rw [beq_eq_false_iff_ne]; omega
  have q66 : (op == 66) = false := by rw [beq_eq_false_iff_ne]; omega
  have q42 : (op == 42) = false := by rw [beq_eq_false_iff_ne]; omega
  have q43 : (op == 43) = false := by rw [beq_eq_false_iff_ne]; omega
  have q56 : (op == 56) = false := by rw [beq_eq_false_iff_ne]; omega
  have q57 : (op == 57) = false := by rw [beq_eq_false_iff_ne]; omega
  have q67 : (op == 67) = false := by rw [beq_eq_false_iff_ne]; omega
  have q68 : (op == 68) = false := by rw [beq_eq_false_iff_ne]; omega
  have r32 : decide (32 ≤ op ∧ op ≤ 36) = false := decide_eq_false (by omega)
  have R32 := hideM r32
  clear r32
  have r44 : decide (44 ≤ op ∧ op ≤ 55) = false := decide_eq_false (by omega)
  have R44 := hideM r44
  clear r44
  have r58 : decide (58 ≤ op ∧ op ≤ 62) = false := decide_eq_false (by omega)
  have R58 := hideM r58
  clear r58
  have r91 : decide (91 ≤ op ∧ op ≤ 102) = false := decide_eq_false (by omega)
  have R91 := hideM r91
  clear r91
  have r139 : decide (139 ≤ op ∧ op ≤ 166) = false := decide_eq_false (by omega)
  have R139 := hideM r139
  clear r139
  have r168 : decide (168 ≤ op ∧ op ≤ 171) = true := decide_eq_true (by omega)
  have R168 := hideM r168
  clear r168
  have r174 : decide (174 ≤ op ∧ op ≤ 191) = false := decide_eq_false (by omega)
  have R174 := hideM r174
  clear r174
  clear h
  go_enter Tryz.func127, Tryz.ntmps127
  go_wp2_with fail
  refine (refSig _ _).mono ?_
  rintro e u ⟨rfl, rfl⟩
  generalize Nums.sig op = t at *
  go_wp2_with fail
  refine (refIn _ _ _ _).mono ?_
  rintro e u ⟨rfl, rfl⟩
  rw [R32.out]
  go_wp2_with fail
  refine (refIn _ _ _ _).mono ?_
  rintro e u ⟨rfl, rfl⟩
  rw [R44.out]
  go_wp2_with fail
  refine (refIn _ _ _ _).mono ?_
  rintro e u ⟨rfl, rfl⟩
  rw [R58.out]
  go_wp2_with fail
  refine (refIn _ _ _ _).mono ?_
  rintro e u ⟨rfl, rfl⟩
  rw [R91.out]
  go_wp2_with fail
  refine (refIn _ _ _ _).mono ?_
  rintro e u ⟨rfl, rfl⟩
  rw [R139.out]
  go_wp2_with fail
  refine (refIn _ _ _ _).mono ?_
  rintro e u ⟨rfl, rfl⟩
  rw [R168.out]
  go_wp2
  go_ret
  exact ⟨rfl, rfl⟩

set_option maxHeartbeats 1000000 in
theorem refForm39 (op : Int) (w : World) (h : 172 ≤ op ∧ op ≤ 173) : Calls Tryz.prog 127 #[.int .i64 op] w fun e w' => e = .returned (.int .i64 1) ∧ w' = w := by
  have hs := sig_pos op
  have hp : decide (0 < (Nums.sig op).1) = true := by exact decide_eq_true (hs.2 (by omega))
  clear hs
  have q0 : (op == 0) = false := by rw [beq_eq_false_iff_ne]; omega
  have q1 : (op == 1) = false := by rw [beq_eq_false_iff_ne]; omega
  have q15 : (op == 15) = false := by rw [beq_eq_false_iff_ne]; omega
  have q26 : (op == 26) = false := by rw [beq_eq_false_iff_ne]; omega
  have q27 : (op == 27) = false := by rw [beq_eq_false_iff_ne]; omega
  have q63 : (op == 63) = false := by rw [beq_eq_false_iff_ne]; omega
  have q64 : (op == 64) = false := by rw [beq_eq_false_iff_ne]; omega
  have q2 : (op == 2) = false := by rw [beq_eq_false_iff_ne]; omega
  have q3 : (op == 3) = false := by rw [beq_eq_false_iff_ne]; omega
  have q4 : (op == 4) = false := by rw [beq_eq_false_iff_ne]; omega
  have q12 : (op == 12) = false := by rw [beq_eq_false_iff_ne]; omega
  have q13 : (op == 13) = false := by rw [beq_eq_false_iff_ne]; omega
  have q14 : (op == 14) = false := by rw [beq_eq_false_iff_ne]; omega
  have q16 : (op == 16) = false := by rw [beq_eq_false_iff_ne]; omega
  have q17 : (op == 17) = false := by rw [beq_eq_false_iff_ne]; omega
  have q40 : (op == 40) = false := by rw [beq_eq_false_iff_ne]; omega
  have q41 : (op == 41) = false := by rw [beq_eq_false_iff_ne]; omega
  have q65 : (op == 65) = false := by rw [beq_eq_false_iff_ne]; omega
  have q66 : (op == 66) = false := by rw [beq_eq_false_iff_ne]; omega
  have q42 : (op == 42) = false := by rw [beq_eq_false_iff_ne]; omega
  have q43 : (op == 43) = false := by rw [beq_eq_false_iff_ne]; omega
  have q56 : (op == 56) = false := by rw [beq_eq_false_iff_ne]; omega
  have q57 : (op == 57) = false := by rw [beq_eq_false_iff_ne]; omega
  have q67 : (op == 67) = false := by rw [beq_eq_false_iff_ne]; omega
  have q68 : (op == 68) = false := by rw [beq_eq_false_iff_ne]; omega
  have r32 : decide (32 ≤ op ∧ op ≤ 36) = false := decide_eq_false (by omega)
  have R32 := hideM r32
  clear r32
  have r44 : decide (44 ≤ op ∧ op ≤ 55) = false := decide_eq_false (by omega)
  have R44 := hideM r44
  clear r44
  have r58 : decide (58 ≤ op ∧ op ≤ 62) = false := decide_eq_false (by omega)
  have R58 := hideM r58
  clear r58
  have r91 : decide (91 ≤ op ∧ op ≤ 102) = false := decide_eq_false (by omega)
  have R91 := hideM r91
  clear r91
  have r139 : decide (139 ≤ op ∧ op ≤ 166) = false := decide_eq_false (by omega)
  have R139 := hideM r139
  clear r139
  have r168 : decide (168 ≤ op ∧ op ≤ 171) = false := decide_eq_false (by omega)
  have R168 := hideM r168
  clear r168
  have r174 : decide (174 ≤ op ∧ op ≤ 191) = false := decide_eq_false (by omega)
  have R174 := hideM r174
  clear r174
  clear h
  go_enter Tryz.func127, Tryz.ntmps127
  go_wp2_with fail
  refine (refSig _ _).mono ?_
  rintro e u ⟨rfl, rfl⟩
  generalize Nums.sig op = t at *
  go_wp2
  go_ret
  exact ⟨rfl, rfl⟩

set_option maxHeartbeats 1000000 in
theorem refForm40 (op : Int) (w : World) (h : 174 ≤ op ∧ op ≤ 191) : Calls Tryz.prog 127 #[.int .i64 op] w fun e w' => e = .returned (.int .i64 10) ∧ w' = w := by
  have hs := sig_pos op
  have hp : decide (0 < (Nums.sig op).1) = false := by exact decide_eq_false (fun hp => by have := hs.1 hp; omega)
  clear hs
  have q0 : (op == 0) = false := by rw [beq_eq_false_iff_ne]; omega
  have q1 : (op == 1) = false := by rw [beq_eq_false_iff_ne]; omega
  have q15 : (op == 15) = false := by rw [beq_eq_false_iff_ne]; omega
  have q26 : (op == 26) = false := by rw [beq_eq_false_iff_ne]; omega
  have q27 : (op == 27) = false := by rw [beq_eq_false_iff_ne]; omega
  have q63 : (op == 63) = false := by rw [beq_eq_false_iff_ne]; omega
  have q64 : (op == 64) = false := by rw [beq_eq_false_iff_ne]; omega
  have q2 : (op == 2) = false := by rw [beq_eq_false_iff_ne]; omega
  have q3 : (op == 3) = false := by rw [beq_eq_false_iff_ne]; omega
  have q4 : (op == 4) = false := by rw [beq_eq_false_iff_ne]; omega
  have q12 : (op == 12) = false := by rw [beq_eq_false_iff_ne]; omega
  have q13 : (op == 13) = false := by rw [beq_eq_false_iff_ne]; omega
  have q14 : (op == 14) = false := by rw [beq_eq_false_iff_ne]; omega
  have q16 : (op == 16) = false := by rw [beq_eq_false_iff_ne]; omega
  have q17 : (op == 17) = false := by rw [beq_eq_false_iff_ne]; omega
  have q40 : (op == 40) = false := by rw [beq_eq_false_iff_ne]; omega
  have q41 : (op == 41) = false := by rw [beq_eq_false_iff_ne]; omega
  have q65 : (op == 65) = false := by rw [beq_eq_false_iff_ne]; omega
  have q66 : (op == 66) = false := by rw [beq_eq_false_iff_ne]; omega
  have q42 : (op == 42) = false := by rw [beq_eq_false_iff_ne]; omega
  have q43 : (op == 43) = false := by rw [beq_eq_false_iff_ne]; omega
  have q56 : (op == 56) = false := by rw [beq_eq_false_iff_ne]; omega
  have q57 : (op == 57) = false := by rw [beq_eq_false_iff_ne]; omega
  have q67 : (op == 67) = false := by rw [beq_eq_false_iff_ne]; omega
  have q68 : (op == 68) = false := by rw [beq_eq_false_iff_ne]; omega
  have r32 : decide (32 ≤ op ∧ op ≤ 36) = false := decide_eq_false (by omega)
  have R32 := hideM r32
  clear r32
  have r44 : decide (44 ≤ op ∧ op ≤ 55) = false := decide_eq_false (by omega)
  have R44 := hideM r44
  clear r44
  have r58 : decide (58 ≤ op ∧ op ≤ 62) = false := decide_eq_false (by omega)
  have R58 := hideM r58
  clear r58
  have r91 : decide (91 ≤ op ∧ op ≤ 102) = false := decide_eq_false (by omega)
  have R91 := hideM r91
  clear r91
  have r139 : decide (139 ≤ op ∧ op ≤ 166) = false := decide_eq_false (by omega)
  have R139 := hideM r139
  clear r139
  have r168 : decide (168 ≤ op ∧ op ≤ 171) = false := decide_eq_false (by omega)
  have R168 := hideM r168
  clear r168
  have r174 : decide (174 ≤ op ∧ op ≤ 191) = true := decide_eq_true (by omega)
  have R174 := hideM r174
  clear r174
  clear h
  go_enter Tryz.func127, Tryz.ntmps127
  go_wp2_with fail
  refine (refSig _ _).mono ?_
  rintro e u ⟨rfl, rfl⟩
  generalize Nums.sig op = t at *
  go_wp2_with fail
  refine (refIn _ _ _ _).mono ?_
  rintro e u ⟨rfl, rfl⟩
  rw [R32.out]
  go_wp2_with fail
  refine (refIn _ _ _ _).mono ?_
  rintro e u ⟨rfl, rfl⟩
  rw [R44.out]
  go_wp2_with fail
  refine (refIn _ _ _ _).mono ?_
  rintro e u ⟨rfl, rfl⟩
  rw [R58.out]
  go_wp2_with fail
  refine (refIn _ _ _ _).mono ?_
  rintro e u ⟨rfl, rfl⟩
  rw [R91.out]
  go_wp2_with fail
  refine (refIn _ _ _ _).mono ?_
  rintro e u ⟨rfl, rfl⟩
  rw [R139.out]
  go_wp2_with fail
  refine (refIn _ _ _ _).mono ?_
  rintro e u ⟨rfl, rfl⟩
  rw [R168.out]
  go_wp2_with fail
  refine (refIn _ _ _ _).mono ?_
  rintro e u ⟨rfl, rfl⟩
  rw [R174.out]
  go_wp2
  go_ret
  exact ⟨rfl, rfl⟩

set_option maxHeartbeats 1000000 in
theorem refForm41 (op : Int) (w : World) (h : 192 ≤ op) : Calls Tryz.prog 127 #[.int .i64 op] w fun e w' => e = .returned (.int .i64 0) ∧ w' = w := by
  have hs := sig_pos op
  have hp : decide (0 < (Nums.sig op).1) = false := by exact decide_eq_false (fun hp => by have := hs.1 hp; omega)
  clear hs
  have q0 : (op == 0) = false := by rw [beq_eq_false_iff_ne]; omega
  have q1 : (op == 1) = false := by rw [beq_eq_false_iff_ne]; omega
  have q15 : (op == 15) = false := by rw [beq_eq_false_iff_ne]; omega
  have q26 : (op == 26) = false := by rw [beq_eq_false_iff_ne]; omega
  have q27 : (op == 27) = false := by rw [beq_eq_false_iff_ne]; omega
  have q63 : (op == 63) = false := by rw [beq_eq_false_iff_ne]; omega
  have q64 : (op == 64) = false := by rw [beq_eq_false_iff_ne]; omega
  have q2 : (op == 2) = false := by rw [beq_eq_false_iff_ne]; omega
  have q3 : (op == 3) = false := by rw [beq_eq_false_iff_ne]; omega
  have q4 : (op == 4) = false := by rw [beq_eq_false_iff_ne]; omega
  have q12 : (op == 12) = false := by rw [beq_eq_false_iff_ne]; omega
  have q13 : (op == 13) = false := by rw [beq_eq_false_iff_ne]; omega
  have q14 : (op == 14) = false := by rw [beq_eq_false_iff_ne]; omega
  have q16 : (op == 16) = false := by rw [beq_eq_false_iff_ne]; omega
  have q17 : (op == 17) = false := by rw [beq_eq_false_iff_ne]; omega
  have q40 : (op == 40) = false := by rw [beq_eq_false_iff_ne]; omega
  have q41 : (op == 41) = false := by rw [beq_eq_false_iff_ne]; omega
  have q65 : (op == 65) = false := by rw [beq_eq_false_iff_ne]; omega
  have q66 : (op == 66) = false := by rw [beq_eq_false_iff_ne]; omega
  have q42 : (op == 42) = false := by rw [beq_eq_false_iff_ne]; omega
  have q43 : (op == 43) = false := by rw [beq_eq_false_iff_ne]; omega
  have q56 : (op == 56) = false := by rw [beq_eq_false_iff_ne]; omega
  have q57 : (op == 57) = false := by rw [beq_eq_false_iff_ne]; omega
  have q67 : (op == 67) = false := by rw [beq_eq_false_iff_ne]; omega
  have q68 : (op == 68) = false := by rw [beq_eq_false_iff_ne]; omega
  have r32 : decide (32 ≤ op ∧ op ≤ 36) = false := decide_eq_false (by omega)
  have R32 := hideM r32
  clear r32
  have r44 : decide (44 ≤ op ∧ op ≤ 55) = false := decide_eq_false (by omega)
  have R44 := hideM r44
  clear r44
  have r58 : decide (58 ≤ op ∧ op ≤ 62) = false := decide_eq_false (by omega)
  have R58 := hideM r58
  clear r58
  have r91 : decide (91 ≤ op ∧ op ≤ 102) = false := decide_eq_false (by omega)
  have R91 := hideM r91
  clear r91
  have r139 : decide (139 ≤ op ∧ op ≤ 166) = false := decide_eq_false (by omega)
  have R139 := hideM r139
  clear r139
  have r168 : decide (168 ≤ op ∧ op ≤ 171) = false := decide_eq_false (by omega)
  have R168 := hideM r168
  clear r168
  have r174 : decide (174 ≤ op ∧ op ≤ 191) = false := decide_eq_false (by omega)
  have R174 := hideM r174
  clear r174
  clear h
  go_enter Tryz.func127, Tryz.ntmps127
  go_wp2_with fail
  refine (refSig _ _).mono ?_
  rintro e u ⟨rfl, rfl⟩
  generalize Nums.sig op = t at *
  go_wp2_with fail
  refine (refIn _ _ _ _).mono ?_
  rintro e u ⟨rfl, rfl⟩
  rw [R32.out]
  go_wp2_with fail
  refine (refIn _ _ _ _).mono ?_
  rintro e u ⟨rfl, rfl⟩
  rw [R44.out]
  go_wp2_with fail
  refine (refIn _ _ _ _).mono ?_
  rintro e u ⟨rfl, rfl⟩
  rw [R58.out]
  go_wp2_with fail
  refine (refIn _ _ _ _).mono ?_
  rintro e u ⟨rfl, rfl⟩
  rw [R91.out]
  go_wp2_with fail
  refine (refIn _ _ _ _).mono ?_
  rintro e u ⟨rfl, rfl⟩
  rw [R139.out]
  go_wp2_with fail
  refine (refIn _ _ _ _).mono ?_
  rintro e u ⟨rfl, rfl⟩
  rw [R168.out]
  go_wp2_with fail
  refine (refIn _ _ _ _).mono ?_
  rintro e u ⟨rfl, rfl⟩
  rw [R174.out]
  go_wp2
  go_ret
  exact ⟨rfl, rfl⟩

end Go.Proofs.YtloelineidlenaaGreatDoor

namespace Go.Proofs.YtloelineidlenaaGreatDoor
open Go.RowKit Rep

theorem refForm (op : Int) (w : World) : Calls Tryz.prog 127 #[.int .i64 op] w fun e w' => e = .returned (.int .i64 (form op)) ∧ w' = w := by
  by_cases c0 : op ≤ -1
  · have e : form op = 0 := by
      unfold form
      repeat first | rw [if_neg (by omega)] | rw [if_pos (by omega)]
    rw [e]
    exact refForm0 op w (by omega)
  by_cases c1 : op ≤ 0
  · have e : form op = 1 := by
      unfold form
      repeat first | rw [if_neg (by omega)] | rw [if_pos (by omega)]
    rw [e]
    exact refForm1 op w (by omega)
  by_cases c2 : op ≤ 1
  · have e : form op = 1 := by
      unfold form
      repeat first | rw [if_neg (by omega)] | rw [if_pos (by omega)]
    rw [e]
    exact refForm2 op w (by omega)
  by_cases c3 : op ≤ 2
  · have e : form op = 2 := by
      unfold form
      repeat first | rw [if_neg (by omega)] | rw [if_pos (by omega)]
    rw [e]
    exact refForm3 op w (by omega)
  by_cases c4 : op ≤ 3
  · have e : form op = 2 := by
      unfold form
      repeat first | rw [if_neg (by omega)] | rw [if_pos (by omega)]
    rw [e]
    exact refForm4 op w (by omega)
  by_cases c5 : op ≤ 4
  · have e : form op = 3 := by
      unfold form
      repeat first | rw [if_neg (by omega)] | rw [if_pos (by omega)]
    rw [e]
    exact refForm5 op w (by omega)
  by_cases c6 : op ≤ 11
  · have e : form op = 0 := by
      unfold form
      repeat first | rw [if_neg (by omega)] | rw [if_pos (by omega)]
    rw [e]
    exact refForm6 op w (by omega)
  by_cases c7 : op ≤ 12
  · have e : form op = 4 := by
      unfold form
      repeat first | rw [if_neg (by omega)] | rw [if_pos (by omega)]
    rw [e]
    exact refForm7 op w (by omega)
  by_cases c8 : op ≤ 13
  · have e : form op = 4 := by
      unfold form
      repeat first | rw [if_neg (by omega)] | rw [if_pos (by omega)]
    rw [e]
    exact refForm8 op w (by omega)
  by_cases c9 : op ≤ 14
  · have e : form op = 5 := by
      unfold form
      repeat first | rw [if_neg (by omega)] | rw [if_pos (by omega)]
    rw [e]
    exact refForm9 op w (by omega)
  by_cases c10 : op ≤ 15
  · have e : form op = 1 := by
      unfold form
      repeat first | rw [if_neg (by omega)] | rw [if_pos (by omega)]
    rw [e]
    exact refForm10 op w (by omega)
  by_cases c11 : op ≤ 16
  · have e : form op = 6 := by
      unfold form
      repeat first | rw [if_neg (by omega)] | rw [if_pos (by omega)]
    rw [e]
    exact refForm11 op w (by omega)
  by_cases c12 : op ≤ 17
  · have e : form op = 7 := by
      unfold form
      repeat first | rw [if_neg (by omega)] | rw [if_pos (by omega)]
    rw [e]
    exact refForm12 op w (by omega)
  by_cases c13 : op ≤ 25
  · have e : form op = 0 := by
      unfold form
      repeat first | rw [if_neg (by omega)] | rw [if_pos (by omega)]
    rw [e]
    exact refForm13 op w (by omega)
  by_cases c14 : op ≤ 26
  · have e : form op = 1 := by
      unfold form
      repeat first | rw [if_neg (by omega)] | rw [if_pos (by omega)]
    rw [e]
    exact refForm14 op w (by omega)
  by_cases c15 : op ≤ 27
  · have e : form op = 1 := by
      unfold form
      repeat first | rw [if_neg (by omega)] | rw [if_pos (by omega)]
    rw [e]
    exact refForm15 op w (by omega)
  by_cases c16 : op ≤ 31
  · have e : form op = 0 := by
      unfold form
      repeat first | rw [if_neg (by omega)] | rw [if_pos (by omega)]
    rw [e]
    exact refForm16 op w (by omega)
  by_cases c17 : op ≤ 36
  · have e : form op = 6 := by
      unfold form
      repeat first | rw [if_neg (by omega)] | rw [if_pos (by omega)]
    rw [e]
    exact refForm17 op w (by omega)
  by_cases c18 : op ≤ 39
  · have e : form op = 0 := by
      unfold form
      repeat first | rw [if_neg (by omega)] | rw [if_pos (by omega)]
    rw [e]
    exact refForm18 op w (by omega)
  by_cases c19 : op ≤ 40
  · have e : form op = 8 := by
      unfold form
      repeat first | rw [if_neg (by omega)] | rw [if_pos (by omega)]
    rw [e]
    exact refForm19 op w (by omega)
  by_cases c20 : op ≤ 41
  · have e : form op = 8 := by
      unfold form
      repeat first | rw [if_neg (by omega)] | rw [if_pos (by omega)]
    rw [e]
    exact refForm20 op w (by omega)
  by_cases c21 : op ≤ 42
  · have e : form op = 10 := by
      unfold form
      repeat first | rw [if_neg (by omega)] | rw [if_pos (by omega)]
    rw [e]
    exact refForm21 op w (by omega)
  by_cases c22 : op ≤ 43
  · have e : form op = 10 := by
      unfold form
      repeat first | rw [if_neg (by omega)] | rw [if_pos (by omega)]
    rw [e]
    exact refForm22 op w (by omega)
  by_cases c23 : op ≤ 55
  · have e : form op = 8 := by
      unfold form
      repeat first | rw [if_neg (by omega)] | rw [if_pos (by omega)]
    rw [e]
    exact refForm23 op w (by omega)
  by_cases c24 : op ≤ 56
  · have e : form op = 10 := by
      unfold form
      repeat first | rw [if_neg (by omega)] | rw [if_pos (by omega)]
    rw [e]
    exact refForm24 op w (by omega)
  by_cases c25 : op ≤ 57
  · have e : form op = 10 := by
      unfold form
      repeat first | rw [if_neg (by omega)] | rw [if_pos (by omega)]
    rw [e]
    exact refForm25 op w (by omega)
  by_cases c26 : op ≤ 62
  · have e : form op = 8 := by
      unfold form
      repeat first | rw [if_neg (by omega)] | rw [if_pos (by omega)]
    rw [e]
    exact refForm26 op w (by omega)
  by_cases c27 : op ≤ 63
  · have e : form op = 1 := by
      unfold form
      repeat first | rw [if_neg (by omega)] | rw [if_pos (by omega)]
    rw [e]
    exact refForm27 op w (by omega)
  by_cases c28 : op ≤ 64
  · have e : form op = 1 := by
      unfold form
      repeat first | rw [if_neg (by omega)] | rw [if_pos (by omega)]
    rw [e]
    exact refForm28 op w (by omega)
  by_cases c29 : op ≤ 65
  · have e : form op = 9 := by
      unfold form
      repeat first | rw [if_neg (by omega)] | rw [if_pos (by omega)]
    rw [e]
    exact refForm29 op w (by omega)
  by_cases c30 : op ≤ 66
  · have e : form op = 9 := by
      unfold form
      repeat first | rw [if_neg (by omega)] | rw [if_pos (by omega)]
    rw [e]
    exact refForm30 op w (by omega)
  by_cases c31 : op ≤ 67
  · have e : form op = 10 := by
      unfold form
      repeat first | rw [if_neg (by omega)] | rw [if_pos (by omega)]
    rw [e]
    exact refForm31 op w (by omega)
  by_cases c32 : op ≤ 68
  · have e : form op = 10 := by
      unfold form
      repeat first | rw [if_neg (by omega)] | rw [if_pos (by omega)]
    rw [e]
    exact refForm32 op w (by omega)
  by_cases c33 : op ≤ 90
  · have e : form op = 1 := by
      unfold form
      repeat first | rw [if_neg (by omega)] | rw [if_pos (by omega)]
    rw [e]
    exact refForm33 op w (by omega)
  by_cases c34 : op ≤ 102
  · have e : form op = 10 := by
      unfold form
      repeat first | rw [if_neg (by omega)] | rw [if_pos (by omega)]
    rw [e]
    exact refForm34 op w (by omega)
  by_cases c35 : op ≤ 138
  · have e : form op = 1 := by
      unfold form
      repeat first | rw [if_neg (by omega)] | rw [if_pos (by omega)]
    rw [e]
    exact refForm35 op w (by omega)
  by_cases c36 : op ≤ 166
  · have e : form op = 10 := by
      unfold form
      repeat first | rw [if_neg (by omega)] | rw [if_pos (by omega)]
    rw [e]
    exact refForm36 op w (by omega)
  by_cases c37 : op ≤ 167
  · have e : form op = 1 := by
      unfold form
      repeat first | rw [if_neg (by omega)] | rw [if_pos (by omega)]
    rw [e]
    exact refForm37 op w (by omega)
  by_cases c38 : op ≤ 171
  · have e : form op = 10 := by
      unfold form
      repeat first | rw [if_neg (by omega)] | rw [if_pos (by omega)]
    rw [e]
    exact refForm38 op w (by omega)
  by_cases c39 : op ≤ 173
  · have e : form op = 1 := by
      unfold form
      repeat first | rw [if_neg (by omega)] | rw [if_pos (by omega)]
    rw [e]
    exact refForm39 op w (by omega)
  by_cases c40 : op ≤ 191
  · have e : form op = 10 := by
      unfold form
      repeat first | rw [if_neg (by omega)] | rw [if_pos (by omega)]
    rw [e]
    exact refForm40 op w (by omega)
  have e : form op = 0 := by
    unfold form
    repeat rw [if_neg (by omega)]
  rw [e]
  exact refForm41 op w (by omega)
end Go.Proofs.YtloelineidlenaaGreatDoor

namespace Go.Proofs.YtloelineidlenaaGreatDoor
open Go.RowKit Rep Enc Go.Lib
set_option linter.unusedVariables false
set_option maxRecDepth 100000 in
set_option maxHeartbeats 2000000 in
theorem dList (w0 : World) (p : Nat) (ov : Bool) (v : Value) (bs id : List Int) (lv : Value) (l : List Int) (w : World) (h : PS w0 p ov v bs w) (hS : St id ov bs) (hL : Ints w0 lv l) (hr : ∀ x ∈ l, 0 ≤ x ∧ x ≤ 4294967295) :
    Calls Tryz.prog 109 #[.pointer (some ⟨p, 0, none⟩), lv] w (PDo w0 p v w (id ++ idxB l)) := by
  obtain ⟨oL, kL, rfl⟩ := Row.len hL
  have la := hL.1
  have HC0 := hideR (dU w0 p ov v bs id (l.length : Int) w h hS (by omega) (by omega))
  have HL := hideR hL
  have HR := hideR hr
  clear h hS hL hr
  generalize hna : l.length = n at *
  have HNA := hideR hna
  obtain ⟨u0, hu0⟩ : ∃ u0, Leb.uB (n : Int) = u0 := ⟨_, rfl⟩
  rw [hu0] at HC0
  have HU0 := hideR hu0
  clear hu0
  go_enter Tryz.func109, Tryz.ntmps109
  go_wp2_with fail
  refine HC0.out.mono ?_
  rintro e w1 ⟨ov1, v1, b1, rfl, h1, s1, k1⟩
  have HPS1 := hideR h1
  have HST1 := hideR s1
  have HK1 := hideR k1
  clear h1 s1 k1 HC0
  go_wp2_with fail
  go_loopw [4] (fun i wr => ∃ (j : Nat) (ov3 : Bool) (v3 : Value) (b3 : List Int), j ≤ n ∧ i = .int .i64 j ∧ Hid (PS w0 p ov3 v3 b3 wr) ∧ Hid (St (id ++ u0 ++ (l.take j).flatMap Leb.uB) ov3 b3) ∧ Hid (Kept p v w v3 wr)) (fun i _ => n - (Lib.intOf i).toNat)
  case atStart => exact ⟨0, ov1, v1, b1, by omega, rfl, HPS1, hideR (by simpa using HST1.out), HK1⟩
  case round =>
    clear HPS1 HST1 HK1
    obtain ⟨j, ov3, v3, b3, hj, rfl, HPS, HST, HKW⟩ := hrel
    have ko := HPS.out.cellO
    by_cases hgo : j < n
    · obtain ⟨b1, off1, cap1, hv1, hx1⟩ := Row.some HL.out (by omega)
      injection hv1 with ho1 e11 e12
      subst ho1
      clear e11 e12
      obtain ⟨x, hxk⟩ : ∃ x, l[j]? = some x := ⟨_, List.getElem?_eq_getElem (by omega)⟩
      have cx := cell_on HPS.out.below (hx1 j x hxk)
      simp only [Nat.mul_one] at cx
      have HXK := hideR hxk
      have HTK : Hid ((l.take (j + 1)).flatMap Leb.uB = (l.take j).flatMap Leb.uB ++ Leb.uB x) := hideR (fm_take HXK.out)
      clear hxk hx1
      cases ov3 with
      | true =>
        have HF : Hid (St (id ++ idxB l) true b3) := hideR (by
          have h1 := (HST.out.more rfl ((l.drop j).flatMap Leb.uB))
          rw [List.append_assoc, List.append_assoc, ← List.flatMap_append, List.take_append_drop] at h1
          unfold idxB; rw [HNA.out, HU0.out]; exact h1)
        go_wp2
        go_end0
        exact ⟨_, _, _, rfl, HPS.out, HF.out, HKW.out⟩
      | false =>
        have HC := hideR (dU w0 p false v3 b3 _ x wr HPS.out HST.out (HR.out x (List.mem_of_getElem? HXK.out)).1 (by have := (HR.out x (List.mem_of_getElem? HXK.out)).2; omega))
        go_wp2_with fail
        refine HC.out.mono ?_
        rintro e w4 ⟨ov4, v4, b4, rfl, h4, s4, k4⟩
        have HPS4 := hideR h4
        have HST4 : Hid (St (id ++ u0 ++ (l.take (j + 1)).flatMap Leb.uB) ov4 b4) := hideR (by rw [HTK.out, ← List.append_assoc]; exact s4)
        have HK4 := hideR (HKW.out.trans k4)
        clear h4 s4 k4 HC
        go_wp2
        go_roundw
        case rel => exact ⟨j + 1, ov4, v4, b4, by omega, by go_num, HPS4, HST4, HK4⟩
        case measure => simp [Lib.intOf]; omega
    · obtain rfl : n = j := by omega
      have HF : Hid (St (id ++ idxB l) ov3 b3) := hideR (by
        have h1 := HST.out
        rw [List.take_of_length_le (by have := HNA.out; omega), List.append_assoc] at h1
        unfold idxB; rw [HNA.out, HU0.out]; exact h1)
      go_wp2
      go_end0
      exact ⟨_, _, _, rfl, HPS.out, HF.out, HKW.out⟩
namespace Enc
def DIS (w0 : World) (p : Nat) (d : Nat) : Prop := ∀ (lv : Value) (l : IL d) (ov : Bool) (v : Value) (bs id : List Int) (w : World), PS w0 p ov v bs w → St id ov bs → At w0 d lv l → Rg d l →
  Calls Tryz.prog 74 #[.pointer (some ⟨p, 0, none⟩), lv] w (PDo w0 p v w (id ++ bytesI d l))
end Enc
end Go.Proofs.YtloelineidlenaaGreatDoor

namespace Go.Proofs.YtloelineidlenaaGreatDoor
open Go.RowKit Rep Enc Go.Lib
set_option linter.unusedVariables false
set_option maxRecDepth 100000 in
set_option maxHeartbeats 4000000 in
theorem dIns1 (w0 : World) (p : Nat) (ov : Bool) (v : Value) (bs id : List Int) {d : Nat} (IH : DIS w0 p d) (x : Ins (IL d)) (q4 q5 q6 : Option Addr) (y4 z4 y5 z5 y6 z6 : Nat) (w : World) (h : PS w0 p ov v bs w) (hS : St id ov bs) (f : Int) (hf : form x.op = f) (hff : f < 2 ∨ 9 < f) (h63 : (x.op == 63) = false) (h64 : (x.op == 64) = false) (a4 : Ints w0 (.slice q4 y4 z4) x.labels) (a5 : At w0 d (.slice q5 y5 z5) x.body) (a6 : At w0 d (.slice q6 y6 z6) x.els) (r : Rg1 (Rg d) x) :
    Calls Tryz.prog 112 #[.pointer (some ⟨p, 0, none⟩), .agg #[.int .i64 x.op, .int .i64 x.a, .int .i64 x.b, .int .i64 x.n, .slice q4 y4 z4, .slice q5 y5 z5, .slice q6 y6 z6]] w (PDo w0 p v w (id ++ ([x.op % 256]))) := by
  have hb := new_on' w (.cells #[.int .i64 x.op, .int .i64 x.a, .int .i64 x.b, .int .i64 x.n, .slice q4 y4 z4, .slice q5 y5 z5, .slice q6 y6 z6] 52)
  have HBK0 := hideR (Bx.new (w := w) (b := w.heap.size) (t := 52) (cs := #[.int .i64 x.op, .int .i64 x.a, .int .i64 x.b, .int .i64 x.n, .slice q4 y4 z4, .slice q5 y5 z5, .slice q6 y6 z6]) rfl)
  obtain ⟨u1, hu1⟩ : ∃ u1, u1 = w.alloc (.cells #[.int .i64 x.op, .int .i64 x.a, .int .i64 x.b, .int .i64 x.n, .slice q4 y4 z4, .slice q5 y5 z5, .slice q6 y6 z6] 52) := ⟨_, rfl⟩
  rw [← hu1] at hb HBK0
  have HP0 := hideR (h.on hb)
  have HT0 := hideR hS
  have HK0 : Hid (Kept p v w v u1) := hideR (Kept.below hb)
  have HO0 : Hid (some w.heap.size ≠ v.ownBlock) := hideR (fun e => by have := (h.own.lt _ e.symm).2; omega)
  have HNP : Hid (w.heap.size ≠ p) := hideR (by have := h.lt; omega)
  have HU := hideR hu1
  have HIH := hideR IH
  have HA := hideR (⟨a4, a5, a6, r⟩ : Ints w0 (.slice q4 y4 z4) x.labels ∧ At w0 d (.slice q5 y5 z5) x.body ∧ At w0 d (.slice q6 y6 z6) x.els ∧ Rg1 (Rg d) x)
  clear h hS IH a4 a5 a6 r hb hu1
  have HFO : Hid (form x.op = f) := hideR hf
  have f2 : (f == 2) = false := by simp; omega
  have f3 : (f == 3) = false := by simp; omega
  have f4 : (f == 4) = false := by simp; omega
  have f5 : (f == 5) = false := by simp; omega
  have f6 : (f == 6) = false := by simp; omega
  have f7 : (f == 7) = false := by simp; omega
  have f8 : (f == 8) = false := by simp; omega
  have f9 : (f == 9) = false := by simp; omega
  clear hf hff
  go_enter Tryz.func112, Tryz.ntmps112
  go_upto_region 1 with fail
  rw [← HU.out]
  clear HU
  generalize w.heap.size = p3 at *
  have k0 := HBK0.out.cell 0 _ rfl
  have k1 := HBK0.out.cell 1 _ rfl
  have k2 := HBK0.out.cell 2 _ rfl
  have k3 := HBK0.out.cell 3 _ rfl
  have k4 := HBK0.out.cell 4 _ rfl
  have k5 := HBK0.out.cell 5 _ rfl
  have k6 := HBK0.out.cell 6 _ rfl
  have HC := hideR (dByte w0 p ov v bs id x.op u1 HP0.out HT0.out)
  go_wp2_with fail
  refine HC.out.mono ?_
  rintro e w1 ⟨ov1, v1, b1, rfl, hh, ss, kk⟩
  obtain ⟨bb, bo⟩ := kk.bx HBK0.out HNP.out HO0.out
  have HP1 := hideR hh
  have HT1 := hideR ss
  have HK1 := hideR (HK0.out.trans kk)
  have HBK1 := hideR bb
  have HO1 := hideR bo
  clear hh ss kk bb bo HC HP0 HT0 HK0 HBK0 HO0 k0 k1 k2 k3 k4 k5 k6
  have k0 := HBK1.out.cell 0 _ rfl
  have k1 := HBK1.out.cell 1 _ rfl
  have k2 := HBK1.out.cell 2 _ rfl
  have k3 := HBK1.out.cell 3 _ rfl
  have k4 := HBK1.out.cell 4 _ rfl
  have k5 := HBK1.out.cell 5 _ rfl
  have k6 := HBK1.out.cell 6 _ rfl
  have HFM := hideR (refForm x.op w1)
  go_wp2_with fail
  refine HFM.out.mono ?_
  rintro e wf ⟨rfl, rfl⟩
  clear HFM
  rw [HFO.out]
  have HF : Hid (St (id ++ ([x.op % 256])) ov1 b1) := hideR (by simpa [List.append_assoc] using HT1.out)
  go_wp2
  go_end0
  exact ⟨_, _, _, rfl, HP1.out, HF.out, HK1.out⟩
set_option maxRecDepth 100000 in
set_option maxHeartbeats 4000000 in
theorem dIns1a (w0 : World) (p : Nat) (ov : Bool) (v : Value) (bs id : List Int) {d : Nat} (IH : DIS w0 p d) (x : Ins (IL d)) (q4 q5 q6 : Option Addr) (y4 z4 y5 z5 y6 z6 : Nat) (w : World) (h : PS w0 p ov v bs w) (hS : St id ov bs) (hf : form x.op = 1) (h63 : (x.op == 63) = true) (a4 : Ints w0 (.slice q4 y4 z4) x.labels) (a5 : At w0 d (.slice q5 y5 z5) x.body) (a6 : At w0 d (.slice q6 y6 z6) x.els) (r : Rg1 (Rg d) x) :
    Calls Tryz.prog 112 #[.pointer (some ⟨p, 0, none⟩), .agg #[.int .i64 x.op, .int .i64 x.a, .int .i64 x.b, .int .i64 x.n, .slice q4 y4 z4, .slice q5 y5 z5, .slice q6 y6 z6]] w (PDo w0 p v w (id ++ ([x.op % 256] ++ [0]))) := by
  have hb := new_on' w (.cells #[.int .i64 x.op, .int .i64 x.a, .int .i64 x.b, .int .i64 x.n, .slice q4 y4 z4, .slice q5 y5 z5, .slice q6 y6 z6] 52)
  have HBK0 := hideR (Bx.new (w := w) (b := w.heap.size) (t := 52) (cs := #[.int .i64 x.op, .int .i64 x.a, .int .i64 x.b, .int .i64 x.n, .slice q4 y4 z4, .slice q5 y5 z5, .slice q6 y6 z6]) rfl)
  obtain ⟨u1, hu1⟩ : ∃ u1, u1 = w.alloc (.cells #[.int .i64 x.op, .int .i64 x.a, .int .i64 x.b, .int .i64 x.n, .slice q4 y4 z4, .slice q5 y5 z5, .slice q6 y6 z6] 52) := ⟨_, rfl⟩
  rw [← hu1] at hb HBK0
  have HP0 := hideR (h.on hb)
  have HT0 := hideR hS
  have HK0 : Hid (Kept p v w v u1) := hideR (Kept.below hb)
  have HO0 : Hid (some w.heap.size ≠ v.ownBlock) := hideR (fun e => by have := (h.own.lt _ e.symm).2; omega)
  have HNP : Hid (w.heap.size ≠ p) := hideR (by have := h.lt; omega)
  have HU := hideR hu1
  have HIH := hideR IH
  have HA := hideR (⟨a4, a5, a6, r⟩ : Ints w0 (.slice q4 y4 z4) x.labels ∧ At w0 d (.slice q5 y5 z5) x.body ∧ At w0 d (.slice q6 y6 z6) x.els ∧ Rg1 (Rg d) x)
  clear h hS IH a4 a5 a6 r hb hu1
  have HFO : Hid (form x.op = 1) := hideR hf
  clear hf
  go_enter Tryz.func112, Tryz.ntmps112
  go_upto_region 1 with fail
  rw [← HU.out]
  clear HU
  generalize w.heap.size = p3 at *
  have k0 := HBK0.out.cell 0 _ rfl
  have k1 := HBK0.out.cell 1 _ rfl
  have k2 := HBK0.out.cell 2 _ rfl
  have k3 := HBK0.out.cell 3 _ rfl
  have k4 := HBK0.out.cell 4 _ rfl
  have k5 := HBK0.out.cell 5 _ rfl
  have k6 := HBK0.out.cell 6 _ rfl
  have HC := hideR (dByte w0 p ov v bs id x.op u1 HP0.out HT0.out)
  go_wp2_with fail
  refine HC.out.mono ?_
  rintro e w1 ⟨ov1, v1, b1, rfl, hh, ss, kk⟩
  obtain ⟨bb, bo⟩ := kk.bx HBK0.out HNP.out HO0.out
  have HP1 := hideR hh
  have HT1 := hideR ss
  have HK1 := hideR (HK0.out.trans kk)
  have HBK1 := hideR bb
  have HO1 := hideR bo
  clear hh ss kk bb bo HC HP0 HT0 HK0 HBK0 HO0 k0 k1 k2 k3 k4 k5 k6
  have k0 := HBK1.out.cell 0 _ rfl
  have k1 := HBK1.out.cell 1 _ rfl
  have k2 := HBK1.out.cell 2 _ rfl
  have k3 := HBK1.out.cell 3 _ rfl
  have k4 := HBK1.out.cell 4 _ rfl
  have k5 := HBK1.out.cell 5 _ rfl
  have k6 := HBK1.out.cell 6 _ rfl
  have HC := hideR (dByte w0 p ov1 v1 b1 _ 0 w1 HP1.out HT1.out)
  have HFM := hideR (refForm x.op w1)
  go_wp2_with fail
  refine HFM.out.mono ?_
  rintro e wf ⟨rfl, rfl⟩
  clear HFM
  rw [HFO.out]
  go_wp2_with fail
  refine HC.out.mono ?_
  rintro e w2 ⟨ov2, v2, b2, rfl, hh, ss, kk⟩
  obtain ⟨bb, bo⟩ := kk.bx HBK1.out HNP.out HO1.out
  have HP2 := hideR hh
  have HT2 := hideR ss
  have HK2 := hideR (HK1.out.trans kk)
  have HBK2 := hideR bb
  have HO2 := hideR bo
  clear hh ss kk bb bo HC HP1 HT1 HK1 HBK1 HO1 k0 k1 k2 k3 k4 k5 k6
  have HF : Hid (St (id ++ ([x.op % 256] ++ [0])) ov2 b2) := hideR (by simpa [List.append_assoc] using HT2.out)
  go_wp2
  go_end0
  exact ⟨_, _, _, rfl, HP2.out, HF.out, HK2.out⟩
set_option maxRecDepth 100000 in
set_option maxHeartbeats 4000000 in
theorem dIns1b (w0 : World) (p : Nat) (ov : Bool) (v : Value) (bs id : List Int) {d : Nat} (IH : DIS w0 p d) (x : Ins (IL d)) (q4 q5 q6 : Option Addr) (y4 z4 y5 z5 y6 z6 : Nat) (w : World) (h : PS w0 p ov v bs w) (hS : St id ov bs) (hf : form x.op = 1) (h63 : (x.op == 63) = false) (h64 : (x.op == 64) = true) (a4 : Ints w0 (.slice q4 y4 z4) x.labels) (a5 : At w0 d (.slice q5 y5 z5) x.body) (a6 : At w0 d (.slice q6 y6 z6) x.els) (r : Rg1 (Rg d) x) :
    Calls Tryz.prog 112 #[.pointer (some ⟨p, 0, none⟩), .agg #[.int .i64 x.op, .int .i64 x.a, .int .i64 x.b, .int .i64 x.n, .slice q4 y4 z4, .slice q5 y5 z5, .slice q6 y6 z6]] w (PDo w0 p v w (id ++ ([x.op % 256] ++ [0]))) := by
  have hb := new_on' w (.cells #[.int .i64 x.op, .int .i64 x.a, .int .i64 x.b, .int .i64 x.n, .slice q4 y4 z4, .slice q5 y5 z5, .slice q6 y6 z6] 52)
  have HBK0 := hideR (Bx.new (w := w) (b := w.heap.size) (t := 52) (cs := #[.int .i64 x.op, .int .i64 x.a, .int .i64 x.b, .int .i64 x.n, .slice q4 y4 z4, .slice q5 y5 z5, .slice q6 y6 z6]) rfl)
  obtain ⟨u1, hu1⟩ : ∃ u1, u1 = w.alloc (.cells #[.int .i64 x.op, .int .i64 x.a, .int .i64 x.b, .int .i64 x.n, .slice q4 y4 z4, .slice q5 y5 z5, .slice q6 y6 z6] 52) := ⟨_, rfl⟩
  rw [← hu1] at hb HBK0
  have HP0 := hideR (h.on hb)
  have HT0 := hideR hS
  have HK0 : Hid (Kept p v w v u1) := hideR (Kept.below hb)
  have HO0 : Hid (some w.heap.size ≠ v.ownBlock) := hideR (fun e => by have := (h.own.lt _ e.symm).2; omega)
  have HNP : Hid (w.heap.size ≠ p) := hideR (by have := h.lt; omega)
  have HU := hideR hu1
  have HIH := hideR IH
  have HA := hideR (⟨a4, a5, a6, r⟩ : Ints w0 (.slice q4 y4 z4) x.labels ∧ At w0 d (.slice q5 y5 z5) x.body ∧ At w0 d (.slice q6 y6 z6) x.els ∧ Rg1 (Rg d) x)
  clear h hS IH a4 a5 a6 r hb hu1
  have HFO : Hid (form x.op = 1) := hideR hf
  clear hf
  go_enter Tryz.func112, Tryz.ntmps112
  go_upto_region 1 with fail
  rw [← HU.out]
  clear HU
  generalize w.heap.size = p3 at *
  have k0 := HBK0.out.cell 0 _ rfl
  have k1 := HBK0.out.cell 1 _ rfl
  have k2 := HBK0.out.cell 2 _ rfl
  have k3 := HBK0.out.cell 3 _ rfl
  have k4 := HBK0.out.cell 4 _ rfl
  have k5 := HBK0.out.cell 5 _ rfl
  have k6 := HBK0.out.cell 6 _ rfl
  have HC := hideR (dByte w0 p ov v bs id x.op u1 HP0.out HT0.out)
  go_wp2_with fail
  refine HC.out.mono ?_
  rintro e w1 ⟨ov1, v1, b1, rfl, hh, ss, kk⟩
  obtain ⟨bb, bo⟩ := kk.bx HBK0.out HNP.out HO0.out
  have HP1 := hideR hh
  have HT1 := hideR ss
  have HK1 := hideR (HK0.out.trans kk)
  have HBK1 := hideR bb
  have HO1 := hideR bo
  clear hh ss kk bb bo HC HP0 HT0 HK0 HBK0 HO0 k0 k1 k2 k3 k4 k5 k6
  have k0 := HBK1.out.cell 0 _ rfl
  have k1 := HBK1.out.cell 1 _ rfl
  have k2 := HBK1.out.cell 2 _ rfl
  have k3 := HBK1.out.cell 3 _ rfl
  have k4 := HBK1.out.cell 4 _ rfl
  have k5 := HBK1.out.cell 5 _ rfl
  have k6 := HBK1.out.cell 6 _ rfl
  have HC := hideR (dByte w0 p ov1 v1 b1 _ 0 w1 HP1.out HT1.out)
  have HFM := hideR (refForm x.op w1)
  go_wp2_with fail
  refine HFM.out.mono ?_
  rintro e wf ⟨rfl, rfl⟩
  clear HFM
  rw [HFO.out]
  go_wp2_with fail
  refine HC.out.mono ?_
  rintro e w2 ⟨ov2, v2, b2, rfl, hh, ss, kk⟩
  obtain ⟨bb, bo⟩ := kk.bx HBK1.out HNP.out HO1.out
  have HP2 := hideR hh
  have HT2 := hideR ss
  have HK2 := hideR (HK1.out.trans kk)
  have HBK2 := hideR bb
  have HO2 := hideR bo
  clear hh ss kk bb bo HC HP1 HT1 HK1 HBK1 HO1 k0 k1 k2 k3 k4 k5 k6
  have HF : Hid (St (id ++ ([x.op % 256] ++ [0])) ov2 b2) := hideR (by simpa [List.append_assoc] using HT2.out)
  go_wp2
  go_end0
  exact ⟨_, _, _, rfl, HP2.out, HF.out, HK2.out⟩
set_option maxRecDepth 100000 in
set_option maxHeartbeats 4000000 in
theorem dIns4 (w0 : World) (p : Nat) (ov : Bool) (v : Value) (bs id : List Int) {d : Nat} (IH : DIS w0 p d) (x : Ins (IL d)) (q4 q5 q6 : Option Addr) (y4 z4 y5 z5 y6 z6 : Nat) (w : World) (h : PS w0 p ov v bs w) (hS : St id ov bs) (hf : form x.op = 4) (a4 : Ints w0 (.slice q4 y4 z4) x.labels) (a5 : At w0 d (.slice q5 y5 z5) x.body) (a6 : At w0 d (.slice q6 y6 z6) x.els) (r : Rg1 (Rg d) x) :
    Calls Tryz.prog 112 #[.pointer (some ⟨p, 0, none⟩), .agg #[.int .i64 x.op, .int .i64 x.a, .int .i64 x.b, .int .i64 x.n, .slice q4 y4 z4, .slice q5 y5 z5, .slice q6 y6 z6]] w (PDo w0 p v w (id ++ ([x.op % 256] ++ Leb.uB x.a))) := by
  have hb := new_on' w (.cells #[.int .i64 x.op, .int .i64 x.a, .int .i64 x.b, .int .i64 x.n, .slice q4 y4 z4, .slice q5 y5 z5, .slice q6 y6 z6] 52)
  have HBK0 := hideR (Bx.new (w := w) (b := w.heap.size) (t := 52) (cs := #[.int .i64 x.op, .int .i64 x.a, .int .i64 x.b, .int .i64 x.n, .slice q4 y4 z4, .slice q5 y5 z5, .slice q6 y6 z6]) rfl)
  obtain ⟨u1, hu1⟩ : ∃ u1, u1 = w.alloc (.cells #[.int .i64 x.op, .int .i64 x.a, .int .i64 x.b, .int .i64 x.n, .slice q4 y4 z4, .slice q5 y5 z5, .slice q6 y6 z6] 52) := ⟨_, rfl⟩
  rw [← hu1] at hb HBK0
  have HP0 := hideR (h.on hb)
  have HT0 := hideR hS
  have HK0 : Hid (Kept p v w v u1) := hideR (Kept.below hb)
  have HO0 : Hid (some w.heap.size ≠ v.ownBlock) := hideR (fun e => by have := (h.own.lt _ e.symm).2; omega)
  have HNP : Hid (w.heap.size ≠ p) := hideR (by have := h.lt; omega)
  have HU := hideR hu1
  have HIH := hideR IH
  have HA := hideR (⟨a4, a5, a6, r⟩ : Ints w0 (.slice q4 y4 z4) x.labels ∧ At w0 d (.slice q5 y5 z5) x.body ∧ At w0 d (.slice q6 y6 z6) x.els ∧ Rg1 (Rg d) x)
  clear h hS IH a4 a5 a6 r hb hu1
  have HFO : Hid (form x.op = 4) := hideR hf
  clear hf
  go_enter Tryz.func112, Tryz.ntmps112
  go_upto_region 1 with fail
  rw [← HU.out]
  clear HU
  generalize w.heap.size = p3 at *
  have k0 := HBK0.out.cell 0 _ rfl
  have k1 := HBK0.out.cell 1 _ rfl
  have k2 := HBK0.out.cell 2 _ rfl
  have k3 := HBK0.out.cell 3 _ rfl
  have k4 := HBK0.out.cell 4 _ rfl
  have k5 := HBK0.out.cell 5 _ rfl
  have k6 := HBK0.out.cell 6 _ rfl
  have HC := hideR (dByte w0 p ov v bs id x.op u1 HP0.out HT0.out)
  go_wp2_with fail
  refine HC.out.mono ?_
  rintro e w1 ⟨ov1, v1, b1, rfl, hh, ss, kk⟩
  obtain ⟨bb, bo⟩ := kk.bx HBK0.out HNP.out HO0.out
  have HP1 := hideR hh
  have HT1 := hideR ss
  have HK1 := hideR (HK0.out.trans kk)
  have HBK1 := hideR bb
  have HO1 := hideR bo
  clear hh ss kk bb bo HC HP0 HT0 HK0 HBK0 HO0 k0 k1 k2 k3 k4 k5 k6
  have k0 := HBK1.out.cell 0 _ rfl
  have k1 := HBK1.out.cell 1 _ rfl
  have k2 := HBK1.out.cell 2 _ rfl
  have k3 := HBK1.out.cell 3 _ rfl
  have k4 := HBK1.out.cell 4 _ rfl
  have k5 := HBK1.out.cell 5 _ rfl
  have k6 := HBK1.out.cell 6 _ rfl
  have HC := hideR (dU w0 p ov1 v1 b1 _ x.a w1 HP1.out HT1.out (HA.out.2.2.2.a (by have := HFO.out; omega) (by have := HFO.out; omega)).1 (by have := (HA.out.2.2.2.a (by have := HFO.out; omega) (by have := HFO.out; omega)).2; omega))
  have HFM := hideR (refForm x.op w1)
  go_wp2_with fail
  refine HFM.out.mono ?_
  rintro e wf ⟨rfl, rfl⟩
  clear HFM
  rw [HFO.out]
  go_wp2_with fail
  refine HC.out.mono ?_
  rintro e w2 ⟨ov2, v2, b2, rfl, hh, ss, kk⟩
  obtain ⟨bb, bo⟩ := kk.bx HBK1.out HNP.out HO1.out
  have HP2 := hideR hh
  have HT2 := hideR ss
  have HK2 := hideR (HK1.out.trans kk)
  have HBK2 := hideR bb
  have HO2 := hideR bo
  clear hh ss kk bb bo HC HP1 HT1 HK1 HBK1 HO1 k0 k1 k2 k3 k4 k5 k6
  have HF : Hid (St (id ++ ([x.op % 256] ++ Leb.uB x.a)) ov2 b2) := hideR (by simpa [List.append_assoc] using HT2.out)
  go_wp2
  go_end0
  exact ⟨_, _, _, rfl, HP2.out, HF.out, HK2.out⟩
set_option maxRecDepth 100000 in
set_option maxHeartbeats 4000000 in
theorem dIns6 (w0 : World) (p : Nat) (ov : Bool) (v : Value) (bs id : List Int) {d : Nat} (IH : DIS w0 p d) (x : Ins (IL d)) (q4 q5 q6 : Option Addr) (y4 z4 y5 z5 y6 z6 : Nat) (w : World) (h : PS w0 p ov v bs w) (hS : St id ov bs) (hf : form x.op = 6) (a4 : Ints w0 (.slice q4 y4 z4) x.labels) (a5 : At w0 d (.slice q5 y5 z5) x.body) (a6 : At w0 d (.slice q6 y6 z6) x.els) (r : Rg1 (Rg d) x) :
    Calls Tryz.prog 112 #[.pointer (some ⟨p, 0, none⟩), .agg #[.int .i64 x.op, .int .i64 x.a, .int .i64 x.b, .int .i64 x.n, .slice q4 y4 z4, .slice q5 y5 z5, .slice q6 y6 z6]] w (PDo w0 p v w (id ++ ([x.op % 256] ++ Leb.uB x.a))) := by
  have hb := new_on' w (.cells #[.int .i64 x.op, .int .i64 x.a, .int .i64 x.b, .int .i64 x.n, .slice q4 y4 z4, .slice q5 y5 z5, .slice q6 y6 z6] 52)
  have HBK0 := hideR (Bx.new (w := w) (b := w.heap.size) (t := 52) (cs := #[.int .i64 x.op, .int .i64 x.a, .int .i64 x.b, .int .i64 x.n, .slice q4 y4 z4, .slice q5 y5 z5, .slice q6 y6 z6]) rfl)
  obtain ⟨u1, hu1⟩ : ∃ u1, u1 = w.alloc (.cells #[.int .i64 x.op, .int .i64 x.a, .int .i64 x.b, .int .i64 x.n, .slice q4 y4 z4, .slice q5 y5 z5, .slice q6 y6 z6] 52) := ⟨_, rfl⟩
  rw [← hu1] at hb HBK0
  have HP0 := hideR (h.on hb)
  have HT0 := hideR hS
  have HK0 : Hid (Kept p v w v u1) := hideR (Kept.below hb)
  have HO0 : Hid (some w.heap.size ≠ v.ownBlock) := hideR (fun e => by have := (h.own.lt _ e.symm).2; omega)
  have HNP : Hid (w.heap.size ≠ p) := hideR (by have := h.lt; omega)
  have HU := hideR hu1
  have HIH := hideR IH
  have HA := hideR (⟨a4, a5, a6, r⟩ : Ints w0 (.slice q4 y4 z4) x.labels ∧ At w0 d (.slice q5 y5 z5) x.body ∧ At w0 d (.slice q6 y6 z6) x.els ∧ Rg1 (Rg d) x)
  clear h hS IH a4 a5 a6 r hb hu1
  have HFO : Hid (form x.op = 6) := hideR hf
  clear hf
  go_enter Tryz.func112, Tryz.ntmps112
  go_upto_region 1 with fail
  rw [← HU.out]
  clear HU
  generalize w.heap.size = p3 at *
  have k0 := HBK0.out.cell 0 _ rfl
  have k1 := HBK0.out.cell 1 _ rfl
  have k2 := HBK0.out.cell 2 _ rfl
  have k3 := HBK0.out.cell 3 _ rfl
  have k4 := HBK0.out.cell 4 _ rfl
  have k5 := HBK0.out.cell 5 _ rfl
  have k6 := HBK0.out.cell 6 _ rfl
  have HC := hideR (dByte w0 p ov v bs id x.op u1 HP0.out HT0.out)
  go_wp2_with fail
  refine HC.out.mono ?_
  rintro e w1 ⟨ov1, v1, b1, rfl, hh, ss, kk⟩
  obtain ⟨bb, bo⟩ := kk.bx HBK0.out HNP.out HO0.out
  have HP1 := hideR hh
  have HT1 := hideR ss
  have HK1 := hideR (HK0.out.trans kk)
  have HBK1 := hideR bb
  have HO1 := hideR bo
  clear hh ss kk bb bo HC HP0 HT0 HK0 HBK0 HO0 k0 k1 k2 k3 k4 k5 k6
  have k0 := HBK1.out.cell 0 _ rfl
  have k1 := HBK1.out.cell 1 _ rfl
  have k2 := HBK1.out.cell 2 _ rfl
  have k3 := HBK1.out.cell 3 _ rfl
  have k4 := HBK1.out.cell 4 _ rfl
  have k5 := HBK1.out.cell 5 _ rfl
  have k6 := HBK1.out.cell 6 _ rfl
  have HC := hideR (dU w0 p ov1 v1 b1 _ x.a w1 HP1.out HT1.out (HA.out.2.2.2.a (by have := HFO.out; omega) (by have := HFO.out; omega)).1 (by have := (HA.out.2.2.2.a (by have := HFO.out; omega) (by have := HFO.out; omega)).2; omega))
  have HFM := hideR (refForm x.op w1)
  go_wp2_with fail
  refine HFM.out.mono ?_
  rintro e wf ⟨rfl, rfl⟩
  clear HFM
  rw [HFO.out]
  go_wp2_with fail
  refine HC.out.mono ?_
  rintro e w2 ⟨ov2, v2, b2, rfl, hh, ss, kk⟩
  obtain ⟨bb, bo⟩ := kk.bx HBK1.out HNP.out HO1.out
  have HP2 := hideR hh
  have HT2 := hideR ss
  have HK2 := hideR (HK1.out.trans kk)
  have HBK2 := hideR bb
  have HO2 := hideR bo
  clear hh ss kk bb bo HC HP1 HT1 HK1 HBK1 HO1 k0 k1 k2 k3 k4 k5 k6
  have HF : Hid (St (id ++ ([x.op % 256] ++ Leb.uB x.a)) ov2 b2) := hideR (by simpa [List.append_assoc] using HT2.out)
  go_wp2
  go_end0
  exact ⟨_, _, _, rfl, HP2.out, HF.out, HK2.out⟩
set_option maxRecDepth 100000 in
set_option maxHeartbeats 4000000 in
theorem dIns5 (w0 : World) (p : Nat) (ov : Bool) (v : Value) (bs id : List Int) {d : Nat} (IH : DIS w0 p d) (x : Ins (IL d)) (q4 q5 q6 : Option Addr) (y4 z4 y5 z5 y6 z6 : Nat) (w : World) (h : PS w0 p ov v bs w) (hS : St id ov bs) (hf : form x.op = 5) (a4 : Ints w0 (.slice q4 y4 z4) x.labels) (a5 : At w0 d (.slice q5 y5 z5) x.body) (a6 : At w0 d (.slice q6 y6 z6) x.els) (r : Rg1 (Rg d) x) :
    Calls Tryz.prog 112 #[.pointer (some ⟨p, 0, none⟩), .agg #[.int .i64 x.op, .int .i64 x.a, .int .i64 x.b, .int .i64 x.n, .slice q4 y4 z4, .slice q5 y5 z5, .slice q6 y6 z6]] w (PDo w0 p v w (id ++ ([x.op % 256] ++ idxB x.labels ++ Leb.uB x.a))) := by
  have hb := new_on' w (.cells #[.int .i64 x.op, .int .i64 x.a, .int .i64 x.b, .int .i64 x.n, .slice q4 y4 z4, .slice q5 y5 z5, .slice q6 y6 z6] 52)
  have HBK0 := hideR (Bx.new (w := w) (b := w.heap.size) (t := 52) (cs := #[.int .i64 x.op, .int .i64 x.a, .int .i64 x.b, .int .i64 x.n, .slice q4 y4 z4, .slice q5 y5 z5, .slice q6 y6 z6]) rfl)
  obtain ⟨u1, hu1⟩ : ∃ u1, u1 = w.alloc (.cells #[.int .i64 x.op, .int .i64 x.a, .int .i64 x.b, .int .i64 x.n, .slice q4 y4 z4, .slice q5 y5 z5, .slice q6 y6 z6] 52) := ⟨_, rfl⟩
  rw [← hu1] at hb HBK0
  have HP0 := hideR (h.on hb)
  have HT0 := hideR hS
  have HK0 : Hid (Kept p v w v u1) := hideR (Kept.below hb)
  have HO0 : Hid (some w.heap.size ≠ v.ownBlock) := hideR (fun e => by have := (h.own.lt _ e.symm).2; omega)
  have HNP : Hid (w.heap.size ≠ p) := hideR (by have := h.lt; omega)
  have HU := hideR hu1
  have HIH := hideR IH
  have HA := hideR (⟨a4, a5, a6, r⟩ : Ints w0 (.slice q4 y4 z4) x.labels ∧ At w0 d (.slice q5 y5 z5) x.body ∧ At w0 d (.slice q6 y6 z6) x.els ∧ Rg1 (Rg d) x)
  clear h hS IH a4 a5 a6 r hb hu1
  have HFO : Hid (form x.op = 5) := hideR hf
  clear hf
  go_enter Tryz.func112, Tryz.ntmps112
  go_upto_region 1 with fail
  rw [← HU.out]
  clear HU
  generalize w.heap.size = p3 at *
  have k0 := HBK0.out.cell 0 _ rfl
  have k1 := HBK0.out.cell 1 _ rfl
  have k2 := HBK0.out.cell 2 _ rfl
  have k3 := HBK0.out.cell 3 _ rfl
  have k4 := HBK0.out.cell 4 _ rfl
  have k5 := HBK0.out.cell 5 _ rfl
  have k6 := HBK0.out.cell 6 _ rfl
  have HC := hideR (dByte w0 p ov v bs id x.op u1 HP0.out HT0.out)
  go_wp2_with fail
  refine HC.out.mono ?_
  rintro e w1 ⟨ov1, v1, b1, rfl, hh, ss, kk⟩
  obtain ⟨bb, bo⟩ := kk.bx HBK0.out HNP.out HO0.out
  have HP1 := hideR hh
  have HT1 := hideR ss
  have HK1 := hideR (HK0.out.trans kk)
  have HBK1 := hideR bb
  have HO1 := hideR bo
  clear hh ss kk bb bo HC HP0 HT0 HK0 HBK0 HO0 k0 k1 k2 k3 k4 k5 k6
  have k0 := HBK1.out.cell 0 _ rfl
  have k1 := HBK1.out.cell 1 _ rfl
  have k2 := HBK1.out.cell 2 _ rfl
  have k3 := HBK1.out.cell 3 _ rfl
  have k4 := HBK1.out.cell 4 _ rfl
  have k5 := HBK1.out.cell 5 _ rfl
  have k6 := HBK1.out.cell 6 _ rfl
  have HC := hideR (dList w0 p ov1 v1 b1 _ _ x.labels w1 HP1.out HT1.out HA.out.1 (HA.out.2.2.2.labels HFO.out))
  have HFM := hideR (refForm x.op w1)
  go_wp2_with fail
  refine HFM.out.mono ?_
  rintro e wf ⟨rfl, rfl⟩
  clear HFM
  rw [HFO.out]
  go_wp2_with fail
  refine HC.out.mono ?_
  rintro e w2 ⟨ov2, v2, b2, rfl, hh, ss, kk⟩
  obtain ⟨bb, bo⟩ := kk.bx HBK1.out HNP.out HO1.out
  have HP2 := hideR hh
  have HT2 := hideR ss
  have HK2 := hideR (HK1.out.trans kk)
  have HBK2 := hideR bb
  have HO2 := hideR bo
  clear hh ss kk bb bo HC HP1 HT1 HK1 HBK1 HO1 k0 k1 k2 k3 k4 k5 k6
  have k0 := HBK2.out.cell 0 _ rfl
  have k1 := HBK2.out.cell 1 _ rfl
  have k2 := HBK2.out.cell 2 _ rfl
  have k3 := HBK2.out.cell 3 _ rfl
  have k4 := HBK2.out.cell 4 _ rfl
  have k5 := HBK2.out.cell 5 _ rfl
  have k6 := HBK2.out.cell 6 _ rfl
  have HC := hideR (dU w0 p ov2 v2 b2 _ x.a w2 HP2.out HT2.out (HA.out.2.2.2.a (by have := HFO.out; omega) (by have := HFO.out; omega)).1 (by have := (HA.out.2.2.2.a (by have := HFO.out; omega) (by have := HFO.out; omega)).2; omega))
  go_wp2_with fail
  refine HC.out.mono ?_
  rintro e w3 ⟨ov3, v3, b3, rfl, hh, ss, kk⟩
  obtain ⟨bb, bo⟩ := kk.bx HBK2.out HNP.out HO2.out
  have HP3 := hideR hh
  have HT3 := hideR ss
  have HK3 := hideR (HK2.out.trans kk)
  have HBK3 := hideR bb
  have HO3 := hideR bo
  clear hh ss kk bb bo HC HP2 HT2 HK2 HBK2 HO2 k0 k1 k2 k3 k4 k5 k6
  have HF : Hid (St (id ++ ([x.op % 256] ++ idxB x.labels ++ Leb.uB x.a)) ov3 b3) := hideR (by simpa [List.append_assoc] using HT3.out)
  go_wp2
  go_end0
  exact ⟨_, _, _, rfl, HP3.out, HF.out, HK3.out⟩
set_option maxRecDepth 100000 in
set_option maxHeartbeats 4000000 in
theorem dIns7 (w0 : World) (p : Nat) (ov : Bool) (v : Value) (bs id : List Int) {d : Nat} (IH : DIS w0 p d) (x : Ins (IL d)) (q4 q5 q6 : Option Addr) (y4 z4 y5 z5 y6 z6 : Nat) (w : World) (h : PS w0 p ov v bs w) (hS : St id ov bs) (hf : form x.op = 7) (a4 : Ints w0 (.slice q4 y4 z4) x.labels) (a5 : At w0 d (.slice q5 y5 z5) x.body) (a6 : At w0 d (.slice q6 y6 z6) x.els) (r : Rg1 (Rg d) x) :
    Calls Tryz.prog 112 #[.pointer (some ⟨p, 0, none⟩), .agg #[.int .i64 x.op, .int .i64 x.a, .int .i64 x.b, .int .i64 x.n, .slice q4 y4 z4, .slice q5 y5 z5, .slice q6 y6 z6]] w (PDo w0 p v w (id ++ ([x.op % 256] ++ Leb.uB x.a ++ [0]))) := by
  have hb := new_on' w (.cells #[.int .i64 x.op, .int .i64 x.a, .int .i64 x.b, .int .i64 x.n, .slice q4 y4 z4, .slice q5 y5 z5, .slice q6 y6 z6] 52)
  have HBK0 := hideR (Bx.new (w := w) (b := w.heap.size) (t := 52) (cs := #[.int .i64 x.op, .int .i64 x.a, .int .i64 x.b, .int .i64 x.n, .slice q4 y4 z4, .slice q5 y5 z5, .slice q6 y6 z6]) rfl)
  obtain ⟨u1, hu1⟩ : ∃ u1, u1 = w.alloc (.cells #[.int .i64 x.op, .int .i64 x.a, .int .i64 x.b, .int .i64 x.n, .slice q4 y4 z4, .slice q5 y5 z5, .slice q6 y6 z6] 52) := ⟨_, rfl⟩
  rw [← hu1] at hb HBK0
  have HP0 := hideR (h.on hb)
  have HT0 := hideR hS
  have HK0 : Hid (Kept p v w v u1) := hideR (Kept.below hb)
  have HO0 : Hid (some w.heap.size ≠ v.ownBlock) := hideR (fun e => by have := (h.own.lt _ e.symm).2; omega)
  have HNP : Hid (w.heap.size ≠ p) := hideR (by have := h.lt; omega)
  have HU := hideR hu1
  have HIH := hideR IH
  have HA := hideR (⟨a4, a5, a6, r⟩ : Ints w0 (.slice q4 y4 z4) x.labels ∧ At w0 d (.slice q5 y5 z5) x.body ∧ At w0 d (.slice q6 y6 z6) x.els ∧ Rg1 (Rg d) x)
  clear h hS IH a4 a5 a6 r hb hu1
  have HFO : Hid (form x.op = 7) := hideR hf
  clear hf
  go_enter Tryz.func112, Tryz.ntmps112
  go_upto_region 1 with fail
  rw [← HU.out]
  clear HU
  generalize w.heap.size = p3 at *
  have k0 := HBK0.out.cell 0 _ rfl
  have k1 := HBK0.out.cell 1 _ rfl
  have k2 := HBK0.out.cell 2 _ rfl
  have k3 := HBK0.out.cell 3 _ rfl
  have k4 := HBK0.out.cell 4 _ rfl
  have k5 := HBK0.out.cell 5 _ rfl
  have k6 := HBK0.out.cell 6 _ rfl
  have HC := hideR (dByte w0 p ov v bs id x.op u1 HP0.out HT0.out)
  go_wp2_with fail
  refine HC.out.mono ?_
  rintro e w1 ⟨ov1, v1, b1, rfl, hh, ss, kk⟩
  obtain ⟨bb, bo⟩ := kk.bx HBK0.out HNP.out HO0.out
  have HP1 := hideR hh
  have HT1 := hideR ss
  have HK1 := hideR (HK0.out.trans kk)
  have HBK1 := hideR bb
  have HO1 := hideR bo
  clear hh ss kk bb bo HC HP0 HT0 HK0 HBK0 HO0 k0 k1 k2 k3 k4 k5 k6
  have k0 := HBK1.out.cell 0 _ rfl
  have k1 := HBK1.out.cell 1 _ rfl
  have k2 := HBK1.out.cell 2 _ rfl
  have k3 := HBK1.out.cell 3 _ rfl
  have k4 := HBK1.out.cell 4 _ rfl
  have k5 := HBK1.out.cell 5 _ rfl
  have k6 := HBK1.out.cell 6 _ rfl
  have HC := hideR (dU w0 p ov1 v1 b1 _ x.a w1 HP1.out HT1.out (HA.out.2.2.2.a (by have := HFO.out; omega) (by have := HFO.out; omega)).1 (by have := (HA.out.2.2.2.a (by have := HFO.out; omega) (by have := HFO.out; omega)).2; omega))
  have HFM := hideR (refForm x.op w1)
  go_wp2_with fail
  refine HFM.out.mono ?_
  rintro e wf ⟨rfl, rfl⟩
  clear HFM
  rw [HFO.out]
  go_wp2_with fail
  refine HC.out.mono ?_
  rintro e w2 ⟨ov2, v2, b2, rfl, hh, ss, kk⟩
  obtain ⟨bb, bo⟩ := kk.bx HBK1.out HNP.out HO1.out
  have HP2 := hideR hh
  have HT2 := hideR ss
  have HK2 := hideR (HK1.out.trans kk)
  have HBK2 := hideR bb
  have HO2 := hideR bo
  clear hh ss kk bb bo HC HP1 HT1 HK1 HBK1 HO1 k0 k1 k2 k3 k4 k5 k6
  have k0 := HBK2.out.cell 0 _ rfl
  have k1 := HBK2.out.cell 1 _ rfl
  have k2 := HBK2.out.cell 2 _ rfl
  have k3 := HBK2.out.cell 3 _ rfl
  have k4 := HBK2.out.cell 4 _ rfl
  have k5 := HBK2.out.cell 5 _ rfl
  have k6 := HBK2.out.cell 6 _ rfl
  have HC := hideR (dByte w0 p ov2 v2 b2 _ 0 w2 HP2.out HT2.out)
  go_wp2_with fail
  refine HC.out.mono ?_
  rintro e w3 ⟨ov3, v3, b3, rfl, hh, ss, kk⟩
  obtain ⟨bb, bo⟩ := kk.bx HBK2.out HNP.out HO2.out
  have HP3 := hideR hh
  have HT3 := hideR ss
  have HK3 := hideR (HK2.out.trans kk)
  have HBK3 := hideR bb
  have HO3 := hideR bo
  clear hh ss kk bb bo HC HP2 HT2 HK2 HBK2 HO2 k0 k1 k2 k3 k4 k5 k6
  have HF : Hid (St (id ++ ([x.op % 256] ++ Leb.uB x.a ++ [0])) ov3 b3) := hideR (by simpa [List.append_assoc] using HT3.out)
  go_wp2
  go_end0
  exact ⟨_, _, _, rfl, HP3.out, HF.out, HK3.out⟩
set_option maxRecDepth 100000 in
set_option maxHeartbeats 4000000 in
theorem dIns8 (w0 : World) (p : Nat) (ov : Bool) (v : Value) (bs id : List Int) {d : Nat} (IH : DIS w0 p d) (x : Ins (IL d)) (q4 q5 q6 : Option Addr) (y4 z4 y5 z5 y6 z6 : Nat) (w : World) (h : PS w0 p ov v bs w) (hS : St id ov bs) (hf : form x.op = 8) (a4 : Ints w0 (.slice q4 y4 z4) x.labels) (a5 : At w0 d (.slice q5 y5 z5) x.body) (a6 : At w0 d (.slice q6 y6 z6) x.els) (r : Rg1 (Rg d) x) :
    Calls Tryz.prog 112 #[.pointer (some ⟨p, 0, none⟩), .agg #[.int .i64 x.op, .int .i64 x.a, .int .i64 x.b, .int .i64 x.n, .slice q4 y4 z4, .slice q5 y5 z5, .slice q6 y6 z6]] w (PDo w0 p v w (id ++ ([x.op % 256] ++ Leb.uB x.a ++ Leb.uB x.b))) := by
  have hb := new_on' w (.cells #[.int .i64 x.op, .int .i64 x.a, .int .i64 x.b, .int .i64 x.n, .slice q4 y4 z4, .slice q5 y5 z5, .slice q6 y6 z6] 52)
  have HBK0 := hideR (Bx.new (w := w) (b := w.heap.size) (t := 52) (cs := #[.int .i64 x.op, .int .i64 x.a, .int .i64 x.b, .int .i64 x.n, .slice q4 y4 z4, .slice q5 y5 z5, .slice q6 y6 z6]) rfl)
  obtain ⟨u1, hu1⟩ : ∃ u1, u1 = w.alloc (.cells #[.int .i64 x.op, .int .i64 x.a, .int .i64 x.b, .int .i64 x.n, .slice q4 y4 z4, .slice q5 y5 z5, .slice q6 y6 z6] 52) := ⟨_, rfl⟩
  rw [← hu1] at hb HBK0
  have HP0 := hideR (h.on hb)
  have HT0 := hideR hS
  have HK0 : Hid (Kept p v w v u1) := hideR (Kept.below hb)
  have HO0 : Hid (some w.heap.size ≠ v.ownBlock) := hideR (fun e => by have := (h.own.lt _ e.symm).2; omega)
  have HNP : Hid (w.heap.size ≠ p) := hideR (by have := h.lt; omega)
  have HU := hideR hu1
  have HIH := hideR IH
  have HA := hideR (⟨a4, a5, a6, r⟩ : Ints w0 (.slice q4 y4 z4) x.labels ∧ At w0 d (.slice q5 y5 z5) x.body ∧ At w0 d (.slice q6 y6 z6) x.els ∧ Rg1 (Rg d) x)
  clear h hS IH a4 a5 a6 r hb hu1
  have HFO : Hid (form x.op = 8) := hideR hf
  clear hf
  go_enter Tryz.func112, Tryz.ntmps112
  go_upto_region 1 with fail
  rw [← HU.out]
  clear HU
  generalize w.heap.size = p3 at *
  have k0 := HBK0.out.cell 0 _ rfl
  have k1 := HBK0.out.cell 1 _ rfl
  have k2 := HBK0.out.cell 2 _ rfl
  have k3 := HBK0.out.cell 3 _ rfl
  have k4 := HBK0.out.cell 4 _ rfl
  have k5 := HBK0.out.cell 5 _ rfl
  have k6 := HBK0.out.cell 6 _ rfl
  have HC := hideR (dByte w0 p ov v bs id x.op u1 HP0.out HT0.out)
  go_wp2_with fail
  refine HC.out.mono ?_
  rintro e w1 ⟨ov1, v1, b1, rfl, hh, ss, kk⟩
  obtain ⟨bb, bo⟩ := kk.bx HBK0.out HNP.out HO0.out
  have HP1 := hideR hh
  have HT1 := hideR ss
  have HK1 := hideR (HK0.out.trans kk)
  have HBK1 := hideR bb
  have HO1 := hideR bo
  clear hh ss kk bb bo HC HP0 HT0 HK0 HBK0 HO0 k0 k1 k2 k3 k4 k5 k6
  have k0 := HBK1.out.cell 0 _ rfl
  have k1 := HBK1.out.cell 1 _ rfl
  have k2 := HBK1.out.cell 2 _ rfl
  have k3 := HBK1.out.cell 3 _ rfl
  have k4 := HBK1.out.cell 4 _ rfl
  have k5 := HBK1.out.cell 5 _ rfl
  have k6 := HBK1.out.cell 6 _ rfl
  have HC := hideR (dU w0 p ov1 v1 b1 _ x.a w1 HP1.out HT1.out (HA.out.2.2.2.a (by have := HFO.out; omega) (by have := HFO.out; omega)).1 (by have := (HA.out.2.2.2.a (by have := HFO.out; omega) (by have := HFO.out; omega)).2; omega))
  have HFM := hideR (refForm x.op w1)
  go_wp2_with fail
  refine HFM.out.mono ?_
  rintro e wf ⟨rfl, rfl⟩
  clear HFM
  rw [HFO.out]
  go_wp2_with fail
  refine HC.out.mono ?_
  rintro e w2 ⟨ov2, v2, b2, rfl, hh, ss, kk⟩
  obtain ⟨bb, bo⟩ := kk.bx HBK1.out HNP.out HO1.out
  have HP2 := hideR hh
  have HT2 := hideR ss
  have HK2 := hideR (HK1.out.trans kk)
  have HBK2 := hideR bb
  have HO2 := hideR bo
  clear hh ss kk bb bo HC HP1 HT1 HK1 HBK1 HO1 k0 k1 k2 k3 k4 k5 k6
  have k0 := HBK2.out.cell 0 _ rfl
  have k1 := HBK2.out.cell 1 _ rfl
  have k2 := HBK2.out.cell 2 _ rfl
  have k3 := HBK2.out.cell 3 _ rfl
  have k4 := HBK2.out.cell 4 _ rfl
  have k5 := HBK2.out.cell 5 _ rfl
  have k6 := HBK2.out.cell 6 _ rfl
  have HC := hideR (dU w0 p ov2 v2 b2 _ x.b w2 HP2.out HT2.out (HA.out.2.2.2.b HFO.out).1 (by have := (HA.out.2.2.2.b HFO.out).2; omega))
  go_wp2_with fail
  refine HC.out.mono ?_
  rintro e w3 ⟨ov3, v3, b3, rfl, hh, ss, kk⟩
  obtain ⟨bb, bo⟩ := kk.bx HBK2.out HNP.out HO2.out
  have HP3 := hideR hh
  have HT3 := hideR ss
  have HK3 := hideR (HK2.out.trans kk)
  have HBK3 := hideR bb
  have HO3 := hideR bo
  clear hh ss kk bb bo HC HP2 HT2 HK2 HBK2 HO2 k0 k1 k2 k3 k4 k5 k6
  have HF : Hid (St (id ++ ([x.op % 256] ++ Leb.uB x.a ++ Leb.uB x.b)) ov3 b3) := hideR (by simpa [List.append_assoc] using HT3.out)
  go_wp2
  go_end0
  exact ⟨_, _, _, rfl, HP3.out, HF.out, HK3.out⟩
set_option maxRecDepth 100000 in
set_option maxHeartbeats 4000000 in
theorem dIns9 (w0 : World) (p : Nat) (ov : Bool) (v : Value) (bs id : List Int) {d : Nat} (IH : DIS w0 p d) (x : Ins (IL d)) (q4 q5 q6 : Option Addr) (y4 z4 y5 z5 y6 z6 : Nat) (w : World) (h : PS w0 p ov v bs w) (hS : St id ov bs) (hf : form x.op = 9) (a4 : Ints w0 (.slice q4 y4 z4) x.labels) (a5 : At w0 d (.slice q5 y5 z5) x.body) (a6 : At w0 d (.slice q6 y6 z6) x.els) (r : Rg1 (Rg d) x) :
    Calls Tryz.prog 112 #[.pointer (some ⟨p, 0, none⟩), .agg #[.int .i64 x.op, .int .i64 x.a, .int .i64 x.b, .int .i64 x.n, .slice q4 y4 z4, .slice q5 y5 z5, .slice q6 y6 z6]] w (PDo w0 p v w (id ++ ([x.op % 256] ++ Leb.sB x.n))) := by
  have hb := new_on' w (.cells #[.int .i64 x.op, .int .i64 x.a, .int .i64 x.b, .int .i64 x.n, .slice q4 y4 z4, .slice q5 y5 z5, .slice q6 y6 z6] 52)
  have HBK0 := hideR (Bx.new (w := w) (b := w.heap.size) (t := 52) (cs := #[.int .i64 x.op, .int .i64 x.a, .int .i64 x.b, .int .i64 x.n, .slice q4 y4 z4, .slice q5 y5 z5, .slice q6 y6 z6]) rfl)
  obtain ⟨u1, hu1⟩ : ∃ u1, u1 = w.alloc (.cells #[.int .i64 x.op, .int .i64 x.a, .int .i64 x.b, .int .i64 x.n, .slice q4 y4 z4, .slice q5 y5 z5, .slice q6 y6 z6] 52) := ⟨_, rfl⟩
  rw [← hu1] at hb HBK0
  have HP0 := hideR (h.on hb)
  have HT0 := hideR hS
  have HK0 : Hid (Kept p v w v u1) := hideR (Kept.below hb)
  have HO0 : Hid (some w.heap.size ≠ v.ownBlock) := hideR (fun e => by have := (h.own.lt _ e.symm).2; omega)
  have HNP : Hid (w.heap.size ≠ p) := hideR (by have := h.lt; omega)
  have HU := hideR hu1
  have HIH := hideR IH
  have HA := hideR (⟨a4, a5, a6, r⟩ : Ints w0 (.slice q4 y4 z4) x.labels ∧ At w0 d (.slice q5 y5 z5) x.body ∧ At w0 d (.slice q6 y6 z6) x.els ∧ Rg1 (Rg d) x)
  clear h hS IH a4 a5 a6 r hb hu1
  have HFO : Hid (form x.op = 9) := hideR hf
  clear hf
  go_enter Tryz.func112, Tryz.ntmps112
  go_upto_region 1 with fail
  rw [← HU.out]
  clear HU
  generalize w.heap.size = p3 at *
  have k0 := HBK0.out.cell 0 _ rfl
  have k1 := HBK0.out.cell 1 _ rfl
  have k2 := HBK0.out.cell 2 _ rfl
  have k3 := HBK0.out.cell 3 _ rfl
  have k4 := HBK0.out.cell 4 _ rfl
  have k5 := HBK0.out.cell 5 _ rfl
  have k6 := HBK0.out.cell 6 _ rfl
  have HC := hideR (dByte w0 p ov v bs id x.op u1 HP0.out HT0.out)
  go_wp2_with fail
  refine HC.out.mono ?_
  rintro e w1 ⟨ov1, v1, b1, rfl, hh, ss, kk⟩
  obtain ⟨bb, bo⟩ := kk.bx HBK0.out HNP.out HO0.out
  have HP1 := hideR hh
  have HT1 := hideR ss
  have HK1 := hideR (HK0.out.trans kk)
  have HBK1 := hideR bb
  have HO1 := hideR bo
  clear hh ss kk bb bo HC HP0 HT0 HK0 HBK0 HO0 k0 k1 k2 k3 k4 k5 k6
  have k0 := HBK1.out.cell 0 _ rfl
  have k1 := HBK1.out.cell 1 _ rfl
  have k2 := HBK1.out.cell 2 _ rfl
  have k3 := HBK1.out.cell 3 _ rfl
  have k4 := HBK1.out.cell 4 _ rfl
  have k5 := HBK1.out.cell 5 _ rfl
  have k6 := HBK1.out.cell 6 _ rfl
  have HC := hideR (dS w0 p ov1 v1 b1 _ x.n w1 HP1.out HT1.out (HA.out.2.2.2.n HFO.out).1 (HA.out.2.2.2.n HFO.out).2)
  have HFM := hideR (refForm x.op w1)
  go_wp2_with fail
  refine HFM.out.mono ?_
  rintro e wf ⟨rfl, rfl⟩
  clear HFM
  rw [HFO.out]
  go_wp2_with fail
  refine HC.out.mono ?_
  rintro e w2 ⟨ov2, v2, b2, rfl, hh, ss, kk⟩
  obtain ⟨bb, bo⟩ := kk.bx HBK1.out HNP.out HO1.out
  have HP2 := hideR hh
  have HT2 := hideR ss
  have HK2 := hideR (HK1.out.trans kk)
  have HBK2 := hideR bb
  have HO2 := hideR bo
  clear hh ss kk bb bo HC HP1 HT1 HK1 HBK1 HO1 k0 k1 k2 k3 k4 k5 k6
  have HF : Hid (St (id ++ ([x.op % 256] ++ Leb.sB x.n)) ov2 b2) := hideR (by simpa [List.append_assoc] using HT2.out)
  go_wp2
  go_end0
  exact ⟨_, _, _, rfl, HP2.out, HF.out, HK2.out⟩
end Go.Proofs.YtloelineidlenaaGreatDoor

namespace Go.Proofs.YtloelineidlenaaGreatDoor
open Go.RowKit Rep Enc Go.Lib
set_option linter.unusedVariables false
set_option maxRecDepth 100000 in
set_option maxHeartbeats 4000000 in
theorem dIns200 (w0 : World) (p : Nat) (ov : Bool) (v : Value) (bs id : List Int) {d : Nat} (IH : DIS w0 p d) (x : Ins (IL d)) (q4 q5 q6 : Option Addr) (y4 z4 y5 z5 y6 z6 : Nat) (w : World) (h : PS w0 p ov v bs w) (hS : St id ov bs) (hf : form x.op = 2) (ha : (x.a == 0) = true) (hy : y6 < 1) (a4 : Ints w0 (.slice q4 y4 z4) x.labels) (a5 : At w0 d (.slice q5 y5 z5) x.body) (a6 : At w0 d (.slice q6 y6 z6) x.els) (r : Rg1 (Rg d) x) :
    Calls Tryz.prog 112 #[.pointer (some ⟨p, 0, none⟩), .agg #[.int .i64 x.op, .int .i64 x.a, .int .i64 x.b, .int .i64 x.n, .slice q4 y4 z4, .slice q5 y5 z5, .slice q6 y6 z6]] w (PDo w0 p v w (id ++ ([x.op % 256] ++ [64] ++ bytesI d x.body ++ [11]))) := by
  have hb := new_on' w (.cells #[.int .i64 x.op, .int .i64 x.a, .int .i64 x.b, .int .i64 x.n, .slice q4 y4 z4, .slice q5 y5 z5, .slice q6 y6 z6] 52)
  have HBK0 := hideR (Bx.new (w := w) (b := w.heap.size) (t := 52) (cs := #[.int .i64 x.op, .int .i64 x.a, .int .i64 x.b, .int .i64 x.n, .slice q4 y4 z4, .slice q5 y5 z5, .slice q6 y6 z6]) rfl)
  obtain ⟨u1, hu1⟩ : ∃ u1, u1 = w.alloc (.cells #[.int .i64 x.op, .int .i64 x.a, .int .i64 x.b, .int .i64 x.n, .slice q4 y4 z4, .slice q5 y5 z5, .slice q6 y6 z6] 52) := ⟨_, rfl⟩
  rw [← hu1] at hb HBK0
  have HP0 := hideR (h.on hb)
  have HT0 := hideR hS
  have HK0 : Hid (Kept p v w v u1) := hideR (Kept.below hb)
  have HO0 : Hid (some w.heap.size ≠ v.ownBlock) := hideR (fun e => by have := (h.own.lt _ e.symm).2; omega)
  have HNP : Hid (w.heap.size ≠ p) := hideR (by have := h.lt; omega)
  have HU := hideR hu1
  have HIH := hideR IH
  have HA := hideR (⟨a4, a5, a6, r⟩ : Ints w0 (.slice q4 y4 z4) x.labels ∧ At w0 d (.slice q5 y5 z5) x.body ∧ At w0 d (.slice q6 y6 z6) x.els ∧ Rg1 (Rg d) x)
  clear h hS IH a4 a5 a6 r hb hu1
  have HFO : Hid (form x.op = 2) := hideR hf
  clear hf
  go_enter Tryz.func112, Tryz.ntmps112
  go_upto_region 1 with fail
  rw [← HU.out]
  clear HU
  generalize w.heap.size = p3 at *
  have k0 := HBK0.out.cell 0 _ rfl
  have k1 := HBK0.out.cell 1 _ rfl
  have k2 := HBK0.out.cell 2 _ rfl
  have k3 := HBK0.out.cell 3 _ rfl
  have k4 := HBK0.out.cell 4 _ rfl
  have k5 := HBK0.out.cell 5 _ rfl
  have k6 := HBK0.out.cell 6 _ rfl
  have HC := hideR (dByte w0 p ov v bs id x.op u1 HP0.out HT0.out)
  go_wp2_with fail
  refine HC.out.mono ?_
  rintro e w1 ⟨ov1, v1, b1, rfl, hh, ss, kk⟩
  obtain ⟨bb, bo⟩ := kk.bx HBK0.out HNP.out HO0.out
  have HP1 := hideR hh
  have HT1 := hideR ss
  have HK1 := hideR (HK0.out.trans kk)
  have HBK1 := hideR bb
  have HO1 := hideR bo
  clear hh ss kk bb bo HC HP0 HT0 HK0 HBK0 HO0 k0 k1 k2 k3 k4 k5 k6
  have k0 := HBK1.out.cell 0 _ rfl
  have k1 := HBK1.out.cell 1 _ rfl
  have k2 := HBK1.out.cell 2 _ rfl
  have k3 := HBK1.out.cell 3 _ rfl
  have k4 := HBK1.out.cell 4 _ rfl
  have k5 := HBK1.out.cell 5 _ rfl
  have k6 := HBK1.out.cell 6 _ rfl
  have HC := hideR (dByte w0 p ov1 v1 b1 _ 64 w1 HP1.out HT1.out)
  have HFM := hideR (refForm x.op w1)
  go_wp2_with fail
  refine HFM.out.mono ?_
  rintro e wf ⟨rfl, rfl⟩
  clear HFM
  rw [HFO.out]
  go_wp2_with fail
  refine HC.out.mono ?_
  rintro e w2 ⟨ov2, v2, b2, rfl, hh, ss, kk⟩
  obtain ⟨bb, bo⟩ := kk.bx HBK1.out HNP.out HO1.out
  have HP2 := hideR hh
  have HT2 := hideR ss
  have HK2 := hideR (HK1.out.trans kk)
  have HBK2 := hideR bb
  have HO2 := hideR bo
  clear hh ss kk bb bo HC HP1 HT1 HK1 HBK1 HO1 k0 k1 k2 k3 k4 k5 k6
  have k0 := HBK2.out.cell 0 _ rfl
  have k1 := HBK2.out.cell 1 _ rfl
  have k2 := HBK2.out.cell 2 _ rfl
  have k3 := HBK2.out.cell 3 _ rfl
  have k4 := HBK2.out.cell 4 _ rfl
  have k5 := HBK2.out.cell 5 _ rfl
  have k6 := HBK2.out.cell 6 _ rfl
  have HC := hideR (HIH.out _ x.body ov2 v2 b2 _ w2 HP2.out HT2.out HA.out.2.1 HA.out.2.2.2.body)
  go_wp2_with fail
  refine HC.out.mono ?_
  rintro e w3 ⟨ov3, v3, b3, rfl, hh, ss, kk⟩
  obtain ⟨bb, bo⟩ := kk.bx HBK2.out HNP.out HO2.out
  have HP3 := hideR hh
  have HT3 := hideR ss
  have HK3 := hideR (HK2.out.trans kk)
  have HBK3 := hideR bb
  have HO3 := hideR bo
  clear hh ss kk bb bo HC HP2 HT2 HK2 HBK2 HO2 k0 k1 k2 k3 k4 k5 k6
  have k0 := HBK3.out.cell 0 _ rfl
  have k1 := HBK3.out.cell 1 _ rfl
  have k2 := HBK3.out.cell 2 _ rfl
  have k3 := HBK3.out.cell 3 _ rfl
  have k4 := HBK3.out.cell 4 _ rfl
  have k5 := HBK3.out.cell 5 _ rfl
  have k6 := HBK3.out.cell 6 _ rfl
  have HC := hideR (dByte w0 p ov3 v3 b3 _ 11 w3 HP3.out HT3.out)
  go_wp2_with fail
  refine HC.out.mono ?_
  rintro e w4 ⟨ov4, v4, b4, rfl, hh, ss, kk⟩
  obtain ⟨bb, bo⟩ := kk.bx HBK3.out HNP.out HO3.out
  have HP4 := hideR hh
  have HT4 := hideR ss
  have HK4 := hideR (HK3.out.trans kk)
  have HBK4 := hideR bb
  have HO4 := hideR bo
  clear hh ss kk bb bo HC HP3 HT3 HK3 HBK3 HO3 k0 k1 k2 k3 k4 k5 k6
  have HF : Hid (St (id ++ ([x.op % 256] ++ [64] ++ bytesI d x.body ++ [11])) ov4 b4) := hideR (by simpa [List.append_assoc] using HT4.out)
  go_wp2
  go_end0
  exact ⟨_, _, _, rfl, HP4.out, HF.out, HK4.out⟩
set_option maxRecDepth 100000 in
set_option maxHeartbeats 4000000 in
theorem dIns201 (w0 : World) (p : Nat) (ov : Bool) (v : Value) (bs id : List Int) {d : Nat} (IH : DIS w0 p d) (x : Ins (IL d)) (q4 q5 q6 : Option Addr) (y4 z4 y5 z5 y6 z6 : Nat) (w : World) (h : PS w0 p ov v bs w) (hS : St id ov bs) (hf : form x.op = 2) (ha : (x.a == 0) = true) (hy : 0 < y6) (a4 : Ints w0 (.slice q4 y4 z4) x.labels) (a5 : At w0 d (.slice q5 y5 z5) x.body) (a6 : At w0 d (.slice q6 y6 z6) x.els) (r : Rg1 (Rg d) x) :
    Calls Tryz.prog 112 #[.pointer (some ⟨p, 0, none⟩), .agg #[.int .i64 x.op, .int .i64 x.a, .int .i64 x.b, .int .i64 x.n, .slice q4 y4 z4, .slice q5 y5 z5, .slice q6 y6 z6]] w (PDo w0 p v w (id ++ ([x.op % 256] ++ [64] ++ bytesI d x.body ++ [5] ++ bytesI d x.els ++ [11]))) := by
  have hb := new_on' w (.cells #[.int .i64 x.op, .int .i64 x.a, .int .i64 x.b, .int .i64 x.n, .slice q4 y4 z4, .slice q5 y5 z5, .slice q6 y6 z6] 52)
  have HBK0 := hideR (Bx.new (w := w) (b := w.heap.size) (t := 52) (cs := #[.int .i64 x.op, .int .i64 x.a, .int .i64 x.b, .int .i64 x.n, .slice q4 y4 z4, .slice q5 y5 z5, .slice q6 y6 z6]) rfl)
  obtain ⟨u1, hu1⟩ : ∃ u1, u1 = w.alloc (.cells #[.int .i64 x.op, .int .i64 x.a, .int .i64 x.b, .int .i64 x.n, .slice q4 y4 z4, .slice q5 y5 z5, .slice q6 y6 z6] 52) := ⟨_, rfl⟩
  rw [← hu1] at hb HBK0
  have HP0 := hideR (h.on hb)
  have HT0 := hideR hS
  have HK0 : Hid (Kept p v w v u1) := hideR (Kept.below hb)
  have HO0 : Hid (some w.heap.size ≠ v.ownBlock) := hideR (fun e => by have := (h.own.lt _ e.symm).2; omega)
  have HNP : Hid (w.heap.size ≠ p) := hideR (by have := h.lt; omega)
  have HU := hideR hu1
  have HIH := hideR IH
  have HA := hideR (⟨a4, a5, a6, r⟩ : Ints w0 (.slice q4 y4 z4) x.labels ∧ At w0 d (.slice q5 y5 z5) x.body ∧ At w0 d (.slice q6 y6 z6) x.els ∧ Rg1 (Rg d) x)
  clear h hS IH a4 a5 a6 r hb hu1
  have HFO : Hid (form x.op = 2) := hideR hf
  clear hf
  go_enter Tryz.func112, Tryz.ntmps112
  go_upto_region 1 with fail
  rw [← HU.out]
  clear HU
  generalize w.heap.size = p3 at *
  have k0 := HBK0.out.cell 0 _ rfl
  have k1 := HBK0.out.cell 1 _ rfl
  have k2 := HBK0.out.cell 2 _ rfl
  have k3 := HBK0.out.cell 3 _ rfl
  have k4 := HBK0.out.cell 4 _ rfl
  have k5 := HBK0.out.cell 5 _ rfl
  have k6 := HBK0.out.cell 6 _ rfl
  have HC := hideR (dByte w0 p ov v bs id x.op u1 HP0.out HT0.out)
  go_wp2_with fail
  refine HC.out.mono ?_
  rintro e w1 ⟨ov1, v1, b1, rfl, hh, ss, kk⟩
  obtain ⟨bb, bo⟩ := kk.bx HBK0.out HNP.out HO0.out
  have HP1 := hideR hh
  have HT1 := hideR ss
  have HK1 := hideR (HK0.out.trans kk)
  have HBK1 := hideR bb
  have HO1 := hideR bo
  clear hh ss kk bb bo HC HP0 HT0 HK0 HBK0 HO0 k0 k1 k2 k3 k4 k5 k6
  have k0 := HBK1.out.cell 0 _ rfl
  have k1 := HBK1.out.cell 1 _ rfl
  have k2 := HBK1.out.cell 2 _ rfl
  have k3 := HBK1.out.cell 3 _ rfl
  have k4 := HBK1.out.cell 4 _ rfl
  have k5 := HBK1.out.cell 5 _ rfl
  have k6 := HBK1.out.cell 6 _ rfl
  have HC := hideR (dByte w0 p ov1 v1 b1 _ 64 w1 HP1.out HT1.out)
  have HFM := hideR (refForm x.op w1)
  go_wp2_with fail
  refine HFM.out.mono ?_
  rintro e wf ⟨rfl, rfl⟩
  clear HFM
  rw [HFO.out]
  go_wp2_with fail
  refine HC.out.mono ?_
  rintro e w2 ⟨ov2, v2, b2, rfl, hh, ss, kk⟩
  obtain ⟨bb, bo⟩ := kk.bx HBK1.out HNP.out HO1.out
  have HP2 := hideR hh
  have HT2 := hideR ss
  have HK2 := hideR (HK1.out.trans kk)
  have HBK2 := hideR bb
  have HO2 := hideR bo
  clear hh ss kk bb bo HC HP1 HT1 HK1 HBK1 HO1 k0 k1 k2 k3 k4 k5 k6
  have k0 := HBK2.out.cell 0 _ rfl
  have k1 := HBK2.out.cell 1 _ rfl
  have k2 := HBK2.out.cell 2 _ rfl
  have k3 := HBK2.out.cell 3 _ rfl
  have k4 := HBK2.out.cell 4 _ rfl
  have k5 := HBK2.out.cell 5 _ rfl
  have k6 := HBK2.out.cell 6 _ rfl
  have HC := hideR (HIH.out _ x.body ov2 v2 b2 _ w2 HP2.out HT2.out HA.out.2.1 HA.out.2.2.2.body)
  go_wp2_with fail
  refine HC.out.mono ?_
  rintro e w3 ⟨ov3, v3, b3, rfl, hh, ss, kk⟩
  obtain ⟨bb, bo⟩ := kk.bx HBK2.out HNP.out HO2.out
  have HP3 := hideR hh
  have HT3 := hideR ss
  have HK3 := hideR (HK2.out.trans kk)
  have HBK3 := hideR bb
  have HO3 := hideR bo
  clear hh ss kk bb bo HC HP2 HT2 HK2 HBK2 HO2 k0 k1 k2 k3 k4 k5 k6
  have k0 := HBK3.out.cell 0 _ rfl
  have k1 := HBK3.out.cell 1 _ rfl
  have k2 := HBK3.out.cell 2 _ rfl
  have k3 := HBK3.out.cell 3 _ rfl
  have k4 := HBK3.out.cell 4 _ rfl
  have k5 := HBK3.out.cell 5 _ rfl
  have k6 := HBK3.out.cell 6 _ rfl
  have HC := hideR (dByte w0 p ov3 v3 b3 _ 5 w3 HP3.out HT3.out)
  go_wp2_with fail
  refine HC.out.mono ?_
  rintro e w4 ⟨ov4, v4, b4, rfl, hh, ss, kk⟩
  obtain ⟨bb, bo⟩ := kk.bx HBK3.out HNP.out HO3.out
  have HP4 := hideR hh
  have HT4 := hideR ss
  have HK4 := hideR (HK3.out.trans kk)
  have HBK4 := hideR bb
  have HO4 := hideR bo
  clear hh ss kk bb bo HC HP3 HT3 HK3 HBK3 HO3 k0 k1 k2 k3 k4 k5 k6
  have k0 := HBK4.out.cell 0 _ rfl
  have k1 := HBK4.out.cell 1 _ rfl
  have k2 := HBK4.out.cell 2 _ rfl
  have k3 := HBK4.out.cell 3 _ rfl
  have k4 := HBK4.out.cell 4 _ rfl
  have k5 := HBK4.out.cell 5 _ rfl
  have k6 := HBK4.out.cell 6 _ rfl
  have HC := hideR (HIH.out _ x.els ov4 v4 b4 _ w4 HP4.out HT4.out HA.out.2.2.1 HA.out.2.2.2.els)
  go_wp2_with fail
  refine HC.out.mono ?_
  rintro e w5 ⟨ov5, v5, b5, rfl, hh, ss, kk⟩
  obtain ⟨bb, bo⟩ := kk.bx HBK4.out HNP.out HO4.out
  have HP5 := hideR hh
  have HT5 := hideR ss
  have HK5 := hideR (HK4.out.trans kk)
  have HBK5 := hideR bb
  have HO5 := hideR bo
  clear hh ss kk bb bo HC HP4 HT4 HK4 HBK4 HO4 k0 k1 k2 k3 k4 k5 k6
  have k0 := HBK5.out.cell 0 _ rfl
  have k1 := HBK5.out.cell 1 _ rfl
  have k2 := HBK5.out.cell 2 _ rfl
  have k3 := HBK5.out.cell 3 _ rfl
  have k4 := HBK5.out.cell 4 _ rfl
  have k5 := HBK5.out.cell 5 _ rfl
  have k6 := HBK5.out.cell 6 _ rfl
  have HC := hideR (dByte w0 p ov5 v5 b5 _ 11 w5 HP5.out HT5.out)
  go_wp2_with fail
  refine HC.out.mono ?_
  rintro e w6 ⟨ov6, v6, b6, rfl, hh, ss, kk⟩
  obtain ⟨bb, bo⟩ := kk.bx HBK5.out HNP.out HO5.out
  have HP6 := hideR hh
  have HT6 := hideR ss
  have HK6 := hideR (HK5.out.trans kk)
  have HBK6 := hideR bb
  have HO6 := hideR bo
  clear hh ss kk bb bo HC HP5 HT5 HK5 HBK5 HO5 k0 k1 k2 k3 k4 k5 k6
  have HF : Hid (St (id ++ ([x.op % 256] ++ [64] ++ bytesI d x.body ++ [5] ++ bytesI d x.els ++ [11])) ov6 b6) := hideR (by simpa [List.append_assoc] using HT6.out)
  go_wp2
  go_end0
  exact ⟨_, _, _, rfl, HP6.out, HF.out, HK6.out⟩
set_option maxRecDepth 100000 in
set_option maxHeartbeats 4000000 in
theorem dIns210 (w0 : World) (p : Nat) (ov : Bool) (v : Value) (bs id : List Int) {d : Nat} (IH : DIS w0 p d) (x : Ins (IL d)) (q4 q5 q6 : Option Addr) (y4 z4 y5 z5 y6 z6 : Nat) (w : World) (h : PS w0 p ov v bs w) (hS : St id ov bs) (hf : form x.op = 2) (ha : (x.a == 0) = false) (hy : y6 < 1) (a4 : Ints w0 (.slice q4 y4 z4) x.labels) (a5 : At w0 d (.slice q5 y5 z5) x.body) (a6 : At w0 d (.slice q6 y6 z6) x.els) (r : Rg1 (Rg d) x) :
    Calls Tryz.prog 112 #[.pointer (some ⟨p, 0, none⟩), .agg #[.int .i64 x.op, .int .i64 x.a, .int .i64 x.b, .int .i64 x.n, .slice q4 y4 z4, .slice q5 y5 z5, .slice q6 y6 z6]] w (PDo w0 p v w (id ++ ([x.op % 256] ++ [x.a % 256] ++ bytesI d x.body ++ [11]))) := by
  have hb := new_on' w (.cells #[.int .i64 x.op, .int .i64 x.a, .int .i64 x.b, .int .i64 x.n, .slice q4 y4 z4, .slice q5 y5 z5, .slice q6 y6 z6] 52)
  have HBK0 := hideR (Bx.new (w := w) (b := w.heap.size) (t := 52) (cs := #[.int .i64 x.op, .int .i64 x.a, .int .i64 x.b, .int .i64 x.n, .slice q4 y4 z4, .slice q5 y5 z5, .slice q6 y6 z6]) rfl)
  obtain ⟨u1, hu1⟩ : ∃ u1, u1 = w.alloc (.cells #[.int .i64 x.op, .int .i64 x.a, .int .i64 x.b, .int .i64 x.n, .slice q4 y4 z4, .slice q5 y5 z5, .slice q6 y6 z6] 52) := ⟨_, rfl⟩
  rw [← hu1] at hb HBK0
  have HP0 := hideR (h.on hb)
  have HT0 := hideR hS
  have HK0 : Hid (Kept p v w v u1) := hideR (Kept.below hb)
  have HO0 : Hid (some w.heap.size ≠ v.ownBlock) := hideR (fun e => by have := (h.own.lt _ e.symm).2; omega)
  have HNP : Hid (w.heap.size ≠ p) := hideR (by have := h.lt; omega)
  have HU := hideR hu1
  have HIH := hideR IH
  have HA := hideR (⟨a4, a5, a6, r⟩ : Ints w0 (.slice q4 y4 z4) x.labels ∧ At w0 d (.slice q5 y5 z5) x.body ∧ At w0 d (.slice q6 y6 z6) x.els ∧ Rg1 (Rg d) x)
  clear h hS IH a4 a5 a6 r hb hu1
  have HFO : Hid (form x.op = 2) := hideR hf
  clear hf
  go_enter Tryz.func112, Tryz.ntmps112
  go_upto_region 1 with fail
  rw [← HU.out]
  clear HU
  generalize w.heap.size = p3 at *
  have k0 := HBK0.out.cell 0 _ rfl
  have k1 := HBK0.out.cell 1 _ rfl
  have k2 := HBK0.out.cell 2 _ rfl
  have k3 := HBK0.out.cell 3 _ rfl
  have k4 := HBK0.out.cell 4 _ rfl
  have k5 := HBK0.out.cell 5 _ rfl
  have k6 := HBK0.out.cell 6 _ rfl
  have HC := hideR (dByte w0 p ov v bs id x.op u1 HP0.out HT0.out)
  go_wp2_with fail
  refine HC.out.mono ?_
  rintro e w1 ⟨ov1, v1, b1, rfl, hh, ss, kk⟩
  obtain ⟨bb, bo⟩ := kk.bx HBK0.out HNP.out HO0.out
  have HP1 := hideR hh
  have HT1 := hideR ss
  have HK1 := hideR (HK0.out.trans kk)
  have HBK1 := hideR bb
  have HO1 := hideR bo
  clear hh ss kk bb bo HC HP0 HT0 HK0 HBK0 HO0 k0 k1 k2 k3 k4 k5 k6
  have k0 := HBK1.out.cell 0 _ rfl
  have k1 := HBK1.out.cell 1 _ rfl
  have k2 := HBK1.out.cell 2 _ rfl
  have k3 := HBK1.out.cell 3 _ rfl
  have k4 := HBK1.out.cell 4 _ rfl
  have k5 := HBK1.out.cell 5 _ rfl
  have k6 := HBK1.out.cell 6 _ rfl
  have HC := hideR (dByte w0 p ov1 v1 b1 _ x.a w1 HP1.out HT1.out)
  have HFM := hideR (refForm x.op w1)
  go_wp2_with fail
  refine HFM.out.mono ?_
  rintro e wf ⟨rfl, rfl⟩
  clear HFM
  rw [HFO.out]
  go_wp2_with fail
  refine HC.out.mono ?_
  rintro e w2 ⟨ov2, v2, b2, rfl, hh, ss, kk⟩
  obtain ⟨bb, bo⟩ := kk.bx HBK1.out HNP.out HO1.out
  have HP2 := hideR hh
  have HT2 := hideR ss
  have HK2 := hideR (HK1.out.trans kk)
  have HBK2 := hideR bb
  have HO2 := hideR bo
  clear hh ss kk bb bo HC HP1 HT1 HK1 HBK1 HO1 k0 k1 k2 k3 k4 k5 k6
  have k0 := HBK2.out.cell 0 _ rfl
  have k1 := HBK2.out.cell 1 _ rfl
  have k2 := HBK2.out.cell 2 _ rfl
  have k3 := HBK2.out.cell 3 _ rfl
  have k4 := HBK2.out.cell 4 _ rfl
  have k5 := HBK2.out.cell 5 _ rfl
  have k6 := HBK2.out.cell 6 _ rfl
  have HC := hideR (HIH.out _ x.body ov2 v2 b2 _ w2 HP2.out HT2.out HA.out.2.1 HA.out.2.2.2.body)
  go_wp2_with fail
  refine HC.out.mono ?_
  rintro e w3 ⟨ov3, v3, b3, rfl, hh, ss, kk⟩
  obtain ⟨bb, bo⟩ := kk.bx HBK2.out HNP.out HO2.out
  have HP3 := hideR hh
  have HT3 := hideR ss
  have HK3 := hideR (HK2.out.trans kk)
  have HBK3 := hideR bb
  have HO3 := hideR bo
  clear hh ss kk bb bo HC HP2 HT2 HK2 HBK2 HO2 k0 k1 k2 k3 k4 k5 k6
  have k0 := HBK3.out.cell 0 _ rfl
  have k1 := HBK3.out.cell 1 _ rfl
  have k2 := HBK3.out.cell 2 _ rfl
  have k3 := HBK3.out.cell 3 _ rfl
  have k4 := HBK3.out.cell 4 _ rfl
  have k5 := HBK3.out.cell 5 _ rfl
  have k6 := HBK3.out.cell 6 _ rfl
  have HC := hideR (dByte w0 p ov3 v3 b3 _ 11 w3 HP3.out HT3.out)
  go_wp2_with fail
  refine HC.out.mono ?_
  rintro e w4 ⟨ov4, v4, b4, rfl, hh, ss, kk⟩
  obtain ⟨bb, bo⟩ := kk.bx HBK3.out HNP.out HO3.out
  have HP4 := hideR hh
  have HT4 := hideR ss
  have HK4 := hideR (HK3.out.trans kk)
  have HBK4 := hideR bb
  have HO4 := hideR bo
  clear hh ss kk bb bo HC HP3 HT3 HK3 HBK3 HO3 k0 k1 k2 k3 k4 k5 k6
  have HF : Hid (St (id ++ ([x.op % 256] ++ [x.a % 256] ++ bytesI d x.body ++ [11])) ov4 b4) := hideR (by simpa [List.append_assoc] using HT4.out)
  go_wp2
  go_end0
  exact ⟨_, _, _, rfl, HP4.out, HF.out, HK4.out⟩
set_option maxRecDepth 100000 in
set_option maxHeartbeats 4000000 in
theorem dIns211 (w0 : World) (p : Nat) (ov : Bool) (v : Value) (bs id : List Int) {d : Nat} (IH : DIS w0 p d) (x : Ins (IL d)) (q4 q5 q6 : Option Addr) (y4 z4 y5 z5 y6 z6 : Nat) (w : World) (h : PS w0 p ov v bs w) (hS : St id ov bs) (hf : form x.op = 2) (ha : (x.a == 0) = false) (hy : 0 < y6) (a4 : Ints w0 (.slice q4 y4 z4) x.labels) (a5 : At w0 d (.slice q5 y5 z5) x.body) (a6 : At w0 d (.slice q6 y6 z6) x.els) (r : Rg1 (Rg d) x) :
    Calls Tryz.prog 112 #[.pointer (some ⟨p, 0, none⟩), .agg #[.int .i64 x.op, .int .i64 x.a, .int .i64 x.b, .int .i64 x.n, .slice q4 y4 z4, .slice q5 y5 z5, .slice q6 y6 z6]] w (PDo w0 p v w (id ++ ([x.op % 256] ++ [x.a % 256] ++ bytesI d x.body ++ [5] ++ bytesI d x.els ++ [11]))) := by
  have hb := new_on' w (.cells #[.int .i64 x.op, .int .i64 x.a, .int .i64 x.b, .int .i64 x.n, .slice q4 y4 z4, .slice q5 y5 z5, .slice q6 y6 z6] 52)
  have HBK0 := hideR (Bx.new (w := w) (b := w.heap.size) (t := 52) (cs := #[.int .i64 x.op, .int .i64 x.a, .int .i64 x.b, .int .i64 x.n, .slice q4 y4 z4, .slice q5 y5 z5, .slice q6 y6 z6]) rfl)
  obtain ⟨u1, hu1⟩ : ∃ u1, u1 = w.alloc (.cells #[.int .i64 x.op, .int .i64 x.a, .int .i64 x.b, .int .i64 x.n, .slice q4 y4 z4, .slice q5 y5 z5, .slice q6 y6 z6] 52) := ⟨_, rfl⟩
  rw [← hu1] at hb HBK0
  have HP0 := hideR (h.on hb)
  have HT0 := hideR hS
  have HK0 : Hid (Kept p v w v u1) := hideR (Kept.below hb)
  have HO0 : Hid (some w.heap.size ≠ v.ownBlock) := hideR (fun e => by have := (h.own.lt _ e.symm).2; omega)
  have HNP : Hid (w.heap.size ≠ p) := hideR (by have := h.lt; omega)
  have HU := hideR hu1
  have HIH := hideR IH
  have HA := hideR (⟨a4, a5, a6, r⟩ : Ints w0 (.slice q4 y4 z4) x.labels ∧ At w0 d (.slice q5 y5 z5) x.body ∧ At w0 d (.slice q6 y6 z6) x.els ∧ Rg1 (Rg d) x)
  clear h hS IH a4 a5 a6 r hb hu1
  have HFO : Hid (form x.op = 2) := hideR hf
  clear hf
  go_enter Tryz.func112, Tryz.ntmps112
  go_upto_region 1 with fail
  rw [← HU.out]
  clear HU
  generalize w.heap.size = p3 at *
  have k0 := HBK0.out.cell 0 _ rfl
  have k1 := HBK0.out.cell 1 _ rfl
  have k2 := HBK0.out.cell 2 _ rfl
  have k3 := HBK0.out.cell 3 _ rfl
  have k4 := HBK0.out.cell 4 _ rfl
  have k5 := HBK0.out.cell 5 _ rfl
  have k6 := HBK0.out.cell 6 _ rfl
  have HC := hideR (dByte w0 p ov v bs id x.op u1 HP0.out HT0.out)
  go_wp2_with fail
  refine HC.out.mono ?_
  rintro e w1 ⟨ov1, v1, b1, rfl, hh, ss, kk⟩
  obtain ⟨bb, bo⟩ := kk.bx HBK0.out HNP.out HO0.out
  have HP1 := hideR hh
  have HT1 := hideR ss
  have HK1 := hideR (HK0.out.trans kk)
  have HBK1 := hideR bb
  have HO1 := hideR bo
  clear hh ss kk bb bo HC HP0 HT0 HK0 HBK0 HO0 k0 k1 k2 k3 k4 k5 k6
  have k0 := HBK1.out.cell 0 _ rfl
  have k1 := HBK1.out.cell 1 _ rfl
  have k2 := HBK1.out.cell 2 _ rfl
  have k3 := HBK1.out.cell 3 _ rfl
  have k4 := HBK1.out.cell 4 _ rfl
  have k5 := HBK1.out.cell 5 _ rfl
  have k6 := HBK1.out.cell 6 _ rfl
  have HC := hideR (dByte w0 p ov1 v1 b1 _ x.a w1 HP1.out HT1.out)
  have HFM := hideR (refForm x.op w1)
  go_wp2_with fail
  refine HFM.out.mono ?_
  rintro e wf ⟨rfl, rfl⟩
  clear HFM
  rw [HFO.out]
  go_wp2_with fail
  refine HC.out.mono ?_
  rintro e w2 ⟨ov2, v2, b2, rfl, hh, ss, kk⟩
  obtain ⟨bb, bo⟩ := kk.bx HBK1.out HNP.out HO1.out
  have HP2 := hideR hh
  have HT2 := hideR ss
  have HK2 := hideR (HK1.out.trans kk)
  have HBK2 := hideR bb
  have HO2 := hideR bo
  clear hh ss kk bb bo HC HP1 HT1 HK1 HBK1 HO1 k0 k1 k2 k3 k4 k5 k6
  have k0 := HBK2.out.cell 0 _ rfl
  have k1 := HBK2.out.cell 1 _ rfl
  have k2 := HBK2.out.cell 2 _ rfl
  have k3 := HBK2.out.cell 3 _ rfl
  have k4 := HBK2.out.cell 4 _ rfl
  have k5 := HBK2.out.cell 5 _ rfl
  have k6 := HBK2.out.cell 6 _ rfl
  have HC := hideR (HIH.out _ x.body ov2 v2 b2 _ w2 HP2.out HT2.out HA.out.2.1 HA.out.2.2.2.body)
  go_wp2_with fail
  refine HC.out.mono ?_
  rintro e w3 ⟨ov3, v3, b3, rfl, hh, ss, kk⟩
  obtain ⟨bb, bo⟩ := kk.bx HBK2.out HNP.out HO2.out
  have HP3 := hideR hh
  have HT3 := hideR ss
  have HK3 := hideR (HK2.out.trans kk)
  have HBK3 := hideR bb
  have HO3 := hideR bo
  clear hh ss kk bb bo HC HP2 HT2 HK2 HBK2 HO2 k0 k1 k2 k3 k4 k5 k6
  have k0 := HBK3.out.cell 0 _ rfl
  have k1 := HBK3.out.cell 1 _ rfl
  have k2 := HBK3.out.cell 2 _ rfl
  have k3 := HBK3.out.cell 3 _ rfl
  have k4 := HBK3.out.cell 4 _ rfl
  have k5 := HBK3.out.cell 5 _ rfl
  have k6 := HBK3.out.cell 6 _ rfl
  have HC := hideR (dByte w0 p ov3 v3 b3 _ 5 w3 HP3.out HT3.out)
  go_wp2_with fail
  refine HC.out.mono ?_
  rintro e w4 ⟨ov4, v4, b4, rfl, hh, ss, kk⟩
  obtain ⟨bb, bo⟩ := kk.bx HBK3.out HNP.out HO3.out
  have HP4 := hideR hh
  have HT4 := hideR ss
  have HK4 := hideR (HK3.out.trans kk)
  have HBK4 := hideR bb
  have HO4 := hideR bo
  clear hh ss kk bb bo HC HP3 HT3 HK3 HBK3 HO3 k0 k1 k2 k3 k4 k5 k6
  have k0 := HBK4.out.cell 0 _ rfl
  have k1 := HBK4.out.cell 1 _ rfl
  have k2 := HBK4.out.cell 2 _ rfl
  have k3 := HBK4.out.cell 3 _ rfl
  have k4 := HBK4.out.cell 4 _ rfl
  have k5 := HBK4.out.cell 5 _ rfl
  have k6 := HBK4.out.cell 6 _ rfl
  have HC := hideR (HIH.out _ x.els ov4 v4 b4 _ w4 HP4.out HT4.out HA.out.2.2.1 HA.out.2.2.2.els)
  go_wp2_with fail
  refine HC.out.mono ?_
  rintro e w5 ⟨ov5, v5, b5, rfl, hh, ss, kk⟩
  obtain ⟨bb, bo⟩ := kk.bx HBK4.out HNP.out HO4.out
  have HP5 := hideR hh
  have HT5 := hideR ss
  have HK5 := hideR (HK4.out.trans kk)
  have HBK5 := hideR bb
  have HO5 := hideR bo
  clear hh ss kk bb bo HC HP4 HT4 HK4 HBK4 HO4 k0 k1 k2 k3 k4 k5 k6
  have k0 := HBK5.out.cell 0 _ rfl
  have k1 := HBK5.out.cell 1 _ rfl
  have k2 := HBK5.out.cell 2 _ rfl
  have k3 := HBK5.out.cell 3 _ rfl
  have k4 := HBK5.out.cell 4 _ rfl
  have k5 := HBK5.out.cell 5 _ rfl
  have k6 := HBK5.out.cell 6 _ rfl
  have HC := hideR (dByte w0 p ov5 v5 b5 _ 11 w5 HP5.out HT5.out)
  go_wp2_with fail
  refine HC.out.mono ?_
  rintro e w6 ⟨ov6, v6, b6, rfl, hh, ss, kk⟩
  obtain ⟨bb, bo⟩ := kk.bx HBK5.out HNP.out HO5.out
  have HP6 := hideR hh
  have HT6 := hideR ss
  have HK6 := hideR (HK5.out.trans kk)
  have HBK6 := hideR bb
  have HO6 := hideR bo
  clear hh ss kk bb bo HC HP5 HT5 HK5 HBK5 HO5 k0 k1 k2 k3 k4 k5 k6
  have HF : Hid (St (id ++ ([x.op % 256] ++ [x.a % 256] ++ bytesI d x.body ++ [5] ++ bytesI d x.els ++ [11])) ov6 b6) := hideR (by simpa [List.append_assoc] using HT6.out)
  go_wp2
  go_end0
  exact ⟨_, _, _, rfl, HP6.out, HF.out, HK6.out⟩
end Go.Proofs.YtloelineidlenaaGreatDoor

namespace Go.Proofs.YtloelineidlenaaGreatDoor
open Go.RowKit Rep Enc Go.Lib
set_option linter.unusedVariables false
set_option maxRecDepth 100000 in
set_option maxHeartbeats 4000000 in
theorem dIns300 (w0 : World) (p : Nat) (ov : Bool) (v : Value) (bs id : List Int) {d : Nat} (IH : DIS w0 p d) (x : Ins (IL d)) (q4 q5 q6 : Option Addr) (y4 z4 y5 z5 y6 z6 : Nat) (w : World) (h : PS w0 p ov v bs w) (hS : St id ov bs) (hf : form x.op = 3) (ha : (x.a == 0) = true) (hy : y6 < 1) (a4 : Ints w0 (.slice q4 y4 z4) x.labels) (a5 : At w0 d (.slice q5 y5 z5) x.body) (a6 : At w0 d (.slice q6 y6 z6) x.els) (r : Rg1 (Rg d) x) :
    Calls Tryz.prog 112 #[.pointer (some ⟨p, 0, none⟩), .agg #[.int .i64 x.op, .int .i64 x.a, .int .i64 x.b, .int .i64 x.n, .slice q4 y4 z4, .slice q5 y5 z5, .slice q6 y6 z6]] w (PDo w0 p v w (id ++ ([x.op % 256] ++ [64] ++ bytesI d x.body ++ [11]))) := by
  have hb := new_on' w (.cells #[.int .i64 x.op, .int .i64 x.a, .int .i64 x.b, .int .i64 x.n, .slice q4 y4 z4, .slice q5 y5 z5, .slice q6 y6 z6] 52)
  have HBK0 := hideR (Bx.new (w := w) (b := w.heap.size) (t := 52) (cs := #[.int .i64 x.op, .int .i64 x.a, .int .i64 x.b, .int .i64 x.n, .slice q4 y4 z4, .slice q5 y5 z5, .slice q6 y6 z6]) rfl)
  obtain ⟨u1, hu1⟩ : ∃ u1, u1 = w.alloc (.cells #[.int .i64 x.op, .int .i64 x.a, .int .i64 x.b, .int .i64 x.n, .slice q4 y4 z4, .slice q5 y5 z5, .slice q6 y6 z6] 52) := ⟨_, rfl⟩
  rw [← hu1] at hb HBK0
  have HP0 := hideR (h.on hb)
  have HT0 := hideR hS
  have HK0 : Hid (Kept p v w v u1) := hideR (Kept.below hb)
  have HO0 : Hid (some w.heap.size ≠ v.ownBlock) := hideR (fun e => by have := (h.own.lt _ e.symm).2; omega)
  have HNP : Hid (w.heap.size ≠ p) := hideR (by have := h.lt; omega)
  have HU := hideR hu1
  have HIH := hideR IH
  have HA := hideR (⟨a4, a5, a6, r⟩ : Ints w0 (.slice q4 y4 z4) x.labels ∧ At w0 d (.slice q5 y5 z5) x.body ∧ At w0 d (.slice q6 y6 z6) x.els ∧ Rg1 (Rg d) x)
  clear h hS IH a4 a5 a6 r hb hu1
  have HFO : Hid (form x.op = 3) := hideR hf
  clear hf
  go_enter Tryz.func112, Tryz.ntmps112
  go_upto_region 1 with fail
  rw [← HU.out]
  clear HU
  generalize w.heap.size = p3 at *
  have k0 := HBK0.out.cell 0 _ rfl
  have k1 := HBK0.out.cell 1 _ rfl
  have k2 := HBK0.out.cell 2 _ rfl
  have k3 := HBK0.out.cell 3 _ rfl
  have k4 := HBK0.out.cell 4 _ rfl
  have k5 := HBK0.out.cell 5 _ rfl
  have k6 := HBK0.out.cell 6 _ rfl
  have HC := hideR (dByte w0 p ov v bs id x.op u1 HP0.out HT0.out)
  go_wp2_with fail
  refine HC.out.mono ?_
  rintro e w1 ⟨ov1, v1, b1, rfl, hh, ss, kk⟩
  obtain ⟨bb, bo⟩ := kk.bx HBK0.out HNP.out HO0.out
  have HP1 := hideR hh
  have HT1 := hideR ss
  have HK1 := hideR (HK0.out.trans kk)
  have HBK1 := hideR bb
  have HO1 := hideR bo
  clear hh ss kk bb bo HC HP0 HT0 HK0 HBK0 HO0 k0 k1 k2 k3 k4 k5 k6
  have k0 := HBK1.out.cell 0 _ rfl
  have k1 := HBK1.out.cell 1 _ rfl
  have k2 := HBK1.out.cell 2 _ rfl
  have k3 := HBK1.out.cell 3 _ rfl
  have k4 := HBK1.out.cell 4 _ rfl
  have k5 := HBK1.out.cell 5 _ rfl
  have k6 := HBK1.out.cell 6 _ rfl
  have HC := hideR (dByte w0 p ov1 v1 b1 _ 64 w1 HP1.out HT1.out)
  have HFM := hideR (refForm x.op w1)
  go_wp2_with fail
  refine HFM.out.mono ?_
  rintro e wf ⟨rfl, rfl⟩
  clear HFM
  rw [HFO.out]
  go_wp2_with fail
  refine HC.out.mono ?_
  rintro e w2 ⟨ov2, v2, b2, rfl, hh, ss, kk⟩
  obtain ⟨bb, bo⟩ := kk.bx HBK1.out HNP.out HO1.out
  have HP2 := hideR hh
  have HT2 := hideR ss
  have HK2 := hideR (HK1.out.trans kk)
  have HBK2 := hideR bb
  have HO2 := hideR bo
  clear hh ss kk bb bo HC HP1 HT1 HK1 HBK1 HO1 k0 k1 k2 k3 k4 k5 k6
  have k0 := HBK2.out.cell 0 _ rfl
  have k1 := HBK2.out.cell 1 _ rfl
  have k2 := HBK2.out.cell 2 _ rfl
  have k3 := HBK2.out.cell 3 _ rfl
  have k4 := HBK2.out.cell 4 _ rfl
  have k5 := HBK2.out.cell 5 _ rfl
  have k6 := HBK2.out.cell 6 _ rfl
  have HC := hideR (HIH.out _ x.body ov2 v2 b2 _ w2 HP2.out HT2.out HA.out.2.1 HA.out.2.2.2.body)
  go_wp2_with fail
  refine HC.out.mono ?_
  rintro e w3 ⟨ov3, v3, b3, rfl, hh, ss, kk⟩
  obtain ⟨bb, bo⟩ := kk.bx HBK2.out HNP.out HO2.out
  have HP3 := hideR hh
  have HT3 := hideR ss
  have HK3 := hideR (HK2.out.trans kk)
  have HBK3 := hideR bb
  have HO3 := hideR bo
  clear hh ss kk bb bo HC HP2 HT2 HK2 HBK2 HO2 k0 k1 k2 k3 k4 k5 k6
  have k0 := HBK3.out.cell 0 _ rfl
  have k1 := HBK3.out.cell 1 _ rfl
  have k2 := HBK3.out.cell 2 _ rfl
  have k3 := HBK3.out.cell 3 _ rfl
  have k4 := HBK3.out.cell 4 _ rfl
  have k5 := HBK3.out.cell 5 _ rfl
  have k6 := HBK3.out.cell 6 _ rfl
  have HC := hideR (dByte w0 p ov3 v3 b3 _ 11 w3 HP3.out HT3.out)
  go_wp2_with fail
  refine HC.out.mono ?_
  rintro e w4 ⟨ov4, v4, b4, rfl, hh, ss, kk⟩
  obtain ⟨bb, bo⟩ := kk.bx HBK3.out HNP.out HO3.out
  have HP4 := hideR hh
  have HT4 := hideR ss
  have HK4 := hideR (HK3.out.trans kk)
  have HBK4 := hideR bb
  have HO4 := hideR bo
  clear hh ss kk bb bo HC HP3 HT3 HK3 HBK3 HO3 k0 k1 k2 k3 k4 k5 k6
  have HF : Hid (St (id ++ ([x.op % 256] ++ [64] ++ bytesI d x.body ++ [11])) ov4 b4) := hideR (by simpa [List.append_assoc] using HT4.out)
  go_wp2
  go_end0
  exact ⟨_, _, _, rfl, HP4.out, HF.out, HK4.out⟩
set_option maxRecDepth 100000 in
set_option maxHeartbeats 4000000 in
theorem dIns301 (w0 : World) (p : Nat) (ov : Bool) (v : Value) (bs id : List Int) {d : Nat} (IH : DIS w0 p d) (x : Ins (IL d)) (q4 q5 q6 : Option Addr) (y4 z4 y5 z5 y6 z6 : Nat) (w : World) (h : PS w0 p ov v bs w) (hS : St id ov bs) (hf : form x.op = 3) (ha : (x.a == 0) = true) (hy : 0 < y6) (a4 : Ints w0 (.slice q4 y4 z4) x.labels) (a5 : At w0 d (.slice q5 y5 z5) x.body) (a6 : At w0 d (.slice q6 y6 z6) x.els) (r : Rg1 (Rg d) x) :
    Calls Tryz.prog 112 #[.pointer (some ⟨p, 0, none⟩), .agg #[.int .i64 x.op, .int .i64 x.a, .int .i64 x.b, .int .i64 x.n, .slice q4 y4 z4, .slice q5 y5 z5, .slice q6 y6 z6]] w (PDo w0 p v w (id ++ ([x.op % 256] ++ [64] ++ bytesI d x.body ++ [5] ++ bytesI d x.els ++ [11]))) := by
  have hb := new_on' w (.cells #[.int .i64 x.op, .int .i64 x.a, .int .i64 x.b, .int .i64 x.n, .slice q4 y4 z4, .slice q5 y5 z5, .slice q6 y6 z6] 52)
  have HBK0 := hideR (Bx.new (w := w) (b := w.heap.size) (t := 52) (cs := #[.int .i64 x.op, .int .i64 x.a, .int .i64 x.b, .int .i64 x.n, .slice q4 y4 z4, .slice q5 y5 z5, .slice q6 y6 z6]) rfl)
  obtain ⟨u1, hu1⟩ : ∃ u1, u1 = w.alloc (.cells #[.int .i64 x.op, .int .i64 x.a, .int .i64 x.b, .int .i64 x.n, .slice q4 y4 z4, .slice q5 y5 z5, .slice q6 y6 z6] 52) := ⟨_, rfl⟩
  rw [← hu1] at hb HBK0
  have HP0 := hideR (h.on hb)
  have HT0 := hideR hS
  have HK0 : Hid (Kept p v w v u1) := hideR (Kept.below hb)
  have HO0 : Hid (some w.heap.size ≠ v.ownBlock) := hideR (fun e => by have := (h.own.lt _ e.symm).2; omega)
  have HNP : Hid (w.heap.size ≠ p) := hideR (by have := h.lt; omega)
  have HU := hideR hu1
  have HIH := hideR IH
  have HA := hideR (⟨a4, a5, a6, r⟩ : Ints w0 (.slice q4 y4 z4) x.labels ∧ At w0 d (.slice q5 y5 z5) x.body ∧ At w0 d (.slice q6 y6 z6) x.els ∧ Rg1 (Rg d) x)
  clear h hS IH a4 a5 a6 r hb hu1
  have HFO : Hid (form x.op = 3) := hideR hf
  clear hf
  go_enter Tryz.func112, Tryz.ntmps112
  go_upto_region 1 with fail
  rw [← HU.out]
  clear HU
  generalize w.heap.size = p3 at *
  have k0 := HBK0.out.cell 0 _ rfl
  have k1 := HBK0.out.cell 1 _ rfl
  have k2 := HBK0.out.cell 2 _ rfl
  have k3 := HBK0.out.cell 3 _ rfl
  have k4 := HBK0.out.cell 4 _ rfl
  have k5 := HBK0.out.cell 5 _ rfl
  have k6 := HBK0.out.cell 6 _ rfl
  have HC := hideR (dByte w0 p ov v bs id x.op u1 HP0.out HT0.out)
  go_wp2_with fail
  refine HC.out.mono ?_
  rintro e w1 ⟨ov1, v1, b1, rfl, hh, ss, kk⟩
  obtain ⟨bb, bo⟩ := kk.bx HBK0.out HNP.out HO0.out
  have HP1 := hideR hh
  have HT1 := hideR ss
  have HK1 := hideR (HK0.out.trans kk)
  have HBK1 := hideR bb
  have HO1 := hideR bo
  clear hh ss kk bb bo HC HP0 HT0 HK0 HBK0 HO0 k0 k1 k2 k3 k4 k5 k6
  have k0 := HBK1.out.cell 0 _ rfl
  have k1 := HBK1.out.cell 1 _ rfl
  have k2 := HBK1.out.cell 2 _ rfl
  have k3 := HBK1.out.cell 3 _ rfl
  have k4 := HBK1.out.cell 4 _ rfl
  have k5 := HBK1.out.cell 5 _ rfl
  have k6 := HBK1.out.cell 6 _ rfl
  have HC := hideR (dByte w0 p ov1 v1 b1 _ 64 w1 HP1.out HT1.out)
  have HFM := hideR (refForm x.op w1)
  go_wp2_with fail
  refine HFM.out.mono ?_
  rintro e wf ⟨rfl, rfl⟩
  clear HFM
  rw [HFO.out]
  go_wp2_with fail
  refine HC.out.mono ?_
  rintro e w2 ⟨ov2, v2, b2, rfl, hh, ss, kk⟩
  obtain ⟨bb, bo⟩ := kk.bx HBK1.out HNP.out HO1.out
  have HP2 := hideR hh
  have HT2 := hideR ss
  have HK2 := hideR (HK1.out.trans kk)
  have HBK2 := hideR bb
  have HO2 := hideR bo
  clear hh ss kk bb bo HC HP1 HT1 HK1 HBK1 HO1 k0 k1 k2 k3 k4 k5 k6
  have k0 := HBK2.out.cell 0 _ rfl
  have k1 := HBK2.out.cell 1 _ rfl
  have k2 := HBK2.out.cell 2 _ rfl
  have k3 := HBK2.out.cell 3 _ rfl
  have k4 := HBK2.out.cell 4 _ rfl
  have k5 := HBK2.out.cell 5 _ rfl
  have k6 := HBK2.out.cell 6 _ rfl
  have HC := hideR (HIH.out _ x.body ov2 v2 b2 _ w2 HP2.out HT2.out HA.out.2.1 HA.out.2.2.2.body)
  go_wp2_with fail
  refine HC.out.mono ?_
  rintro e w3 ⟨ov3, v3, b3, rfl, hh, ss, kk⟩
  obtain ⟨bb, bo⟩ := kk.bx HBK2.out HNP.out HO2.out
  have HP3 := hideR hh
  have HT3 := hideR ss
  have HK3 := hideR (HK2.out.trans kk)
  have HBK3 := hideR bb
  have HO3 := hideR bo
  clear hh ss kk bb bo HC HP2 HT2 HK2 HBK2 HO2 k0 k1 k2 k3 k4 k5 k6
  have k0 := HBK3.out.cell 0 _ rfl
  have k1 := HBK3.out.cell 1 _ rfl
  have k2 := HBK3.out.cell 2 _ rfl
  have k3 := HBK3.out.cell 3 _ rfl
  have k4 := HBK3.out.cell 4 _ rfl
  have k5 := HBK3.out.cell 5 _ rfl
  have k6 := HBK3.out.cell 6 _ rfl
  have HC := hideR (dByte w0 p ov3 v3 b3 _ 5 w3 HP3.out HT3.out)
  go_wp2_with fail
  refine HC.out.mono ?_
  rintro e w4 ⟨ov4, v4, b4, rfl, hh, ss, kk⟩
  obtain ⟨bb, bo⟩ := kk.bx HBK3.out HNP.out HO3.out
  have HP4 := hideR hh
  have HT4 := hideR ss
  have HK4 := hideR (HK3.out.trans kk)
  have HBK4 := hideR bb
  have HO4 := hideR bo
  clear hh ss kk bb bo HC HP3 HT3 HK3 HBK3 HO3 k0 k1 k2 k3 k4 k5 k6
  have k0 := HBK4.out.cell 0 _ rfl
  have k1 := HBK4.out.cell 1 _ rfl
  have k2 := HBK4.out.cell 2 _ rfl
  have k3 := HBK4.out.cell 3 _ rfl
  have k4 := HBK4.out.cell 4 _ rfl
  have k5 := HBK4.out.cell 5 _ rfl
  have k6 := HBK4.out.cell 6 _ rfl
  have HC := hideR (HIH.out _ x.els ov4 v4 b4 _ w4 HP4.out HT4.out HA.out.2.2.1 HA.out.2.2.2.els)
  go_wp2_with fail
  refine HC.out.mono ?_
  rintro e w5 ⟨ov5, v5, b5, rfl, hh, ss, kk⟩
  obtain ⟨bb, bo⟩ := kk.bx HBK4.out HNP.out HO4.out
  have HP5 := hideR hh
  have HT5 := hideR ss
  have HK5 := hideR (HK4.out.trans kk)
  have HBK5 := hideR bb
  have HO5 := hideR bo
  clear hh ss kk bb bo HC HP4 HT4 HK4 HBK4 HO4 k0 k1 k2 k3 k4 k5 k6
  have k0 := HBK5.out.cell 0 _ rfl
  have k1 := HBK5.out.cell 1 _ rfl
  have k2 := HBK5.out.cell 2 _ rfl
  have k3 := HBK5.out.cell 3 _ rfl
  have k4 := HBK5.out.cell 4 _ rfl
  have k5 := HBK5.out.cell 5 _ rfl
  have k6 := HBK5.out.cell 6 _ rfl
  have HC := hideR (dByte w0 p ov5 v5 b5 _ 11 w5 HP5.out HT5.out)
  go_wp2_with fail
  refine HC.out.mono ?_
  rintro e w6 ⟨ov6, v6, b6, rfl, hh, ss, kk⟩
  obtain ⟨bb, bo⟩ := kk.bx HBK5.out HNP.out HO5.out
  have HP6 := hideR hh
  have HT6 := hideR ss
  have HK6 := hideR (HK5.out.trans kk)
  have HBK6 := hideR bb
  have HO6 := hideR bo
  clear hh ss kk bb bo HC HP5 HT5 HK5 HBK5 HO5 k0 k1 k2 k3 k4 k5 k6
  have HF : Hid (St (id ++ ([x.op % 256] ++ [64] ++ bytesI d x.body ++ [5] ++ bytesI d x.els ++ [11])) ov6 b6) := hideR (by simpa [List.append_assoc] using HT6.out)
  go_wp2
  go_end0
  exact ⟨_, _, _, rfl, HP6.out, HF.out, HK6.out⟩
set_option maxRecDepth 100000 in
set_option maxHeartbeats 4000000 in
theorem dIns310 (w0 : World) (p : Nat) (ov : Bool) (v : Value) (bs id : List Int) {d : Nat} (IH : DIS w0 p d) (x : Ins (IL d)) (q4 q5 q6 : Option Addr) (y4 z4 y5 z5 y6 z6 : Nat) (w : World) (h : PS w0 p ov v bs w) (hS : St id ov bs) (hf : form x.op = 3) (ha : (x.a == 0) = false) (hy : y6 < 1) (a4 : Ints w0 (.slice q4 y4 z4) x.labels) (a5 : At w0 d (.slice q5 y5 z5) x.body) (a6 : At w0 d (.slice q6 y6 z6) x.els) (r : Rg1 (Rg d) x) :
    Calls Tryz.prog 112 #[.pointer (some ⟨p, 0, none⟩), .agg #[.int .i64 x.op, .int .i64 x.a, .int .i64 x.b, .int .i64 x.n, .slice q4 y4 z4, .slice q5 y5 z5, .slice q6 y6 z6]] w (PDo w0 p v w (id ++ ([x.op % 256] ++ [x.a % 256] ++ bytesI d x.body ++ [11]))) := by
  have hb := new_on' w (.cells #[.int .i64 x.op, .int .i64 x.a, .int .i64 x.b, .int .i64 x.n, .slice q4 y4 z4, .slice q5 y5 z5, .slice q6 y6 z6] 52)
  have HBK0 := hideR (Bx.new (w := w) (b := w.heap.size) (t := 52) (cs := #[.int .i64 x.op, .int .i64 x.a, .int .i64 x.b, .int .i64 x.n, .slice q4 y4 z4, .slice q5 y5 z5, .slice q6 y6 z6]) rfl)
  obtain ⟨u1, hu1⟩ : ∃ u1, u1 = w.alloc (.cells #[.int .i64 x.op, .int .i64 x.a, .int .i64 x.b, .int .i64 x.n, .slice q4 y4 z4, .slice q5 y5 z5, .slice q6 y6 z6] 52) := ⟨_, rfl⟩
  rw [← hu1] at hb HBK0
  have HP0 := hideR (h.on hb)
  have HT0 := hideR hS
  have HK0 : Hid (Kept p v w v u1) := hideR (Kept.below hb)
  have HO0 : Hid (some w.heap.size ≠ v.ownBlock) := hideR (fun e => by have := (h.own.lt _ e.symm).2; omega)
  have HNP : Hid (w.heap.size ≠ p) := hideR (by have := h.lt; omega)
  have HU := hideR hu1
  have HIH := hideR IH
  have HA := hideR (⟨a4, a5, a6, r⟩ : Ints w0 (.slice q4 y4 z4) x.labels ∧ At w0 d (.slice q5 y5 z5) x.body ∧ At w0 d (.slice q6 y6 z6) x.els ∧ Rg1 (Rg d) x)
  clear h hS IH a4 a5 a6 r hb hu1
  have HFO : Hid (form x.op = 3) := hideR hf
  clear hf
  go_enter Tryz.func112, Tryz.ntmps112
  go_upto_region 1 with fail
  rw [← HU.out]
  clear HU
  generalize w.heap.size = p3 at *
  have k0 := HBK0.out.cell 0 _ rfl
  have k1 := HBK0.out.cell 1 _ rfl
  have k2 := HBK0.out.cell 2 _ rfl
  have k3 := HBK0.out.cell 3 _ rfl
  have k4 := HBK0.out.cell 4 _ rfl
  have k5 := HBK0.out.cell 5 _ rfl
  have k6 := HBK0.out.cell 6 _ rfl
  have HC := hideR (dByte w0 p ov v bs id x.op u1 HP0.out HT0.out)
  go_wp2_with fail
  refine HC.out.mono ?_
  rintro e w1 ⟨ov1, v1, b1, rfl, hh, ss, kk⟩
  obtain ⟨bb, bo⟩ := kk.bx HBK0.out HNP.out HO0.out
  have HP1 := hideR hh
  have HT1 := hideR ss
  have HK1 := hideR (HK0.out.trans kk)
  have HBK1 := hideR bb
  have HO1 := hideR bo
  clear hh ss kk bb bo HC HP0 HT0 HK0 HBK0 HO0 k0 k1 k2 k3 k4 k5 k6
  have k0 := HBK1.out.cell 0 _ rfl
  have k1 := HBK1.out.cell 1 _ rfl
  have k2 := HBK1.out.cell 2 _ rfl
  have k3 := HBK1.out.cell 3 _ rfl
  have k4 := HBK1.out.cell 4 _ rfl
  have k5 := HBK1.out.cell 5 _ rfl
  have k6 := HBK1.out.cell 6 _ rfl
  have HC := hideR (dByte w0 p ov1 v1 b1 _ x.a w1 HP1.out HT1.out)
  have HFM := hideR (refForm x.op w1)
  go_wp2_with fail
  refine HFM.out.mono ?_
  rintro e wf ⟨rfl, rfl⟩
  clear HFM
  rw [HFO.out]
  go_wp2_with fail
  refine HC.out.mono ?_
  rintro e w2 ⟨ov2, v2, b2, rfl, hh, ss, kk⟩
  obtain ⟨bb, bo⟩ := kk.bx HBK1.out HNP.out HO1.out
  have HP2 := hideR hh
  have HT2 := hideR ss
  have HK2 := hideR (HK1.out.trans kk)
  have HBK2 := hideR bb
  have HO2 := hideR bo
  clear hh ss kk bb bo HC HP1 HT1 HK1 HBK1 HO1 k0 k1 k2 k3 k4 k5 k6
  have k0 := HBK2.out.cell 0 _ rfl
  have k1 := HBK2.out.cell 1 _ rfl
  have k2 := HBK2.out.cell 2 _ rfl
  have k3 := HBK2.out.cell 3 _ rfl
  have k4 := HBK2.out.cell 4 _ rfl
  have k5 := HBK2.out.cell 5 _ rfl
  have k6 := HBK2.out.cell 6 _ rfl
  have HC := hideR (HIH.out _ x.body ov2 v2 b2 _ w2 HP2.out HT2.out HA.out.2.1 HA.out.2.2.2.body)
  go_wp2_with fail
  refine HC.out.mono ?_
  rintro e w3 ⟨ov3, v3, b3, rfl, hh, ss, kk⟩
  obtain ⟨bb, bo⟩ := kk.bx HBK2.out HNP.out HO2.out
  have HP3 := hideR hh
  have HT3 := hideR ss
  have HK3 := hideR (HK2.out.trans kk)
  have HBK3 := hideR bb
  have HO3 := hideR bo
  clear hh ss kk bb bo HC HP2 HT2 HK2 HBK2 HO2 k0 k1 k2 k3 k4 k5 k6
  have k0 := HBK3.out.cell 0 _ rfl
  have k1 := HBK3.out.cell 1 _ rfl
  have k2 := HBK3.out.cell 2 _ rfl
  have k3 := HBK3.out.cell 3 _ rfl
  have k4 := HBK3.out.cell 4 _ rfl
  have k5 := HBK3.out.cell 5 _ rfl
  have k6 := HBK3.out.cell 6 _ rfl
  have HC := hideR (dByte w0 p ov3 v3 b3 _ 11 w3 HP3.out HT3.out)
  go_wp2_with fail
  refine HC.out.mono ?_
  rintro e w4 ⟨ov4, v4, b4, rfl, hh, ss, kk⟩
  obtain ⟨bb, bo⟩ := kk.bx HBK3.out HNP.out HO3.out
  have HP4 := hideR hh
  have HT4 := hideR ss
  have HK4 := hideR (HK3.out.trans kk)
  have HBK4 := hideR bb
  have HO4 := hideR bo
  clear hh ss kk bb bo HC HP3 HT3 HK3 HBK3 HO3 k0 k1 k2 k3 k4 k5 k6
  have HF : Hid (St (id ++ ([x.op % 256] ++ [x.a % 256] ++ bytesI d x.body ++ [11])) ov4 b4) := hideR (by simpa [List.append_assoc] using HT4.out)
  go_wp2
  go_end0
  exact ⟨_, _, _, rfl, HP4.out, HF.out, HK4.out⟩
set_option maxRecDepth 100000 in
set_option maxHeartbeats 4000000 in
theorem dIns311 (w0 : World) (p : Nat) (ov : Bool) (v : Value) (bs id : List Int) {d : Nat} (IH : DIS w0 p d) (x : Ins (IL d)) (q4 q5 q6 : Option Addr) (y4 z4 y5 z5 y6 z6 : Nat) (w : World) (h : PS w0 p ov v bs w) (hS : St id ov bs) (hf : form x.op = 3) (ha : (x.a == 0) = false) (hy : 0 < y6) (a4 : Ints w0 (.slice q4 y4 z4) x.labels) (a5 : At w0 d (.slice q5 y5 z5) x.body) (a6 : At w0 d (.slice q6 y6 z6) x.els) (r : Rg1 (Rg d) x) :
    Calls Tryz.prog 112 #[.pointer (some ⟨p, 0, none⟩), .agg #[.int .i64 x.op, .int .i64 x.a, .int .i64 x.b, .int .i64 x.n, .slice q4 y4 z4, .slice q5 y5 z5, .slice q6 y6 z6]] w (PDo w0 p v w (id ++ ([x.op % 256] ++ [x.a % 256] ++ bytesI d x.body ++ [5] ++ bytesI d x.els ++ [11]))) := by
  have hb := new_on' w (.cells #[.int .i64 x.op, .int .i64 x.a, .int .i64 x.b, .int .i64 x.n, .slice q4 y4 z4, .slice q5 y5 z5, .slice q6 y6 z6] 52)
  have HBK0 := hideR (Bx.new (w := w) (b := w.heap.size) (t := 52) (cs := #[.int .i64 x.op, .int .i64 x.a, .int .i64 x.b, .int .i64 x.n, .slice q4 y4 z4, .slice q5 y5 z5, .slice q6 y6 z6]) rfl)
  obtain ⟨u1, hu1⟩ : ∃ u1, u1 = w.alloc (.cells #[.int .i64 x.op, .int .i64 x.a, .int .i64 x.b, .int .i64 x.n, .slice q4 y4 z4, .slice q5 y5 z5, .slice q6 y6 z6] 52) := ⟨_, rfl⟩
  rw [← hu1] at hb HBK0
  have HP0 := hideR (h.on hb)
  have HT0 := hideR hS
  have HK0 : Hid (Kept p v w v u1) := hideR (Kept.below hb)
  have HO0 : Hid (some w.heap.size ≠ v.ownBlock) := hideR (fun e => by have := (h.own.lt _ e.symm).2; omega)
  have HNP : Hid (w.heap.size ≠ p) := hideR (by have := h.lt; omega)
  have HU := hideR hu1
  have HIH := hideR IH
  have HA := hideR (⟨a4, a5, a6, r⟩ : Ints w0 (.slice q4 y4 z4) x.labels ∧ At w0 d (.slice q5 y5 z5) x.body ∧ At w0 d (.slice q6 y6 z6) x.els ∧ Rg1 (Rg d) x)
  clear h hS IH a4 a5 a6 r hb hu1
  have HFO : Hid (form x.op = 3) := hideR hf
  clear hf
  go_enter Tryz.func112, Tryz.ntmps112
  go_upto_region 1 with fail
  rw [← HU.out]
  clear HU
  generalize w.heap.size = p3 at *
  have k0 := HBK0.out.cell 0 _ rfl
  have k1 := HBK0.out.cell 1 _ rfl
  have k2 := HBK0.out.cell 2 _ rfl
  have k3 := HBK0.out.cell 3 _ rfl
  have k4 := HBK0.out.cell 4 _ rfl
  have k5 := HBK0.out.cell 5 _ rfl
  have k6 := HBK0.out.cell 6 _ rfl
  have HC := hideR (dByte w0 p ov v bs id x.op u1 HP0.out HT0.out)
  go_wp2_with fail
  refine HC.out.mono ?_
  rintro e w1 ⟨ov1, v1, b1, rfl, hh, ss, kk⟩
  obtain ⟨bb, bo⟩ := kk.bx HBK0.out HNP.out HO0.out
  have HP1 := hideR hh
  have HT1 := hideR ss
  have HK1 := hideR (HK0.out.trans kk)
  have HBK1 := hideR bb
  have HO1 := hideR bo
  clear hh ss kk bb bo HC HP0 HT0 HK0 HBK0 HO0 k0 k1 k2 k3 k4 k5 k6
  have k0 := HBK1.out.cell 0 _ rfl
  have k1 := HBK1.out.cell 1 _ rfl
  have k2 := HBK1.out.cell 2 _ rfl
  have k3 := HBK1.out.cell 3 _ rfl
  have k4 := HBK1.out.cell 4 _ rfl
  have k5 := HBK1.out.cell 5 _ rfl
  have k6 := HBK1.out.cell 6 _ rfl
  have HC := hideR (dByte w0 p ov1 v1 b1 _ x.a w1 HP1.out HT1.out)
  have HFM := hideR (refForm x.op w1)
  go_wp2_with fail
  refine HFM.out.mono ?_
  rintro e wf ⟨rfl, rfl⟩
  clear HFM
  rw [HFO.out]
  go_wp2_with fail
  refine HC.out.mono ?_
  rintro e w2 ⟨ov2, v2, b2, rfl, hh, ss, kk⟩
  obtain ⟨bb, bo⟩ := kk.bx HBK1.out HNP.out HO1.out
  have HP2 := hideR hh
  have HT2 := hideR ss
  have HK2 := hideR (HK1.out.trans kk)
  have HBK2 := hideR bb
  have HO2 := hideR bo
  clear hh ss kk bb bo HC HP1 HT1 HK1 HBK1 HO1 k0 k1 k2 k3 k4 k5 k6
  have k0 := HBK2.out.cell 0 _ rfl
  have k1 := HBK2.out.cell 1 _ rfl
  have k2 := HBK2.out.cell 2 _ rfl
  have k3 := HBK2.out.cell 3 _ rfl
  have k4 := HBK2.out.cell 4 _ rfl
  have k5 := HBK2.out.cell 5 _ rfl
  have k6 := HBK2.out.cell 6 _ rfl
  have HC := hideR (HIH.out _ x.body ov2 v2 b2 _ w2 HP2.out HT2.out HA.out.2.1 HA.out.2.2.2.body)
  go_wp2_with fail
  refine HC.out.mono ?_
  rintro e w3 ⟨ov3, v3, b3, rfl, hh, ss, kk⟩
  obtain ⟨bb, bo⟩ := kk.bx HBK2.out HNP.out HO2.out
  have HP3 := hideR hh
  have HT3 := hideR ss
  have HK3 := hideR (HK2.out.trans kk)
  have HBK3 := hideR bb
  have HO3 := hideR bo
  clear hh ss kk bb bo HC HP2 HT2 HK2 HBK2 HO2 k0 k1 k2 k3 k4 k5 k6
  have k0 := HBK3.out.cell 0 _ rfl
  have k1 := HBK3.out.cell 1 _ rfl
  have k2 := HBK3.out.cell 2 _ rfl
  have k3 := HBK3.out.cell 3 _ rfl
  have k4 := HBK3.out.cell 4 _ rfl
  have k5 := HBK3.out.cell 5 _ rfl
  have k6 := HBK3.out.cell 6 _ rfl
  have HC := hideR (dByte w0 p ov3 v3 b3 _ 5 w3 HP3.out HT3.out)
  go_wp2_with fail
  refine HC.out.mono ?_
  rintro e w4 ⟨ov4, v4, b4, rfl, hh, ss, kk⟩
  obtain ⟨bb, bo⟩ := kk.bx HBK3.out HNP.out HO3.out
  have HP4 := hideR hh
  have HT4 := hideR ss
  have HK4 := hideR (HK3.out.trans kk)
  have HBK4 := hideR bb
  have HO4 := hideR bo
  clear hh ss kk bb bo HC HP3 HT3 HK3 HBK3 HO3 k0 k1 k2 k3 k4 k5 k6
  have k0 := HBK4.out.cell 0 _ rfl
  have k1 := HBK4.out.cell 1 _ rfl
  have k2 := HBK4.out.cell 2 _ rfl
  have k3 := HBK4.out.cell 3 _ rfl
  have k4 := HBK4.out.cell 4 _ rfl
  have k5 := HBK4.out.cell 5 _ rfl
  have k6 := HBK4.out.cell 6 _ rfl
  have HC := hideR (HIH.out _ x.els ov4 v4 b4 _ w4 HP4.out HT4.out HA.out.2.2.1 HA.out.2.2.2.els)
  go_wp2_with fail
  refine HC.out.mono ?_
  rintro e w5 ⟨ov5, v5, b5, rfl, hh, ss, kk⟩
  obtain ⟨bb, bo⟩ := kk.bx HBK4.out HNP.out HO4.out
  have HP5 := hideR hh
  have HT5 := hideR ss
  have HK5 := hideR (HK4.out.trans kk)
  have HBK5 := hideR bb
  have HO5 := hideR bo
  clear hh ss kk bb bo HC HP4 HT4 HK4 HBK4 HO4 k0 k1 k2 k3 k4 k5 k6
  have k0 := HBK5.out.cell 0 _ rfl
  have k1 := HBK5.out.cell 1 _ rfl
  have k2 := HBK5.out.cell 2 _ rfl
  have k3 := HBK5.out.cell 3 _ rfl
  have k4 := HBK5.out.cell 4 _ rfl
  have k5 := HBK5.out.cell 5 _ rfl
  have k6 := HBK5.out.cell 6 _ rfl
  have HC := hideR (dByte w0 p ov5 v5 b5 _ 11 w5 HP5.out HT5.out)
  go_wp2_with fail
  refine HC.out.mono ?_
  rintro e w6 ⟨ov6, v6, b6, rfl, hh, ss, kk⟩
  obtain ⟨bb, bo⟩ := kk.bx HBK5.out HNP.out HO5.out
  have HP6 := hideR hh
  have HT6 := hideR ss
  have HK6 := hideR (HK5.out.trans kk)
  have HBK6 := hideR bb
  have HO6 := hideR bo
  clear hh ss kk bb bo HC HP5 HT5 HK5 HBK5 HO5 k0 k1 k2 k3 k4 k5 k6
  have HF : Hid (St (id ++ ([x.op % 256] ++ [x.a % 256] ++ bytesI d x.body ++ [5] ++ bytesI d x.els ++ [11])) ov6 b6) := hideR (by simpa [List.append_assoc] using HT6.out)
  go_wp2
  go_end0
  exact ⟨_, _, _, rfl, HP6.out, HF.out, HK6.out⟩
end Go.Proofs.YtloelineidlenaaGreatDoor

namespace Go.Proofs.YtloelineidlenaaGreatDoor
open Go.RowKit Rep Enc Go.Lib
set_option linter.unusedVariables false
theorem dInstr (w0 : World) (p : Nat) (ov : Bool) (v : Value) (bs id : List Int) {d : Nat} (IH : DIS w0 p d) (x : Ins (IL d)) (q4 q5 q6 : Option Addr) (y4 z4 y5 z5 y6 z6 : Nat) (w : World) (h : PS w0 p ov v bs w) (hS : St id ov bs) (he : size d x.els = y6) (a4 : Ints w0 (.slice q4 y4 z4) x.labels) (a5 : At w0 d (.slice q5 y5 z5) x.body) (a6 : At w0 d (.slice q6 y6 z6) x.els) (r : Rg1 (Rg d) x) :
    Calls Tryz.prog 112 #[.pointer (some ⟨p, 0, none⟩), .agg #[.int .i64 x.op, .int .i64 x.a, .int .i64 x.b, .int .i64 x.n, .slice q4 y4 z4, .slice q5 y5 z5, .slice q6 y6 z6]] w (PDo w0 p v w (id ++ insB (bytesI d) (size d) x)) := by
  have key : ∀ t, insB (bytesI d) (size d) x = t → Calls Tryz.prog 112 #[.pointer (some ⟨p, 0, none⟩), .agg #[.int .i64 x.op, .int .i64 x.a, .int .i64 x.b, .int .i64 x.n, .slice q4 y4 z4, .slice q5 y5 z5, .slice q6 y6 z6]] w (PDo w0 p v w (id ++ t)) → Calls Tryz.prog 112 #[.pointer (some ⟨p, 0, none⟩), .agg #[.int .i64 x.op, .int .i64 x.a, .int .i64 x.b, .int .i64 x.n, .slice q4 y4 z4, .slice q5 y5 z5, .slice q6 y6 z6]] w (PDo w0 p v w (id ++ insB (bytesI d) (size d) x)) := fun t e hc => by rw [e]; exact hc
  have hF : form x.op = 1 ∨ form x.op = 2 ∨ form x.op = 3 ∨ form x.op = 4 ∨ form x.op = 5 ∨ form x.op = 6 ∨ form x.op = 7 ∨ form x.op = 8 ∨ form x.op = 9 ∨ (form x.op < 1 ∨ 9 < form x.op) := by omega
  rcases hF with hf | hf | hf | hf | hf | hf | hf | hf | hf | hf
  · by_cases h63 : x.op = 63
    · exact key _ (by unfold insB; rw [if_pos hf, if_pos (.inl h63)]) (dIns1a w0 p ov v bs id IH x q4 q5 q6 y4 z4 y5 z5 y6 z6 w h hS hf (by simp [h63]) a4 a5 a6 r)
    · by_cases h64 : x.op = 64
      · exact key _ (by unfold insB; rw [if_pos hf, if_pos (.inr h64)]) (dIns1b w0 p ov v bs id IH x q4 q5 q6 y4 z4 y5 z5 y6 z6 w h hS hf (by simp [h63]) (by simp [h64]) a4 a5 a6 r)
      · exact key _ (by unfold insB; rw [if_pos hf, if_neg (by omega)]; simp) (dIns1 w0 p ov v bs id IH x q4 q5 q6 y4 z4 y5 z5 y6 z6 w h hS 1 hf (by omega) (by simp [h63]) (by simp [h64]) a4 a5 a6 r)
  · have e0 : insB (bytesI d) (size d) x = [x.op % 256] ++ blkB x := by unfold insB blkB; rw [if_neg (by omega), if_pos (.inl hf)]
    rw [e0]
    unfold blkB
    by_cases ha : x.a = 0
    · rw [if_pos ha]
      by_cases hy : 0 < y6
      · rw [if_pos (by omega)]
        have := dIns201 w0 p ov v bs id IH x q4 q5 q6 y4 z4 y5 z5 y6 z6 w h hS hf (by simp [ha]) hy a4 a5 a6 r
        simpa [List.append_assoc] using this
      · rw [if_neg (by omega)]
        have := dIns200 w0 p ov v bs id IH x q4 q5 q6 y4 z4 y5 z5 y6 z6 w h hS hf (by simp [ha]) (by omega) a4 a5 a6 r
        simpa [List.append_assoc] using this
    · rw [if_neg ha]
      by_cases hy : 0 < y6
      · rw [if_pos (by omega)]
        have := dIns211 w0 p ov v bs id IH x q4 q5 q6 y4 z4 y5 z5 y6 z6 w h hS hf (by simp [ha]) hy a4 a5 a6 r
        simpa [List.append_assoc] using this
      · rw [if_neg (by omega)]
        have := dIns210 w0 p ov v bs id IH x q4 q5 q6 y4 z4 y5 z5 y6 z6 w h hS hf (by simp [ha]) (by omega) a4 a5 a6 r
        simpa [List.append_assoc] using this
  · have e0 : insB (bytesI d) (size d) x = [x.op % 256] ++ blkB x := by unfold insB blkB; rw [if_neg (by omega), if_pos (.inr hf)]
    rw [e0]
    unfold blkB
    by_cases ha : x.a = 0
    · rw [if_pos ha]
      by_cases hy : 0 < y6
      · rw [if_pos (by omega)]
        have := dIns301 w0 p ov v bs id IH x q4 q5 q6 y4 z4 y5 z5 y6 z6 w h hS hf (by simp [ha]) hy a4 a5 a6 r
        simpa [List.append_assoc] using this
      · rw [if_neg (by omega)]
        have := dIns300 w0 p ov v bs id IH x q4 q5 q6 y4 z4 y5 z5 y6 z6 w h hS hf (by simp [ha]) (by omega) a4 a5 a6 r
        simpa [List.append_assoc] using this
    · rw [if_neg ha]
      by_cases hy : 0 < y6
      · rw [if_pos (by omega)]
        have := dIns311 w0 p ov v bs id IH x q4 q5 q6 y4 z4 y5 z5 y6 z6 w h hS hf (by simp [ha]) hy a4 a5 a6 r
        simpa [List.append_assoc] using this
      · rw [if_neg (by omega)]
        have := dIns310 w0 p ov v bs id IH x q4 q5 q6 y4 z4 y5 z5 y6 z6 w h hS hf (by simp [ha]) (by omega) a4 a5 a6 r
        simpa [List.append_assoc] using this
  · exact key _ (by unfold insB; rw [if_neg (by omega), if_neg (by omega), if_pos (.inl hf)]) (dIns4 w0 p ov v bs id IH x q4 q5 q6 y4 z4 y5 z5 y6 z6 w h hS hf a4 a5 a6 r)
  · exact key _ (by unfold insB; rw [if_neg (by omega), if_neg (by omega), if_neg (by omega), if_pos hf, ← List.append_assoc]) (dIns5 w0 p ov v bs id IH x q4 q5 q6 y4 z4 y5 z5 y6 z6 w h hS hf a4 a5 a6 r)
  · exact key _ (by unfold insB; rw [if_neg (by omega), if_neg (by omega), if_pos (.inr hf)]) (dIns6 w0 p ov v bs id IH x q4 q5 q6 y4 z4 y5 z5 y6 z6 w h hS hf a4 a5 a6 r)
  · exact key _ (by unfold insB; rw [if_neg (by omega), if_neg (by omega), if_neg (by omega), if_neg (by omega), if_pos hf, ← List.append_assoc]) (dIns7 w0 p ov v bs id IH x q4 q5 q6 y4 z4 y5 z5 y6 z6 w h hS hf a4 a5 a6 r)
  · exact key _ (by unfold insB; rw [if_neg (by omega), if_neg (by omega), if_neg (by omega), if_neg (by omega), if_neg (by omega), if_pos hf, ← List.append_assoc]) (dIns8 w0 p ov v bs id IH x q4 q5 q6 y4 z4 y5 z5 y6 z6 w h hS hf a4 a5 a6 r)
  · exact key _ (by unfold insB; rw [if_neg (by omega), if_neg (by omega), if_neg (by omega), if_neg (by omega), if_neg (by omega), if_neg (by omega), if_pos hf]) (dIns9 w0 p ov v bs id IH x q4 q5 q6 y4 z4 y5 z5 y6 z6 w h hS hf a4 a5 a6 r)
  · by_cases h63 : x.op = 63
    · exfalso
      have : form x.op = 1 := by rw [h63]; decide
      omega
    · by_cases h64 : x.op = 64
      · exfalso
        have : form x.op = 1 := by rw [h64]; decide
        omega
      · exact key _ (by unfold insB; rw [if_neg (by omega), if_neg (by omega), if_neg (by omega), if_neg (by omega), if_neg (by omega), if_neg (by omega), if_neg (by omega)]; simp) (dIns1 w0 p ov v bs id IH x q4 q5 q6 y4 z4 y5 z5 y6 z6 w h hS _ rfl (by omega) (by simp [h63]) (by simp [h64]) a4 a5 a6 r)
set_option maxRecDepth 100000 in
set_option maxHeartbeats 4000000 in
theorem disS (w0 : World) (p : Nat) (d : Nat) (IH : DIS w0 p d) : DIS w0 p (d + 1) := by
  intro lv l0 ov v bs id w h hS hA0 hR0
  obtain ⟨l, rfl⟩ : ∃ l : List (Ins (IL d)), l = l0 := ⟨l0, rfl⟩
  have hA : Row 7 (InsAt w0 (At w0 d)) lv l := hA0
  have hR : ∀ x, x ∈ l → Rg1 (Rg d) x := hR0
  clear hA0 hR0
  show Calls Tryz.prog 74 #[.pointer (some ⟨p, 0, none⟩), lv] w (PDo w0 p v w (id ++ insL (bytesI d) (size d) l))
  obtain ⟨oL, kL, rfl⟩ := Row.len hA
  have la := hA.1
  have HA := hideR hA
  have HR := hideR hR
  have HIH := hideR IH
  have HPS0 := hideR h
  have HST0 := hideR hS
  clear hA hR IH h hS
  generalize hna : l.length = n at *
  have HNA := hideR hna
  go_enter Tryz.func74, Tryz.ntmps74
  go_wp2_with fail
  go_loopw [4] (fun i wr => ∃ (j : Nat) (ov3 : Bool) (v3 : Value) (b3 : List Int), j ≤ n ∧ i = .int .i64 j ∧ Hid (PS w0 p ov3 v3 b3 wr) ∧ Hid (St (id ++ insL (bytesI d) (size d) (l.take j)) ov3 b3) ∧ Hid (Kept p v w v3 wr)) (fun i _ => n - (Lib.intOf i).toNat)
  case atStart => exact ⟨0, ov, v, bs, by omega, rfl, HPS0, hideR (by simpa [insL] using HST0.out), hideR (Kept.refl _ _ _)⟩
  case round =>
    clear HPS0 HST0
    obtain ⟨j, ov3, v3, b3, hj, rfl, HPS, HST, HKW⟩ := hrel
    have ko := HPS.out.cellO
    by_cases hgo : j < n
    · obtain ⟨b1, off1, cap1, hv1, hx1⟩ := Row.some HA.out (by omega)
      injection hv1 with ho1 e11 e12
      subst ho1
      clear e11 e12
      obtain ⟨x, hxk⟩ : ∃ x, l[j]? = some x := ⟨_, List.getElem?_eq_getElem (by omega)⟩
      have HXK := hideR hxk
      obtain ⟨cx0, cx1, cx2, cx3, ⟨v4, cx4, ax4⟩, ⟨v5, cx5, ax5⟩, ⟨v6, cx6, ax6⟩⟩ := hx1 j x hxk
      clear hx1 hxk
      obtain ⟨q4, z4, rfl⟩ := Row.len ax4
      obtain ⟨q5, z5, rfl⟩ := At.len d _ _ ax5
      obtain ⟨q6, z6, rfl⟩ := At.len d _ _ ax6
      have cz0 := cell_on HPS.out.below cx0
      have cz1 := cell_on HPS.out.below cx1
      have cz2 := cell_on HPS.out.below cx2
      have cz3 := cell_on HPS.out.below cx3
      have cz4 := cell_on HPS.out.below cx4
      have cz5 := cell_on HPS.out.below cx5
      have cz6 := cell_on HPS.out.below cx6
      clear cx0 cx1 cx2 cx3 cx4 cx5 cx6
      cases ov3 with
      | true =>
        have HF : Hid (St (id ++ insL (bytesI d) (size d) l) true b3) := hideR (by
          have h1 := (HST.out.more rfl (insL (bytesI d) (size d) (l.drop j)))
          unfold insL at h1 ⊢
          rw [List.append_assoc, ← List.flatMap_append, List.take_append_drop] at h1
          exact h1)
        go_wp2
        go_end0
        exact ⟨_, _, _, rfl, HPS.out, HF.out, HKW.out⟩
      | false =>
        have HC := hideR (dInstr w0 p false v3 b3 _ HIH.out x q4 q5 q6 _ z4 _ z5 _ z6 wr HPS.out HST.out rfl ax4 ax5 ax6 (HR.out x (List.mem_of_getElem? HXK.out)))
        clear ax4 ax5 ax6
        generalize hy4 : x.labels.length = y4 at *
        generalize hy5 : size d x.body = y5 at *
        generalize hy6 : size d x.els = y6 at *
        go_wp2_with fail
        refine HC.out.mono ?_
        rintro e w4 ⟨ov4, v4, b4, rfl, h4, s4, k4⟩
        have HPS4 := hideR h4
        have HST4 : Hid (St (id ++ insL (bytesI d) (size d) (l.take (j + 1))) ov4 b4) := hideR (by rw [insL_take HXK.out, ← List.append_assoc]; exact s4)
        have HK4 := hideR (HKW.out.trans k4)
        clear h4 s4 k4 HC
        go_wp2
        go_roundw
        case rel => exact ⟨j + 1, ov4, v4, b4, by omega, by go_num, HPS4, HST4, HK4⟩
        case measure => simp [Lib.intOf]; omega
    · obtain rfl : n = j := by omega
      have HF : Hid (St (id ++ insL (bytesI d) (size d) l) ov3 b3) := hideR (by
        have h1 := HST.out
        rw [List.take_of_length_le (by have := HNA.out; omega)] at h1
        exact h1)
      go_wp2
      go_end0
      exact ⟨_, _, _, rfl, HPS.out, HF.out, HKW.out⟩
theorem dis0 (w0 : World) (p : Nat) : DIS w0 p 0 := by
  rintro lv l ov v bs id w h hS ⟨oL, kL, rfl⟩ _
  have HS := hideR h
  have HT : Hid (St (id ++ bytesI 0 l) ov bs) := hideR (by show St (id ++ []) ov bs; rw [List.append_nil]; exact hS)
  clear h hS
  go_enter Tryz.func74, Tryz.ntmps74
  go_wp2_with fail
  go_loopw [4] (fun i wr => i = .int .i64 0 ∧ wr = w) (fun _ _ => 0)
  case atStart => exact ⟨rfl, rfl⟩
  case round =>
    obtain ⟨rfl, rfl⟩ := hrel
    go_wp2
    go_end0
    exact ⟨_, _, _, rfl, HS.out, HT.out, Kept.refl _ _ _⟩
theorem disAll (w0 : World) (p : Nat) : ∀ d, DIS w0 p d
  | 0 => dis0 w0 p
  | d + 1 => disS w0 p d (disAll w0 p d)
set_option maxRecDepth 100000 in
set_option maxHeartbeats 2000000 in
theorem dExpr (w0 : World) (p : Nat) (d : Nat) (lv : Value) (l : IL d) (ov : Bool) (v : Value) (bs id : List Int) (w : World) (h : PS w0 p ov v bs w) (hS : St id ov bs) (hA : At w0 d lv l) (hR : Rg d l) :
    Calls Tryz.prog 29 #[.pointer (some ⟨p, 0, none⟩), lv] w (PDo w0 p v w (id ++ (bytesI d l ++ [11]))) := by
  obtain ⟨oL, kL, rfl⟩ := At.len d _ _ hA
  have HC := hideR (disAll w0 p d _ l ov v bs id w h hS hA hR)
  clear h hS hA hR
  generalize size d l = n at *
  go_enter Tryz.func29, Tryz.ntmps29
  go_wp2_with fail
  refine HC.out.mono ?_
  rintro e w1 ⟨ov1, v1, b1, rfl, h1, s1, k1⟩
  have HC2 := hideR (dByte w0 p ov1 v1 b1 _ 11 w1 h1 s1)
  have HK := hideR k1
  clear h1 s1 k1 HC
  go_wp2_with fail
  refine HC2.out.mono ?_
  rintro e w2 ⟨ov2, v2, b2, rfl, h2, s2, k2⟩
  have HF := hideR (⟨h2, by rw [← List.append_assoc]; exact s2, HK.out.trans k2⟩ : PS w0 p ov2 v2 b2 w2 ∧ St (id ++ (bytesI d l ++ [11])) ov2 b2 ∧ Kept p v w v2 w2)
  clear h2 s2 k2 HC2 HK
  go_wp2
  go_end0
  exact ⟨_, _, _, rfl, HF.out.1, HF.out.2.1, HF.out.2.2⟩
end Go.Proofs.YtloelineidlenaaGreatDoor

namespace Go.Proofs.YtloelineidlenaaGreatDoor
open Go.RowKit Rep Enc Go.Lib
set_option linter.unusedVariables false
set_option maxRecDepth 100000 in
set_option maxHeartbeats 4000000 in
theorem wCode1 {I : World → Prop} (C : FormC I) (w0 : World) (hI : I w0) (p : Nat) (c : Nat → Value) (v : Value) (bs : List Int) (d : Nat) (x : Fun d) (qW qF : Nat) (lv bv : Value) (w : World) (h : WS w0 p c v bs w) (hL : Ints w0 lv x.locals) (hB : At w0 d bv x.body)
    (hW : Bx w qW 65 #[.pointer (some ⟨p, 0, none⟩)]) (hF : Bx w qF 44 #[.int .i64 x.type, lv, bv]) (n1 : qW ≠ p) (n2 : qF ≠ p) (n3 : some qW ≠ v.ownBlock) (n4 : some qF ≠ v.ownBlock)
    (hR : Rg d x.body) (hll : x.locals.length ≤ 1000000) (hlen : bs.length + (codB x).length ≤ 38900000000000) :
    Calls Tryz.prog 91 #[.pointer (some ⟨qW, 0, none⟩), .pointer (some ⟨qF, 0, none⟩)] w (DoesA w0 p c v w bs (codB x)) := by
  have hlen' : bs.length + (locB x.locals).length + (bytesI d x.body).length + 1 ≤ 38900000000000 := by
    unfold codB at hlen
    simp only [List.length_append, List.length_cons, List.length_nil] at hlen
    omega
  have kw := hW.cell 0 _ rfl
  have kf := hF.cell 1 _ rfl
  have HC1 := hideR (wLoc w0 p c v bs lv x.locals w h hL hll (by omega))
  have HH := hideR (⟨hW, hF, n1, n2, n3, n4⟩ : Bx w qW 65 #[.pointer (some ⟨p, 0, none⟩)] ∧ Bx w qF 44 #[.int .i64 x.type, lv, bv] ∧ qW ≠ p ∧ qF ≠ p ∧ some qW ≠ v.ownBlock ∧ some qF ≠ v.ownBlock)
  have HX := hideR (⟨hI, hB, hR, hlen'⟩ : I w0 ∧ At w0 d bv x.body ∧ Rg d x.body ∧ bs.length + (locB x.locals).length + (bytesI d x.body).length + 1 ≤ 38900000000000)
  clear h hL hB hW hF hR hlen hlen' hI n1 n2 n3 n4
  go_enter Tryz.func91, Tryz.ntmps91
  go_wp2_with fail
  refine HC1.out.mono ?_
  rintro e w1 ⟨v1, rfl, h1, k1⟩
  obtain ⟨b1, _⟩ := k1.bx HH.out.1 HH.out.2.2.1 HH.out.2.2.2.2.1
  obtain ⟨b2, _⟩ := k1.bx HH.out.2.1 HH.out.2.2.2.1 HH.out.2.2.2.2.2
  have kw1 := b1.cell 0 _ rfl
  have kf1 := b2.cell 2 _ rfl
  have HK1 := hideR k1
  have HC2 := hideR (wExpr C w0 HX.out.1 p c d bv x.body v1 (bs ++ locB x.locals) w1 h1 HX.out.2.1 HX.out.2.2.1 (by have := HX.out.2.2.2; rw [List.length_append]; omega))
  clear b1 b2 k1 h1 kw kf HC1 HH
  go_wp2_with fail
  refine HC2.out.mono ?_
  rintro e w2 ⟨v2, b2, rfl, h2, k2, a2, l2⟩
  have HS := hideR h2
  have HK2 := hideR (HK1.out.trans k2)
  have HF : Hid (So bs (codB x) b2) := hideR (by
    have h3 := ((So.refl bs).app (locB x.locals))
    rw [List.nil_append] at h3
    exact h3.adds a2 l2)
  clear h2 k2 a2 l2 HC2 kw1 kf1
  go_wp2
  go_end0
  exact ⟨_, _, rfl, HS.out, HK2.out, HF.out.1, HF.out.2⟩
set_option maxRecDepth 100000 in
set_option maxHeartbeats 4000000 in
theorem eCode {I : World → Prop} (C : FormC I) (w0 : World) (hI : I w0) (p : Nat) (c : Nat → Value) (v : Value) (bs : List Int) (d : Nat) (m : Mod d) (w : World) (h : WS w0 p c v bs w) (hM : ModAt w0 d (c 0) (c 1) (c 2) (c 3) (c 4) (c 5) (c 6) (c 7) (c 8) (c 9) m) (i : Nat) (x : Fun d) (hx : m.funcs[i]? = some x) (hR : Rg d x.body) (hll : x.locals.length ≤ 1000000) (hlen : bs.length + (codB x).length ≤ 38900000000000) :
    Calls Tryz.prog 50 #[.pointer (some ⟨p, 0, none⟩), .int .i64 (i : Nat)] w (DoesA w0 p c v w bs (sizB (codB x))) := by
  have hmf : ∀ (fn : Fn) (first cap : Array Value) (w : World), (Instr.makeFunc fn first cap).run Tryz.prog w = .ok (.func fn first cap) w := fun _ _ _ _ => rfl
  have hi : i < m.funcs.length := (List.getElem?_eq_some_iff.1 hx).1
  obtain ⟨b1, off1, cap1, hcv, hcx⟩ := Row.some hM.funcs (by omega)
  obtain ⟨cx0, ⟨lv, cx1, al⟩, ⟨bv, cx2, ab⟩⟩ := hcx i x hx
  have hu : Below w.heap.size w (w.alloc (.cells #[.pointer (some ⟨p, 0, none⟩)] 65)) := new_on' w _
  obtain ⟨u1, hu1⟩ : ∃ u1, u1 = w.alloc (.cells #[.pointer (some ⟨p, 0, none⟩)] 65) := ⟨_, rfl⟩
  rw [← hu1] at hu
  have hs1 := h.on hu
  have kc := hs1.fld 2 (by omega)
  rw [hcv] at kc
  have cz0 := cell_on hs1.below cx0
  have cz1 := cell_on hs1.below cx1
  have cz2 := cell_on hs1.below cx2
  have hq : u1.heap.size = w.heap.size + 1 := by rw [hu1]; simp
  have kq : u1.cell? ⟨w.heap.size, 0, none⟩ = some (.pointer (some ⟨p, 0, none⟩)) := by rw [hu1, World.cell?_alloc_at _ _ _ _ rfl]; rfl
  obtain ⟨u2, hu2⟩ : ∃ u2, u2 = u1.alloc (.cells #[.int .i64 x.type, lv, bv] 44) := ⟨_, rfl⟩
  have hb2 : Below u1.heap.size u1 u2 := by rw [hu2]; exact new_on' u1 _
  have hs2 := hs1.on hb2
  have hW : Bx u2 w.heap.size 65 #[.pointer (some ⟨p, 0, none⟩)] := by
    unfold Bx
    rw [hb2.block _ (by omega), hu1]; exact heap_new w _
  have hF : Bx u2 u1.heap.size 44 #[.int .i64 x.type, lv, bv] := by rw [hu2]; exact Bx.new rfl
  have hpw : p < w.heap.size := h.lt
  have hown : ∀ k, v.ownBlock = some k → k < w.heap.size := fun k hk => (h.own.lt k hk).2
  have HK : Hid (Kept p v w v u2) := hideR ((Kept.below hu).trans (Kept.below hb2))
  have kq2 := hW.cell 0 _ rfl
  have HC := hideR (wSizedC w0 p c v bs (codB x) ⟨w.heap.size, 0, none⟩ ⟨u1.heap.size, 0, none⟩ u2 hs2 (wCode1 C w0 hI p c v bs d x w.heap.size u1.heap.size lv bv u2 hs2 al ab hW hF (by omega) (by omega) (fun e => by have := hown _ e.symm; omega) (fun e => by have := hown _ e.symm; omega) hR hll hlen) hlen)
  obtain ⟨oL, zL, rfl⟩ := Row.len al
  obtain ⟨oB, zB, rfl⟩ := At.len d _ _ ab
  rw [hq] at HC
  have HU1 := hideR hu1
  have HU2 := hideR hu2
  clear h hM hx hR hll hlen hcv hcx cx0 cx1 cx2 al ab hu hs1 hs2 hb2 hW hF hpw hown hu1 hu2 hI
  generalize x.locals.length = yL at *
  generalize size d x.body = yB at *
  generalize m.funcs.length = n at *
  go_enter Tryz.func50, Tryz.ntmps50
  go_upto_region 1 with fail
  rw [← HU1.out]
  go_upto_region 2 with fail
  rw [← HU2.out]
  clear HU1 HU2 kc cz0 cz1 cz2 kq hq
  go_wp2_with fail
  refine HC.out.mono ?_
  rintro e w2 ⟨v2, b2, rfl, h2, k2, a2, l2⟩
  have HS := hideR h2
  have HK2 := hideR (HK.out.trans k2)
  have HF : Hid (So bs (sizB (codB x)) b2) := hideR ⟨a2, l2⟩
  clear h2 k2 a2 l2 HC HK
  go_wp2
  go_end0
  exact ⟨_, _, rfl, HS.out, HK2.out, HF.out.1, HF.out.2⟩
end Go.Proofs.YtloelineidlenaaGreatDoor

namespace Go.Proofs.YtloelineidlenaaGreatDoor
open Go.RowKit Rep Enc Go.Lib
set_option linter.unusedVariables false
namespace Enc
def EntC (w0 : World) (p : Nat) (c : Nat → Value) (F : FuncId) (n : Nat) (f : Nat → List Int) : Prop := ∀ (i : Nat) (v : Value) (bs : List Int) (w : World), i < n → WS w0 p c v bs w → bs.length + (f i).length ≤ 38900000000000 →
  Calls Tryz.prog F #[.pointer (some ⟨p, 0, none⟩), .int .i64 (i : Nat)] w (DoesA w0 p c v w bs (f i))
def fstB (f : Nat → List Int) : Nat → List Int
  | 0 => []
  | k + 1 => fstB f k ++ f k
theorem fstB_le (f : Nat → List Int) : ∀ (k n : Nat), k ≤ n → (fstB f k).length ≤ (fstB f n).length
  | k, 0, h => by obtain rfl : k = 0 := by omega
                  exact Nat.le_refl _
  | k, n + 1, h => by
    rcases Nat.lt_or_eq_of_le h with h1 | rfl
    · have := fstB_le f k n (by omega)
      show _ ≤ (fstB f n ++ f n).length
      rw [List.length_append]; omega
    · exact Nat.le_refl _
def insideB (id : Int) (n : Nat) (f : Nat → List Int) : List Int := (if id = 8 then [] else Leb.uB (n : Int)) ++ fstB f n
end Enc
set_option maxRecDepth 100000 in
set_option maxHeartbeats 4000000 in
theorem wSec1 (w0 : World) (p : Nat) (c : Nat → Value) (v : Value) (bs : List Int) (n : Nat) (f : Nat → List Int) (qS qW : Nat) (w : World) (h : WS w0 p c v bs w) (hE : EntC w0 p c 41 n f)
    (hS : Bx w qS 72 #[.int .i64 1, .int .i64 n, .func (.func 41) #[.pointer (some ⟨p, 0, none⟩)] #[]]) (hW : Bx w qW 65 #[.pointer (some ⟨p, 0, none⟩)]) (n1 : qS ≠ p) (n2 : qW ≠ p) (n3 : some qS ≠ v.ownBlock) (n4 : some qW ≠ v.ownBlock)
    (hnn : n ≤ 1000000) (hlen : bs.length + (insideB 1 n f).length ≤ 38900000000000) :
    Calls Tryz.prog 54 #[.pointer (some ⟨qS, 0, none⟩), .pointer (some ⟨qW, 0, none⟩)] w (DoesA w0 p c v w bs (insideB 1 n f)) := by
  have hlen' : bs.length + (Leb.uB (n : Int) ++ fstB f n).length ≤ 38900000000000 := hlen
  have k0 := hS.cell 0 _ rfl
  have k1 := hS.cell 1 _ rfl
  have k2 := hS.cell 2 _ rfl
  have kw := hW.cell 0 _ rfl
  have HE := hideR hE
  have HH := hideR (⟨hS, hW, n1, n2, n3, n4⟩ : Bx w qS 72 #[.int .i64 1, .int .i64 n, .func (.func 41) #[.pointer (some ⟨p, 0, none⟩)] #[]] ∧ Bx w qW 65 #[.pointer (some ⟨p, 0, none⟩)] ∧ qS ≠ p ∧ qW ≠ p ∧ some qS ≠ v.ownBlock ∧ some qW ≠ v.ownBlock)
  have HLEN := hideR hlen'
  show Calls Tryz.prog 54 #[.pointer (some ⟨qS, 0, none⟩), .pointer (some ⟨qW, 0, none⟩)] w (DoesA w0 p c v w bs (Leb.uB (n : Int) ++ fstB f n))
  have hten := Leb.uB_ten (n := (n : Int)) (by omega) (by omega)
  have HC1 := hideR (wU w0 p c v bs (n : Int) w h (by omega) (by omega) (by rw [List.length_append] at hlen'; omega))
  clear h hE hS hW n1 n2 n3 n4 hlen hlen'
  go_enter Tryz.func54, Tryz.ntmps54
  go_wp2_with fail
  refine HC1.out.mono ?_
  rintro e w1 ⟨v1, rfl, hh, kk⟩
  have HS0 := hideR hh
  have HK0 := hideR kk
  have HSO0 : Hid (So bs (Leb.uB (n : Int) ++ fstB f 0) (bs ++ Leb.uB (n : Int))) := hideR (by have h3 := (So.refl bs).app (Leb.uB (n : Int)); rw [List.nil_append] at h3; rw [show fstB f 0 = [] from rfl, List.append_nil]; exact h3)
  clear hh kk HC1 k0 k1 k2 kw
  go_wp2_with fail
  go_loopw [2] (fun i wr => ∃ (j : Nat) (v3 : Value) (b3 : List Int), j ≤ n ∧ i = .int .i64 j ∧ Hid (WS w0 p c v3 b3 wr) ∧ Hid (Kept p v w v3 wr) ∧ Hid (So bs (Leb.uB (n : Int) ++ fstB f j) b3)) (fun i _ => n - (Lib.intOf i).toNat)
  case atStart => exact ⟨0, _, _, by omega, rfl, HS0, HK0, HSO0⟩
  case round =>
    clear HS0 HK0 HSO0
    obtain ⟨j, v3, b3, hj, rfl, HWS, HKW, HSO⟩ := hrel
    obtain ⟨bS, _⟩ := HKW.out.bx HH.out.1 HH.out.2.2.1 HH.out.2.2.2.2.1
    obtain ⟨bW, _⟩ := HKW.out.bx HH.out.2.1 HH.out.2.2.2.1 HH.out.2.2.2.2.2
    have k1 := bS.cell 1 _ rfl
    have k2 := bS.cell 2 _ rfl
    have kw := bW.cell 0 _ rfl
    clear bS bW
    have hpart : (Leb.uB (n : Int) ++ fstB f j).length ≤ (Leb.uB (n : Int) ++ fstB f n).length := by rw [List.length_append, List.length_append]; have := fstB_le f j n hj; omega
    have hb3 : b3.length ≤ 38900000000000 := by have h1 := HSO.out.2; have h2 := HLEN.out; omega
    by_cases hgo : j < n
    · have HC := hideR (wFull w0 p c v3 b3 wr HWS.out (by omega))
      go_wp2_with fail
      refine HC.out.mono ?_
      rintro e w3 ⟨rfl, rfl⟩
      clear HC
      by_cases hfull : 262144 < b3.length
      · rw [decide_eq_true hfull]
        have HF : Hid (So bs (Leb.uB (n : Int) ++ fstB f n) b3) := hideR ⟨.inr ⟨hfull, by have h1 := HSO.out.2; omega, HSO.out.1.le⟩, by have h1 := HSO.out.2; omega⟩
        clear hfull
        go_wp2
        go_end0
        exact ⟨_, _, rfl, HWS.out, HKW.out, HF.out.1, HF.out.2⟩
      · rw [decide_eq_false hfull]
        clear hfull
        have HC := hideR (HE.out j v3 b3 w3 hgo HWS.out (by
          have h1 := HSO.out.2
          have h2 := fstB_le f (j + 1) n (by omega)
          have h3 := HLEN.out
          rw [show fstB f (j + 1) = fstB f j ++ f j from rfl] at h2
          simp only [List.length_append] at h1 h2 h3
          omega))
        go_wp2_with fail
        refine HC.out.mono ?_
        rintro e w4 ⟨v4, b4, rfl, hh, kk, ha, hl⟩
        have HS4 := hideR hh
        have HK4 := hideR (HKW.out.trans kk)
        have HSO4 : Hid (So bs (Leb.uB (n : Int) ++ fstB f (j + 1)) b4) := hideR (by rw [show fstB f (j + 1) = fstB f j ++ f j from rfl, ← List.append_assoc]; exact HSO.out.adds ha hl)
        clear hh kk ha hl HC HWS HKW HSO k1 k2 kw
        go_wp2
        go_roundw
        case rel => exact ⟨j + 1, v4, b4, by omega, by go_num, HS4, HK4, HSO4⟩
        case measure => simp [Lib.intOf]; omega
    · obtain rfl : n = j := by omega
      go_wp2
      go_end0
      exact ⟨_, _, rfl, HWS.out, HKW.out, HSO.out.1, HSO.out.2⟩
set_option maxRecDepth 100000 in
set_option maxHeartbeats 4000000 in
theorem wSec2 (w0 : World) (p : Nat) (c : Nat → Value) (v : Value) (bs : List Int) (n : Nat) (f : Nat → List Int) (qS qW : Nat) (w : World) (h : WS w0 p c v bs w) (hE : EntC w0 p c 42 n f)
    (hS : Bx w qS 72 #[.int .i64 2, .int .i64 n, .func (.func 42) #[.pointer (some ⟨p, 0, none⟩)] #[]]) (hW : Bx w qW 65 #[.pointer (some ⟨p, 0, none⟩)]) (n1 : qS ≠ p) (n2 : qW ≠ p) (n3 : some qS ≠ v.ownBlock) (n4 : some qW ≠ v.ownBlock)
    (hnn : n ≤ 1000000) (hlen : bs.length + (insideB 2 n f).length ≤ 38900000000000) :
    Calls Tryz.prog 54 #[.pointer (some ⟨qS, 0, none⟩), .pointer (some ⟨qW, 0, none⟩)] w (DoesA w0 p c v w bs (insideB 2 n f)) := by
  have hlen' : bs.length + (Leb.uB (n : Int) ++ fstB f n).length ≤ 38900000000000 := hlen
  have k0 := hS.cell 0 _ rfl
  have k1 := hS.cell 1 _ rfl
  have k2 := hS.cell 2 _ rfl
  have kw := hW.cell 0 _ rfl
  have HE := hideR hE
  have HH := hideR (⟨hS, hW, n1, n2, n3, n4⟩ : Bx w qS 72 #[.int .i64 2, .int .i64 n, .func (.func 42) #[.pointer (some ⟨p, 0, none⟩)] #[]] ∧ Bx w qW 65 #[.pointer (some ⟨p, 0, none⟩)] ∧ qS ≠ p ∧ qW ≠ p ∧ some qS ≠ v.ownBlock ∧ some qW ≠ v.ownBlock)
  have HLEN := hideR hlen'
  show Calls Tryz.prog 54 #[.pointer (some ⟨qS, 0, none⟩), .pointer (some ⟨qW, 0, none⟩)] w (DoesA w0 p c v w bs (Leb.uB (n : Int) ++ fstB f n))
  have hten := Leb.uB_ten (n := (n : Int)) (by omega) (by omega)
  have HC1 := hideR (wU w0 p c v bs (n : Int) w h (by omega) (by omega) (by rw [List.length_append] at hlen'; omega))
  clear h hE hS hW n1 n2 n3 n4 hlen hlen'
  go_enter Tryz.func54, Tryz.ntmps54
  go_wp2_with fail
  refine HC1.out.mono ?_
  rintro e w1 ⟨v1, rfl, hh, kk⟩
  have HS0 := hideR hh
  have HK0 := hideR kk
  have HSO0 : Hid (So bs (Leb.uB (n : Int) ++ fstB f 0) (bs ++ Leb.uB (n : Int))) := hideR (by have h3 := (So.refl bs).app (Leb.uB (n : Int)); rw [List.nil_append] at h3; rw [show fstB f 0 = [] from rfl, List.append_nil]; exact h3)
  clear hh kk HC1 k0 k1 k2 kw
  go_wp2_with fail
  go_loopw [2] (fun i wr => ∃ (j : Nat) (v3 : Value) (b3 : List Int), j ≤ n ∧ i = .int .i64 j ∧ Hid (WS w0 p c v3 b3 wr) ∧ Hid (Kept p v w v3 wr) ∧ Hid (So bs (Leb.uB (n : Int) ++ fstB f j) b3)) (fun i _ => n - (Lib.intOf i).toNat)
  case atStart => exact ⟨0, _, _, by omega, rfl, HS0, HK0, HSO0⟩
  case round =>
    clear HS0 HK0 HSO0
    obtain ⟨j, v3, b3, hj, rfl, HWS, HKW, HSO⟩ := hrel
    obtain ⟨bS, _⟩ := HKW.out.bx HH.out.1 HH.out.2.2.1 HH.out.2.2.2.2.1
    obtain ⟨bW, _⟩ := HKW.out.bx HH.out.2.1 HH.out.2.2.2.1 HH.out.2.2.2.2.2
    have k1 := bS.cell 1 _ rfl
    have k2 := bS.cell 2 _ rfl
    have kw := bW.cell 0 _ rfl
    clear bS bW
    have hpart : (Leb.uB (n : Int) ++ fstB f j).length ≤ (Leb.uB (n : Int) ++ fstB f n).length := by rw [List.length_append, List.length_append]; have := fstB_le f j n hj; omega
    have hb3 : b3.length ≤ 38900000000000 := by have h1 := HSO.out.2; have h2 := HLEN.out; omega
    by_cases hgo : j < n
    · have HC := hideR (wFull w0 p c v3 b3 wr HWS.out (by omega))
      go_wp2_with fail
      refine HC.out.mono ?_
      rintro e w3 ⟨rfl, rfl⟩
      clear HC
      by_cases hfull : 262144 < b3.length
      · rw [decide_eq_true hfull]
        have HF : Hid (So bs (Leb.uB (n : Int) ++ fstB f n) b3) := hideR ⟨.inr ⟨hfull, by have h1 := HSO.out.2; omega, HSO.out.1.le⟩, by have h1 := HSO.out.2; omega⟩
        clear hfull
        go_wp2
        go_end0
        exact ⟨_, _, rfl, HWS.out, HKW.out, HF.out.1, HF.out.2⟩
      · rw [decide_eq_false hfull]
        clear hfull
        have HC := hideR (HE.out j v3 b3 w3 hgo HWS.out (by
          have h1 := HSO.out.2
          have h2 := fstB_le f (j + 1) n (by omega)
          have h3 := HLEN.out
          rw [show fstB f (j + 1) = fstB f j ++ f j from rfl] at h2
          simp only [List.length_append] at h1 h2 h3
          omega))
        go_wp2_with fail
        refine HC.out.mono ?_
        rintro e w4 ⟨v4, b4, rfl, hh, kk, ha, hl⟩
        have HS4 := hideR hh
        have HK4 := hideR (HKW.out.trans kk)
        have HSO4 : Hid (So bs (Leb.uB (n : Int) ++ fstB f (j + 1)) b4) := hideR (by rw [show fstB f (j + 1) = fstB f j ++ f j from rfl, ← List.append_assoc]; exact HSO.out.adds ha hl)
        clear hh kk ha hl HC HWS HKW HSO k1 k2 kw
        go_wp2
        go_roundw
        case rel => exact ⟨j + 1, v4, b4, by omega, by go_num, HS4, HK4, HSO4⟩
        case measure => simp [Lib.intOf]; omega
    · obtain rfl : n = j := by omega
      go_wp2
      go_end0
      exact ⟨_, _, rfl, HWS.out, HKW.out, HSO.out.1, HSO.out.2⟩
set_option maxRecDepth 100000 in
set_option maxHeartbeats 4000000 in
theorem wSec3 (w0 : World) (p : Nat) (c : Nat → Value) (v : Value) (bs : List Int) (n : Nat) (f : Nat → List Int) (qS qW : Nat) (w : World) (h : WS w0 p c v bs w) (hE : EntC w0 p c 43 n f)
    (hS : Bx w qS 72 #[.int .i64 3, .int .i64 n, .func (.func 43) #[.pointer (some ⟨p, 0, none⟩)] #[]]) (hW : Bx w qW 65 #[.pointer (some ⟨p, 0, none⟩)]) (n1 : qS ≠ p) (n2 : qW ≠ p) (n3 : some qS ≠ v.ownBlock) (n4 : some qW ≠ v.ownBlock)
    (hnn : n ≤ 1000000) (hlen : bs.length + (insideB 3 n f).length ≤ 38900000000000) :
    Calls Tryz.prog 54 #[.pointer (some ⟨qS, 0, none⟩), .pointer (some ⟨qW, 0, none⟩)] w (DoesA w0 p c v w bs (insideB 3 n f)) := by
  have hlen' : bs.length + (Leb.uB (n : Int) ++ fstB f n).length ≤ 38900000000000 := hlen
  have k0 := hS.cell 0 _ rfl
  have k1 := hS.cell 1 _ rfl
  have k2 := hS.cell 2 _ rfl
  have kw := hW.cell 0 _ rfl
  have HE := hideR hE
  have HH := hideR (⟨hS, hW, n1, n2, n3, n4⟩ : Bx w qS 72 #[.int .i64 3, .int .i64 n, .func (.func 43) #[.pointer (some ⟨p, 0, none⟩)] #[]] ∧ Bx w qW 65 #[.pointer (some ⟨p, 0, none⟩)] ∧ qS ≠ p ∧ qW ≠ p ∧ some qS ≠ v.ownBlock ∧ some qW ≠ v.ownBlock)
  have HLEN := hideR hlen'
  show Calls Tryz.prog 54 #[.pointer (some ⟨qS, 0, none⟩), .pointer (some ⟨qW, 0, none⟩)] w (DoesA w0 p c v w bs (Leb.uB (n : Int) ++ fstB f n))
  have hten := Leb.uB_ten (n := (n : Int)) (by omega) (by omega)
  have HC1 := hideR (wU w0 p c v bs (n : Int) w h (by omega) (by omega) (by rw [List.length_append] at hlen'; omega))
  clear h hE hS hW n1 n2 n3 n4 hlen hlen'
  go_enter Tryz.func54, Tryz.ntmps54
  go_wp2_with fail
  refine HC1.out.mono ?_
  rintro e w1 ⟨v1, rfl, hh, kk⟩
  have HS0 := hideR hh
  have HK0 := hideR kk
  have HSO0 : Hid (So bs (Leb.uB (n : Int) ++ fstB f 0) (bs ++ Leb.uB (n : Int))) := hideR (by have h3 := (So.refl bs).app (Leb.uB (n : Int)); rw [List.nil_append] at h3; rw [show fstB f 0 = [] from rfl, List.append_nil]; exact h3)
  clear hh kk HC1 k0 k1 k2 kw
  go_wp2_with fail
  go_loopw [2] (fun i wr => ∃ (j : Nat) (v3 : Value) (b3 : List Int), j ≤ n ∧ i = .int .i64 j ∧ Hid (WS w0 p c v3 b3 wr) ∧ Hid (Kept p v w v3 wr) ∧ Hid (So bs (Leb.uB (n : Int) ++ fstB f j) b3)) (fun i _ => n - (Lib.intOf i).toNat)
  case atStart => exact ⟨0, _, _, by omega, rfl, HS0, HK0, HSO0⟩
  case round =>
    clear HS0 HK0 HSO0
    obtain ⟨j, v3, b3, hj, rfl, HWS, HKW, HSO⟩ := hrel
    obtain ⟨bS, _⟩ := HKW.out.bx HH.out.1 HH.out.2.2.1 HH.out.2.2.2.2.1
    obtain ⟨bW, _⟩ := HKW.out.bx HH.out.2.1 HH.out.2.2.2.1 HH.out.2.2.2.2.2
    have k1 := bS.cell 1 _ rfl
    have k2 := bS.cell 2 _ rfl
    have kw := bW.cell 0 _ rfl
    clear bS bW
    have hpart : (Leb.uB (n : Int) ++ fstB f j).length ≤ (Leb.uB (n : Int) ++ fstB f n).length := by rw [List.length_append, List.length_append]; have := fstB_le f j n hj; omega
    have hb3 : b3.length ≤ 38900000000000 := by have h1 := HSO.out.2; have h2 := HLEN.out; omega
    by_cases hgo : j < n
    · have HC := hideR (wFull w0 p c v3 b3 wr HWS.out (by omega))
      go_wp2_with fail
      refine HC.out.mono ?_
      rintro e w3 ⟨rfl, rfl⟩
      clear HC
      by_cases hfull : 262144 < b3.length
      · rw [decide_eq_true hfull]
        have HF : Hid (So bs (Leb.uB (n : Int) ++ fstB f n) b3) := hideR ⟨.inr ⟨hfull, by have h1 := HSO.out.2; omega, HSO.out.1.le⟩, by have h1 := HSO.out.2; omega⟩
        clear hfull
        go_wp2
        go_end0
        exact ⟨_, _, rfl, HWS.out, HKW.out, HF.out.1, HF.out.2⟩
      · rw [decide_eq_false hfull]
        clear hfull
        have HC := hideR (HE.out j v3 b3 w3 hgo HWS.out (by
          have h1 := HSO.out.2
          have h2 := fstB_le f (j + 1) n (by omega)
          have h3 := HLEN.out
          rw [show fstB f (j + 1) = fstB f j ++ f j from rfl] at h2
          simp only [List.length_append] at h1 h2 h3
          omega))
        go_wp2_with fail
        refine HC.out.mono ?_
        rintro e w4 ⟨v4, b4, rfl, hh, kk, ha, hl⟩
        have HS4 := hideR hh
        have HK4 := hideR (HKW.out.trans kk)
        have HSO4 : Hid (So bs (Leb.uB (n : Int) ++ fstB f (j + 1)) b4) := hideR (by rw [show fstB f (j + 1) = fstB f j ++ f j from rfl, ← List.append_assoc]; exact HSO.out.adds ha hl)
        clear hh kk ha hl HC HWS HKW HSO k1 k2 kw
        go_wp2
        go_roundw
        case rel => exact ⟨j + 1, v4, b4, by omega, by go_num, HS4, HK4, HSO4⟩
        case measure => simp [Lib.intOf]; omega
    · obtain rfl : n = j := by omega
      go_wp2
      go_end0
      exact ⟨_, _, rfl, HWS.out, HKW.out, HSO.out.1, HSO.out.2⟩
set_option maxRecDepth 100000 in
set_option maxHeartbeats 4000000 in
theorem wSec4 (w0 : World) (p : Nat) (c : Nat → Value) (v : Value) (bs : List Int) (n : Nat) (f : Nat → List Int) (qS qW : Nat) (w : World) (h : WS w0 p c v bs w) (hE : EntC w0 p c 44 n f)
    (hS : Bx w qS 72 #[.int .i64 4, .int .i64 n, .func (.func 44) #[.pointer (some ⟨p, 0, none⟩)] #[]]) (hW : Bx w qW 65 #[.pointer (some ⟨p, 0, none⟩)]) (n1 : qS ≠ p) (n2 : qW ≠ p) (n3 : some qS ≠ v.ownBlock) (n4 : some qW ≠ v.ownBlock)
    (hnn : n ≤ 1000000) (hlen : bs.length + (insideB 4 n f).length ≤ 38900000000000) :
    Calls Tryz.prog 54 #[.pointer (some ⟨qS, 0, none⟩), .pointer (some ⟨qW, 0, none⟩)] w (DoesA w0 p c v w bs (insideB 4 n f)) := by
  have hlen' : bs.length + (Leb.uB (n : Int) ++ fstB f n).length ≤ 38900000000000 := hlen
  have k0 := hS.cell 0 _ rfl
  have k1 := hS.cell 1 _ rfl
  have k2 := hS.cell 2 _ rfl
  have kw := hW.cell 0 _ rfl
  have HE := hideR hE
  have HH := hideR (⟨hS, hW, n1, n2, n3, n4⟩ : Bx w qS 72 #[.int .i64 4, .int .i64 n, .func (.func 44) #[.pointer (some ⟨p, 0, none⟩)] #[]] ∧ Bx w qW 65 #[.pointer (some ⟨p, 0, none⟩)] ∧ qS ≠ p ∧ qW ≠ p ∧ some qS ≠ v.ownBlock ∧ some qW ≠ v.ownBlock)
  have HLEN := hideR hlen'
  show Calls Tryz.prog 54 #[.pointer (some ⟨qS, 0, none⟩), .pointer (some ⟨qW, 0, none⟩)] w (DoesA w0 p c v w bs (Leb.uB (n : Int) ++ fstB f n))
  have hten := Leb.uB_ten (n := (n : Int)) (by omega) (by omega)
  have HC1 := hideR (wU w0 p c v bs (n : Int) w h (by omega) (by omega) (by rw [List.length_append] at hlen'; omega))
  clear h hE hS hW n1 n2 n3 n4 hlen hlen'
  go_enter Tryz.func54, Tryz.ntmps54
  go_wp2_with fail
  refine HC1.out.mono ?_
  rintro e w1 ⟨v1, rfl, hh, kk⟩
  have HS0 := hideR hh
  have HK0 := hideR kk
  have HSO0 : Hid (So bs (Leb.uB (n : Int) ++ fstB f 0) (bs ++ Leb.uB (n : Int))) := hideR (by have h3 := (So.refl bs).app (Leb.uB (n : Int)); rw [List.nil_append] at h3; rw [show fstB f 0 = [] from rfl, List.append_nil]; exact h3)
  clear hh kk HC1 k0 k1 k2 kw
  go_wp2_with fail
  go_loopw [2] (fun i wr => ∃ (j : Nat) (v3 : Value) (b3 : List Int), j ≤ n ∧ i = .int .i64 j ∧ Hid (WS w0 p c v3 b3 wr) ∧ Hid (Kept p v w v3 wr) ∧ Hid (So bs (Leb.uB (n : Int) ++ fstB f j) b3)) (fun i _ => n - (Lib.intOf i).toNat)
  case atStart => exact ⟨0, _, _, by omega, rfl, HS0, HK0, HSO0⟩
  case round =>
    clear HS0 HK0 HSO0
    obtain ⟨j, v3, b3, hj, rfl, HWS, HKW, HSO⟩ := hrel
    obtain ⟨bS, _⟩ := HKW.out.bx HH.out.1 HH.out.2.2.1 HH.out.2.2.2.2.1
    obtain ⟨bW, _⟩ := HKW.out.bx HH.out.2.1 HH.out.2.2.2.1 HH.out.2.2.2.2.2
    have k1 := bS.cell 1 _ rfl
    have k2 := bS.cell 2 _ rfl
    have kw := bW.cell 0 _ rfl
    clear bS bW
    have hpart : (Leb.uB (n : Int) ++ fstB f j).length ≤ (Leb.uB (n : Int) ++ fstB f n).length := by rw [List.length_append, List.length_append]; have := fstB_le f j n hj; omega
    have hb3 : b3.length ≤ 38900000000000 := by have h1 := HSO.out.2; have h2 := HLEN.out; omega
    by_cases hgo : j < n
    · have HC := hideR (wFull w0 p c v3 b3 wr HWS.out (by omega))
      go_wp2_with fail
      refine HC.out.mono ?_
      rintro e w3 ⟨rfl, rfl⟩
      clear HC
      by_cases hfull : 262144 < b3.length
      · rw [decide_eq_true hfull]
        have HF : Hid (So bs (Leb.uB (n : Int) ++ fstB f n) b3) := hideR ⟨.inr ⟨hfull, by have h1 := HSO.out.2; omega, HSO.out.1.le⟩, by have h1 := HSO.out.2; omega⟩
        clear hfull
        go_wp2
        go_end0
        exact ⟨_, _, rfl, HWS.out, HKW.out, HF.out.1, HF.out.2⟩
      · rw [decide_eq_false hfull]
        clear hfull
        have HC := hideR (HE.out j v3 b3 w3 hgo HWS.out (by
          have h1 := HSO.out.2
          have h2 := fstB_le f (j + 1) n (by omega)
          have h3 := HLEN.out
          rw [show fstB f (j + 1) = fstB f j ++ f j from rfl] at h2
          simp only [List.length_append] at h1 h2 h3
          omega))
        go_wp2_with fail
        refine HC.out.mono ?_
        rintro e w4 ⟨v4, b4, rfl, hh, kk, ha, hl⟩
        have HS4 := hideR hh
        have HK4 := hideR (HKW.out.trans kk)
        have HSO4 : Hid (So bs (Leb.uB (n : Int) ++ fstB f (j + 1)) b4) := hideR (by rw [show fstB f (j + 1) = fstB f j ++ f j from rfl, ← List.append_assoc]; exact HSO.out.adds ha hl)
        clear hh kk ha hl HC HWS HKW HSO k1 k2 kw
        go_wp2
        go_roundw
        case rel => exact ⟨j + 1, v4, b4, by omega, by go_num, HS4, HK4, HSO4⟩
        case measure => simp [Lib.intOf]; omega
    · obtain rfl : n = j := by omega
      go_wp2
      go_end0
      exact ⟨_, _, rfl, HWS.out, HKW.out, HSO.out.1, HSO.out.2⟩
set_option maxRecDepth 100000 in
set_option maxHeartbeats 4000000 in
theorem wSec5 (w0 : World) (p : Nat) (c : Nat → Value) (v : Value) (bs : List Int) (n : Nat) (f : Nat → List Int) (qS qW : Nat) (w : World) (h : WS w0 p c v bs w) (hE : EntC w0 p c 45 n f)
    (hS : Bx w qS 72 #[.int .i64 5, .int .i64 n, .func (.func 45) #[.pointer (some ⟨p, 0, none⟩)] #[]]) (hW : Bx w qW 65 #[.pointer (some ⟨p, 0, none⟩)]) (n1 : qS ≠ p) (n2 : qW ≠ p) (n3 : some qS ≠ v.ownBlock) (n4 : some qW ≠ v.ownBlock)
    (hnn : n ≤ 1000000) (hlen : bs.length + (insideB 5 n f).length ≤ 38900000000000) :
    Calls Tryz.prog 54 #[.pointer (some ⟨qS, 0, none⟩), .pointer (some ⟨qW, 0, none⟩)] w (DoesA w0 p c v w bs (insideB 5 n f)) := by
  have hlen' : bs.length + (Leb.uB (n : Int) ++ fstB f n).length ≤ 38900000000000 := hlen
  have k0 := hS.cell 0 _ rfl
  have k1 := hS.cell 1 _ rfl
  have k2 := hS.cell 2 _ rfl
  have kw := hW.cell 0 _ rfl
  have HE := hideR hE
  have HH := hideR (⟨hS, hW, n1, n2, n3, n4⟩ : Bx w qS 72 #[.int .i64 5, .int .i64 n, .func (.func 45) #[.pointer (some ⟨p, 0, none⟩)] #[]] ∧ Bx w qW 65 #[.pointer (some ⟨p, 0, none⟩)] ∧ qS ≠ p ∧ qW ≠ p ∧ some qS ≠ v.ownBlock ∧ some qW ≠ v.ownBlock)
  have HLEN := hideR hlen'
  show Calls Tryz.prog 54 #[.pointer (some ⟨qS, 0, none⟩), .pointer (some ⟨qW, 0, none⟩)] w (DoesA w0 p c v w bs (Leb.uB (n : Int) ++ fstB f n))
  have hten := Leb.uB_ten (n := (n : Int)) (by omega) (by omega)
  have HC1 := hideR (wU w0 p c v bs (n : Int) w h (by omega) (by omega) (by rw [List.length_append] at hlen'; omega))
  clear h hE hS hW n1 n2 n3 n4 hlen hlen'
  go_enter Tryz.func54, Tryz.ntmps54
  go_wp2_with fail
  refine HC1.out.mono ?_
  rintro e w1 ⟨v1, rfl, hh, kk⟩
  have HS0 := hideR hh
  have HK0 := hideR kk
  have HSO0 : Hid (So bs (Leb.uB (n : Int) ++ fstB f 0) (bs ++ Leb.uB (n : Int))) := hideR (by have h3 := (So.refl bs).app (Leb.uB (n : Int)); rw [List.nil_append] at h3; rw [show fstB f 0 = [] from rfl, List.append_nil]; exact h3)
  clear hh kk HC1 k0 k1 k2 kw
  go_wp2_with fail
  go_loopw [2] (fun i wr => ∃ (j : Nat) (v3 : Value) (b3 : List Int), j ≤ n ∧ i = .int .i64 j ∧ Hid (WS w0 p c v3 b3 wr) ∧ Hid (Kept p v w v3 wr) ∧ Hid (So bs (Leb.uB (n : Int) ++ fstB f j) b3)) (fun i _ => n - (Lib.intOf i).toNat)
  case atStart => exact ⟨0, _, _, by omega, rfl, HS0, HK0, HSO0⟩
  case round =>
    clear HS0 HK0 HSO0
    obtain ⟨j, v3, b3, hj, rfl, HWS, HKW, HSO⟩ := hrel
    obtain ⟨bS, _⟩ := HKW.out.bx HH.out.1 HH.out.2.2.1 HH.out.2.2.2.2.1
    obtain ⟨bW, _⟩ := HKW.out.bx HH.out.2.1 HH.out.2.2.2.1 HH.out.2.2.2.2.2
    have k1 := bS.cell 1 _ rfl
    have k2 := bS.cell 2 _ rfl
    have kw := bW.cell 0 _ rfl
    clear bS bW
    have hpart : (Leb.uB (n : Int) ++ fstB f j).length ≤ (Leb.uB (n : Int) ++ fstB f n).length := by rw [List.length_append, List.length_append]; have := fstB_le f j n hj; omega
    have hb3 : b3.length ≤ 38900000000000 := by have h1 := HSO.out.2; have h2 := HLEN.out; omega
    by_cases hgo : j < n
    · have HC := hideR (wFull w0 p c v3 b3 wr HWS.out (by omega))
      go_wp2_with fail
      refine HC.out.mono ?_
      rintro e w3 ⟨rfl, rfl⟩
      clear HC
      by_cases hfull : 262144 < b3.length
      · rw [decide_eq_true hfull]
        have HF : Hid (So bs (Leb.uB (n : Int) ++ fstB f n) b3) := hideR ⟨.inr ⟨hfull, by have h1 := HSO.out.2; omega, HSO.out.1.le⟩, by have h1 := HSO.out.2; omega⟩
        clear hfull
        go_wp2
        go_end0
        exact ⟨_, _, rfl, HWS.out, HKW.out, HF.out.1, HF.out.2⟩
      · rw [decide_eq_false hfull]
        clear hfull
        have HC := hideR (HE.out j v3 b3 w3 hgo HWS.out (by
          have h1 := HSO.out.2
          have h2 := fstB_le f (j + 1) n (by omega)
          have h3 := HLEN.out
          rw [show fstB f (j + 1) = fstB f j ++ f j from rfl] at h2
          simp only [List.length_append] at h1 h2 h3
          omega))
        go_wp2_with fail
        refine HC.out.mono ?_
        rintro e w4 ⟨v4, b4, rfl, hh, kk, ha, hl⟩
        have HS4 := hideR hh
        have HK4 := hideR (HKW.out.trans kk)
        have HSO4 : Hid (So bs (Leb.uB (n : Int) ++ fstB f (j + 1)) b4) := hideR (by rw [show fstB f (j + 1) = fstB f j ++ f j from rfl, ← List.append_assoc]; exact HSO.out.adds ha hl)
        clear hh kk ha hl HC HWS HKW HSO k1 k2 kw
        go_wp2
        go_roundw
        case rel => exact ⟨j + 1, v4, b4, by omega, by go_num, HS4, HK4, HSO4⟩
        case measure => simp [Lib.intOf]; omega
    · obtain rfl : n = j := by omega
      go_wp2
      go_end0
      exact ⟨_, _, rfl, HWS.out, HKW.out, HSO.out.1, HSO.out.2⟩
set_option maxRecDepth 100000 in
set_option maxHeartbeats 4000000 in
theorem wSec6 (w0 : World) (p : Nat) (c : Nat → Value) (v : Value) (bs : List Int) (n : Nat) (f : Nat → List Int) (qS qW : Nat) (w : World) (h : WS w0 p c v bs w) (hE : EntC w0 p c 46 n f)
    (hS : Bx w qS 72 #[.int .i64 6, .int .i64 n, .func (.func 46) #[.pointer (some ⟨p, 0, none⟩)] #[]]) (hW : Bx w qW 65 #[.pointer (some ⟨p, 0, none⟩)]) (n1 : qS ≠ p) (n2 : qW ≠ p) (n3 : some qS ≠ v.ownBlock) (n4 : some qW ≠ v.ownBlock)
    (hnn : n ≤ 1000000) (hlen : bs.length + (insideB 6 n f).length ≤ 38900000000000) :
    Calls Tryz.prog 54 #[.pointer (some ⟨qS, 0, none⟩), .pointer (some ⟨qW, 0, none⟩)] w (DoesA w0 p c v w bs (insideB 6 n f)) := by
  have hlen' : bs.length + (Leb.uB (n : Int) ++ fstB f n).length ≤ 38900000000000 := hlen
  have k0 := hS.cell 0 _ rfl
  have k1 := hS.cell 1 _ rfl
  have k2 := hS.cell 2 _ rfl
  have kw := hW.cell 0 _ rfl
  have HE := hideR hE
  have HH := hideR (⟨hS, hW, n1, n2, n3, n4⟩ : Bx w qS 72 #[.int .i64 6, .int .i64 n, .func (.func 46) #[.pointer (some ⟨p, 0, none⟩)] #[]] ∧ Bx w qW 65 #[.pointer (some ⟨p, 0, none⟩)] ∧ qS ≠ p ∧ qW ≠ p ∧ some qS ≠ v.ownBlock ∧ some qW ≠ v.ownBlock)
  have HLEN := hideR hlen'
  show Calls Tryz.prog 54 #[.pointer (some ⟨qS, 0, none⟩), .pointer (some ⟨qW, 0, none⟩)] w (DoesA w0 p c v w bs (Leb.uB (n : Int) ++ fstB f n))
  have hten := Leb.uB_ten (n := (n : Int)) (by omega) (by omega)
  have HC1 := hideR (wU w0 p c v bs (n : Int) w h (by omega) (by omega) (by rw [List.length_append] at hlen'; omega))
  clear h hE hS hW n1 n2 n3 n4 hlen hlen'
  go_enter Tryz.func54, Tryz.ntmps54
  go_wp2_with fail
  refine HC1.out.mono ?_
  rintro e w1 ⟨v1, rfl, hh, kk⟩
  have HS0 := hideR hh
  have HK0 := hideR kk
  have HSO0 : Hid (So bs (Leb.uB (n : Int) ++ fstB f 0) (bs ++ Leb.uB (n : Int))) := hideR (by have h3 := (So.refl bs).app (Leb.uB (n : Int)); rw [List.nil_append] at h3; rw [show fstB f 0 = [] from rfl, List.append_nil]; exact h3)
  clear hh kk HC1 k0 k1 k2 kw
  go_wp2_with fail
  go_loopw [2] (fun i wr => ∃ (j : Nat) (v3 : Value) (b3 : List Int), j ≤ n ∧ i = .int .i64 j ∧ Hid (WS w0 p c v3 b3 wr) ∧ Hid (Kept p v w v3 wr) ∧ Hid (So bs (Leb.uB (n : Int) ++ fstB f j) b3)) (fun i _ => n - (Lib.intOf i).toNat)
  case atStart => exact ⟨0, _, _, by omega, rfl, HS0, HK0, HSO0⟩
  case round =>
    clear HS0 HK0 HSO0
    obtain ⟨j, v3, b3, hj, rfl, HWS, HKW, HSO⟩ := hrel
    obtain ⟨bS, _⟩ := HKW.out.bx HH.out.1 HH.out.2.2.1 HH.out.2.2.2.2.1
    obtain ⟨bW, _⟩ := HKW.out.bx HH.out.2.1 HH.out.2.2.2.1 HH.out.2.2.2.2.2
    have k1 := bS.cell 1 _ rfl
    have k2 := bS.cell 2 _ rfl
    have kw := bW.cell 0 _ rfl
    clear bS bW
    have hpart : (Leb.uB (n : Int) ++ fstB f j).length ≤ (Leb.uB (n : Int) ++ fstB f n).length := by rw [List.length_append, List.length_append]; have := fstB_le f j n hj; omega
    have hb3 : b3.length ≤ 38900000000000 := by have h1 := HSO.out.2; have h2 := HLEN.out; omega
    by_cases hgo : j < n
    · have HC := hideR (wFull w0 p c v3 b3 wr HWS.out (by omega))
      go_wp2_with fail
      refine HC.out.mono ?_
      rintro e w3 ⟨rfl, rfl⟩
      clear HC
      by_cases hfull : 262144 < b3.length
      · rw [decide_eq_true hfull]
        have HF : Hid (So bs (Leb.uB (n : Int) ++ fstB f n) b3) := hideR ⟨.inr ⟨hfull, by have h1 := HSO.out.2; omega, HSO.out.1.le⟩, by have h1 := HSO.out.2; omega⟩
        clear hfull
        go_wp2
        go_end0
        exact ⟨_, _, rfl, HWS.out, HKW.out, HF.out.1, HF.out.2⟩
      · rw [decide_eq_false hfull]
        clear hfull
        have HC := hideR (HE.out j v3 b3 w3 hgo HWS.out (by
          have h1 := HSO.out.2
          have h2 := fstB_le f (j + 1) n (by omega)
          have h3 := HLEN.out
          rw [show fstB f (j + 1) = fstB f j ++ f j from rfl] at h2
          simp only [List.length_append] at h1 h2 h3
          omega))
        go_wp2_with fail
        refine HC.out.mono ?_
        rintro e w4 ⟨v4, b4, rfl, hh, kk, ha, hl⟩
        have HS4 := hideR hh
        have HK4 := hideR (HKW.out.trans kk)
        have HSO4 : Hid (So bs (Leb.uB (n : Int) ++ fstB f (j + 1)) b4) := hideR (by rw [show fstB f (j + 1) = fstB f j ++ f j from rfl, ← List.append_assoc]; exact HSO.out.adds ha hl)
        clear hh kk ha hl HC HWS HKW HSO k1 k2 kw
        go_wp2
        go_roundw
        case rel => exact ⟨j + 1, v4, b4, by omega, by go_num, HS4, HK4, HSO4⟩
        case measure => simp [Lib.intOf]; omega
    · obtain rfl : n = j := by omega
      go_wp2
      go_end0
      exact ⟨_, _, rfl, HWS.out, HKW.out, HSO.out.1, HSO.out.2⟩
set_option maxRecDepth 100000 in
set_option maxHeartbeats 4000000 in
theorem wSec7 (w0 : World) (p : Nat) (c : Nat → Value) (v : Value) (bs : List Int) (n : Nat) (f : Nat → List Int) (qS qW : Nat) (w : World) (h : WS w0 p c v bs w) (hE : EntC w0 p c 47 n f)
    (hS : Bx w qS 72 #[.int .i64 7, .int .i64 n, .func (.func 47) #[.pointer (some ⟨p, 0, none⟩)] #[]]) (hW : Bx w qW 65 #[.pointer (some ⟨p, 0, none⟩)]) (n1 : qS ≠ p) (n2 : qW ≠ p) (n3 : some qS ≠ v.ownBlock) (n4 : some qW ≠ v.ownBlock)
    (hnn : n ≤ 1000000) (hlen : bs.length + (insideB 7 n f).length ≤ 38900000000000) :
    Calls Tryz.prog 54 #[.pointer (some ⟨qS, 0, none⟩), .pointer (some ⟨qW, 0, none⟩)] w (DoesA w0 p c v w bs (insideB 7 n f)) := by
  have hlen' : bs.length + (Leb.uB (n : Int) ++ fstB f n).length ≤ 38900000000000 := hlen
  have k0 := hS.cell 0 _ rfl
  have k1 := hS.cell 1 _ rfl
  have k2 := hS.cell 2 _ rfl
  have kw := hW.cell 0 _ rfl
  have HE := hideR hE
  have HH := hideR (⟨hS, hW, n1, n2, n3, n4⟩ : Bx w qS 72 #[.int .i64 7, .int .i64 n, .func (.func 47) #[.pointer (some ⟨p, 0, none⟩)] #[]] ∧ Bx w qW 65 #[.pointer (some ⟨p, 0, none⟩)] ∧ qS ≠ p ∧ qW ≠ p ∧ some qS ≠ v.ownBlock ∧ some qW ≠ v.ownBlock)
  have HLEN := hideR hlen'
  show Calls Tryz.prog 54 #[.pointer (some ⟨qS, 0, none⟩), .pointer (some ⟨qW, 0, none⟩)] w (DoesA w0 p c v w bs (Leb.uB (n : Int) ++ fstB f n))
  have hten := Leb.uB_ten (n := (n : Int)) (by omega) (by omega)
  have HC1 := hideR (wU w0 p c v bs (n : Int) w h (by omega) (by omega) (by rw [List.length_append] at hlen'; omega))
  clear h hE hS hW n1 n2 n3 n4 hlen hlen'
  go_enter Tryz.func54, Tryz.ntmps54
  go_wp2_with fail
  refine HC1.out.mono ?_
  rintro e w1 ⟨v1, rfl, hh, kk⟩
  have HS0 := hideR hh
  have HK0 := hideR kk
  have HSO0 : Hid (So bs (Leb.uB (n : Int) ++ fstB f 0) (bs ++ Leb.uB (n : Int))) := hideR (by have h3 := (So.refl bs).app (Leb.uB (n : Int)); rw [List.nil_append] at h3; rw [show fstB f 0 = [] from rfl, List.append_nil]; exact h3)
  clear hh kk HC1 k0 k1 k2 kw
  go_wp2_with fail
  go_loopw [2] (fun i wr => ∃ (j : Nat) (v3 : Value) (b3 : List Int), j ≤ n ∧ i = .int .i64 j ∧ Hid (WS w0 p c v3 b3 wr) ∧ Hid (Kept p v w v3 wr) ∧ Hid (So bs (Leb.uB (n : Int) ++ fstB f j) b3)) (fun i _ => n - (Lib.intOf i).toNat)
  case atStart => exact ⟨0, _, _, by omega, rfl, HS0, HK0, HSO0⟩
  case round =>
    clear HS0 HK0 HSO0
    obtain ⟨j, v3, b3, hj, rfl, HWS, HKW, HSO⟩ := hrel
    obtain ⟨bS, _⟩ := HKW.out.bx HH.out.1 HH.out.2.2.1 HH.out.2.2.2.2.1
    obtain ⟨bW, _⟩ := HKW.out.bx HH.out.2.1 HH.out.2.2.2.1 HH.out.2.2.2.2.2
    have k1 := bS.cell 1 _ rfl
    have k2 := bS.cell 2 _ rfl
    have kw := bW.cell 0 _ rfl
    clear bS bW
    have hpart : (Leb.uB (n : Int) ++ fstB f j).length ≤ (Leb.uB (n : Int) ++ fstB f n).length := by rw [List.length_append, List.length_append]; have := fstB_le f j n hj; omega
    have hb3 : b3.length ≤ 38900000000000 := by have h1 := HSO.out.2; have h2 := HLEN.out; omega
    by_cases hgo : j < n
    · have HC := hideR (wFull w0 p c v3 b3 wr HWS.out (by omega))
      go_wp2_with fail
      refine HC.out.mono ?_
      rintro e w3 ⟨rfl, rfl⟩
      clear HC
      by_cases hfull : 262144 < b3.length
      · rw [decide_eq_true hfull]
        have HF : Hid (So bs (Leb.uB (n : Int) ++ fstB f n) b3) := hideR ⟨.inr ⟨hfull, by have h1 := HSO.out.2; omega, HSO.out.1.le⟩, by have h1 := HSO.out.2; omega⟩
        clear hfull
        go_wp2
        go_end0
        exact ⟨_, _, rfl, HWS.out, HKW.out, HF.out.1, HF.out.2⟩
      · rw [decide_eq_false hfull]
        clear hfull
        have HC := hideR (HE.out j v3 b3 w3 hgo HWS.out (by
          have h1 := HSO.out.2
          have h2 := fstB_le f (j + 1) n (by omega)
          have h3 := HLEN.out
          rw [show fstB f (j + 1) = fstB f j ++ f j from rfl] at h2
          simp only [List.length_append] at h1 h2 h3
          omega))
        go_wp2_with fail
        refine HC.out.mono ?_
        rintro e w4 ⟨v4, b4, rfl, hh, kk, ha, hl⟩
        have HS4 := hideR hh
        have HK4 := hideR (HKW.out.trans kk)
        have HSO4 : Hid (So bs (Leb.uB (n : Int) ++ fstB f (j + 1)) b4) := hideR (by rw [show fstB f (j + 1) = fstB f j ++ f j from rfl, ← List.append_assoc]; exact HSO.out.adds ha hl)
        clear hh kk ha hl HC HWS HKW HSO k1 k2 kw
        go_wp2
        go_roundw
        case rel => exact ⟨j + 1, v4, b4, by omega, by go_num, HS4, HK4, HSO4⟩
        case measure => simp [Lib.intOf]; omega
    · obtain rfl : n = j := by omega
      go_wp2
      go_end0
      exact ⟨_, _, rfl, HWS.out, HKW.out, HSO.out.1, HSO.out.2⟩
set_option maxRecDepth 100000 in
set_option maxHeartbeats 4000000 in
theorem wSec8 (w0 : World) (p : Nat) (c : Nat → Value) (v : Value) (bs : List Int) (n : Nat) (f : Nat → List Int) (qS qW : Nat) (w : World) (h : WS w0 p c v bs w) (hE : EntC w0 p c 48 n f)
    (hS : Bx w qS 72 #[.int .i64 8, .int .i64 n, .func (.func 48) #[.pointer (some ⟨p, 0, none⟩)] #[]]) (hW : Bx w qW 65 #[.pointer (some ⟨p, 0, none⟩)]) (n1 : qS ≠ p) (n2 : qW ≠ p) (n3 : some qS ≠ v.ownBlock) (n4 : some qW ≠ v.ownBlock)
    (hnn : n ≤ 1000000) (hlen : bs.length + (insideB 8 n f).length ≤ 38900000000000) :
    Calls Tryz.prog 54 #[.pointer (some ⟨qS, 0, none⟩), .pointer (some ⟨qW, 0, none⟩)] w (DoesA w0 p c v w bs (insideB 8 n f)) := by
  have hlen' : bs.length + (([] : List Int) ++ fstB f n).length ≤ 38900000000000 := hlen
  have k0 := hS.cell 0 _ rfl
  have k1 := hS.cell 1 _ rfl
  have k2 := hS.cell 2 _ rfl
  have kw := hW.cell 0 _ rfl
  have HE := hideR hE
  have HH := hideR (⟨hS, hW, n1, n2, n3, n4⟩ : Bx w qS 72 #[.int .i64 8, .int .i64 n, .func (.func 48) #[.pointer (some ⟨p, 0, none⟩)] #[]] ∧ Bx w qW 65 #[.pointer (some ⟨p, 0, none⟩)] ∧ qS ≠ p ∧ qW ≠ p ∧ some qS ≠ v.ownBlock ∧ some qW ≠ v.ownBlock)
  have HLEN := hideR hlen'
  show Calls Tryz.prog 54 #[.pointer (some ⟨qS, 0, none⟩), .pointer (some ⟨qW, 0, none⟩)] w (DoesA w0 p c v w bs (([] : List Int) ++ fstB f n))
  have HS0 := hideR h
  have HK0 : Hid (Kept p v w v w) := hideR (Kept.refl _ _ _)
  have HSO0 : Hid (So bs (([] : List Int) ++ fstB f 0) bs) := hideR (So.refl bs)
  clear h hE hS hW n1 n2 n3 n4 hlen hlen'
  go_enter Tryz.func54, Tryz.ntmps54
  go_wp2_with fail
  go_loopw [2] (fun i wr => ∃ (j : Nat) (v3 : Value) (b3 : List Int), j ≤ n ∧ i = .int .i64 j ∧ Hid (WS w0 p c v3 b3 wr) ∧ Hid (Kept p v w v3 wr) ∧ Hid (So bs (([] : List Int) ++ fstB f j) b3)) (fun i _ => n - (Lib.intOf i).toNat)
  case atStart => exact ⟨0, _, _, by omega, rfl, HS0, HK0, HSO0⟩
  case round =>
    clear HS0 HK0 HSO0
    obtain ⟨j, v3, b3, hj, rfl, HWS, HKW, HSO⟩ := hrel
    obtain ⟨bS, _⟩ := HKW.out.bx HH.out.1 HH.out.2.2.1 HH.out.2.2.2.2.1
    obtain ⟨bW, _⟩ := HKW.out.bx HH.out.2.1 HH.out.2.2.2.1 HH.out.2.2.2.2.2
    have k1 := bS.cell 1 _ rfl
    have k2 := bS.cell 2 _ rfl
    have kw := bW.cell 0 _ rfl
    clear bS bW
    have hpart : (([] : List Int) ++ fstB f j).length ≤ (([] : List Int) ++ fstB f n).length := by rw [List.length_append, List.length_append]; have := fstB_le f j n hj; omega
    have hb3 : b3.length ≤ 38900000000000 := by have h1 := HSO.out.2; have h2 := HLEN.out; omega
    by_cases hgo : j < n
    · have HC := hideR (wFull w0 p c v3 b3 wr HWS.out (by omega))
      go_wp2_with fail
      refine HC.out.mono ?_
      rintro e w3 ⟨rfl, rfl⟩
      clear HC
      by_cases hfull : 262144 < b3.length
      · rw [decide_eq_true hfull]
        have HF : Hid (So bs (([] : List Int) ++ fstB f n) b3) := hideR ⟨.inr ⟨hfull, by have h1 := HSO.out.2; omega, HSO.out.1.le⟩, by have h1 := HSO.out.2; omega⟩
        clear hfull
        go_wp2
        go_end0
        exact ⟨_, _, rfl, HWS.out, HKW.out, HF.out.1, HF.out.2⟩
      · rw [decide_eq_false hfull]
        clear hfull
        have HC := hideR (HE.out j v3 b3 w3 hgo HWS.out (by
          have h1 := HSO.out.2
          have h2 := fstB_le f (j + 1) n (by omega)
          have h3 := HLEN.out
          rw [show fstB f (j + 1) = fstB f j ++ f j from rfl] at h2
          simp only [List.length_append] at h1 h2 h3
          omega))
        go_wp2_with fail
        refine HC.out.mono ?_
        rintro e w4 ⟨v4, b4, rfl, hh, kk, ha, hl⟩
        have HS4 := hideR hh
        have HK4 := hideR (HKW.out.trans kk)
        have HSO4 : Hid (So bs (([] : List Int) ++ fstB f (j + 1)) b4) := hideR (by rw [show fstB f (j + 1) = fstB f j ++ f j from rfl, ← List.append_assoc]; exact HSO.out.adds ha hl)
        clear hh kk ha hl HC HWS HKW HSO k1 k2 kw
        go_wp2
        go_roundw
        case rel => exact ⟨j + 1, v4, b4, by omega, by go_num, HS4, HK4, HSO4⟩
        case measure => simp [Lib.intOf]; omega
    · obtain rfl : n = j := by omega
      go_wp2
      go_end0
      exact ⟨_, _, rfl, HWS.out, HKW.out, HSO.out.1, HSO.out.2⟩
set_option maxRecDepth 100000 in
set_option maxHeartbeats 4000000 in
theorem wSec9 (w0 : World) (p : Nat) (c : Nat → Value) (v : Value) (bs : List Int) (n : Nat) (f : Nat → List Int) (qS qW : Nat) (w : World) (h : WS w0 p c v bs w) (hE : EntC w0 p c 49 n f)
    (hS : Bx w qS 72 #[.int .i64 9, .int .i64 n, .func (.func 49) #[.pointer (some ⟨p, 0, none⟩)] #[]]) (hW : Bx w qW 65 #[.pointer (some ⟨p, 0, none⟩)]) (n1 : qS ≠ p) (n2 : qW ≠ p) (n3 : some qS ≠ v.ownBlock) (n4 : some qW ≠ v.ownBlock)
    (hnn : n ≤ 1000000) (hlen : bs.length + (insideB 9 n f).length ≤ 38900000000000) :
    Calls Tryz.prog 54 #[.pointer (some ⟨qS, 0, none⟩), .pointer (some ⟨qW, 0, none⟩)] w (DoesA w0 p c v w bs (insideB 9 n f)) := by
  have hlen' : bs.length + (Leb.uB (n : Int) ++ fstB f n).length ≤ 38900000000000 := hlen
  have k0 := hS.cell 0 _ rfl
  have k1 := hS.cell 1 _ rfl
  have k2 := hS.cell 2 _ rfl
  have kw := hW.cell 0 _ rfl
  have HE := hideR hE
  have HH := hideR (⟨hS, hW, n1, n2, n3, n4⟩ : Bx w qS 72 #[.int .i64 9, .int .i64 n, .func (.func 49) #[.pointer (some ⟨p, 0, none⟩)] #[]] ∧ Bx w qW 65 #[.pointer (some ⟨p, 0, none⟩)] ∧ qS ≠ p ∧ qW ≠ p ∧ some qS ≠ v.ownBlock ∧ some qW ≠ v.ownBlock)
  have HLEN := hideR hlen'
  show Calls Tryz.prog 54 #[.pointer (some ⟨qS, 0, none⟩), .pointer (some ⟨qW, 0, none⟩)] w (DoesA w0 p c v w bs (Leb.uB (n : Int) ++ fstB f n))
  have hten := Leb.uB_ten (n := (n : Int)) (by omega) (by omega)
  have HC1 := hideR (wU w0 p c v bs (n : Int) w h (by omega) (by omega) (by rw [List.length_append] at hlen'; omega))
  clear h hE hS hW n1 n2 n3 n4 hlen hlen'
  go_enter Tryz.func54, Tryz.ntmps54
  go_wp2_with fail
  refine HC1.out.mono ?_
  rintro e w1 ⟨v1, rfl, hh, kk⟩
  have HS0 := hideR hh
  have HK0 := hideR kk
  have HSO0 : Hid (So bs (Leb.uB (n : Int) ++ fstB f 0) (bs ++ Leb.uB (n : Int))) := hideR (by have h3 := (So.refl bs).app (Leb.uB (n : Int)); rw [List.nil_append] at h3; rw [show fstB f 0 = [] from rfl, List.append_nil]; exact h3)
  clear hh kk HC1 k0 k1 k2 kw
  go_wp2_with fail
  go_loopw [2] (fun i wr => ∃ (j : Nat) (v3 : Value) (b3 : List Int), j ≤ n ∧ i = .int .i64 j ∧ Hid (WS w0 p c v3 b3 wr) ∧ Hid (Kept p v w v3 wr) ∧ Hid (So bs (Leb.uB (n : Int) ++ fstB f j) b3)) (fun i _ => n - (Lib.intOf i).toNat)
  case atStart => exact ⟨0, _, _, by omega, rfl, HS0, HK0, HSO0⟩
  case round =>
    clear HS0 HK0 HSO0
    obtain ⟨j, v3, b3, hj, rfl, HWS, HKW, HSO⟩ := hrel
    obtain ⟨bS, _⟩ := HKW.out.bx HH.out.1 HH.out.2.2.1 HH.out.2.2.2.2.1
    obtain ⟨bW, _⟩ := HKW.out.bx HH.out.2.1 HH.out.2.2.2.1 HH.out.2.2.2.2.2
    have k1 := bS.cell 1 _ rfl
    have k2 := bS.cell 2 _ rfl
    have kw := bW.cell 0 _ rfl
    clear bS bW
    have hpart : (Leb.uB (n : Int) ++ fstB f j).length ≤ (Leb.uB (n : Int) ++ fstB f n).length := by rw [List.length_append, List.length_append]; have := fstB_le f j n hj; omega
    have hb3 : b3.length ≤ 38900000000000 := by have h1 := HSO.out.2; have h2 := HLEN.out; omega
    by_cases hgo : j < n
    · have HC := hideR (wFull w0 p c v3 b3 wr HWS.out (by omega))
      go_wp2_with fail
      refine HC.out.mono ?_
      rintro e w3 ⟨rfl, rfl⟩
      clear HC
      by_cases hfull : 262144 < b3.length
      · rw [decide_eq_true hfull]
        have HF : Hid (So bs (Leb.uB (n : Int) ++ fstB f n) b3) := hideR ⟨.inr ⟨hfull, by have h1 := HSO.out.2; omega, HSO.out.1.le⟩, by have h1 := HSO.out.2; omega⟩
        clear hfull
        go_wp2
        go_end0
        exact ⟨_, _, rfl, HWS.out, HKW.out, HF.out.1, HF.out.2⟩
      · rw [decide_eq_false hfull]
        clear hfull
        have HC := hideR (HE.out j v3 b3 w3 hgo HWS.out (by
          have h1 := HSO.out.2
          have h2 := fstB_le f (j + 1) n (by omega)
          have h3 := HLEN.out
          rw [show fstB f (j + 1) = fstB f j ++ f j from rfl] at h2
          simp only [List.length_append] at h1 h2 h3
          omega))
        go_wp2_with fail
        refine HC.out.mono ?_
        rintro e w4 ⟨v4, b4, rfl, hh, kk, ha, hl⟩
        have HS4 := hideR hh
        have HK4 := hideR (HKW.out.trans kk)
        have HSO4 : Hid (So bs (Leb.uB (n : Int) ++ fstB f (j + 1)) b4) := hideR (by rw [show fstB f (j + 1) = fstB f j ++ f j from rfl, ← List.append_assoc]; exact HSO.out.adds ha hl)
        clear hh kk ha hl HC HWS HKW HSO k1 k2 kw
        go_wp2
        go_roundw
        case rel => exact ⟨j + 1, v4, b4, by omega, by go_num, HS4, HK4, HSO4⟩
        case measure => simp [Lib.intOf]; omega
    · obtain rfl : n = j := by omega
      go_wp2
      go_end0
      exact ⟨_, _, rfl, HWS.out, HKW.out, HSO.out.1, HSO.out.2⟩
set_option maxRecDepth 100000 in
set_option maxHeartbeats 4000000 in
theorem wSec10 (w0 : World) (p : Nat) (c : Nat → Value) (v : Value) (bs : List Int) (n : Nat) (f : Nat → List Int) (qS qW : Nat) (w : World) (h : WS w0 p c v bs w) (hE : EntC w0 p c 50 n f)
    (hS : Bx w qS 72 #[.int .i64 10, .int .i64 n, .func (.func 50) #[.pointer (some ⟨p, 0, none⟩)] #[]]) (hW : Bx w qW 65 #[.pointer (some ⟨p, 0, none⟩)]) (n1 : qS ≠ p) (n2 : qW ≠ p) (n3 : some qS ≠ v.ownBlock) (n4 : some qW ≠ v.ownBlock)
    (hnn : n ≤ 1000000) (hlen : bs.length + (insideB 10 n f).length ≤ 38900000000000) :
    Calls Tryz.prog 54 #[.pointer (some ⟨qS, 0, none⟩), .pointer (some ⟨qW, 0, none⟩)] w (DoesA w0 p c v w bs (insideB 10 n f)) := by
  have hlen' : bs.length + (Leb.uB (n : Int) ++ fstB f n).length ≤ 38900000000000 := hlen
  have k0 := hS.cell 0 _ rfl
  have k1 := hS.cell 1 _ rfl
  have k2 := hS.cell 2 _ rfl
  have kw := hW.cell 0 _ rfl
  have HE := hideR hE
  have HH := hideR (⟨hS, hW, n1, n2, n3, n4⟩ : Bx w qS 72 #[.int .i64 10, .int .i64 n, .func (.func 50) #[.pointer (some ⟨p, 0, none⟩)] #[]] ∧ Bx w qW 65 #[.pointer (some ⟨p, 0, none⟩)] ∧ qS ≠ p ∧ qW ≠ p ∧ some qS ≠ v.ownBlock ∧ some qW ≠ v.ownBlock)
  have HLEN := hideR hlen'
  show Calls Tryz.prog 54 #[.pointer (some ⟨qS, 0, none⟩), .pointer (some ⟨qW, 0, none⟩)] w (DoesA w0 p c v w bs (Leb.uB (n : Int) ++ fstB f n))
  have hten := Leb.uB_ten (n := (n : Int)) (by omega) (by omega)
  have HC1 := hideR (wU w0 p c v bs (n : Int) w h (by omega) (by omega) (by rw [List.length_append] at hlen'; omega))
  clear h hE hS hW n1 n2 n3 n4 hlen hlen'
  go_enter Tryz.func54, Tryz.ntmps54
  go_wp2_with fail
  refine HC1.out.mono ?_
  rintro e w1 ⟨v1, rfl, hh, kk⟩
  have HS0 := hideR hh
  have HK0 := hideR kk
  have HSO0 : Hid (So bs (Leb.uB (n : Int) ++ fstB f 0) (bs ++ Leb.uB (n : Int))) := hideR (by have h3 := (So.refl bs).app (Leb.uB (n : Int)); rw [List.nil_append] at h3; rw [show fstB f 0 = [] from rfl, List.append_nil]; exact h3)
  clear hh kk HC1 k0 k1 k2 kw
  go_wp2_with fail
  go_loopw [2] (fun i wr => ∃ (j : Nat) (v3 : Value) (b3 : List Int), j ≤ n ∧ i = .int .i64 j ∧ Hid (WS w0 p c v3 b3 wr) ∧ Hid (Kept p v w v3 wr) ∧ Hid (So bs (Leb.uB (n : Int) ++ fstB f j) b3)) (fun i _ => n - (Lib.intOf i).toNat)
  case atStart => exact ⟨0, _, _, by omega, rfl, HS0, HK0, HSO0⟩
  case round =>
    clear HS0 HK0 HSO0
    obtain ⟨j, v3, b3, hj, rfl, HWS, HKW, HSO⟩ := hrel
    obtain ⟨bS, _⟩ := HKW.out.bx HH.out.1 HH.out.2.2.1 HH.out.2.2.2.2.1
    obtain ⟨bW, _⟩ := HKW.out.bx HH.out.2.1 HH.out.2.2.2.1 HH.out.2.2.2.2.2
    have k1 := bS.cell 1 _ rfl
    have k2 := bS.cell 2 _ rfl
    have kw := bW.cell 0 _ rfl
    clear bS bW
    have hpart : (Leb.uB (n : Int) ++ fstB f j).length ≤ (Leb.uB (n : Int) ++ fstB f n).length := by rw [List.length_append, List.length_append]; have := fstB_le f j n hj; omega
    have hb3 : b3.length ≤ 38900000000000 := by have h1 := HSO.out.2; have h2 := HLEN.out; omega
    by_cases hgo : j < n
    · have HC := hideR (wFull w0 p c v3 b3 wr HWS.out (by omega))
      go_wp2_with fail
      refine HC.out.mono ?_
      rintro e w3 ⟨rfl, rfl⟩
      clear HC
      by_cases hfull : 262144 < b3.length
      · rw [decide_eq_true hfull]
        have HF : Hid (So bs (Leb.uB (n : Int) ++ fstB f n) b3) := hideR ⟨.inr ⟨hfull, by have h1 := HSO.out.2; omega, HSO.out.1.le⟩, by have h1 := HSO.out.2; omega⟩
        clear hfull
        go_wp2
        go_end0
        exact ⟨_, _, rfl, HWS.out, HKW.out, HF.out.1, HF.out.2⟩
      · rw [decide_eq_false hfull]
        clear hfull
        have HC := hideR (HE.out j v3 b3 w3 hgo HWS.out (by
          have h1 := HSO.out.2
          have h2 := fstB_le f (j + 1) n (by omega)
          have h3 := HLEN.out
          rw [show fstB f (j + 1) = fstB f j ++ f j from rfl] at h2
          simp only [List.length_append] at h1 h2 h3
          omega))
        go_wp2_with fail
        refine HC.out.mono ?_
        rintro e w4 ⟨v4, b4, rfl, hh, kk, ha, hl⟩
        have HS4 := hideR hh
        have HK4 := hideR (HKW.out.trans kk)
        have HSO4 : Hid (So bs (Leb.uB (n : Int) ++ fstB f (j + 1)) b4) := hideR (by rw [show fstB f (j + 1) = fstB f j ++ f j from rfl, ← List.append_assoc]; exact HSO.out.adds ha hl)
        clear hh kk ha hl HC HWS HKW HSO k1 k2 kw
        go_wp2
        go_roundw
        case rel => exact ⟨j + 1, v4, b4, by omega, by go_num, HS4, HK4, HSO4⟩
        case measure => simp [Lib.intOf]; omega
    · obtain rfl : n = j := by omega
      go_wp2
      go_end0
      exact ⟨_, _, rfl, HWS.out, HKW.out, HSO.out.1, HSO.out.2⟩
set_option maxRecDepth 100000 in
set_option maxHeartbeats 4000000 in
theorem wSec11 (w0 : World) (p : Nat) (c : Nat → Value) (v : Value) (bs : List Int) (n : Nat) (f : Nat → List Int) (qS qW : Nat) (w : World) (h : WS w0 p c v bs w) (hE : EntC w0 p c 51 n f)
    (hS : Bx w qS 72 #[.int .i64 11, .int .i64 n, .func (.func 51) #[.pointer (some ⟨p, 0, none⟩)] #[]]) (hW : Bx w qW 65 #[.pointer (some ⟨p, 0, none⟩)]) (n1 : qS ≠ p) (n2 : qW ≠ p) (n3 : some qS ≠ v.ownBlock) (n4 : some qW ≠ v.ownBlock)
    (hnn : n ≤ 1000000) (hlen : bs.length + (insideB 11 n f).length ≤ 38900000000000) :
    Calls Tryz.prog 54 #[.pointer (some ⟨qS, 0, none⟩), .pointer (some ⟨qW, 0, none⟩)] w (DoesA w0 p c v w bs (insideB 11 n f)) := by
  have hlen' : bs.length + (Leb.uB (n : Int) ++ fstB f n).length ≤ 38900000000000 := hlen
  have k0 := hS.cell 0 _ rfl
  have k1 := hS.cell 1 _ rfl
  have k2 := hS.cell 2 _ rfl
  have kw := hW.cell 0 _ rfl
  have HE := hideR hE
  have HH := hideR (⟨hS, hW, n1, n2, n3, n4⟩ : Bx w qS 72 #[.int .i64 11, .int .i64 n, .func (.func 51) #[.pointer (some ⟨p, 0, none⟩)] #[]] ∧ Bx w qW 65 #[.pointer (some ⟨p, 0, none⟩)] ∧ qS ≠ p ∧ qW ≠ p ∧ some qS ≠ v.ownBlock ∧ some qW ≠ v.ownBlock)
  have HLEN := hideR hlen'
  show Calls Tryz.prog 54 #[.pointer (some ⟨qS, 0, none⟩), .pointer (some ⟨qW, 0, none⟩)] w (DoesA w0 p c v w bs (Leb.uB (n : Int) ++ fstB f n))
  have hten := Leb.uB_ten (n := (n : Int)) (by omega) (by omega)
  have HC1 := hideR (wU w0 p c v bs (n : Int) w h (by omega) (by omega) (by rw [List.length_append] at hlen'; omega))
  clear h hE hS hW n1 n2 n3 n4 hlen hlen'
  go_enter Tryz.func54, Tryz.ntmps54
  go_wp2_with fail
  refine HC1.out.mono ?_
  rintro e w1 ⟨v1, rfl, hh, kk⟩
  have HS0 := hideR hh
  have HK0 := hideR kk
  have HSO0 : Hid (So bs (Leb.uB (n : Int) ++ fstB f 0) (bs ++ Leb.uB (n : Int))) := hideR (by have h3 := (So.refl bs).app (Leb.uB (n : Int)); rw [List.nil_append] at h3; rw [show fstB f 0 = [] from rfl, List.append_nil]; exact h3)
  clear hh kk HC1 k0 k1 k2 kw
  go_wp2_with fail
  go_loopw [2] (fun i wr => ∃ (j : Nat) (v3 : Value) (b3 : List Int), j ≤ n ∧ i = .int .i64 j ∧ Hid (WS w0 p c v3 b3 wr) ∧ Hid (Kept p v w v3 wr) ∧ Hid (So bs (Leb.uB (n : Int) ++ fstB f j) b3)) (fun i _ => n - (Lib.intOf i).toNat)
  case atStart => exact ⟨0, _, _, by omega, rfl, HS0, HK0, HSO0⟩
  case round =>
    clear HS0 HK0 HSO0
    obtain ⟨j, v3, b3, hj, rfl, HWS, HKW, HSO⟩ := hrel
    obtain ⟨bS, _⟩ := HKW.out.bx HH.out.1 HH.out.2.2.1 HH.out.2.2.2.2.1
    obtain ⟨bW, _⟩ := HKW.out.bx HH.out.2.1 HH.out.2.2.2.1 HH.out.2.2.2.2.2
    have k1 := bS.cell 1 _ rfl
    have k2 := bS.cell 2 _ rfl
    have kw := bW.cell 0 _ rfl
    clear bS bW
    have hpart : (Leb.uB (n : Int) ++ fstB f j).length ≤ (Leb.uB (n : Int) ++ fstB f n).length := by rw [List.length_append, List.length_append]; have := fstB_le f j n hj; omega
    have hb3 : b3.length ≤ 38900000000000 := by have h1 := HSO.out.2; have h2 := HLEN.out; omega
    by_cases hgo : j < n
    · have HC := hideR (wFull w0 p c v3 b3 wr HWS.out (by omega))
      go_wp2_with fail
      refine HC.out.mono ?_
      rintro e w3 ⟨rfl, rfl⟩
      clear HC
      by_cases hfull : 262144 < b3.length
      · rw [decide_eq_true hfull]
        have HF : Hid (So bs (Leb.uB (n : Int) ++ fstB f n) b3) := hideR ⟨.inr ⟨hfull, by have h1 := HSO.out.2; omega, HSO.out.1.le⟩, by have h1 := HSO.out.2; omega⟩
        clear hfull
        go_wp2
        go_end0
        exact ⟨_, _, rfl, HWS.out, HKW.out, HF.out.1, HF.out.2⟩
      · rw [decide_eq_false hfull]
        clear hfull
        have HC := hideR (HE.out j v3 b3 w3 hgo HWS.out (by
          have h1 := HSO.out.2
          have h2 := fstB_le f (j + 1) n (by omega)
          have h3 := HLEN.out
          rw [show fstB f (j + 1) = fstB f j ++ f j from rfl] at h2
          simp only [List.length_append] at h1 h2 h3
          omega))
        go_wp2_with fail
        refine HC.out.mono ?_
        rintro e w4 ⟨v4, b4, rfl, hh, kk, ha, hl⟩
        have HS4 := hideR hh
        have HK4 := hideR (HKW.out.trans kk)
        have HSO4 : Hid (So bs (Leb.uB (n : Int) ++ fstB f (j + 1)) b4) := hideR (by rw [show fstB f (j + 1) = fstB f j ++ f j from rfl, ← List.append_assoc]; exact HSO.out.adds ha hl)
        clear hh kk ha hl HC HWS HKW HSO k1 k2 kw
        go_wp2
        go_roundw
        case rel => exact ⟨j + 1, v4, b4, by omega, by go_num, HS4, HK4, HSO4⟩
        case measure => simp [Lib.intOf]; omega
    · obtain rfl : n = j := by omega
      go_wp2
      go_end0
      exact ⟨_, _, rfl, HWS.out, HKW.out, HSO.out.1, HSO.out.2⟩
end Go.Proofs.YtloelineidlenaaGreatDoor

namespace Go.Proofs.YtloelineidlenaaGreatDoor
open Go.RowKit Rep Enc Go.Lib
set_option linter.unusedVariables false
namespace Enc
def PutC (w0 : World) (p : Nat) (c : Nat → Value) (v : Value) (bs : List Int) (w : World) : Prop := ∀ (b : Int) (w' : World), Below w.heap.size w w' → Calls Tryz.prog 52 #[.pointer (some ⟨p, 0, none⟩), .int .i64 b] w' (Does w0 p c v w' (bs ++ [b % 256]))
theorem PutC.of {w0 : World} {p : Nat} {c : Nat → Value} {v : Value} {bs : List Int} {w : World} (h : WS w0 p c v bs w) (hn : bs.length ≤ 100000000000000) : PutC w0 p c v bs w := fun b w' hb => wPut w0 p c v bs b w' (h.on hb) hn
def SecIn (w0 : World) (p : Nat) (c : Nat → Value) (id : Int) (n : Nat) (F : FuncId) (f : Nat → List Int) : Prop := ∀ (v : Value) (bs : List Int) (qS qW : Nat) (w : World), WS w0 p c v bs w → Bx w qS 72 #[.int .i64 id, .int .i64 n, .func (.func F) #[.pointer (some ⟨p, 0, none⟩)] #[]] → Bx w qW 65 #[.pointer (some ⟨p, 0, none⟩)] → qS ≠ p → qW ≠ p → some qS ≠ v.ownBlock → some qW ≠ v.ownBlock →
  bs.length + (insideB id n f).length ≤ 38900000000000 → Calls Tryz.prog 54 #[.pointer (some ⟨qS, 0, none⟩), .pointer (some ⟨qW, 0, none⟩)] w (DoesA w0 p c v w bs (insideB id n f))
end Enc
set_option maxRecDepth 100000 in
set_option maxHeartbeats 4000000 in
theorem wSection0 (p : Nat) (id : Int) (F : FuncId) (w : World) :
    Calls Tryz.prog 19 #[.pointer (some ⟨p, 0, none⟩), .agg #[.int .i64 id, .int .i64 0, .func (.func F) #[.pointer (some ⟨p, 0, none⟩)] #[]]] w fun e w' => e = .returned (.tuple #[]) ∧ Below w.heap.size w w' := by
  go_enter Tryz.func19, Tryz.ntmps19
  go_wp2
  refine bodyPost_ret (results_none rfl _ _ _) rfl ?_
  exact ⟨rfl, ((Below.refl _ w).alloc (Nat.le_refl _) _).alloc (by simp) _⟩
set_option maxRecDepth 100000 in
set_option maxHeartbeats 4000000 in
theorem wSection (w0 : World) (p : Nat) (c : Nat → Value) (id : Int) (n : Nat) (F : FuncId) (f : Nat → List Int) (v : Value) (bs : List Int) (w : World) (hP : PutC w0 p c v bs w) (hp : p < w.heap.size) (hv : ∀ k, v.ownBlock = some k → k < w.heap.size) (hS : SecIn w0 p c id n F f) (hn : 0 < n) (hid : 0 ≤ id ∧ id ≤ 255) (hlen : bs.length + (insideB id n f).length ≤ 38800000000000) :
    Calls Tryz.prog 19 #[.pointer (some ⟨p, 0, none⟩), .agg #[.int .i64 id, .int .i64 n, .func (.func F) #[.pointer (some ⟨p, 0, none⟩)] #[]]] w (DoesA w0 p c v w bs ([id] ++ sizB (insideB id n f))) := by
  have hmf : ∀ (fn : Fn) (first cap : Array Value) (w : World), (Instr.makeFunc fn first cap).run Tryz.prog w = .ok (.func fn first cap) w := fun _ _ _ _ => rfl
  have hid' : id % 256 = id := by omega
  have hn0 : ¬ ((n : Int) = 0) := by omega
  have hu : Below w.heap.size w (w.alloc (.cells #[.pointer (some ⟨p, 0, none⟩)] 65)) := new_on' w _
  obtain ⟨u1, hu1⟩ : ∃ u1, u1 = w.alloc (.cells #[.pointer (some ⟨p, 0, none⟩)] 65) := ⟨_, rfl⟩
  rw [← hu1] at hu
  have hq : u1.heap.size = w.heap.size + 1 := by rw [hu1]; simp
  obtain ⟨u2, hu2⟩ : ∃ u2, u2 = u1.alloc (.cells #[.int .i64 id, .int .i64 n, .func (.func F) #[.pointer (some ⟨p, 0, none⟩)] #[]] 72) := ⟨_, rfl⟩
  have hb2 : Below u1.heap.size u1 u2 := by rw [hu2]; exact new_on' u1 _
  have hW : Bx u2 w.heap.size 65 #[.pointer (some ⟨p, 0, none⟩)] := by
    unfold Bx
    rw [hb2.block _ (by omega), hu1]; exact heap_new w _
  have hX : Bx u2 (w.heap.size + 1) 72 #[.int .i64 id, .int .i64 n, .func (.func F) #[.pointer (some ⟨p, 0, none⟩)] #[]] := by rw [hu2]; exact Bx.new hq.symm
  have hbw : Below w.heap.size w u2 := hu.trans (hb2.mono (by omega))
  have HK0 : Hid (Kept p v w v u2) := hideR (Kept.below hbw)
  have k0 := hX.cell 0 _ rfl
  have k1 := hX.cell 1 _ rfl
  have kw := hW.cell 0 _ rfl
  have HC := hideR (hP id u2 hbw)
  rw [hid'] at HC
  have HW := hideR hW
  have HX := hideR hX
  have HN : Hid (w.heap.size ≠ p ∧ w.heap.size + 1 ≠ p ∧ some w.heap.size ≠ v.ownBlock ∧ some (w.heap.size + 1) ≠ v.ownBlock) := hideR ⟨by omega, by omega, fun e => by have := hv _ e.symm; omega, fun e => by have := hv _ e.symm; omega⟩
  have HS := hideR hS
  have HU1 := hideR hu1
  have HU2 := hideR hu2
  have HLEN := hideR hlen
  clear hu hq hb2 hW hX hbw hP hp hv hS hu1 hu2 hlen hid hid'
  go_enter Tryz.func19, Tryz.ntmps19
  go_upto_region 1 with fail
  rw [← HU1.out, ← HU2.out]
  clear HU1 HU2
  go_wp2_with fail
  refine HC.out.mono ?_
  rintro e w3 ⟨v3, rfl, h3, k3⟩
  obtain ⟨bW, oW⟩ := k3.bx HW.out HN.out.1 HN.out.2.2.1
  obtain ⟨bX, oX⟩ := k3.bx HX.out HN.out.2.1 HN.out.2.2.2
  have kw3 := bW.cell 0 _ rfl
  have HK3 := hideR (HK0.out.trans k3)
  have HC2 := hideR (wSizedS w0 p c v3 (bs ++ [id]) (insideB id n f) ⟨w.heap.size + 1, 0, none⟩ ⟨w.heap.size, 0, none⟩ w3 h3 (HS.out v3 (bs ++ [id]) (w.heap.size + 1) w.heap.size w3 h3 bX bW HN.out.2.1 HN.out.1 oX oW (by have := HLEN.out; rw [List.length_append]; simp only [List.length_cons, List.length_nil]; omega)) (by have := HLEN.out; rw [List.length_append]; simp only [List.length_cons, List.length_nil]; omega))
  clear bW bX oW oX k3 h3 HC HK0 HW HX HN k0 k1 kw
  go_wp2_with fail
  refine HC2.out.mono ?_
  rintro e w4 ⟨v4, b4, rfl, h4, k4, a4, l4⟩
  have HS4 := hideR h4
  have HK4 := hideR (HK3.out.trans k4)
  have HF : Hid (So bs ([id] ++ sizB (insideB id n f)) b4) := hideR (by
    have h3 := (So.refl bs).app [id]
    rw [List.nil_append] at h3
    exact h3.adds a4 l4)
  clear h4 k4 a4 l4 HC2 kw3
  go_wp2
  go_end0
  exact ⟨_, _, rfl, HS4.out, HK4.out, HF.out.1, HF.out.2⟩
namespace Enc
theorem heap_new1 (w : World) (o1 o2 : Obj) : ((w.alloc o1).alloc o2).heap[w.heap.size + 1]? = some o2 := by
  have h := heap_new (w.alloc o1) o2
  rwa [show (w.alloc o1).heap.size = w.heap.size + 1 by simp] at h
def secCells (p : Nat) (n : Nat → Nat) : Array Value :=
  #[.int .i64 1, .int .i64 (n 0 : Nat), .func (.func 41) #[.pointer (some ⟨p, 0, none⟩)] #[],
    .int .i64 2, .int .i64 (n 1 : Nat), .func (.func 42) #[.pointer (some ⟨p, 0, none⟩)] #[],
    .int .i64 3, .int .i64 (n 2 : Nat), .func (.func 43) #[.pointer (some ⟨p, 0, none⟩)] #[],
    .int .i64 4, .int .i64 (n 3 : Nat), .func (.func 44) #[.pointer (some ⟨p, 0, none⟩)] #[],
    .int .i64 5, .int .i64 (n 4 : Nat), .func (.func 45) #[.pointer (some ⟨p, 0, none⟩)] #[],
    .int .i64 6, .int .i64 (n 5 : Nat), .func (.func 46) #[.pointer (some ⟨p, 0, none⟩)] #[],
    .int .i64 7, .int .i64 (n 6 : Nat), .func (.func 47) #[.pointer (some ⟨p, 0, none⟩)] #[],
    .int .i64 8, .int .i64 (n 7 : Nat), .func (.func 48) #[.pointer (some ⟨p, 0, none⟩)] #[],
    .int .i64 9, .int .i64 (n 8 : Nat), .func (.func 49) #[.pointer (some ⟨p, 0, none⟩)] #[],
    .int .i64 10, .int .i64 (n 2 : Nat), .func (.func 50) #[.pointer (some ⟨p, 0, none⟩)] #[],
    .int .i64 11, .int .i64 (n 9 : Nat), .func (.func 51) #[.pointer (some ⟨p, 0, none⟩)] #[]]
end Enc
set_option maxRecDepth 100000 in
set_option maxHeartbeats 4000000 in
theorem wSections (p : Nat) (o : Nat → Option Addr) (n k : Nat → Nat) (w : World) (hc : ∀ i, i < 10 → w.cell? ⟨p, i, none⟩ = some (.slice (o i) (n i) (k i))) :
    Calls Tryz.prog 18 #[.pointer (some ⟨p, 0, none⟩)] w fun e w' => e = .returned (.slice (some ⟨w.heap.size + 1, 0, none⟩) 11 11) ∧ w'.heap[w.heap.size + 1]? = some (.cells (secCells p n) 72 (0, 0)) ∧ Below w.heap.size w w' := by
  have hmf : ∀ (fn : Fn) (first cap : Array Value) (w : World), (Instr.makeFunc fn first cap).run Tryz.prog w = .ok (.func fn first cap) w := fun _ _ _ _ => rfl
  have c0 := hc 0 (by omega)
  have c1 := hc 1 (by omega)
  have c2 := hc 2 (by omega)
  have c3 := hc 3 (by omega)
  have c4 := hc 4 (by omega)
  have c5 := hc 5 (by omega)
  have c6 := hc 6 (by omega)
  have c7 := hc 7 (by omega)
  have c8 := hc 8 (by omega)
  have c9 := hc 9 (by omega)
  clear hc
  generalize ho0 : o 0 = o0 at *
  generalize ho1 : o 1 = o1 at *
  generalize ho2 : o 2 = o2 at *
  generalize ho3 : o 3 = o3 at *
  generalize ho4 : o 4 = o4 at *
  generalize ho5 : o 5 = o5 at *
  generalize ho6 : o 6 = o6 at *
  generalize ho7 : o 7 = o7 at *
  generalize ho8 : o 8 = o8 at *
  generalize ho9 : o 9 = o9 at *
  unfold secCells
  generalize hn0 : n 0 = n0 at *
  generalize hn1 : n 1 = n1 at *
  generalize hn2 : n 2 = n2 at *
  generalize hn3 : n 3 = n3 at *
  generalize hn4 : n 4 = n4 at *
  generalize hn5 : n 5 = n5 at *
  generalize hn6 : n 6 = n6 at *
  generalize hn7 : n 7 = n7 at *
  generalize hn8 : n 8 = n8 at *
  generalize hn9 : n 9 = n9 at *
  clear ho0 ho1 ho2 ho3 ho4 ho5 ho6 ho7 ho8 ho9 hn0 hn1 hn2 hn3 hn4 hn5 hn6 hn7 hn8 hn9
  go_enter Tryz.func18, Tryz.ntmps18
  go_wp2
  go_ret
  refine ⟨rfl, ?_, ((Below.refl _ w).alloc (Nat.le_refl _) _).alloc (by simp) _⟩
  exact heap_new1 _ _ _
end Go.Proofs.YtloelineidlenaaGreatDoor

namespace Go.Proofs.YtloelineidlenaaGreatDoor
open Go.RowKit Rep Enc Go.Lib
set_option linter.unusedVariables false
namespace Enc
def headB : List Int := [0, 97, 115, 109, 1, 0, 0, 0]
structure WN (w0 : World) (p : Nat) (c : Nat → Value) (v : Value) (w : World) : Prop where
  below : Below w0.heap.size w0 w
  base : w0.heap.size ≤ p
  blk : w.heap[p]? = some (.cells #[c 0, c 1, c 2, c 3, c 4, c 5, c 6, c 7, c 8, c 9, v] 67 (0, 0))
  row : ∃ g, v = .slice (some ⟨g, 0, none⟩) 8 8 ∧ w0.heap.size ≤ g ∧ g ≠ p ∧ w.heap[g]? = some (.cells (cells headB).toArray 5 (8, 9))
section
variable {w0 w w' : World} {p : Nat} {c : Nat → Value} {v : Value}
theorem WN.cell (h : WN w0 p c v w) : w.cell? ⟨p, 10, none⟩ = some v := by unfold World.cell?; rw [h.blk]; rfl
theorem WN.frz (h : WN w0 p c v w) : w.frozen? ⟨p, 10, none⟩ = false := by unfold World.frozen?; rw [h.blk]; simp
theorem WN.lt (h : WN w0 p c v w) : p < w.heap.size := (Array.getElem?_eq_some_iff.1 h.blk).1
theorem WN.on (h : WN w0 p c v w) (hb : Below w.heap.size w w') : WN w0 p c v w' :=
  ⟨h.below.trans (hb.mono h.below.size), h.base, by rw [hb.block p h.lt]; exact h.blk, by
    obtain ⟨g, h1, h2, h3, h4⟩ := h.row
    exact ⟨g, h1, h2, h3, by rw [hb.block g (Array.getElem?_eq_some_iff.1 h4).1]; exact h4⟩⟩
theorem WN.fld (h : WN w0 p c v w) (i : Nat) (hi : i < 10) : w.cell? ⟨p, i, none⟩ = some (c i) := by
  unfold World.cell?; rw [h.blk]
  match i, hi with
  | 0, _ => rfl | 1, _ => rfl | 2, _ => rfl | 3, _ => rfl | 4, _ => rfl | 5, _ => rfl | 6, _ => rfl | 7, _ => rfl | 8, _ => rfl | 9, _ => rfl
end
end Enc
set_option maxRecDepth 100000 in
set_option maxHeartbeats 1000000 in
theorem wPutN (w0 : World) (p : Nat) (c : Nat → Value) (v : Value) (b : Int) (w : World) (h : WN w0 p c v w) :
    Calls Tryz.prog 52 #[.pointer (some ⟨p, 0, none⟩), .int .i64 b] w (Does w0 p c v w (headB ++ [b % 256])) := by
  obtain ⟨g, rfl, hgb, hgp, hg⟩ := h.row
  obtain ⟨i0, hi0, hz0, hzs, hzb⟩ := info_parts u8Info
  have hw := wrap_u8 b
  have kc := h.cell
  obtain ⟨W, hW⟩ : ∃ W, W = w.alloc (.cells #[.int .u8 (b % 256)] 5) := ⟨_, rfl⟩
  have hbW : Below w.heap.size w W := by rw [hW]; exact new_on' w _
  have hWs : W.heap.size = w.heap.size + 1 := by rw [hW]; simp
  have hglt : g < w.heap.size := (Array.getElem?_eq_some_iff.1 hg).1
  have hgW : W.heap[g]? = some (.cells (cells headB).toArray 5 (8, 9)) := by rw [hbW.block g hglt]; exact hg
  have hnew : ∀ (j : Nat) (u : Value), [Value.int .u8 (b % 256)][j]? = some u → W.cell? ((⟨w.heap.size, 0, none⟩ : Addr).add j) = some u := by rw [hW]; exact one_new _ _ _
  have hsrc : Src Tryz.prog i0.size 53 (.slice (some ⟨w.heap.size, 0, none⟩) 1 1) 1 [.int .u8 (b % 256)] W := by
    rw [hzs]
    exact Src.ofSlice W Tryz.underlying53 ⟨w.heap.size, 0, none⟩ 1 1 [.int .u8 (b % 256)] rfl hnew (fun u hu => by rw [List.mem_singleton.1 hu]; rfl)
  have hold : (Builtin.firstCells i0.size 8 (.slice (some ⟨g, 0, none⟩) 8 8)).run Tryz.prog W.drew = .ok (cells headB).toArray W.drew := by
    rw [hzs]
    exact run_firstCells_some W.drew 1 8 ⟨g, 0, none⟩ 8 8 (cells headB) rfl (fun j u hj => by
      rw [Addr.add_lit, Nat.zero_add, cell_of_row W.drew g j _ _ _ hgW]; simpa using hj)
  have hrun : ∀ ty, (Builtin.append_ #[53, 53] ty #[.slice (some ⟨g, 0, none⟩) 8 8, .slice (some ⟨w.heap.size, 0, none⟩) 1 1]).run Tryz.prog W = _ := fun ty =>
    run_append_grow_src W 53 53 ty 5 i0 _ Tryz.underlying53 hi0 hz0 (some ⟨g, 0, none⟩) 8 8 (cells headB) hold _ 1 _ hsrc (by omega) (by omega) (by rw [hzb]; exact growslice_fits (by omega) (by omega))
  have hge := grownCap_ge W (8 + 1) 8 5
  have hcm : grownCap W (8 + 1) 8 5 ≤ maxLen := grownCap_le_maxLen W _ 8 5 (by unfold maxLen; omega)
  generalize grownCap W (8 + 1) 8 5 = G at hrun hge hcm
  obtain ⟨w9, hw9⟩ : ∃ w9, w9 = W.drew.alloc (.cells ((cells headB ++ [Value.int .u8 (b % 256)]).toArray ++ Builtin.zeroCells (Value.int .u8 0).cells (G - (8 + 1))) 5) := ⟨_, rfl⟩
  rw [← hw9] at hrun
  have hb9 : Below W.heap.size W w9 := by rw [hw9]; exact ⟨rfl, rfl, rfl, by simp, fun k hk => (new_on' W.drew _).block k hk⟩
  have ho9 : w9.ownsRow w0.heap.size 5 1 (.slice (some ⟨W.heap.size, 0, none⟩) (8 + 1) G) (headB ++ [b % 256]).length (cells (headB ++ [b % 256])) := by
    refine ⟨rfl, .inr ⟨W.heap.size, G, _, rfl, by rw [hWs]; have := h.below.size; omega, by rw [hw9]; exact heap_new W.drew _, hge, hcm, ?_, ?_⟩⟩
    · simp [Builtin.zeroCells, Value.cells, cells, headB]
      omega
    · rw [Array.toList_append, List.take_append_of_le_length (by simp [cells, headB])]
      rfl
  have hbw9 : Below w.heap.size w w9 := hbW.trans (hb9.mono (by omega))
  have hp9 : w9.heap[p]? = some (.cells #[c 0, c 1, c 2, c 3, c 4, c 5, c 6, c 7, c 8, c 9, .slice (some ⟨g, 0, none⟩) 8 8] 67 (0, 0)) := by rw [hbw9.block p h.lt]; exact h.blk
  have hE : WS w0 p c (.slice (some ⟨W.heap.size, 0, none⟩) (8 + 1) G) (headB ++ [b % 256]) (w9.setCell ⟨p, 10, none⟩ (.slice (some ⟨W.heap.size, 0, none⟩) (8 + 1) G)) := by
    have hne : W.heap.size ≠ p := by have := h.lt; omega
    refine ⟨(h.below.trans (hbw9.mono h.below.size)).setCell h.base _, h.base, heap_setCell_same w9 p 10 _ _ _ hp9, ?_, by simp [Value.ownBlock]; omega⟩
    refine ⟨ho9.1, ho9.2.imp id fun ⟨g, cap, cur, k1, k2, k3, k4⟩ => ⟨g, cap, cur, k1, k2, ?_, k4⟩⟩
    injection k1 with k1 _ _
    injection k1 with k1
    injection k1 with k1 _ _
    rw [Below.heap_setCell _ _ _ _ (by show g ≠ p; omega)]
    exact k3
  have hK : Kept p (.slice (some ⟨g, 0, none⟩) 8 8) w (.slice (some ⟨W.heap.size, 0, none⟩) (8 + 1) G) (w9.setCell ⟨p, 10, none⟩ (.slice (some ⟨W.heap.size, 0, none⟩) (8 + 1) G)) :=
    ⟨by have := hbw9.size; simpa using this, fun k hk hkp _ => by rw [Below.heap_setCell _ _ _ _ (by show k ≠ p; exact hkp), hbw9.block k hk], fun k hk => .inr (by
      have : W.heap.size = k := by simpa [Value.ownBlock] using hk
      omega)⟩
  have HE := hideR hE
  have HK := hideR hK
  have kc9 : w9.cell? ⟨p, 10, none⟩ = some (.slice (some ⟨g, 0, none⟩) 8 8) := by unfold World.cell?; rw [hp9]; rfl
  have kf9 : w9.frozen? ⟨p, 10, none⟩ = false := by unfold World.frozen?; rw [hp9]; simp
  have HW := hideR hW
  clear hE hK ho9 hb9 hbw9 hp9 hbW hgW hnew hsrc hold hge hcm hw9 hW h hg hgb hgp hglt hWs
  go_enter Tryz.func52, Tryz.ntmps52
  go_wp2_with (at_builtin; rw [← HW.out]; refine Lib.wpList_append_run _ rfl _ _ _ _ rfl _ _ rfl rfl _ _ (hrun _) ?_)
  go_end0
  exact ⟨_, rfl, HE.out, HK.out⟩
set_option maxRecDepth 100000 in
set_option maxHeartbeats 1000000 in
theorem wToldN (w0 : World) (p : Nat) (c : Nat → Value) (v : Value) (w : World) (h : WN w0 p c v w) :
    Calls Tryz.prog 20 #[.pointer (some ⟨p, 0, none⟩)] w fun e w' => e = .returned (told headB) ∧ w' = w := by
  obtain ⟨g, rfl, hgb, hgp, hg⟩ := h.row
  have kc := h.cell
  have hcv : (convert 53 9 (.slice (some ⟨g, 0, none⟩) 8 8)).run Tryz.prog w = .ok (.string (strOfNums headB)) w :=
    run_convert_bytes_arg w 53 5 Tryz.underlying53 Tryz.underlying5 g 0 8 8 headB rfl (fun i hi => by
      rw [Nat.zero_add, cell_of_row w g i _ _ _ hg]
      match i, hi with
      | 0, _ => rfl | 1, _ => rfl | 2, _ => rfl | 3, _ => rfl | 4, _ => rfl | 5, _ => rfl | 6, _ => rfl | 7, _ => rfl) 9 Tryz.underlying9
  have ht : told headB = .tuple #[.string (strOfNums headB), .int .i64 0] := by unfold told; rw [if_neg (by decide)]
  rw [ht]
  generalize strOfNums headB = S at hcv ⊢
  clear h hg ht
  go_enter Tryz.func20, Tryz.ntmps20
  go_wp2
  go_ret2
  exact ⟨rfl, rfl⟩
end Go.Proofs.YtloelineidlenaaGreatDoor

namespace Go.Proofs.YtloelineidlenaaGreatDoor
open Go.RowKit Rep Enc Go.Lib
set_option linter.unusedVariables false
namespace Enc
structure Wr {d : Nat} (m : Mod d) : Prop where
  types : ∀ x ∈ m.types, x.params.length ≤ 1000000 ∧ x.results.length ≤ 1000000
  imports : ∀ x ∈ m.imports, x.mod.size ≤ 1000000 ∧ x.name.size ≤ 1000000 ∧ 0 ≤ x.type ∧ x.type ≤ 4294967295
  funcs : ∀ x ∈ m.funcs, (0 ≤ x.type ∧ x.type ≤ 4294967295) ∧ Rg d x.body ∧ x.locals.length ≤ 1000000
  tables : ∀ x ∈ m.tables, (0 ≤ x.min ∧ x.min ≤ 4294967295) ∧ 0 ≤ x.max ∧ x.max ≤ 4294967295
  mems : ∀ x ∈ m.mems, (0 ≤ x.min ∧ x.min ≤ 4294967295) ∧ 0 ≤ x.max ∧ x.max ≤ 4294967295
  globals : ∀ x ∈ m.globals, Rg1 (Rg d) x.init
  exports : ∀ x ∈ m.exports, x.name.size ≤ 1000000 ∧ 0 ≤ x.index ∧ x.index ≤ 4294967295
  start : ∀ x ∈ m.start, 0 ≤ x ∧ x ≤ 4294967295
  elems : ∀ x ∈ m.elems, Rg1 (Rg d) x.offset ∧ (∀ y ∈ x.funcs, 0 ≤ y ∧ y ≤ 4294967295) ∧ x.funcs.length ≤ 1000000
  datas : ∀ x ∈ m.datas, Rg1 (Rg d) x.offset ∧ x.bytes.size ≤ 1000000
  few : m.types.length ≤ 1000000 ∧ m.imports.length ≤ 1000000 ∧ m.funcs.length ≤ 1000000 ∧ m.tables.length ≤ 1000000 ∧ m.mems.length ≤ 1000000 ∧ m.globals.length ≤ 1000000 ∧ m.exports.length ≤ 1000000 ∧ m.start.length ≤ 1000000 ∧ m.elems.length ≤ 1000000 ∧ m.datas.length ≤ 1000000
  short : (modB m).length ≤ 38000000000000
  typs : ∀ x ∈ m.funcs, ∀ y ∈ x.locals, y = 126 ∨ y = 127
  once : m.start.length ≤ 1
def ent {α : Type} (l : List α) (g : α → List Int) (i : Nat) : List Int := ((l[i]?).map g).getD []
theorem ent_at {α : Type} {l : List α} {g : α → List Int} {i : Nat} {x : α} (h : l[i]? = some x) : ent l g i = g x := by unfold ent; rw [h]; rfl
theorem ent_fst {α : Type} (l : List α) (g : α → List Int) : ∀ j, j ≤ l.length → fstB (ent l g) j = (l.take j).flatMap g
  | 0, _ => by simp [fstB]
  | j + 1, h => by
    obtain ⟨x, hx⟩ : ∃ x, l[j]? = some x := ⟨_, List.getElem?_eq_getElem (by omega)⟩
    show fstB (ent l g) j ++ ent l g j = _
    rw [ent_fst l g j (by omega), ent_at hx, fm_take hx]
theorem ent_all {α : Type} (l : List α) (g : α → List Int) : fstB (ent l g) l.length = l.flatMap g := by
  rw [ent_fst l g _ (Nat.le_refl _), List.take_of_length_le (Nat.le_refl _)]
theorem inside_lis {α : Type} (id : Int) (hid : id ≠ 8) (l : List α) (g : α → List Int) : insideB id l.length (ent l g) = lisB g l := by
  unfold insideB lisB
  rw [if_neg hid, ent_all]
theorem inside_st {α : Type} (l : List α) (g : α → List Int) : insideB 8 l.length (ent l g) = l.flatMap g := by
  unfold insideB
  rw [if_pos rfl, ent_all]; simp
def sb {d : Nat} (m : Mod d) : Nat → List Int
  | 0 => secB 1 m.types.length (lisB ftB m.types)
  | 1 => secB 2 m.imports.length (lisB impB m.imports)
  | 2 => secB 3 m.funcs.length (lisB (fun x => Leb.uB x.type) m.funcs)
  | 3 => secB 4 m.tables.length (lisB (fun x => [112] ++ limB x) m.tables)
  | 4 => secB 5 m.mems.length (lisB limB m.mems)
  | 5 => secB 6 m.globals.length (lisB gloB m.globals)
  | 6 => secB 7 m.exports.length (lisB expB m.exports)
  | 7 => secB 8 m.start.length (m.start.flatMap Leb.uB)
  | 8 => secB 9 m.elems.length (lisB elmB m.elems)
  | 9 => secB 10 m.funcs.length (lisB (fun x => sizB (codB x)) m.funcs)
  | 10 => secB 11 m.datas.length (lisB datB m.datas)
  | _ => []
theorem modB_sb {d : Nat} (m : Mod d) : modB m = headB ++ fstB (sb m) 11 := by
  show modB m = headB ++ (((((((((((([] : List Int) ++ sb m 0) ++ sb m 1) ++ sb m 2) ++ sb m 3) ++ sb m 4) ++ sb m 5) ++ sb m 6) ++ sb m 7) ++ sb m 8) ++ sb m 9) ++ sb m 10)
  simp only [List.nil_append, ← List.append_assoc]
  rfl
def ln {d : Nat} (m : Mod d) : Nat → Nat
  | 0 => m.types.length
  | 1 => m.imports.length
  | 2 => m.funcs.length
  | 3 => m.tables.length
  | 4 => m.mems.length
  | 5 => m.globals.length
  | 6 => m.exports.length
  | 7 => m.start.length
  | 8 => m.elems.length
  | 9 => m.datas.length
  | _ => 0
end Enc
theorem sec1 {I : World → Prop} (C : FormC I) (w0 : World) (hI : I w0) (p : Nat) (c : Nat → Value) (d : Nat) (m : Mod d) (hM : ModAt w0 d (c 0) (c 1) (c 2) (c 3) (c 4) (c 5) (c 6) (c 7) (c 8) (c 9) m) (W : Wr m) : SecIn w0 p c 1 m.types.length 41 (ent m.types ftB) := fun v bs qS qW w h hS hW n1 n2 n3 n4 hlen =>
  wSec1 w0 p c v bs m.types.length (ent m.types ftB) qS qW w h (fun i v bs w hi h hl => by
    obtain ⟨x, hx⟩ : ∃ x, m.types[i]? = some x := ⟨_, List.getElem?_eq_getElem hi⟩
    have r := W.types x (List.mem_of_getElem? hx)
    rw [ent_at hx]
    exact (eType w0 p c v bs d m w h hM i x hx r.1 r.2 (by omega)).mono fun _ _ h => DoesA.of h) hS hW n1 n2 n3 n4 (by have := W.few; omega) hlen
theorem sec2 {I : World → Prop} (C : FormC I) (w0 : World) (hI : I w0) (p : Nat) (c : Nat → Value) (d : Nat) (m : Mod d) (hM : ModAt w0 d (c 0) (c 1) (c 2) (c 3) (c 4) (c 5) (c 6) (c 7) (c 8) (c 9) m) (W : Wr m) : SecIn w0 p c 2 m.imports.length 42 (ent m.imports impB) := fun v bs qS qW w h hS hW n1 n2 n3 n4 hlen =>
  wSec2 w0 p c v bs m.imports.length (ent m.imports impB) qS qW w h (fun i v bs w hi h hl => by
    obtain ⟨x, hx⟩ : ∃ x, m.imports[i]? = some x := ⟨_, List.getElem?_eq_getElem hi⟩
    have r := W.imports x (List.mem_of_getElem? hx)
    rw [ent_at hx]
    exact (eImp w0 p c v bs d m w h hM i x hx r.1 r.2.1 r.2.2 (by omega)).mono fun _ _ h => DoesA.of h) hS hW n1 n2 n3 n4 (by have := W.few; omega) hlen
theorem sec3 {I : World → Prop} (C : FormC I) (w0 : World) (hI : I w0) (p : Nat) (c : Nat → Value) (d : Nat) (m : Mod d) (hM : ModAt w0 d (c 0) (c 1) (c 2) (c 3) (c 4) (c 5) (c 6) (c 7) (c 8) (c 9) m) (W : Wr m) : SecIn w0 p c 3 m.funcs.length 43 (ent m.funcs (fun x => Leb.uB x.type)) := fun v bs qS qW w h hS hW n1 n2 n3 n4 hlen =>
  wSec3 w0 p c v bs m.funcs.length (ent m.funcs (fun x => Leb.uB x.type)) qS qW w h (fun i v bs w hi h hl => by
    obtain ⟨x, hx⟩ : ∃ x, m.funcs[i]? = some x := ⟨_, List.getElem?_eq_getElem hi⟩
    have r := W.funcs x (List.mem_of_getElem? hx)
    rw [ent_at hx]
    exact (eFun w0 p c v bs d m w h hM i x hx r.1 (by omega)).mono fun _ _ h => DoesA.of h) hS hW n1 n2 n3 n4 (by have := W.few; omega) hlen
theorem sec4 {I : World → Prop} (C : FormC I) (w0 : World) (hI : I w0) (p : Nat) (c : Nat → Value) (d : Nat) (m : Mod d) (hM : ModAt w0 d (c 0) (c 1) (c 2) (c 3) (c 4) (c 5) (c 6) (c 7) (c 8) (c 9) m) (W : Wr m) : SecIn w0 p c 4 m.tables.length 44 (ent m.tables (fun x => [112] ++ limB x)) := fun v bs qS qW w h hS hW n1 n2 n3 n4 hlen =>
  wSec4 w0 p c v bs m.tables.length (ent m.tables (fun x => [112] ++ limB x)) qS qW w h (fun i v bs w hi h hl => by
    obtain ⟨x, hx⟩ : ∃ x, m.tables[i]? = some x := ⟨_, List.getElem?_eq_getElem hi⟩
    have r := W.tables x (List.mem_of_getElem? hx)
    rw [ent_at hx]
    exact (eTab w0 p c v bs d m w h hM i x hx r.1 r.2 (by omega)).mono fun _ _ h => DoesA.of h) hS hW n1 n2 n3 n4 (by have := W.few; omega) hlen
theorem sec5 {I : World → Prop} (C : FormC I) (w0 : World) (hI : I w0) (p : Nat) (c : Nat → Value) (d : Nat) (m : Mod d) (hM : ModAt w0 d (c 0) (c 1) (c 2) (c 3) (c 4) (c 5) (c 6) (c 7) (c 8) (c 9) m) (W : Wr m) : SecIn w0 p c 5 m.mems.length 45 (ent m.mems limB) := fun v bs qS qW w h hS hW n1 n2 n3 n4 hlen =>
  wSec5 w0 p c v bs m.mems.length (ent m.mems limB) qS qW w h (fun i v bs w hi h hl => by
    obtain ⟨x, hx⟩ : ∃ x, m.mems[i]? = some x := ⟨_, List.getElem?_eq_getElem hi⟩
    have r := W.mems x (List.mem_of_getElem? hx)
    rw [ent_at hx]
    exact (eMem w0 p c v bs d m w h hM i x hx r.1 r.2 (by omega)).mono fun _ _ h => DoesA.of h) hS hW n1 n2 n3 n4 (by have := W.few; omega) hlen
theorem sec6 {I : World → Prop} (C : FormC I) (w0 : World) (hI : I w0) (p : Nat) (c : Nat → Value) (d : Nat) (m : Mod d) (hM : ModAt w0 d (c 0) (c 1) (c 2) (c 3) (c 4) (c 5) (c 6) (c 7) (c 8) (c 9) m) (W : Wr m) : SecIn w0 p c 6 m.globals.length 46 (ent m.globals gloB) := fun v bs qS qW w h hS hW n1 n2 n3 n4 hlen =>
  wSec6 w0 p c v bs m.globals.length (ent m.globals gloB) qS qW w h (fun i v bs w hi h hl => by
    obtain ⟨x, hx⟩ : ∃ x, m.globals[i]? = some x := ⟨_, List.getElem?_eq_getElem hi⟩
    have r := W.globals x (List.mem_of_getElem? hx)
    rw [ent_at hx]
    exact eGlo C w0 hI p c v bs d m w h hM i x hx r (by rw [ent_at hx] at hl; unfold gloB at hl; omega)) hS hW n1 n2 n3 n4 (by have := W.few; omega) hlen
theorem sec7 {I : World → Prop} (C : FormC I) (w0 : World) (hI : I w0) (p : Nat) (c : Nat → Value) (d : Nat) (m : Mod d) (hM : ModAt w0 d (c 0) (c 1) (c 2) (c 3) (c 4) (c 5) (c 6) (c 7) (c 8) (c 9) m) (W : Wr m) : SecIn w0 p c 7 m.exports.length 47 (ent m.exports expB) := fun v bs qS qW w h hS hW n1 n2 n3 n4 hlen =>
  wSec7 w0 p c v bs m.exports.length (ent m.exports expB) qS qW w h (fun i v bs w hi h hl => by
    obtain ⟨x, hx⟩ : ∃ x, m.exports[i]? = some x := ⟨_, List.getElem?_eq_getElem hi⟩
    have r := W.exports x (List.mem_of_getElem? hx)
    rw [ent_at hx]
    exact (eExp w0 p c v bs d m w h hM i x hx r.1 r.2 (by omega)).mono fun _ _ h => DoesA.of h) hS hW n1 n2 n3 n4 (by have := W.few; omega) hlen
theorem sec8 {I : World → Prop} (C : FormC I) (w0 : World) (hI : I w0) (p : Nat) (c : Nat → Value) (d : Nat) (m : Mod d) (hM : ModAt w0 d (c 0) (c 1) (c 2) (c 3) (c 4) (c 5) (c 6) (c 7) (c 8) (c 9) m) (W : Wr m) : SecIn w0 p c 8 m.start.length 48 (ent m.start Leb.uB) := fun v bs qS qW w h hS hW n1 n2 n3 n4 hlen =>
  wSec8 w0 p c v bs m.start.length (ent m.start Leb.uB) qS qW w h (fun i v bs w hi h hl => by
    obtain ⟨x, hx⟩ : ∃ x, m.start[i]? = some x := ⟨_, List.getElem?_eq_getElem hi⟩
    have r := W.start x (List.mem_of_getElem? hx)
    rw [ent_at hx]
    exact (eStart w0 p c v bs d m w h hM i x hx r (by omega)).mono fun _ _ h => DoesA.of h) hS hW n1 n2 n3 n4 (by have := W.few; omega) hlen
theorem sec9 {I : World → Prop} (C : FormC I) (w0 : World) (hI : I w0) (p : Nat) (c : Nat → Value) (d : Nat) (m : Mod d) (hM : ModAt w0 d (c 0) (c 1) (c 2) (c 3) (c 4) (c 5) (c 6) (c 7) (c 8) (c 9) m) (W : Wr m) : SecIn w0 p c 9 m.elems.length 49 (ent m.elems elmB) := fun v bs qS qW w h hS hW n1 n2 n3 n4 hlen =>
  wSec9 w0 p c v bs m.elems.length (ent m.elems elmB) qS qW w h (fun i v bs w hi h hl => by
    obtain ⟨x, hx⟩ : ∃ x, m.elems[i]? = some x := ⟨_, List.getElem?_eq_getElem hi⟩
    have r := W.elems x (List.mem_of_getElem? hx)
    rw [ent_at hx]
    exact eElm C w0 hI p c v bs d m w h hM i x hx r.1 r.2.1 r.2.2 (by rw [ent_at hx] at hl; unfold elmB at hl; omega)) hS hW n1 n2 n3 n4 (by have := W.few; omega) hlen
theorem sec10 {I : World → Prop} (C : FormC I) (w0 : World) (hI : I w0) (p : Nat) (c : Nat → Value) (d : Nat) (m : Mod d) (hM : ModAt w0 d (c 0) (c 1) (c 2) (c 3) (c 4) (c 5) (c 6) (c 7) (c 8) (c 9) m) (W : Wr m) : SecIn w0 p c 10 m.funcs.length 50 (ent m.funcs (fun x => sizB (codB x))) := fun v bs qS qW w h hS hW n1 n2 n3 n4 hlen =>
  wSec10 w0 p c v bs m.funcs.length (ent m.funcs (fun x => sizB (codB x))) qS qW w h (fun i v bs w hi h hl => by
    obtain ⟨x, hx⟩ : ∃ x, m.funcs[i]? = some x := ⟨_, List.getElem?_eq_getElem hi⟩
    have r := W.funcs x (List.mem_of_getElem? hx)
    rw [ent_at hx]
    exact eCode C w0 hI p c v bs d m w h hM i x hx r.2.1 r.2.2 (by rw [ent_at hx] at hl; unfold sizB at hl; rw [List.length_append] at hl; omega)) hS hW n1 n2 n3 n4 (by have := W.few; omega) hlen
theorem sec11 {I : World → Prop} (C : FormC I) (w0 : World) (hI : I w0) (p : Nat) (c : Nat → Value) (d : Nat) (m : Mod d) (hM : ModAt w0 d (c 0) (c 1) (c 2) (c 3) (c 4) (c 5) (c 6) (c 7) (c 8) (c 9) m) (W : Wr m) : SecIn w0 p c 11 m.datas.length 51 (ent m.datas datB) := fun v bs qS qW w h hS hW n1 n2 n3 n4 hlen =>
  wSec11 w0 p c v bs m.datas.length (ent m.datas datB) qS qW w h (fun i v bs w hi h hl => by
    obtain ⟨x, hx⟩ : ∃ x, m.datas[i]? = some x := ⟨_, List.getElem?_eq_getElem hi⟩
    have r := W.datas x (List.mem_of_getElem? hx)
    rw [ent_at hx]
    exact eDat C w0 hI p c v bs d m w h hM i x hx r.1 r.2 (by rw [ent_at hx] at hl; unfold datB texB at hl; omega)) hS hW n1 n2 n3 n4 (by have := W.few; omega) hlen
theorem secs_ok {I : World → Prop} (C : FormC I) (w0 : World) (hI : I w0) (p : Nat) (c : Nat → Value) (d : Nat) (m : Mod d) (hM : ModAt w0 d (c 0) (c 1) (c 2) (c 3) (c 4) (c 5) (c 6) (c 7) (c 8) (c 9) m) (W : Wr m) (j : Nat) (hj : j < 11) : ∃ (id : Int) (n : Nat) (F : FuncId) (f : Nat → List Int), (secCells p (ln m))[j * 3]? = some (.int .i64 id) ∧ (secCells p (ln m))[j * 3 + 1]? = some (.int .i64 (n : Nat)) ∧ (secCells p (ln m))[j * 3 + 2]? = some (.func (.func F) #[.pointer (some ⟨p, 0, none⟩)] #[]) ∧ (0 ≤ id ∧ id ≤ 255) ∧ SecIn w0 p c id n F f ∧ sb m j = secB id n (insideB id n f) :=
  match j, hj with
  | 0, _ => ⟨1, m.types.length, 41, ent m.types ftB, rfl, rfl, rfl, by omega, sec1 C w0 hI p c d m hM W, by rw [inside_lis 1 (by decide) _ _]; rfl⟩
  | 1, _ => ⟨2, m.imports.length, 42, ent m.imports impB, rfl, rfl, rfl, by omega, sec2 C w0 hI p c d m hM W, by rw [inside_lis 2 (by decide) _ _]; rfl⟩
  | 2, _ => ⟨3, m.funcs.length, 43, ent m.funcs (fun x => Leb.uB x.type), rfl, rfl, rfl, by omega, sec3 C w0 hI p c d m hM W, by rw [inside_lis 3 (by decide) _ _]; rfl⟩
  | 3, _ => ⟨4, m.tables.length, 44, ent m.tables (fun x => [112] ++ limB x), rfl, rfl, rfl, by omega, sec4 C w0 hI p c d m hM W, by rw [inside_lis 4 (by decide) _ _]; rfl⟩
  | 4, _ => ⟨5, m.mems.length, 45, ent m.mems limB, rfl, rfl, rfl, by omega, sec5 C w0 hI p c d m hM W, by rw [inside_lis 5 (by decide) _ _]; rfl⟩
  | 5, _ => ⟨6, m.globals.length, 46, ent m.globals gloB, rfl, rfl, rfl, by omega, sec6 C w0 hI p c d m hM W, by rw [inside_lis 6 (by decide) _ _]; rfl⟩
  | 6, _ => ⟨7, m.exports.length, 47, ent m.exports expB, rfl, rfl, rfl, by omega, sec7 C w0 hI p c d m hM W, by rw [inside_lis 7 (by decide) _ _]; rfl⟩
  | 7, _ => ⟨8, m.start.length, 48, ent m.start Leb.uB, rfl, rfl, rfl, by omega, sec8 C w0 hI p c d m hM W, by rw [inside_st _ _]; rfl⟩
  | 8, _ => ⟨9, m.elems.length, 49, ent m.elems elmB, rfl, rfl, rfl, by omega, sec9 C w0 hI p c d m hM W, by rw [inside_lis 9 (by decide) _ _]; rfl⟩
  | 9, _ => ⟨10, m.funcs.length, 50, ent m.funcs (fun x => sizB (codB x)), rfl, rfl, rfl, by omega, sec10 C w0 hI p c d m hM W, by rw [inside_lis 10 (by decide) _ _]; rfl⟩
  | 10, _ => ⟨11, m.datas.length, 51, ent m.datas datB, rfl, rfl, rfl, by omega, sec11 C w0 hI p c d m hM W, by rw [inside_lis 11 (by decide) _ _]; rfl⟩
end Go.Proofs.YtloelineidlenaaGreatDoor


namespace Go.Proofs.YtloelineidlenaaGreatDoor
open Go.RowKit Rep
set_option linter.unusedVariables false

namespace Rep
def cntM (d : Nat) (l : List (Fun d)) : Nat := (goF stepCount d l 0).getD 65537
end Rep

end Go.Proofs.YtloelineidlenaaGreatDoor

namespace Go.Proofs.YtloelineidlenaaGreatDoor
open Go.RowKit Rep
set_option linter.unusedVariables false

set_option maxHeartbeats 1000000 in
theorem pWalk0B {σ : Type} (w0 : World) (S : Nat → Prop) (Inv : σ → World → Prop) (step : σ → Sn → Nat → Option σ) (k : Int) (o : Option Addr) (c : Nat) (l : IL 0) (dep : Nat) (s : σ) (w : World) (hs : Inv s w) :
    Calls Tryz.prog 77 #[.slice o 0 c, .int .i64 dep, .func (.func 34) #[] #[]] w fun e w' =>
      Kp S w w' ∧ ((∃ s', goI step 0 l dep s = some s' ∧ e = .returned (.tuple #[]) ∧ Inv s' w') ∨ (goI step 0 l dep s = none ∧ e = .panicked (gave k))) := by
  have Hs := hideM hs
  clear hs
  go_enter Tryz.func77, Tryz.ntmps77
  go_wp2_with fail
  go_loopw [10] (fun i wr => i = .int .i64 0 ∧ wr = w) (fun i _ => 0)
  case atStart => exact ⟨rfl, rfl⟩
  case round =>
    obtain ⟨rfl, rfl⟩ := hrel
    go_wp2
    go_end0
    exact ⟨Kp.refl S _, .inl ⟨s, rfl, rfl, Hs.out⟩⟩

set_option maxHeartbeats 2000000 in
theorem pWalkSB {σ : Type} (w0 : World) (S : Nat → Prop) (hS : ∀ k, S k → w0.heap.size ≤ k) (Inv : σ → World → Prop) (hI : ∀ s w w', Below w.heap.size w w' → Inv s w → Inv s w')
    (step : σ → Sn → Nat → Option σ) (k : Int) (see : SeeC 34 (fun x y => #[x, y]) w0 S Inv step k) (d : Nat) (IH : WalkSays (.func (.func 34) #[] #[]) w0 S Inv step k d)
    (v : Value) (l : List (Ins (IL d))) (dep : Nat) (s : σ) (w : World) (hAt : Row 7 (InsAt w0 (At w0 d)) v l) (hb : Below w0.heap.size w0 w) (hs : Inv s w) (hS2 : ∀ k, S k → k < w.heap.size) (hd : dep + (d + 1) ≤ 4611686018427387904) :
    Calls Tryz.prog 77 #[v, .int .i64 dep, .func (.func 34) #[] #[]] w fun e w' =>
      Kp S w w' ∧ ((∃ s', rest step d l dep 0 s = some s' ∧ e = .returned (.tuple #[]) ∧ Inv s' w') ∨ (rest step d l dep 0 s = none ∧ e = .panicked (gave k))) := by
  have hlen := hAt.1
  obtain ⟨o, cap2, hv⟩ := Row.len hAt
  have hx := Row.some hAt
  subst hv
  obtain ⟨R, hR⟩ : ∃ R, R = rest step d l dep 0 s := ⟨_, rfl⟩
  rw [← hR]
  have HR := hideM hR
  have HX := hideM hx
  clear hx hAt hR
  generalize hn : l.length = n at *
  have HSee := hideM see
  have HIH := hideM IH
  have HI := hideM hI
  have HS := hideM hS
  have HS2 := hideM hS2
  have HB := hideM hb
  have Hs := hideM hs
  clear see IH hI hS hb hs hS2
  go_enter Tryz.func77, Tryz.ntmps77
  go_wp2_with fail
  go_loopw [10] (fun i wr => ∃ (j : Nat) (sj : σ), j ≤ n ∧ i = .int .i64 j ∧ Hid (R = rest step d l dep j sj) ∧ Hid (Kp S w wr) ∧ Hid (Inv sj wr)) (fun i _ => n - (RowKit.intOf i).toNat)
  case atStart => exact ⟨0, s, by omega, rfl, HR, Kp.refl S w, Hs⟩
  case round =>
    obtain ⟨j, sj, hj, rfl, HK, HKP, HSJ⟩ := hrel
    by_cases hgo : j < n
    · obtain ⟨b, off, cap3, hv2, hx⟩ := HX.out (by omega)
      injection hv2 with ho h2 h3
      subst ho
      obtain ⟨x, hxk⟩ : ∃ x, l[j]? = some x := ⟨_, List.getElem?_eq_getElem (by omega)⟩
      have hbr := Kp.below HS.out HB.out HKP.out
      have hx' := (hx j x hxk).on hbr (At.on hbr d)
      have c0 := hx'.op
      have c1 := hx'.a
      have c2 := hx'.b
      have c3 := hx'.n
      obtain ⟨lv, c4, a4⟩ := hx'.labels
      obtain ⟨bv, c5, _⟩ := hx'.body
      obtain ⟨ev, c6, _⟩ := hx'.els
      obtain ⟨bv', c5', a5⟩ := (hx j x hxk).body
      obtain ⟨ev', c6', a6⟩ := (hx j x hxk).els
      obtain rfl : bv' = bv := Option.some.inj ((cell_on hbr c5').symm.trans c5)
      obtain rfl : ev' = ev := Option.some.inj ((cell_on hbr c6').symm.trans c6)
      have HN := hideM (HK.out.trans (rest_on hxk))
      obtain ⟨lo, lc, rfl⟩ := Row.len a4
      obtain ⟨bo, bc, rfl⟩ := At.len d bv' x.body a5
      obtain ⟨eo, ec, rfl⟩ := At.len d ev' x.els a6
      have HSN := HSee.out sj (sn x) (.slice lo x.labels.length lc) (.slice bo (size d x.body) bc) (.slice eo (size d x.els) ec) dep
      generalize hnb : size d x.body = nb at *
      generalize hne : size d x.els = ne at *
      generalize hnl : x.labels.length = nl at *
      have A4 := hideM a4
      have A5 := hideM a5
      have A6 := hideM a6
      have HNB := hideM hnb
      have HNE := hideM hne
      have HNL := hideM hnl
      have HBR := hideM hbr
      have HSX := hideM HSN
      clear hx' h2 h3 HX a4 a5 a6 hxk hnb hne hnl hbr hx c5' c6' HSN HK
      go_upto_region 3 with fail
      obtain ⟨wa, hwa⟩ : ∃ wa, wa = wr.alloc (Obj.cells #[.int .i64 x.op, .int .i64 x.a, .int .i64 x.b, .int .i64 x.n, .slice lo nl lc, .slice bo nb bc, .slice eo ne ec] 52) := ⟨_, rfl⟩
      rw [← hwa]
      have hsz : wa.heap.size = wr.heap.size + 1 := by rw [hwa]; exact size_alloc _ _
      have n0 : wa.cell? ⟨wr.heap.size, 0, none⟩ = some (.int .i64 x.op) := by rw [hwa]; exact new_cell _ _ _ _ _ rfl
      have n1 : wa.cell? ⟨wr.heap.size, 1, none⟩ = some (.int .i64 x.a) := by rw [hwa]; exact new_cell _ _ _ _ _ rfl
      have n2 : wa.cell? ⟨wr.heap.size, 2, none⟩ = some (.int .i64 x.b) := by rw [hwa]; exact new_cell _ _ _ _ _ rfl
      have n3 : wa.cell? ⟨wr.heap.size, 3, none⟩ = some (.int .i64 x.n) := by rw [hwa]; exact new_cell _ _ _ _ _ rfl
      have n4 : wa.cell? ⟨wr.heap.size, 4, none⟩ = some (.slice lo nl lc) := by rw [hwa]; exact new_cell _ _ _ _ _ rfl
      have n5 : wa.cell? ⟨wr.heap.size, 5, none⟩ = some (.slice bo nb bc) := by rw [hwa]; exact new_cell _ _ _ _ _ rfl
      have n6 : wa.cell? ⟨wr.heap.size, 6, none⟩ = some (.slice eo ne ec) := by rw [hwa]; exact new_cell _ _ _ _ _ rfl
      have hka : Hid (Kp S w wa) := by rw [hwa]; exact HKP.out.alloc _
      have hra : Below wr.heap.size wr wa := by rw [hwa]; exact (Below.refl _ wr).alloc (Nat.le_refl _) _
      have HRA := hideM hra
      clear hwa hra c0 c1 c2 c3 c4 c5 c6
      go_wp2_with fail
      refine (HSX.out wa (Kp.below HS.out HB.out hka.out) (HI.out _ _ _ HRA.out HSJ.out) (A4.out.on HRA.out) ⟨bo, bc, by rw [← HNB.out]; rfl⟩ ⟨eo, ec, by rw [← HNE.out]; rfl⟩ (by omega)).mono ?_
      rintro e u ⟨hk1, hcase⟩
      have HK1 := hideM hk1
      have hwr : ¬ S wr.heap.size := fun hh => by have h1 := HS2.out _ hh; have h2 := HKP.out.size; omega
      have HWR := hideM hwr
      have hku := hideM (hka.out.trans hk1)
      have m5 := (hk1.cell (p := ⟨wr.heap.size, 5, none⟩) (by show wr.heap.size < _; omega) hwr).trans n5
      have m6 := (hk1.cell (p := ⟨wr.heap.size, 6, none⟩) (by show wr.heap.size < _; omega) hwr).trans n6
      have hus := hk1.size
      clear hk1 hwr n0 n1 n2 n3 n4 n5 n6
      rcases hcase with ⟨s1, e1, rfl, i1⟩ | ⟨e1, rfl⟩
      · have I1 := hideM i1
        have E1 := hideM e1
        clear i1 e1
        go_wp2_with fail
        refine (HIH.out _ x.body (dep + 1) s1 u A5.out (Kp.below HS.out HB.out hku.out) I1.out (fun q hq => Nat.lt_of_lt_of_le (HS2.out q hq) hku.out.size) (by omega)).mono ?_
        rintro e u2 ⟨hk2, hcase⟩
        have hku2 := hideM (hku.out.trans hk2)
        have p6 := (hk2.cell (p := ⟨wr.heap.size, 6, none⟩) (by show wr.heap.size < _; omega) HWR.out).trans m6
        clear hk2 m5 m6
        rcases hcase with ⟨s2, e2, rfl, i2⟩ | ⟨e2, rfl⟩
        · have I2 := hideM i2
          have E2 := hideM e2
          clear i2 e2
          go_wp2_with fail
          refine (HIH.out _ x.els (dep + 1) s2 u2 A6.out (Kp.below HS.out HB.out hku2.out) I2.out (fun q hq => Nat.lt_of_lt_of_le (HS2.out q hq) hku2.out.size) (by omega)).mono ?_
          rintro e u3 ⟨hk3, hcase⟩
          have hku3 := hideM (hku2.out.trans hk3)
          clear hk3 p6
          rcases hcase with ⟨s3, e3, rfl, i3⟩ | ⟨e3, rfl⟩
          · have HF : Hid (R = rest step d l dep (j + 1) s3) := by
              have := HN.out; rw [E1.out, Option.bind_some, E2.out, Option.bind_some, e3, Option.bind_some] at this; exact this
            have I3 := hideM i3
            clear i3 e3
            go_wp2
            go_roundw
            case rel => exact ⟨j + 1, s3, by omega, by go_num, HF, hku3, I3⟩
            case measure => simp [RowKit.intOf]; omega
          · have HF : R = none := by
              have := HN.out; rw [E1.out, Option.bind_some, E2.out, Option.bind_some, e3, Option.bind_none] at this; exact this
            go_wp2
            exact ⟨rfl, hku3.out, .inr ⟨HF, rfl⟩⟩
        · have HF : R = none := by
            have := HN.out; rw [E1.out, Option.bind_some, e2, Option.bind_none] at this; exact this
          go_wp2
          exact ⟨rfl, hku2.out, .inr ⟨HF, rfl⟩⟩
      · have HF : R = none := by
          have := HN.out; rw [e1, Option.bind_none] at this; exact this
        go_wp2
        exact ⟨rfl, hku.out, .inr ⟨HF, rfl⟩⟩
    · have HE : R = some sj := HK.out.trans (rest_end (by omega))
      have HEE := hideM HE
      clear HE HK
      go_wp2
      go_end0
      exact ⟨HKP.out, .inl ⟨sj, HEE.out, rfl, HSJ.out⟩⟩

theorem pWalkB {σ : Type} (w0 : World) (S : Nat → Prop) (hS : ∀ k, S k → w0.heap.size ≤ k) (Inv : σ → World → Prop) (hI : ∀ s w w', Below w.heap.size w w' → Inv s w → Inv s w')
    (step : σ → Sn → Nat → Option σ) (k : Int) (see : SeeC 34 (fun x y => #[x, y]) w0 S Inv step k) : ∀ (d : Nat), WalkSays (.func (.func 34) #[] #[]) w0 S Inv step k d
  | 0 => fun v l dep s w ⟨o, c, hv⟩ hb hs hS2 hd => by
    subst hv
    exact pWalk0B w0 S Inv step k o c l dep s w hs
  | d + 1 => fun v l dep s w hAt hb hs hS2 hd => pWalkSB w0 S hS Inv hI step k see d (pWalkB w0 S hS Inv hI step k see d) v l dep s w hAt hb hs hS2 hd
end Go.Proofs.YtloelineidlenaaGreatDoor

namespace Go.Proofs.YtloelineidlenaaGreatDoor
open Go.RowKit Rep
set_option linter.unusedVariables false

set_option maxHeartbeats 2000000 in
theorem pWalkMB {σ : Type} (w0 : World) (S : Nat → Prop) (hS : ∀ k, S k → w0.heap.size ≤ k) (Inv : σ → World → Prop) (hI : ∀ s w w', Below w.heap.size w w' → Inv s w → Inv s w')
    (step : σ → Sn → Nat → Option σ) (k : Int) (see : SeeC 34 (fun x y => #[x, y]) w0 S Inv step k) (d : Nat) (hd : d ≤ 4611686018427387904)
    (v0 v1 v2 v3 v4 v5 v6 v7 v8 v9 : Value) (l : List (Fun d)) (s : σ) (w : World) (hAt : Row 3 (FunAt w0 d) v2 l) (hT : TenSlices v0 v1 v3 v4 v5 v6 v7 v8 v9) (hb : Below w0.heap.size w0 w) (hs : Inv s w) (hS2 : ∀ k, S k → k < w.heap.size) :
    Calls Tryz.prog 33 #[.agg #[v0, v1, v2, v3, v4, v5, v6, v7, v8, v9], .func (.func 34) #[] #[]] w fun e w' =>
      Kp S w w' ∧ ((∃ s', goF step d l s = some s' ∧ e = .returned (.tuple #[]) ∧ Inv s' w') ∨ (goF step d l s = none ∧ e = .panicked (gave k))) := by
  have hlen := hAt.1
  obtain ⟨o, cap2, hv⟩ := Row.len hAt
  have hx := Row.some hAt
  subst hv
  obtain ⟨⟨o0, m0, c0, rfl⟩, ⟨o1, m1, c1, rfl⟩, ⟨o3, m3, c3, rfl⟩, ⟨o4, m4, c4, rfl⟩, ⟨o5, m5, c5, rfl⟩, ⟨o6, m6, c6, rfl⟩, ⟨o7, m7, c7, rfl⟩, ⟨o8, m8, c8, rfl⟩, ⟨o9, m9, c9, rfl⟩⟩ := hT
  obtain ⟨R, hR⟩ : ∃ R, R = goF step d l s := ⟨_, rfl⟩
  rw [← hR]
  have HR : Hid (R = goF step d (l.drop 0) s) := hR
  have HX := hideM hx
  clear hx hAt hR
  generalize hn : l.length = n at *
  have HWk := hideM (pWalkB w0 S hS Inv hI step k see d)
  have HI := hideM hI
  have HS := hideM hS
  have HS2 := hideM hS2
  have HB := hideM hb
  have Hs := hideM hs
  clear see hI hS hb hs hS2
  go_enter Tryz.func33, Tryz.ntmps33
  go_wp2_with fail
  go_loopw [9] (fun i wr => ∃ (j : Nat) (sj : σ), j ≤ n ∧ i = .int .i64 j ∧ Hid (R = goF step d (l.drop j) sj) ∧ Hid (Kp S w wr) ∧ Hid (Inv sj wr)) (fun i _ => n - (RowKit.intOf i).toNat)
  case atStart => exact ⟨0, s, by omega, rfl, HR, (Kp.refl S w).alloc _, HI.out _ _ _ ((Below.refl _ w).alloc (Nat.le_refl _) _) Hs.out⟩
  case round =>
    obtain ⟨j, sj, hj, rfl, HK, HKP, HSJ⟩ := hrel
    by_cases hgo : j < n
    · obtain ⟨b, off, cap3, hv2, hx⟩ := HX.out (by omega)
      injection hv2 with ho h2 h3
      subst ho
      obtain ⟨x, hxk⟩ : ∃ x, l[j]? = some x := ⟨_, List.getElem?_eq_getElem (by omega)⟩
      have hbr := Kp.below HS.out HB.out HKP.out
      have hx' := (hx j x hxk).on hbr
      have c0 := hx'.type
      obtain ⟨lv, c1, a1⟩ := hx'.locals
      obtain ⟨bv', c2', a2⟩ := (hx j x hxk).body
      have c2 := cell_on hbr c2'
      have HN := hideM (HK.out.trans (goF_on hxk))
      obtain ⟨lo, lc, rfl⟩ := Row.len a1
      obtain ⟨bo, bc, rfl⟩ := At.len d bv' x.body a2
      generalize hnb : size d x.body = nb at *
      generalize hnl : x.locals.length = nl at *
      have A2 := hideM a2
      clear hx' h2 h3 HX a1 a2 hxk hnb hnl hbr hx c2' HK
      go_upto_region 4 with fail
      obtain ⟨wa, hwa⟩ : ∃ wa, wa = wr.alloc (Obj.cells #[.int .i64 x.type, .slice lo nl lc, .slice bo nb bc] 44) := ⟨_, rfl⟩
      rw [← hwa]
      have hsz : wa.heap.size = wr.heap.size + 1 := by rw [hwa]; exact size_alloc _ _
      have n2 : wa.cell? ⟨wr.heap.size, 2, none⟩ = some (.slice bo nb bc) := by rw [hwa]; exact new_cell _ _ _ _ _ rfl
      have hka : Hid (Kp S w wa) := by rw [hwa]; exact HKP.out.alloc _
      have hra : Below wr.heap.size wr wa := by rw [hwa]; exact (Below.refl _ wr).alloc (Nat.le_refl _) _
      have HRA := hideM hra
      clear hwa hra c0 c1 c2
      go_wp2_with fail
      refine (HWk.out _ x.body 0 sj wa A2.out (Kp.below HS.out HB.out hka.out) (HI.out _ _ _ HRA.out HSJ.out) (fun q hq => Nat.lt_of_lt_of_le (HS2.out q hq) hka.out.size) (by omega)).mono ?_
      rintro e u ⟨hk1, hcase⟩
      have hku := hideM (hka.out.trans hk1)
      clear hk1
      rcases hcase with ⟨s1, e1, rfl, i1⟩ | ⟨e1, rfl⟩
      · have HF : Hid (R = goF step d (l.drop (j + 1)) s1) := by
          have := HN.out; rw [e1, Option.bind_some] at this; exact this
        have I1 := hideM i1
        clear i1 e1
        go_wp2
        go_roundw
        case rel => exact ⟨j + 1, s1, by omega, by go_num, HF, hku, I1⟩
        case measure => simp [RowKit.intOf]; omega
      · have HF : R = none := by
          have := HN.out; rw [e1, Option.bind_none] at this; exact this
        go_wp2
        exact ⟨rfl, hku.out, .inr ⟨HF, rfl⟩⟩
    · have HE : R = some sj := HK.out.trans (goF_end (by omega))
      have HEE := hideM HE
      clear HE HK
      go_wp2
      go_end0
      exact ⟨HKP.out, .inl ⟨sj, HEE.out, rfl, HSJ.out⟩⟩
end Go.Proofs.YtloelineidlenaaGreatDoor

namespace Go.Proofs.YtloelineidlenaaGreatDoor
open Go.RowKit Rep
set_option linter.unusedVariables false

set_option maxHeartbeats 1000000 in
theorem pWalk0C {σ : Type} (w0 : World) (S : Nat → Prop) (Inv : σ → World → Prop) (step : σ → Sn → Nat → Option σ) (k : Int) (o : Option Addr) (c : Nat) (l : IL 0) (dep : Nat) (s : σ) (w : World) (hs : Inv s w) :
    Calls Tryz.prog 77 #[.slice o 0 c, .int .i64 dep, .func (.func 36) #[] #[]] w fun e w' =>
      Kp S w w' ∧ ((∃ s', goI step 0 l dep s = some s' ∧ e = .returned (.tuple #[]) ∧ Inv s' w') ∨ (goI step 0 l dep s = none ∧ e = .panicked (gave k))) := by
  have Hs := hideM hs
  clear hs
  go_enter Tryz.func77, Tryz.ntmps77
  go_wp2_with fail
  go_loopw [10] (fun i wr => i = .int .i64 0 ∧ wr = w) (fun i _ => 0)
  case atStart => exact ⟨rfl, rfl⟩
  case round =>
    obtain ⟨rfl, rfl⟩ := hrel
    go_wp2
    go_end0
    exact ⟨Kp.refl S _, .inl ⟨s, rfl, rfl, Hs.out⟩⟩

set_option maxHeartbeats 2000000 in
theorem pWalkSC {σ : Type} (w0 : World) (S : Nat → Prop) (hS : ∀ k, S k → w0.heap.size ≤ k) (Inv : σ → World → Prop) (hI : ∀ s w w', Below w.heap.size w w' → Inv s w → Inv s w')
    (step : σ → Sn → Nat → Option σ) (k : Int) (see : SeeC 36 (fun x y => #[x, y]) w0 S Inv step k) (d : Nat) (IH : WalkSays (.func (.func 36) #[] #[]) w0 S Inv step k d)
    (v : Value) (l : List (Ins (IL d))) (dep : Nat) (s : σ) (w : World) (hAt : Row 7 (InsAt w0 (At w0 d)) v l) (hb : Below w0.heap.size w0 w) (hs : Inv s w) (hS2 : ∀ k, S k → k < w.heap.size) (hd : dep + (d + 1) ≤ 4611686018427387904) :
    Calls Tryz.prog 77 #[v, .int .i64 dep, .func (.func 36) #[] #[]] w fun e w' =>
      Kp S w w' ∧ ((∃ s', rest step d l dep 0 s = some s' ∧ e = .returned (.tuple #[]) ∧ Inv s' w') ∨ (rest step d l dep 0 s = none ∧ e = .panicked (gave k))) := by
  have hlen := hAt.1
  obtain ⟨o, cap2, hv⟩ := Row.len hAt
  have hx := Row.some hAt
  subst hv
  obtain ⟨R, hR⟩ : ∃ R, R = rest step d l dep 0 s := ⟨_, rfl⟩
  rw [← hR]
  have HR := hideM hR
  have HX := hideM hx
  clear hx hAt hR
  generalize hn : l.length = n at *
  have HSee := hideM see
  have HIH := hideM IH
  have HI := hideM hI
  have HS := hideM hS
  have HS2 := hideM hS2
  have HB := hideM hb
  have Hs := hideM hs
  clear see IH hI hS hb hs hS2
  go_enter Tryz.func77, Tryz.ntmps77
  go_wp2_with fail
  go_loopw [10] (fun i wr => ∃ (j : Nat) (sj : σ), j ≤ n ∧ i = .int .i64 j ∧ Hid (R = rest step d l dep j sj) ∧ Hid (Kp S w wr) ∧ Hid (Inv sj wr)) (fun i _ => n - (RowKit.intOf i).toNat)
  case atStart => exact ⟨0, s, by omega, rfl, HR, Kp.refl S w, Hs⟩
  case round =>
    obtain ⟨j, sj, hj, rfl, HK, HKP, HSJ⟩ := hrel
    by_cases hgo : j < n
    · obtain ⟨b, off, cap3, hv2, hx⟩ := HX.out (by omega)
      injection hv2 with ho h2 h3
      subst ho
      obtain ⟨x, hxk⟩ : ∃ x, l[j]? = some x := ⟨_, List.getElem?_eq_getElem (by omega)⟩
      have hbr := Kp.below HS.out HB.out HKP.out
      have hx' := (hx j x hxk).on hbr (At.on hbr d)
      have c0 := hx'.op
      have c1 := hx'.a
      have c2 := hx'.b
      have c3 := hx'.n
      obtain ⟨lv, c4, a4⟩ := hx'.labels
      obtain ⟨bv, c5, _⟩ := hx'.body
      obtain ⟨ev, c6, _⟩ := hx'.els
      obtain ⟨bv', c5', a5⟩ := (hx j x hxk).body
      obtain ⟨ev', c6', a6⟩ := (hx j x hxk).els
      obtain rfl : bv' = bv := Option.some.inj ((cell_on hbr c5').symm.trans c5)
      obtain rfl : ev' = ev := Option.some.inj ((cell_on hbr c6').symm.trans c6)
      have HN := hideM (HK.out.trans (rest_on hxk))
      obtain ⟨lo, lc, rfl⟩ := Row.len a4
      obtain ⟨bo, bc, rfl⟩ := At.len d bv' x.body a5
      obtain ⟨eo, ec, rfl⟩ := At.len d ev' x.els a6
      have HSN := HSee.out sj (sn x) (.slice lo x.labels.length lc) (.slice bo (size d x.body) bc) (.slice eo (size d x.els) ec) dep
      generalize hnb : size d x.body = nb at *
      generalize hne : size d x.els = ne at *
      generalize hnl : x.labels.length = nl at *
      have A4 := hideM a4
      have A5 := hideM a5
      have A6 := hideM a6
      have HNB := hideM hnb
      have HNE := hideM hne
      have HNL := hideM hnl
      have HBR := hideM hbr
      have HSX := hideM HSN
      clear hx' h2 h3 HX a4 a5 a6 hxk hnb hne hnl hbr hx c5' c6' HSN HK
      go_upto_region 3 with fail
      obtain ⟨wa, hwa⟩ : ∃ wa, wa = wr.alloc (Obj.cells #[.int .i64 x.op, .int .i64 x.a, .int .i64 x.b, .int .i64 x.n, .slice lo nl lc, .slice bo nb bc, .slice eo ne ec] 52) := ⟨_, rfl⟩
      rw [← hwa]
      have hsz : wa.heap.size = wr.heap.size + 1 := by rw [hwa]; exact size_alloc _ _
      have n0 : wa.cell? ⟨wr.heap.size, 0, none⟩ = some (.int .i64 x.op) := by rw [hwa]; exact new_cell _ _ _ _ _ rfl
      have n1 : wa.cell? ⟨wr.heap.size, 1, none⟩ = some (.int .i64 x.a) := by rw [hwa]; exact new_cell _ _ _ _ _ rfl
      have n2 : wa.cell? ⟨wr.heap.size, 2, none⟩ = some (.int .i64 x.b) := by rw [hwa]; exact new_cell _ _ _ _ _ rfl
      have n3 : wa.cell? ⟨wr.heap.size, 3, none⟩ = some (.int .i64 x.n) := by rw [hwa]; exact new_cell _ _ _ _ _ rfl
      have n4 : wa.cell? ⟨wr.heap.size, 4, none⟩ = some (.slice lo nl lc) := by rw [hwa]; exact new_cell _ _ _ _ _ rfl
      have n5 : wa.cell? ⟨wr.heap.size, 5, none⟩ = some (.slice bo nb bc) := by rw [hwa]; exact new_cell _ _ _ _ _ rfl
      have n6 : wa.cell? ⟨wr.heap.size, 6, none⟩ = some (.slice eo ne ec) := by rw [hwa]; exact new_cell _ _ _ _ _ rfl
      have hka : Hid (Kp S w wa) := by rw [hwa]; exact HKP.out.alloc _
      have hra : Below wr.heap.size wr wa := by rw [hwa]; exact (Below.refl _ wr).alloc (Nat.le_refl _) _
      have HRA := hideM hra
      clear hwa hra c0 c1 c2 c3 c4 c5 c6
      go_wp2_with fail
      refine (HSX.out wa (Kp.below HS.out HB.out hka.out) (HI.out _ _ _ HRA.out HSJ.out) (A4.out.on HRA.out) ⟨bo, bc, by rw [← HNB.out]; rfl⟩ ⟨eo, ec, by rw [← HNE.out]; rfl⟩ (by omega)).mono ?_
      rintro e u ⟨hk1, hcase⟩
      have HK1 := hideM hk1
      have hwr : ¬ S wr.heap.size := fun hh => by have h1 := HS2.out _ hh; have h2 := HKP.out.size; omega
      have HWR := hideM hwr
      have hku := hideM (hka.out.trans hk1)
      have m5 := (hk1.cell (p := ⟨wr.heap.size, 5, none⟩) (by show wr.heap.size < _; omega) hwr).trans n5
      have m6 := (hk1.cell (p := ⟨wr.heap.size, 6, none⟩) (by show wr.heap.size < _; omega) hwr).trans n6
      have hus := hk1.size
      clear hk1 hwr n0 n1 n2 n3 n4 n5 n6
      rcases hcase with ⟨s1, e1, rfl, i1⟩ | ⟨e1, rfl⟩
      · have I1 := hideM i1
        have E1 := hideM e1
        clear i1 e1
        go_wp2_with fail
        refine (HIH.out _ x.body (dep + 1) s1 u A5.out (Kp.below HS.out HB.out hku.out) I1.out (fun q hq => Nat.lt_of_lt_of_le (HS2.out q hq) hku.out.size) (by omega)).mono ?_
        rintro e u2 ⟨hk2, hcase⟩
        have hku2 := hideM (hku.out.trans hk2)
        have p6 := (hk2.cell (p := ⟨wr.heap.size, 6, none⟩) (by show wr.heap.size < _; omega) HWR.out).trans m6
        clear hk2 m5 m6
        rcases hcase with ⟨s2, e2, rfl, i2⟩ | ⟨e2, rfl⟩
        · have I2 := hideM i2
          have E2 := hideM e2
          clear i2 e2
          go_wp2_with fail
          refine (HIH.out _ x.els (dep + 1) s2 u2 A6.out (Kp.below HS.out HB.out hku2.out) I2.out (fun q hq => Nat.lt_of_lt_of_le (HS2.out q hq) hku2.out.size) (by omega)).mono ?_
          rintro e u3 ⟨hk3, hcase⟩
          have hku3 := hideM (hku2.out.trans hk3)
          clear hk3 p6
          rcases hcase with ⟨s3, e3, rfl, i3⟩ | ⟨e3, rfl⟩
          · have HF : Hid (R = rest step d l dep (j + 1) s3) := by
              have := HN.out; rw [E1.out, Option.bind_some, E2.out, Option.bind_some, e3, Option.bind_some] at this; exact this
            have I3 := hideM i3
            clear i3 e3
            go_wp2
            go_roundw
            case rel => exact ⟨j + 1, s3, by omega, by go_num, HF, hku3, I3⟩
            case measure => simp [RowKit.intOf]; omega
          · have HF : R = none := by
              have := HN.out; rw [E1.out, Option.bind_some, E2.out, Option.bind_some, e3, Option.bind_none] at this; exact this
            go_wp2
            exact ⟨rfl, hku3.out, .inr ⟨HF, rfl⟩⟩
        · have HF : R = none := by
            have := HN.out; rw [E1.out, Option.bind_some, e2, Option.bind_none] at this; exact this
          go_wp2
          exact ⟨rfl, hku2.out, .inr ⟨HF, rfl⟩⟩
      · have HF : R = none := by
          have := HN.out; rw [e1, Option.bind_none] at this; exact this
        go_wp2
        exact ⟨rfl, hku.out, .inr ⟨HF, rfl⟩⟩
    · have HE : R = some sj := HK.out.trans (rest_end (by omega))
      have HEE := hideM HE
      clear HE HK
      go_wp2
      go_end0
      exact ⟨HKP.out, .inl ⟨sj, HEE.out, rfl, HSJ.out⟩⟩

theorem pWalkC {σ : Type} (w0 : World) (S : Nat → Prop) (hS : ∀ k, S k → w0.heap.size ≤ k) (Inv : σ → World → Prop) (hI : ∀ s w w', Below w.heap.size w w' → Inv s w → Inv s w')
    (step : σ → Sn → Nat → Option σ) (k : Int) (see : SeeC 36 (fun x y => #[x, y]) w0 S Inv step k) : ∀ (d : Nat), WalkSays (.func (.func 36) #[] #[]) w0 S Inv step k d
  | 0 => fun v l dep s w ⟨o, c, hv⟩ hb hs hS2 hd => by
    subst hv
    exact pWalk0C w0 S Inv step k o c l dep s w hs
  | d + 1 => fun v l dep s w hAt hb hs hS2 hd => pWalkSC w0 S hS Inv hI step k see d (pWalkC w0 S hS Inv hI step k see d) v l dep s w hAt hb hs hS2 hd
end Go.Proofs.YtloelineidlenaaGreatDoor

namespace Go.Proofs.YtloelineidlenaaGreatDoor
open Go.RowKit Rep
set_option linter.unusedVariables false

set_option maxHeartbeats 2000000 in
theorem pWalkMC {σ : Type} (w0 : World) (S : Nat → Prop) (hS : ∀ k, S k → w0.heap.size ≤ k) (Inv : σ → World → Prop) (hI : ∀ s w w', Below w.heap.size w w' → Inv s w → Inv s w')
    (step : σ → Sn → Nat → Option σ) (k : Int) (see : SeeC 36 (fun x y => #[x, y]) w0 S Inv step k) (d : Nat) (hd : d ≤ 4611686018427387904)
    (v0 v1 v2 v3 v4 v5 v6 v7 v8 v9 : Value) (l : List (Fun d)) (s : σ) (w : World) (hAt : Row 3 (FunAt w0 d) v2 l) (hT : TenSlices v0 v1 v3 v4 v5 v6 v7 v8 v9) (hb : Below w0.heap.size w0 w) (hs : Inv s w) (hS2 : ∀ k, S k → k < w.heap.size) :
    Calls Tryz.prog 33 #[.agg #[v0, v1, v2, v3, v4, v5, v6, v7, v8, v9], .func (.func 36) #[] #[]] w fun e w' =>
      Kp S w w' ∧ ((∃ s', goF step d l s = some s' ∧ e = .returned (.tuple #[]) ∧ Inv s' w') ∨ (goF step d l s = none ∧ e = .panicked (gave k))) := by
  have hlen := hAt.1
  obtain ⟨o, cap2, hv⟩ := Row.len hAt
  have hx := Row.some hAt
  subst hv
  obtain ⟨⟨o0, m0, c0, rfl⟩, ⟨o1, m1, c1, rfl⟩, ⟨o3, m3, c3, rfl⟩, ⟨o4, m4, c4, rfl⟩, ⟨o5, m5, c5, rfl⟩, ⟨o6, m6, c6, rfl⟩, ⟨o7, m7, c7, rfl⟩, ⟨o8, m8, c8, rfl⟩, ⟨o9, m9, c9, rfl⟩⟩ := hT
  obtain ⟨R, hR⟩ : ∃ R, R = goF step d l s := ⟨_, rfl⟩
  rw [← hR]
  have HR : Hid (R = goF step d (l.drop 0) s) := hR
  have HX := hideM hx
  clear hx hAt hR
  generalize hn : l.length = n at *
  have HWk := hideM (pWalkC w0 S hS Inv hI step k see d)
  have HI := hideM hI
  have HS := hideM hS
  have HS2 := hideM hS2
  have HB := hideM hb
  have Hs := hideM hs
  clear see hI hS hb hs hS2
  go_enter Tryz.func33, Tryz.ntmps33
  go_wp2_with fail
  go_loopw [9] (fun i wr => ∃ (j : Nat) (sj : σ), j ≤ n ∧ i = .int .i64 j ∧ Hid (R = goF step d (l.drop j) sj) ∧ Hid (Kp S w wr) ∧ Hid (Inv sj wr)) (fun i _ => n - (RowKit.intOf i).toNat)
  case atStart => exact ⟨0, s, by omega, rfl, HR, (Kp.refl S w).alloc _, HI.out _ _ _ ((Below.refl _ w).alloc (Nat.le_refl _) _) Hs.out⟩
  case round =>
    obtain ⟨j, sj, hj, rfl, HK, HKP, HSJ⟩ := hrel
    by_cases hgo : j < n
    · obtain ⟨b, off, cap3, hv2, hx⟩ := HX.out (by omega)
      injection hv2 with ho h2 h3
      subst ho
      obtain ⟨x, hxk⟩ : ∃ x, l[j]? = some x := ⟨_, List.getElem?_eq_getElem (by omega)⟩
      have hbr := Kp.below HS.out HB.out HKP.out
      have hx' := (hx j x hxk).on hbr
      have c0 := hx'.type
      obtain ⟨lv, c1, a1⟩ := hx'.locals
      obtain ⟨bv', c2', a2⟩ := (hx j x hxk).body
      have c2 := cell_on hbr c2'
      have HN := hideM (HK.out.trans (goF_on hxk))
      obtain ⟨lo, lc, rfl⟩ := Row.len a1
      obtain ⟨bo, bc, rfl⟩ := At.len d bv' x.body a2
      generalize hnb : size d x.body = nb at *
      generalize hnl : x.locals.length = nl at *
      have A2 := hideM a2
      clear hx' h2 h3 HX a1 a2 hxk hnb hnl hbr hx c2' HK
      go_upto_region 4 with fail
      obtain ⟨wa, hwa⟩ : ∃ wa, wa = wr.alloc (Obj.cells #[.int .i64 x.type, .slice lo nl lc, .slice bo nb bc] 44) := ⟨_, rfl⟩
      rw [← hwa]
      have hsz : wa.heap.size = wr.heap.size + 1 := by rw [hwa]; exact size_alloc _ _
      have n2 : wa.cell? ⟨wr.heap.size, 2, none⟩ = some (.slice bo nb bc) := by rw [hwa]; exact new_cell _ _ _ _ _ rfl
      have hka : Hid (Kp S w wa) := by rw [hwa]; exact HKP.out.alloc _
      have hra : Below wr.heap.size wr wa := by rw [hwa]; exact (Below.refl _ wr).alloc (Nat.le_refl _) _
      have HRA := hideM hra
      clear hwa hra c0 c1 c2
      go_wp2_with fail
      refine (HWk.out _ x.body 0 sj wa A2.out (Kp.below HS.out HB.out hka.out) (HI.out _ _ _ HRA.out HSJ.out) (fun q hq => Nat.lt_of_lt_of_le (HS2.out q hq) hka.out.size) (by omega)).mono ?_
      rintro e u ⟨hk1, hcase⟩
      have hku := hideM (hka.out.trans hk1)
      clear hk1
      rcases hcase with ⟨s1, e1, rfl, i1⟩ | ⟨e1, rfl⟩
      · have HF : Hid (R = goF step d (l.drop (j + 1)) s1) := by
          have := HN.out; rw [e1, Option.bind_some] at this; exact this
        have I1 := hideM i1
        clear i1 e1
        go_wp2
        go_roundw
        case rel => exact ⟨j + 1, s1, by omega, by go_num, HF, hku, I1⟩
        case measure => simp [RowKit.intOf]; omega
      · have HF : R = none := by
          have := HN.out; rw [e1, Option.bind_none] at this; exact this
        go_wp2
        exact ⟨rfl, hku.out, .inr ⟨HF, rfl⟩⟩
    · have HE : R = some sj := HK.out.trans (goF_end (by omega))
      have HEE := hideM HE
      clear HE HK
      go_wp2
      go_end0
      exact ⟨HKP.out, .inl ⟨sj, HEE.out, rfl, HSJ.out⟩⟩
end Go.Proofs.YtloelineidlenaaGreatDoor

namespace Go.Proofs.YtloelineidlenaaGreatDoor
open Go.RowKit Rep
set_option linter.unusedVariables false

theorem assert_yes (k : Int) (w : World) : (Instr.typeAssert (.iface 36 (.int .i64 k)) 20 36 true).run Tryz.prog w = .ok (.tuple #[.int .i64 k, .bool true]) w := by
  kernel_rfl
theorem assert_no (w : World) : (Instr.typeAssert .nilIface 20 36 true).run Tryz.prog w = .ok (.tuple #[.int .i64 0, .bool false]) w := by
  kernel_rfl

theorem checkCatch (p : Addr) (x k : Int) (older : List PanicEntry) (w : World) (hc : w.cell? p = some (.int .i64 x)) (hz : w.frozen? p = false) :
    CallsD Tryz.prog 30 #[.pointer (some p)] (.panicking ({ v := .iface 36 (.int .i64 k), recovered := false } :: older)) w fun e u' w' =>
      e = .returned (.tuple #[]) ∧ u' = .panicking ({ v := .iface 36 (.int .i64 k), recovered := true } :: older) ∧ w' = w.setCell p (.int .i64 k) := by
  refine callsD_of_wpS Tryz.func30 rfl fun c₀ cs hu => ?_
  apply wpS_seq
  apply wpS_region
  simp [wpOpsS, go_sem, recoverD, hu, Tryz.ntmps30, Exit.thenS, assert_yes]
  apply wpS_seq
  apply wpS_region
  simp [wpOpsS, go_sem, Exit.thenS]
  refine wpS_cond (t := true) (by simp [Act.eval, Array.replicate]) ?_
  simp only [if_true]
  apply wpS_region
  simp [wpOpsS, go_sem, hc, hz, bodyPostS, results, Tryz.results30]

theorem checkIdle (p : Addr) (w : World) :
    CallsD Tryz.prog 30 #[.pointer (some p)] .returning w fun e u' w' => e = .returned (.tuple #[]) ∧ u' = .returning ∧ w' = w := by
  refine callsD_of_wpS Tryz.func30 rfl fun c₀ cs hu => ?_
  apply wpS_seq
  apply wpS_region
  simp [wpOpsS, go_sem, recoverD, hu, Tryz.ntmps30, Exit.thenS, assert_no]
  apply wpS_seq
  apply wpS_region
  simp [wpOpsS, go_sem, Exit.thenS]
  refine wpS_cond (t := false) (by simp [Act.eval, Array.replicate]) ?_
  simp only [Bool.false_eq_true, if_false]
  refine wpS_of_wp (wp_skip ?_)
  cases c₀
  simp_all [bodyPostS, results, Tryz.results30]

namespace Rep
def nm (s : ByteArray) : Bool := decide ((s.size : Int) ≤ 64) && Lib.validD s.data.toList
def cstOk {d : Nat} (x : Ins (IL d)) : Bool := cst x.op && okS (sn x)
def shT (t : FT) : Bool := t.params.all typ && t.results.all typ
def shI (i : Imp) : Bool := (nm i.mod && (nm i.name && true)) && (idx i.type && true)
def shF {d : Nat} (f : Fun d) : Bool := (idx f.type && true) && f.locals.all typ
def shL (l : Lim) : Bool := (idx l.min && (idx l.max && true)) && (l.has || l.max == 0)
def shG {d : Nat} (g : Glo d) : Bool := (typ g.type && true) && cstOk g.init
def shE (e : Exp) : Bool := (nm e.name && true) && ((decide (0 ≤ e.kind) && decide (e.kind ≤ 3)) && (idx e.index && true))
def shM {d : Nat} (m : Mod d) : Bool :=
  m.types.all shT && (m.imports.all shI && (m.funcs.all shF && ((m.tables ++ m.mems).all shL && (m.globals.all shG && (m.exports.all shE && (m.start.all idx && (m.elems.all (fun e => cstOk e.offset && e.funcs.all idx) && m.datas.all fun x => cstOk x.offset)))))))
def chk {d : Nat} (m : Mod d) : Int :=
  if fewM m = true then
    match goF stepCount d m.funcs 0 with
    | none => 3
    | some _ =>
      match goF stepLabels d m.funcs () with
      | none => 3
      | some _ =>
        match goF stepDepth d m.funcs () with
        | none => 4
        | some _ =>
          if shM m = true then
            match goF stepForm d m.funcs () with
            | none => 30
            | some _ => 0
          else 30
  else 3
structure CkSt (w : World) (v0 v1 v2 v3 v4 v5 v6 v7 v8 v9 : Value) (u : World) : Prop where
  box : Box w v0 v1 v2 v3 v4 v5 v6 v7 v8 v9 u
  err : u.cell? ⟨w.heap.size + 1, 0, none⟩ = some (.int .i64 0)
  fz : u.frozen? ⟨w.heap.size + 1, 0, none⟩ = false
theorem CkSt.on {w : World} {v0 v1 v2 v3 v4 v5 v6 v7 v8 v9 : Value} {u u' : World} (hb : Below u.heap.size u u') (h : CkSt w v0 v1 v2 v3 v4 v5 v6 v7 v8 v9 u) : CkSt w v0 v1 v2 v3 v4 v5 v6 v7 v8 v9 u' :=
  ⟨h.box.on hb, cell_on hb h.err, (hb.frozen (p := ⟨w.heap.size + 1, 0, none⟩) (World.block_lt_of_cell? _ _ h.err)).trans h.fz⟩
theorem CkSt.start (w : World) (t t2 : TypeId) (v0 v1 v2 v3 v4 v5 v6 v7 v8 v9 : Value) : CkSt w v0 v1 v2 v3 v4 v5 v6 v7 v8 v9 ((w.alloc (.cells #[v0, v1, v2, v3, v4, v5, v6, v7, v8, v9] t)).alloc (.cells #[.int .i64 0] t2)) :=
  ⟨(Box.start w t v0 v1 v2 v3 v4 v5 v6 v7 v8 v9).new _, by rw [World.cell?_alloc_at _ _ _ _ (by simp)]; rfl, by rw [World.frozen?_alloc_at _ _ _ _ (by simp)]⟩
end Rep

set_option maxHeartbeats 4000000 in
theorem pCheck {I : World → Prop} (C : FormC I) (d : Nat) (hd : d ≤ 4611686018427387904) (v0 v1 v2 v3 v4 v5 v6 v7 v8 v9 : Value) (m : Mod d) (w : World) (hI : I w) (hM : ModAt w d v0 v1 v2 v3 v4 v5 v6 v7 v8 v9 m) (hsz : ∀ x ∈ m.datas, x.bytes.size ≤ 9223372036854775807)
    (hSh : fewM m = true → ∀ w', Below w.heap.size w w' → Calls Tryz.prog 38 #[.agg #[v0, v1, v2, v3, v4, v5, v6, v7, v8, v9]] w' fun e u => Needs (shM m) 30 e ∧ Below w'.heap.size w' u) :
    Calls Tryz.prog 17 #[.agg #[v0, v1, v2, v3, v4, v5, v6, v7, v8, v9]] w fun e w' => e = .returned (.int .i64 (chk m)) ∧ Below w.heap.size w w' := by
  have HT := hideM hM.ten
  have HM := hideM hM
  have HII := hideM hI
  have HFew := hideM fun (w' : World) (h : Below w.heap.size w w') => pneedFew d v0 v1 v2 v3 v4 v5 v6 v7 v8 v9 m w' (hM.on h) hsz
  have HCnt := hideM fun (w' : World) (h : Below w.heap.size w w') => pcountInstructions d hd v0 v1 v2 v3 v4 v5 v6 v7 v8 v9 m.funcs w' (hM.on h).funcs hM.ten
  have HLab := hideM fun (w' : World) (h : Below w.heap.size w w') => pWalkMB w' (fun _ => False) (fun _ hh => hh.elim) (fun (_ : Unit) _ => True) (fun _ _ _ _ _ => trivial) stepLabels 3 (seeLabels w') d hd v0 v1 v2 v3 v4 v5 v6 v7 v8 v9 m.funcs () w' (hM.on h).funcs hM.ten (Below.refl _ _) trivial (fun _ hh => hh.elim)
  have HDep := hideM fun (w' : World) (h : Below w.heap.size w w') => pWalkMC w' (fun _ => False) (fun _ hh => hh.elim) (fun (_ : Unit) _ => True) (fun _ _ _ _ _ => trivial) stepDepth 4 (seeDepth w') d hd v0 v1 v2 v3 v4 v5 v6 v7 v8 v9 m.funcs () w' (hM.on h).funcs hM.ten (Below.refl _ _) trivial (fun _ hh => hh.elim)
  have HFor := hideM fun (w' : World) (h : Below w.heap.size w w') => pWalkMD w' (fun _ => False) (fun _ hh => hh.elim) (fun (_ : Unit) u => I u) (fun _ _ _ hb hi => C.keep hb hi) stepForm 30 (seeForm C w') d hd v0 v1 v2 v3 v4 v5 v6 v7 v8 v9 m.funcs () w' (hM.on h).funcs hM.ten (Below.refl _ _) (C.keep h hI) (fun _ hh => hh.elim)
  have HSh := hideM hSh
  have HS0 := hideM (CkSt.start w 32 36 v0 v1 v2 v3 v4 v5 v6 v7 v8 v9)
  obtain ⟨R, hR⟩ : ∃ R, R = chk m := ⟨_, rfl⟩
  rw [← hR]
  unfold chk at hR
  have HR := hideM hR
  obtain ⟨o2, n2, c2, rfl⟩ := Row.slice hM.funcs
  obtain ⟨⟨o0, n0, c0, rfl⟩, ⟨o1, n1, c1, rfl⟩, ⟨o3, n3, c3, rfl⟩, ⟨o4, n4, c4, rfl⟩, ⟨o5, n5, c5, rfl⟩, ⟨o6, n6, c6, rfl⟩, ⟨o7, n7, c7, rfl⟩, ⟨o8, n8, c8, rfl⟩, ⟨o9, n9, c9, rfl⟩⟩ := hM.ten
  clear hM hR hsz hSh hI
  generalize fewM m = r1 at *
  generalize goF stepCount d m.funcs 0 = r2 at *
  generalize goF stepLabels d m.funcs () = r3 at *
  generalize goF stepDepth d m.funcs () = r4 at *
  generalize shM m = r5 at *
  generalize goF stepForm d m.funcs () = r6 at *
  have hmf : ∀ (fn : Fn) (first cap : Array Value) (w : World), (Instr.makeFunc fn first cap).run Tryz.prog w = .ok (.func fn first cap) w := fun _ _ _ _ => rfl
  go_enter_defers Tryz.func17, Tryz.ntmps17
  go_upto_region 2 with fail
  obtain ⟨wb, hwb⟩ : ∃ wb, wb = (w.alloc (.cells #[.slice o0 n0 c0, .slice o1 n1 c1, .slice o2 n2 c2, .slice o3 n3 c3, .slice o4 n4 c4, .slice o5 n5 c5, .slice o6 n6 c6, .slice o7 n7 c7, .slice o8 n8 c8, .slice o9 n9 c9] 32)).alloc (.cells #[.int .i64 0] 36) := ⟨_, rfl⟩
  rw [← hwb]
  rw [← hwb] at HS0
  clear hwb

  obtain ⟨⟨q0, q1, q2, q3, q4, q5, q6, q7, q8, q9, qb⟩, qe, qz⟩ := HS0.out
  clear qb
  go_wp2_with fail
  refine (HFew.out _ HS0.out.box.bel).mono ?_
  rintro e w1 ⟨hN, hbb⟩
  have HS1 := hideM (HS0.out.on hbb)
  clear hbb q0 q1 q2 q3 q4 q5 q6 q7 q8 q9 qe qz HS0 HFew
  rcases hN with ⟨rfl, rfl⟩ | ⟨rfl, rfl⟩
  rotate_left
  · have HF : R = 3 := by rw [HR.out]; rfl
    obtain ⟨_, qe, qz⟩ := HS1.out
    have HQB := hideM HS1.out.box.bel
    clear HR
    subst HF
    go_wp2_with fail
    refine leaves_cons (f := 30) (args := #[.pointer (some ⟨w.heap.size + 1, 0, none⟩)]) (by simp) (by simp [go_sem]) ?_
    refine (checkCatch ⟨w.heap.size + 1, 0, none⟩ 0 3 [] _ qe qz).mono ?_
    rintro e u' w'' ⟨rfl, rfl, rfl⟩
    simp [Leaves, settle, results, Tryz.results17, go_sem, qe]
    exact below_set HQB.out 0 _
  obtain ⟨⟨q0, q1, q2, q3, q4, q5, q6, q7, q8, q9, qb⟩, qe, qz⟩ := HS1.out
  clear qb
  go_wp2_with fail
  refine (HCnt.out _ HS1.out.box.bel).mono ?_
  rintro e w2 ⟨hbb, hN⟩
  have HS2 := hideM (HS1.out.on hbb)
  clear hbb q0 q1 q2 q3 q4 q5 q6 q7 q8 q9 qe qz HS1 HCnt
  rcases hN with ⟨cc, rfl, hcc, rfl⟩ | ⟨rfl, rfl⟩
  rotate_left
  · have HF : R = 3 := by rw [HR.out]; rfl
    obtain ⟨_, qe, qz⟩ := HS2.out
    have HQB := hideM HS2.out.box.bel
    clear HR
    subst HF
    go_wp2_with fail
    refine leaves_cons (f := 30) (args := #[.pointer (some ⟨w.heap.size + 1, 0, none⟩)]) (by simp) (by simp [go_sem]) ?_
    refine (checkCatch ⟨w.heap.size + 1, 0, none⟩ 0 3 [] _ qe qz).mono ?_
    rintro e u' w'' ⟨rfl, rfl, rfl⟩
    simp [Leaves, settle, results, Tryz.results17, go_sem, qe]
    exact below_set HQB.out 0 _
  obtain ⟨⟨q0, q1, q2, q3, q4, q5, q6, q7, q8, q9, qb⟩, qe, qz⟩ := HS2.out
  clear qb
  go_wp2_with fail
  refine (HLab.out _ HS2.out.box.bel).mono ?_
  rintro e w3 ⟨hkk, hN⟩
  have hbb := Kp.to_below hkk
  clear hkk
  have HS3 := hideM (HS2.out.on hbb)
  clear hbb q0 q1 q2 q3 q4 q5 q6 q7 q8 q9 qe qz HS2 HLab
  rcases hN with ⟨ss, rfl, rfl, _⟩ | ⟨rfl, rfl⟩
  rotate_left
  · have HF : R = 3 := by rw [HR.out]; rfl
    obtain ⟨_, qe, qz⟩ := HS3.out
    have HQB := hideM HS3.out.box.bel
    clear HR
    subst HF
    go_wp2_with fail
    refine leaves_cons (f := 30) (args := #[.pointer (some ⟨w.heap.size + 1, 0, none⟩)]) (by simp) (by simp [go_sem]) ?_
    refine (checkCatch ⟨w.heap.size + 1, 0, none⟩ 0 3 [] _ qe qz).mono ?_
    rintro e u' w'' ⟨rfl, rfl, rfl⟩
    simp [Leaves, settle, results, Tryz.results17, go_sem, qe]
    exact below_set HQB.out 0 _
  obtain ⟨⟨q0, q1, q2, q3, q4, q5, q6, q7, q8, q9, qb⟩, qe, qz⟩ := HS3.out
  clear qb
  go_wp2_with fail
  refine (HDep.out _ HS3.out.box.bel).mono ?_
  rintro e w4 ⟨hkk, hN⟩
  have hbb := Kp.to_below hkk
  clear hkk
  have HS4 := hideM (HS3.out.on hbb)
  clear hbb q0 q1 q2 q3 q4 q5 q6 q7 q8 q9 qe qz HS3 HDep
  rcases hN with ⟨ss, rfl, rfl, _⟩ | ⟨rfl, rfl⟩
  rotate_left
  · have HF : R = 4 := by rw [HR.out]; rfl
    obtain ⟨_, qe, qz⟩ := HS4.out
    have HQB := hideM HS4.out.box.bel
    clear HR
    subst HF
    go_wp2_with fail
    refine leaves_cons (f := 30) (args := #[.pointer (some ⟨w.heap.size + 1, 0, none⟩)]) (by simp) (by simp [go_sem]) ?_
    refine (checkCatch ⟨w.heap.size + 1, 0, none⟩ 0 4 [] _ qe qz).mono ?_
    rintro e u' w'' ⟨rfl, rfl, rfl⟩
    simp [Leaves, settle, results, Tryz.results17, go_sem, qe]
    exact below_set HQB.out 0 _
  obtain ⟨⟨q0, q1, q2, q3, q4, q5, q6, q7, q8, q9, qb⟩, qe, qz⟩ := HS4.out
  clear qb
  go_wp2_with fail
  refine (HSh.out (by first | trivial | rfl) _ HS4.out.box.bel).mono ?_
  rintro e w5 ⟨hN, hbb⟩
  have HS5 := hideM (HS4.out.on hbb)
  clear hbb q0 q1 q2 q3 q4 q5 q6 q7 q8 q9 qe qz HS4 HSh
  rcases hN with ⟨rfl, rfl⟩ | ⟨rfl, rfl⟩
  rotate_left
  · have HF : R = 30 := by rw [HR.out]; rfl
    obtain ⟨_, qe, qz⟩ := HS5.out
    have HQB := hideM HS5.out.box.bel
    clear HR
    subst HF
    go_wp2_with fail
    refine leaves_cons (f := 30) (args := #[.pointer (some ⟨w.heap.size + 1, 0, none⟩)]) (by simp) (by simp [go_sem]) ?_
    refine (checkCatch ⟨w.heap.size + 1, 0, none⟩ 0 30 [] _ qe qz).mono ?_
    rintro e u' w'' ⟨rfl, rfl, rfl⟩
    simp [Leaves, settle, results, Tryz.results17, go_sem, qe]
    exact below_set HQB.out 0 _
  obtain ⟨⟨q0, q1, q2, q3, q4, q5, q6, q7, q8, q9, qb⟩, qe, qz⟩ := HS5.out
  clear qb
  go_wp2_with fail
  refine (HFor.out _ HS5.out.box.bel).mono ?_
  rintro e w6 ⟨hkk, hN⟩
  have hbb := Kp.to_below hkk
  clear hkk
  have HS6 := hideM (HS5.out.on hbb)
  clear hbb q0 q1 q2 q3 q4 q5 q6 q7 q8 q9 qe qz HS5 HFor
  rcases hN with ⟨ss, rfl, rfl, _⟩ | ⟨rfl, rfl⟩
  rotate_left
  · have HF : R = 30 := by rw [HR.out]; rfl
    obtain ⟨_, qe, qz⟩ := HS6.out
    have HQB := hideM HS6.out.box.bel
    clear HR
    subst HF
    go_wp2_with fail
    refine leaves_cons (f := 30) (args := #[.pointer (some ⟨w.heap.size + 1, 0, none⟩)]) (by simp) (by simp [go_sem]) ?_
    refine (checkCatch ⟨w.heap.size + 1, 0, none⟩ 0 30 [] _ qe qz).mono ?_
    rintro e u' w'' ⟨rfl, rfl, rfl⟩
    simp [Leaves, settle, results, Tryz.results17, go_sem, qe]
    exact below_set HQB.out 0 _
  have HF : R = 0 := by rw [HR.out]; rfl
  obtain ⟨_, qe, qz⟩ := HS6.out
  have HQB := hideM HS6.out.box.bel
  clear HR
  subst HF
  go_wp2_with fail
  refine leaves_cons (f := 30) (args := #[.pointer (some ⟨w.heap.size + 1, 0, none⟩)]) (by simp) (by simp [go_sem]) ?_
  refine (checkIdle ⟨w.heap.size + 1, 0, none⟩ _).mono ?_
  rintro e u' w'' ⟨rfl, rfl, rfl⟩
  simp [Leaves, settle, results, Tryz.results17, go_sem, qe]
  exact below_set HQB.out 0 _
end Go.Proofs.YtloelineidlenaaGreatDoor
