/- What an operation tells: the program's Do and the document's, operation by operation: printed by gen_i2.py. -/
import Derived.Test.YtcnkjlngaoaikaaDoorI1
namespace Go.Proofs.YtcnkjlngaoaikaaDoor
open Go.RowKit Ints
set_option linter.unusedVariables false
theorem dO_1 (a b : Int) : dO 1 a b = (wr (a + b), true) := rfl
theorem dO_2 (a b : Int) : dO 2 a b = (wr (a - b), true) := rfl
theorem dO_3 (a b : Int) : dO 3 a b = (wr (a * b), true) := rfl
theorem dO_4 (a b : Int) : dO 4 a b = (if wr b = 0 then 0 else wr ((wr a).tdiv (wr b)), !decide (wr b = 0)) := by show (if wr b = 0 then _ else _) = _; by_cases h : wr b = 0 <;> simp [h]
theorem dO_5 (a b : Int) : dO 5 a b = (if wr b = 0 then 0 else (wr a).tmod (wr b), !decide (wr b = 0)) := by show (if wr b = 0 then _ else _) = _; by_cases h : wr b = 0 <;> simp [h]
theorem dO_6 (a b : Int) : dO 6 a b = (if decide (wr a < wr b) then 1 else 0, true) := by show ((if wr a < wr b then _ else _), _) = _; simp
theorem dO_7 (a b : Int) : dO 7 a b = (if wr a == wr b then 1 else 0, true) := by show ((if wr a = wr b then _ else _), _) = _; simp
theorem dO_0 {op : Int} (a b : Int) (h : op ≠ 1 ∧ op ≠ 2 ∧ op ≠ 3 ∧ op ≠ 4 ∧ op ≠ 5 ∧ op ≠ 6 ∧ op ≠ 7) : dO op a b = (0, false) := by unfold dO; simp [h]
set_option maxHeartbeats 1000000 in
theorem iDo1 (a b : Int) (w : World) (a0 : -9223372036854775808 ≤ a) (a1 : a ≤ 9223372036854775807) (b0 : -9223372036854775808 ≤ b) (b1 : b ≤ 9223372036854775807) : Calls Tryd.prog 13 #[.int .i64 1, .int .i64 a, .int .i64 b] w fun e w' => e = .returned (.tuple #[.int .i64 (dO 1 a b).1, .bool (dO 1 a b).2]) ∧ w' = w := by
  have HA := hideR (fun w => iWrap a w a0 a1)
  have HB := hideR (fun w => iWrap b w b0 b1)
  have hx := wr_bd a
  have hy := wr_bd b
  rw [dO_1, ← wr_add]
  have hb2 := And.intro hx hy
  have HC : Hid (∀ w : World, Calls Tryd.prog 10 #[.int .i64 (wr a + wr b)] w fun e w' => e = .returned (.int .i64 (wr (wr a + wr b))) ∧ w' = w) := hideR fun w => iWrap _ w (by omega) (by omega)
  have hq := i64_add hx hy
  clear hb2
  clear a0 a1 b0 b1
  generalize wr a = x at *
  generalize wr b = y at *
  go_enter Tryd.func13, Tryd.ntmps13
  go_wp2_with fail
  refine (HA.out _).mono ?_
  rintro e u ⟨rfl, rfl⟩
  go_wp2_with fail
  refine (HB.out _).mono ?_
  rintro e u ⟨rfl, rfl⟩
  clear HA HB
  go_wp2_with fail
  try rw [hq]
  refine (HC.out _).mono ?_
  rintro e u ⟨rfl, rfl⟩
  go_wp2
  go_ret2
  exact ⟨rfl, rfl⟩
set_option maxHeartbeats 1000000 in
theorem iDo2 (a b : Int) (w : World) (a0 : -9223372036854775808 ≤ a) (a1 : a ≤ 9223372036854775807) (b0 : -9223372036854775808 ≤ b) (b1 : b ≤ 9223372036854775807) : Calls Tryd.prog 13 #[.int .i64 2, .int .i64 a, .int .i64 b] w fun e w' => e = .returned (.tuple #[.int .i64 (dO 2 a b).1, .bool (dO 2 a b).2]) ∧ w' = w := by
  have HA := hideR (fun w => iWrap a w a0 a1)
  have HB := hideR (fun w => iWrap b w b0 b1)
  have hx := wr_bd a
  have hy := wr_bd b
  rw [dO_2, ← wr_sub]
  have hb2 := And.intro hx hy
  have HC : Hid (∀ w : World, Calls Tryd.prog 10 #[.int .i64 (wr a - wr b)] w fun e w' => e = .returned (.int .i64 (wr (wr a - wr b))) ∧ w' = w) := hideR fun w => iWrap _ w (by omega) (by omega)
  have hq := i64_sub hx hy
  clear hb2
  clear a0 a1 b0 b1
  generalize wr a = x at *
  generalize wr b = y at *
  go_enter Tryd.func13, Tryd.ntmps13
  go_wp2_with fail
  refine (HA.out _).mono ?_
  rintro e u ⟨rfl, rfl⟩
  go_wp2_with fail
  refine (HB.out _).mono ?_
  rintro e u ⟨rfl, rfl⟩
  clear HA HB
  go_wp2_with fail
  try rw [hq]
  refine (HC.out _).mono ?_
  rintro e u ⟨rfl, rfl⟩
  go_wp2
  go_ret2
  exact ⟨rfl, rfl⟩
set_option maxHeartbeats 1000000 in
theorem iDo3 (a b : Int) (w : World) (a0 : -9223372036854775808 ≤ a) (a1 : a ≤ 9223372036854775807) (b0 : -9223372036854775808 ≤ b) (b1 : b ≤ 9223372036854775807) : Calls Tryd.prog 13 #[.int .i64 3, .int .i64 a, .int .i64 b] w fun e w' => e = .returned (.tuple #[.int .i64 (dO 3 a b).1, .bool (dO 3 a b).2]) ∧ w' = w := by
  have HA := hideR (fun w => iWrap a w a0 a1)
  have HB := hideR (fun w => iWrap b w b0 b1)
  have hx := wr_bd a
  have hy := wr_bd b
  rw [dO_3, ← wr_mul]
  have hb2 := mul_bd hx hy
  have HC : Hid (∀ w : World, Calls Tryd.prog 10 #[.int .i64 (wr a * wr b)] w fun e w' => e = .returned (.int .i64 (wr (wr a * wr b))) ∧ w' = w) := hideR fun w => iWrap _ w (by omega) (by omega)
  have hq := i64_mul hx hy
  clear hb2
  clear a0 a1 b0 b1
  generalize wr a = x at *
  generalize wr b = y at *
  go_enter Tryd.func13, Tryd.ntmps13
  go_wp2_with fail
  refine (HA.out _).mono ?_
  rintro e u ⟨rfl, rfl⟩
  go_wp2_with fail
  refine (HB.out _).mono ?_
  rintro e u ⟨rfl, rfl⟩
  clear HA HB
  go_wp2_with fail
  try rw [hq]
  refine (HC.out _).mono ?_
  rintro e u ⟨rfl, rfl⟩
  go_wp2
  go_ret2
  exact ⟨rfl, rfl⟩
set_option maxHeartbeats 1000000 in
theorem rDo1 (a b : Int) (w : World) (a0 : -9223372036854775808 ≤ a) (a1 : a ≤ 9223372036854775807) (b0 : -9223372036854775808 ≤ b) (b1 : b ≤ 9223372036854775807) : Calls Tryd.prog 14 #[.int .i64 1, .int .i64 a, .int .i64 b] w fun e w' => e = .returned (.tuple #[.int .i64 (dO 1 a b).1, .bool (dO 1 a b).2]) ∧ w' = w := by
  have HA := hideR (fun w => rWrap a w a0 a1)
  have HB := hideR (fun w => rWrap b w b0 b1)
  have hx := wr_bd a
  have hy := wr_bd b
  rw [dO_1, ← wr_add]
  have hb2 := And.intro hx hy
  have HC : Hid (∀ w : World, Calls Tryd.prog 11 #[.int .i64 (wr a + wr b)] w fun e w' => e = .returned (.int .i64 (wr (wr a + wr b))) ∧ w' = w) := hideR fun w => rWrap _ w (by omega) (by omega)
  have hq := i64_add hx hy
  clear hb2
  clear a0 a1 b0 b1
  generalize wr a = x at *
  generalize wr b = y at *
  go_enter Tryd.func14, Tryd.ntmps14
  go_wp2_with fail
  refine (HA.out _).mono ?_
  rintro e u ⟨rfl, rfl⟩
  go_wp2_with fail
  refine (HB.out _).mono ?_
  rintro e u ⟨rfl, rfl⟩
  clear HA HB
  go_wp2_with fail
  try rw [hq]
  refine (HC.out _).mono ?_
  rintro e u ⟨rfl, rfl⟩
  go_wp2
  go_ret2
  exact ⟨rfl, rfl⟩
set_option maxHeartbeats 1000000 in
theorem rDo2 (a b : Int) (w : World) (a0 : -9223372036854775808 ≤ a) (a1 : a ≤ 9223372036854775807) (b0 : -9223372036854775808 ≤ b) (b1 : b ≤ 9223372036854775807) : Calls Tryd.prog 14 #[.int .i64 2, .int .i64 a, .int .i64 b] w fun e w' => e = .returned (.tuple #[.int .i64 (dO 2 a b).1, .bool (dO 2 a b).2]) ∧ w' = w := by
  have HA := hideR (fun w => rWrap a w a0 a1)
  have HB := hideR (fun w => rWrap b w b0 b1)
  have hx := wr_bd a
  have hy := wr_bd b
  rw [dO_2, ← wr_sub]
  have hb2 := And.intro hx hy
  have HC : Hid (∀ w : World, Calls Tryd.prog 11 #[.int .i64 (wr a - wr b)] w fun e w' => e = .returned (.int .i64 (wr (wr a - wr b))) ∧ w' = w) := hideR fun w => rWrap _ w (by omega) (by omega)
  have hq := i64_sub hx hy
  clear hb2
  clear a0 a1 b0 b1
  generalize wr a = x at *
  generalize wr b = y at *
  go_enter Tryd.func14, Tryd.ntmps14
  go_wp2_with fail
  refine (HA.out _).mono ?_
  rintro e u ⟨rfl, rfl⟩
  go_wp2_with fail
  refine (HB.out _).mono ?_
  rintro e u ⟨rfl, rfl⟩
  clear HA HB
  go_wp2_with fail
  try rw [hq]
  refine (HC.out _).mono ?_
  rintro e u ⟨rfl, rfl⟩
  go_wp2
  go_ret2
  exact ⟨rfl, rfl⟩
set_option maxHeartbeats 1000000 in
theorem rDo3 (a b : Int) (w : World) (a0 : -9223372036854775808 ≤ a) (a1 : a ≤ 9223372036854775807) (b0 : -9223372036854775808 ≤ b) (b1 : b ≤ 9223372036854775807) : Calls Tryd.prog 14 #[.int .i64 3, .int .i64 a, .int .i64 b] w fun e w' => e = .returned (.tuple #[.int .i64 (dO 3 a b).1, .bool (dO 3 a b).2]) ∧ w' = w := by
  have HA := hideR (fun w => rWrap a w a0 a1)
  have HB := hideR (fun w => rWrap b w b0 b1)
  have hx := wr_bd a
  have hy := wr_bd b
  rw [dO_3, ← wr_mul]
  have hb2 := mul_bd hx hy
  have HC : Hid (∀ w : World, Calls Tryd.prog 11 #[.int .i64 (wr a * wr b)] w fun e w' => e = .returned (.int .i64 (wr (wr a * wr b))) ∧ w' = w) := hideR fun w => rWrap _ w (by omega) (by omega)
  have hq := i64_mul hx hy
  clear hb2
  clear a0 a1 b0 b1
  generalize wr a = x at *
  generalize wr b = y at *
  go_enter Tryd.func14, Tryd.ntmps14
  go_wp2_with fail
  refine (HA.out _).mono ?_
  rintro e u ⟨rfl, rfl⟩
  go_wp2_with fail
  refine (HB.out _).mono ?_
  rintro e u ⟨rfl, rfl⟩
  clear HA HB
  go_wp2_with fail
  try rw [hq]
  refine (HC.out _).mono ?_
  rintro e u ⟨rfl, rfl⟩
  go_wp2
  go_ret2
  exact ⟨rfl, rfl⟩
set_option maxHeartbeats 1000000 in
theorem iDo4 (a b : Int) (w : World) (a0 : -9223372036854775808 ≤ a) (a1 : a ≤ 9223372036854775807) (b0 : -9223372036854775808 ≤ b) (b1 : b ≤ 9223372036854775807) : Calls Tryd.prog 13 #[.int .i64 4, .int .i64 a, .int .i64 b] w fun e w' => e = .returned (.tuple #[.int .i64 (dO 4 a b).1, .bool (dO 4 a b).2]) ∧ w' = w := by
  have HA := hideR (fun w => iWrap a w a0 a1)
  have HB := hideR (fun w => iWrap b w b0 b1)
  have hx := wr_bd a
  have hy := wr_bd b
  rw [dO_4]
  have HD := hideR (fun w => iDiv4 (wr a) (wr b) w hx)
  generalize (if wr b = 0 then 0 else wr ((wr a).tdiv (wr b))) = Q at *
  generalize (!decide (wr b = 0)) = T at *
  clear a0 a1 b0 b1
  generalize wr a = x at *
  generalize wr b = y at *
  go_enter Tryd.func13, Tryd.ntmps13
  go_wp2_with fail
  refine (HA.out _).mono ?_
  rintro e u ⟨rfl, rfl⟩
  go_wp2_with fail
  refine (HB.out _).mono ?_
  rintro e u ⟨rfl, rfl⟩
  go_wp2_with fail
  refine (HD.out _).mono ?_
  rintro e u ⟨rfl, rfl⟩
  go_wp2
  go_ret2
  exact ⟨rfl, rfl⟩
set_option maxHeartbeats 1000000 in
theorem iDo5 (a b : Int) (w : World) (a0 : -9223372036854775808 ≤ a) (a1 : a ≤ 9223372036854775807) (b0 : -9223372036854775808 ≤ b) (b1 : b ≤ 9223372036854775807) : Calls Tryd.prog 13 #[.int .i64 5, .int .i64 a, .int .i64 b] w fun e w' => e = .returned (.tuple #[.int .i64 (dO 5 a b).1, .bool (dO 5 a b).2]) ∧ w' = w := by
  have HA := hideR (fun w => iWrap a w a0 a1)
  have HB := hideR (fun w => iWrap b w b0 b1)
  have hx := wr_bd a
  have hy := wr_bd b
  rw [dO_5]
  have HD := hideR (fun w => iDiv5 (wr a) (wr b) w hx)
  generalize (if wr b = 0 then 0 else (wr a).tmod (wr b)) = Q at *
  generalize (!decide (wr b = 0)) = T at *
  clear a0 a1 b0 b1
  generalize wr a = x at *
  generalize wr b = y at *
  go_enter Tryd.func13, Tryd.ntmps13
  go_wp2_with fail
  refine (HA.out _).mono ?_
  rintro e u ⟨rfl, rfl⟩
  go_wp2_with fail
  refine (HB.out _).mono ?_
  rintro e u ⟨rfl, rfl⟩
  go_wp2_with fail
  refine (HD.out _).mono ?_
  rintro e u ⟨rfl, rfl⟩
  go_wp2
  go_ret2
  exact ⟨rfl, rfl⟩
set_option maxHeartbeats 1000000 in
theorem iDo6 (a b : Int) (w : World) (a0 : -9223372036854775808 ≤ a) (a1 : a ≤ 9223372036854775807) (b0 : -9223372036854775808 ≤ b) (b1 : b ≤ 9223372036854775807) : Calls Tryd.prog 13 #[.int .i64 6, .int .i64 a, .int .i64 b] w fun e w' => e = .returned (.tuple #[.int .i64 (dO 6 a b).1, .bool (dO 6 a b).2]) ∧ w' = w := by
  have HA := hideR (fun w => iWrap a w a0 a1)
  have HB := hideR (fun w => iWrap b w b0 b1)
  have hx := wr_bd a
  have hy := wr_bd b
  rw [dO_6]
  have HD := hideR (fun w => iTruth (decide (wr a < wr b)) w)
  generalize (if decide (wr a < wr b) then (1 : Int) else 0) = Q at *
  clear a0 a1 b0 b1
  generalize wr a = x at *
  generalize wr b = y at *
  go_enter Tryd.func13, Tryd.ntmps13
  go_wp2_with fail
  refine (HA.out _).mono ?_
  rintro e u ⟨rfl, rfl⟩
  go_wp2_with fail
  refine (HB.out _).mono ?_
  rintro e u ⟨rfl, rfl⟩
  go_wp2_with fail
  refine (HD.out _).mono ?_
  rintro e u ⟨rfl, rfl⟩
  go_wp2
  go_ret2
  exact ⟨rfl, rfl⟩
set_option maxHeartbeats 1000000 in
theorem iDo7 (a b : Int) (w : World) (a0 : -9223372036854775808 ≤ a) (a1 : a ≤ 9223372036854775807) (b0 : -9223372036854775808 ≤ b) (b1 : b ≤ 9223372036854775807) : Calls Tryd.prog 13 #[.int .i64 7, .int .i64 a, .int .i64 b] w fun e w' => e = .returned (.tuple #[.int .i64 (dO 7 a b).1, .bool (dO 7 a b).2]) ∧ w' = w := by
  have HA := hideR (fun w => iWrap a w a0 a1)
  have HB := hideR (fun w => iWrap b w b0 b1)
  have hx := wr_bd a
  have hy := wr_bd b
  rw [dO_7]
  have HD := hideR (fun w => iTruth (wr a == wr b) w)
  generalize (if wr a == wr b then (1 : Int) else 0) = Q at *
  clear a0 a1 b0 b1
  generalize wr a = x at *
  generalize wr b = y at *
  go_enter Tryd.func13, Tryd.ntmps13
  go_wp2_with fail
  refine (HA.out _).mono ?_
  rintro e u ⟨rfl, rfl⟩
  go_wp2_with fail
  refine (HB.out _).mono ?_
  rintro e u ⟨rfl, rfl⟩
  go_wp2_with fail
  refine (HD.out _).mono ?_
  rintro e u ⟨rfl, rfl⟩
  go_wp2
  go_ret2
  exact ⟨rfl, rfl⟩
set_option maxHeartbeats 1000000 in
theorem rDo4 (a b : Int) (w : World) (a0 : -9223372036854775808 ≤ a) (a1 : a ≤ 9223372036854775807) (b0 : -9223372036854775808 ≤ b) (b1 : b ≤ 9223372036854775807) : Calls Tryd.prog 14 #[.int .i64 4, .int .i64 a, .int .i64 b] w fun e w' => e = .returned (.tuple #[.int .i64 (dO 4 a b).1, .bool (dO 4 a b).2]) ∧ w' = w := by
  by_cases h0 : wr b = 0
  · have HA := hideR (fun w => rWrap a w a0 a1)
    have HB := hideR (fun w => rWrap b w b0 b1)
    have hx := wr_bd a
    have hy := wr_bd b
    rw [dO_4, if_pos h0, decide_eq_true h0]
    clear a0 a1 b0 b1
    generalize wr a = x at *
    generalize wr b = y at *
    go_enter Tryd.func14, Tryd.ntmps14
    go_wp2_with fail
    refine (HA.out _).mono ?_
    rintro e u ⟨rfl, rfl⟩
    go_wp2_with fail
    refine (HB.out _).mono ?_
    rintro e u ⟨rfl, rfl⟩
    subst h0
    clear HA HB
    go_wp2
    go_ret2
    exact ⟨rfl, rfl⟩
  · have HA := hideR (fun w => rWrap a w a0 a1)
    have HB := hideR (fun w => rWrap b w b0 b1)
    have hx := wr_bd a
    have hy := wr_bd b
    rw [dO_4, if_neg h0, decide_eq_false h0]
    have hq := i64_div (y := wr b) hx
    have hd := tdiv_bd (b := wr b) hx
    have HC : Hid (∀ w : World, Calls Tryd.prog 11 #[.int .i64 ((wr a).tdiv (wr b))] w fun e w' => e = .returned (.int .i64 (wr ((wr a).tdiv (wr b)))) ∧ w' = w) := hideR fun w => rWrap _ w (by omega) (by omega)
    clear hd
    clear a0 a1 b0 b1
    generalize wr a = x at *
    generalize wr b = y at *
    go_enter Tryd.func14, Tryd.ntmps14
    go_wp2_with fail
    refine (HA.out _).mono ?_
    rintro e u ⟨rfl, rfl⟩
    go_wp2_with fail
    refine (HB.out _).mono ?_
    rintro e u ⟨rfl, rfl⟩
    have q0 : (y == 0) = false := by simp [h0]
    have q1 : (y != 0) = true := by simp [h0]
    clear HA HB
    go_wp2_with fail
    try rw [hq]
    refine (HC.out _).mono ?_
    rintro e u ⟨rfl, rfl⟩
    go_wp2
    go_ret2
    exact ⟨rfl, rfl⟩
set_option maxHeartbeats 1000000 in
theorem rDo5 (a b : Int) (w : World) (a0 : -9223372036854775808 ≤ a) (a1 : a ≤ 9223372036854775807) (b0 : -9223372036854775808 ≤ b) (b1 : b ≤ 9223372036854775807) : Calls Tryd.prog 14 #[.int .i64 5, .int .i64 a, .int .i64 b] w fun e w' => e = .returned (.tuple #[.int .i64 (dO 5 a b).1, .bool (dO 5 a b).2]) ∧ w' = w := by
  by_cases h0 : wr b = 0
  · have HA := hideR (fun w => rWrap a w a0 a1)
    have HB := hideR (fun w => rWrap b w b0 b1)
    have hx := wr_bd a
    have hy := wr_bd b
    rw [dO_5, if_pos h0, decide_eq_true h0]
    clear a0 a1 b0 b1
    generalize wr a = x at *
    generalize wr b = y at *
    go_enter Tryd.func14, Tryd.ntmps14
    go_wp2_with fail
    refine (HA.out _).mono ?_
    rintro e u ⟨rfl, rfl⟩
    go_wp2_with fail
    refine (HB.out _).mono ?_
    rintro e u ⟨rfl, rfl⟩
    subst h0
    clear HA HB
    go_wp2
    go_ret2
    exact ⟨rfl, rfl⟩
  · have HA := hideR (fun w => rWrap a w a0 a1)
    have HB := hideR (fun w => rWrap b w b0 b1)
    have hx := wr_bd a
    have hy := wr_bd b
    rw [dO_5, if_neg h0, decide_eq_false h0]
    have hq := i64_div (y := wr b) hx
    have hd := tdiv_bd (b := wr b) hx
    have he := rest_eq hx hy
    have hf := wr_bd ((wr a).tdiv (wr b))
    have hg := mul_bd hf hy
    have hm := i64_mul hf hy
    have hs : wrap64 (wr a - wr ((wr a).tdiv (wr b)) * wr b) = wr a - wr ((wr a).tdiv (wr b)) * wr b := by unfold wrap64; omega
    have HC : Hid (∀ w : World, Calls Tryd.prog 11 #[.int .i64 ((wr a).tdiv (wr b))] w fun e w' => e = .returned (.int .i64 (wr ((wr a).tdiv (wr b)))) ∧ w' = w) := hideR fun w => rWrap _ w (by omega) (by omega)
    have HD : Hid (∀ w : World, Calls Tryd.prog 11 #[.int .i64 (wr a - wr ((wr a).tdiv (wr b)) * wr b)] w fun e w' => e = .returned (.int .i64 ((wr a).tmod (wr b))) ∧ w' = w) := hideR fun w => by rw [← he]; exact rWrap _ w (by omega) (by omega)
    clear hd he hf hg
    clear a0 a1 b0 b1
    generalize wr a = x at *
    generalize wr b = y at *
    go_enter Tryd.func14, Tryd.ntmps14
    go_wp2_with fail
    refine (HA.out _).mono ?_
    rintro e u ⟨rfl, rfl⟩
    go_wp2_with fail
    refine (HB.out _).mono ?_
    rintro e u ⟨rfl, rfl⟩
    have q0 : (y == 0) = false := by simp [h0]
    have q1 : (y != 0) = true := by simp [h0]
    clear HA HB
    generalize wr (x.tdiv y) = z at *
    go_wp2_with fail
    try rw [hq]
    refine (HC.out _).mono ?_
    rintro e u ⟨rfl, rfl⟩
    clear HC
    go_wp2_with fail
    simp only [hm, hs]
    refine (HD.out _).mono ?_
    rintro e u ⟨rfl, rfl⟩
    go_wp2
    go_ret2
    exact ⟨rfl, rfl⟩
set_option maxHeartbeats 1000000 in
theorem rDo6 (a b : Int) (w : World) (a0 : -9223372036854775808 ≤ a) (a1 : a ≤ 9223372036854775807) (b0 : -9223372036854775808 ≤ b) (b1 : b ≤ 9223372036854775807) : Calls Tryd.prog 14 #[.int .i64 6, .int .i64 a, .int .i64 b] w fun e w' => e = .returned (.tuple #[.int .i64 (dO 6 a b).1, .bool (dO 6 a b).2]) ∧ w' = w := by
  by_cases h0 : wr a < wr b
  · have HA := hideR (fun w => rWrap a w a0 a1)
    have HB := hideR (fun w => rWrap b w b0 b1)
    have hx := wr_bd a
    have hy := wr_bd b
    rw [show dO 6 a b = (1, true) by rw [dO_6]; simp [h0]]
    clear a0 a1 b0 b1
    generalize wr a = x at *
    generalize wr b = y at *
    go_enter Tryd.func14, Tryd.ntmps14
    go_wp2_with fail
    refine (HA.out _).mono ?_
    rintro e u ⟨rfl, rfl⟩
    go_wp2_with fail
    refine (HB.out _).mono ?_
    rintro e u ⟨rfl, rfl⟩
    have q0 : decide (x < y) = true := by simp [h0]
    clear HA HB
    go_wp2
    go_ret2
    exact ⟨rfl, rfl⟩
  · have HA := hideR (fun w => rWrap a w a0 a1)
    have HB := hideR (fun w => rWrap b w b0 b1)
    have hx := wr_bd a
    have hy := wr_bd b
    rw [show dO 6 a b = (0, true) by rw [dO_6]; simp [h0]]
    clear a0 a1 b0 b1
    generalize wr a = x at *
    generalize wr b = y at *
    go_enter Tryd.func14, Tryd.ntmps14
    go_wp2_with fail
    refine (HA.out _).mono ?_
    rintro e u ⟨rfl, rfl⟩
    go_wp2_with fail
    refine (HB.out _).mono ?_
    rintro e u ⟨rfl, rfl⟩
    have q0 : decide (x < y) = false := by simp [h0]
    clear HA HB
    go_wp2
    go_ret2
    exact ⟨rfl, rfl⟩
set_option maxHeartbeats 1000000 in
theorem rDo7 (a b : Int) (w : World) (a0 : -9223372036854775808 ≤ a) (a1 : a ≤ 9223372036854775807) (b0 : -9223372036854775808 ≤ b) (b1 : b ≤ 9223372036854775807) : Calls Tryd.prog 14 #[.int .i64 7, .int .i64 a, .int .i64 b] w fun e w' => e = .returned (.tuple #[.int .i64 (dO 7 a b).1, .bool (dO 7 a b).2]) ∧ w' = w := by
  by_cases h0 : wr a = wr b
  · have HA := hideR (fun w => rWrap a w a0 a1)
    have HB := hideR (fun w => rWrap b w b0 b1)
    have hx := wr_bd a
    have hy := wr_bd b
    rw [show dO 7 a b = (1, true) by rw [dO_7]; simp [h0]]
    clear a0 a1 b0 b1
    generalize wr a = x at *
    generalize wr b = y at *
    go_enter Tryd.func14, Tryd.ntmps14
    go_wp2_with fail
    refine (HA.out _).mono ?_
    rintro e u ⟨rfl, rfl⟩
    go_wp2_with fail
    refine (HB.out _).mono ?_
    rintro e u ⟨rfl, rfl⟩
    have q0 : (x == y) = true := by simp [h0]
    clear HA HB
    go_wp2
    go_ret2
    exact ⟨rfl, rfl⟩
  · have HA := hideR (fun w => rWrap a w a0 a1)
    have HB := hideR (fun w => rWrap b w b0 b1)
    have hx := wr_bd a
    have hy := wr_bd b
    rw [show dO 7 a b = (0, true) by rw [dO_7]; simp [h0]]
    clear a0 a1 b0 b1
    generalize wr a = x at *
    generalize wr b = y at *
    go_enter Tryd.func14, Tryd.ntmps14
    go_wp2_with fail
    refine (HA.out _).mono ?_
    rintro e u ⟨rfl, rfl⟩
    go_wp2_with fail
    refine (HB.out _).mono ?_
    rintro e u ⟨rfl, rfl⟩
    have q0 : (x == y) = false := by simp [h0]
    clear HA HB
    go_wp2
    go_ret2
    exact ⟨rfl, rfl⟩
set_option maxHeartbeats 1000000 in
theorem iDo0 (op a b : Int) (w : World) (a0 : -9223372036854775808 ≤ a) (a1 : a ≤ 9223372036854775807) (b0 : -9223372036854775808 ≤ b) (b1 : b ≤ 9223372036854775807) (h : op ≠ 1 ∧ op ≠ 2 ∧ op ≠ 3 ∧ op ≠ 4 ∧ op ≠ 5 ∧ op ≠ 6 ∧ op ≠ 7) : Calls Tryd.prog 13 #[.int .i64 op, .int .i64 a, .int .i64 b] w fun e w' => e = .returned (.tuple #[.int .i64 (dO op a b).1, .bool (dO op a b).2]) ∧ w' = w := by
  have HA := hideR (fun w => iWrap a w a0 a1)
  have HB := hideR (fun w => iWrap b w b0 b1)
  have hx := wr_bd a
  have hy := wr_bd b
  rw [dO_0 a b h]
  have q1 : (op == 1) = false := by simp [h]
  have q2 : (op == 2) = false := by simp [h]
  have q3 : (op == 3) = false := by simp [h]
  have q4 : (op == 4) = false := by simp [h]
  have q5 : (op == 5) = false := by simp [h]
  have q6 : (op == 6) = false := by simp [h]
  have q7 : (op == 7) = false := by simp [h]
  clear h
  clear a0 a1 b0 b1
  generalize wr a = x at *
  generalize wr b = y at *
  go_enter Tryd.func13, Tryd.ntmps13
  go_wp2_with fail
  refine (HA.out _).mono ?_
  rintro e u ⟨rfl, rfl⟩
  go_wp2_with fail
  refine (HB.out _).mono ?_
  rintro e u ⟨rfl, rfl⟩
  clear HA HB
  go_wp2
  go_ret2
  exact ⟨rfl, rfl⟩
theorem iDo (op a b : Int) (w : World) (a0 : -9223372036854775808 ≤ a) (a1 : a ≤ 9223372036854775807) (b0 : -9223372036854775808 ≤ b) (b1 : b ≤ 9223372036854775807) : Calls Tryd.prog 13 #[.int .i64 op, .int .i64 a, .int .i64 b] w fun e w' => e = .returned (.tuple #[.int .i64 (dO op a b).1, .bool (dO op a b).2]) ∧ w' = w := by
  by_cases h1 : op = 1
  · subst h1; exact iDo1 a b w a0 a1 b0 b1
  by_cases h2 : op = 2
  · subst h2; exact iDo2 a b w a0 a1 b0 b1
  by_cases h3 : op = 3
  · subst h3; exact iDo3 a b w a0 a1 b0 b1
  by_cases h4 : op = 4
  · subst h4; exact iDo4 a b w a0 a1 b0 b1
  by_cases h5 : op = 5
  · subst h5; exact iDo5 a b w a0 a1 b0 b1
  by_cases h6 : op = 6
  · subst h6; exact iDo6 a b w a0 a1 b0 b1
  by_cases h7 : op = 7
  · subst h7; exact iDo7 a b w a0 a1 b0 b1
  exact iDo0 op a b w a0 a1 b0 b1 ⟨h1, h2, h3, h4, h5, h6, h7⟩
set_option maxHeartbeats 1000000 in
theorem rDo0 (op a b : Int) (w : World) (a0 : -9223372036854775808 ≤ a) (a1 : a ≤ 9223372036854775807) (b0 : -9223372036854775808 ≤ b) (b1 : b ≤ 9223372036854775807) (h : op ≠ 1 ∧ op ≠ 2 ∧ op ≠ 3 ∧ op ≠ 4 ∧ op ≠ 5 ∧ op ≠ 6 ∧ op ≠ 7) : Calls Tryd.prog 14 #[.int .i64 op, .int .i64 a, .int .i64 b] w fun e w' => e = .returned (.tuple #[.int .i64 (dO op a b).1, .bool (dO op a b).2]) ∧ w' = w := by
  have HA := hideR (fun w => rWrap a w a0 a1)
  have HB := hideR (fun w => rWrap b w b0 b1)
  have hx := wr_bd a
  have hy := wr_bd b
  rw [dO_0 a b h]
  have q1 : (op == 1) = false := by simp [h]
  have q2 : (op == 2) = false := by simp [h]
  have q3 : (op == 3) = false := by simp [h]
  have q4 : (op == 4) = false := by simp [h]
  have q5 : (op == 5) = false := by simp [h]
  have q6 : (op == 6) = false := by simp [h]
  have q7 : (op == 7) = false := by simp [h]
  clear h
  clear a0 a1 b0 b1
  generalize wr a = x at *
  generalize wr b = y at *
  go_enter Tryd.func14, Tryd.ntmps14
  go_wp2_with fail
  refine (HA.out _).mono ?_
  rintro e u ⟨rfl, rfl⟩
  go_wp2_with fail
  refine (HB.out _).mono ?_
  rintro e u ⟨rfl, rfl⟩
  clear HA HB
  go_wp2
  go_ret2
  exact ⟨rfl, rfl⟩
theorem rDo (op a b : Int) (w : World) (a0 : -9223372036854775808 ≤ a) (a1 : a ≤ 9223372036854775807) (b0 : -9223372036854775808 ≤ b) (b1 : b ≤ 9223372036854775807) : Calls Tryd.prog 14 #[.int .i64 op, .int .i64 a, .int .i64 b] w fun e w' => e = .returned (.tuple #[.int .i64 (dO op a b).1, .bool (dO op a b).2]) ∧ w' = w := by
  by_cases h1 : op = 1
  · subst h1; exact rDo1 a b w a0 a1 b0 b1
  by_cases h2 : op = 2
  · subst h2; exact rDo2 a b w a0 a1 b0 b1
  by_cases h3 : op = 3
  · subst h3; exact rDo3 a b w a0 a1 b0 b1
  by_cases h4 : op = 4
  · subst h4; exact rDo4 a b w a0 a1 b0 b1
  by_cases h5 : op = 5
  · subst h5; exact rDo5 a b w a0 a1 b0 b1
  by_cases h6 : op = 6
  · subst h6; exact rDo6 a b w a0 a1 b0 b1
  by_cases h7 : op = 7
  · subst h7; exact rDo7 a b w a0 a1 b0 b1
  exact rDo0 op a b w a0 a1 b0 b1 ⟨h1, h2, h3, h4, h5, h6, h7⟩
end Go.Proofs.YtcnkjlngaoaikaaDoor
