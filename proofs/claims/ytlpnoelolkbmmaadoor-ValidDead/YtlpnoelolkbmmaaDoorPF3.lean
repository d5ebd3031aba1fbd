/- The program's Form, a part of the classes. -/
import Derived.Test.YtlpnoelolkbmmaaDoorPF0
namespace Go.Proofs.YtlpnoelolkbmmaaDoor
open Go.RowKit Rep
set_option linter.unusedVariables false

set_option maxHeartbeats 1000000 in
theorem pForm28 {I : World → Prop} (C : ReckC I) (op : Int) (w : World) (h : 64 ≤ op ∧ op ≤ 64) (hI : I w) : Calls Tryd.prog 48 #[.int .i64 op] w fun e w' => e = .returned (.int .i64 1) ∧ Below w.heap.size w w' := by
  have hp : rkn op = false := decide_eq_false (by omega)
  have hfl : flt op = false := decide_eq_false (by omega)
  have HI := hideM hI
  clear hI
  obtain rfl : op = 64 := by omega
  clear h
  go_enter Tryd.func48, Tryd.ntmps48
  go_wp2
  go_ret
  exact ⟨rfl, Below.refl _ _⟩

set_option maxHeartbeats 1000000 in
theorem pForm29 {I : World → Prop} (C : ReckC I) (op : Int) (w : World) (h : 65 ≤ op ∧ op ≤ 65) (hI : I w) : Calls Tryd.prog 48 #[.int .i64 op] w fun e w' => e = .returned (.int .i64 9) ∧ Below w.heap.size w w' := by
  have hp : rkn op = false := decide_eq_false (by omega)
  have hfl : flt op = false := decide_eq_false (by omega)
  have HI := hideM hI
  clear hI
  obtain rfl : op = 65 := by omega
  clear h
  go_enter Tryd.func48, Tryd.ntmps48
  go_wp2_with fail
  refine (C.reckons _ _ HI.out).mono ?_
  rintro e u ⟨rfl, hb⟩
  have HB := hideM hb
  clear hb
  rw [hp]
  go_wp2
  go_ret
  exact ⟨rfl, HB.out⟩

set_option maxHeartbeats 1000000 in
theorem pForm30 {I : World → Prop} (C : ReckC I) (op : Int) (w : World) (h : 66 ≤ op ∧ op ≤ 66) (hI : I w) : Calls Tryd.prog 48 #[.int .i64 op] w fun e w' => e = .returned (.int .i64 9) ∧ Below w.heap.size w w' := by
  have hp : rkn op = false := decide_eq_false (by omega)
  have hfl : flt op = false := decide_eq_false (by omega)
  have HI := hideM hI
  clear hI
  obtain rfl : op = 66 := by omega
  clear h
  go_enter Tryd.func48, Tryd.ntmps48
  go_wp2_with fail
  refine (C.reckons _ _ HI.out).mono ?_
  rintro e u ⟨rfl, hb⟩
  have HB := hideM hb
  clear hb
  rw [hp]
  go_wp2
  go_ret
  exact ⟨rfl, HB.out⟩

set_option maxHeartbeats 1000000 in
theorem pForm31 {I : World → Prop} (C : ReckC I) (op : Int) (w : World) (h : 67 ≤ op ∧ op ≤ 67) (hI : I w) : Calls Tryd.prog 48 #[.int .i64 op] w fun e w' => e = .returned (.int .i64 10) ∧ Below w.heap.size w w' := by
  have hp : rkn op = false := decide_eq_false (by omega)
  have hfl : flt op = true := decide_eq_true (by omega)
  have HI := hideM hI
  clear hI
  obtain rfl : op = 67 := by omega
  clear h
  go_enter Tryd.func48, Tryd.ntmps48
  go_wp2_with fail
  refine (C.reckons _ _ HI.out).mono ?_
  rintro e u ⟨rfl, hb⟩
  have HB := hideM hb
  clear hb
  rw [hp]
  go_wp2_with fail
  refine (pfloats _ _).mono ?_
  rintro e u ⟨rfl, rfl⟩
  rw [hfl]
  go_wp2
  go_ret
  exact ⟨rfl, HB.out⟩

set_option maxHeartbeats 1000000 in
theorem pForm32 {I : World → Prop} (C : ReckC I) (op : Int) (w : World) (h : 68 ≤ op ∧ op ≤ 68) (hI : I w) : Calls Tryd.prog 48 #[.int .i64 op] w fun e w' => e = .returned (.int .i64 10) ∧ Below w.heap.size w w' := by
  have hp : rkn op = false := decide_eq_false (by omega)
  have hfl : flt op = true := decide_eq_true (by omega)
  have HI := hideM hI
  clear hI
  obtain rfl : op = 68 := by omega
  clear h
  go_enter Tryd.func48, Tryd.ntmps48
  go_wp2_with fail
  refine (C.reckons _ _ HI.out).mono ?_
  rintro e u ⟨rfl, hb⟩
  have HB := hideM hb
  clear hb
  rw [hp]
  go_wp2_with fail
  refine (pfloats _ _).mono ?_
  rintro e u ⟨rfl, rfl⟩
  rw [hfl]
  go_wp2
  go_ret
  exact ⟨rfl, HB.out⟩

set_option maxHeartbeats 1000000 in
theorem pForm33 {I : World → Prop} (C : ReckC I) (op : Int) (w : World) (h : 69 ≤ op ∧ op ≤ 90) (hI : I w) : Calls Tryd.prog 48 #[.int .i64 op] w fun e w' => e = .returned (.int .i64 1) ∧ Below w.heap.size w w' := by
  have hp : rkn op = true := decide_eq_true (by omega)
  have hfl : flt op = false := decide_eq_false (by omega)
  have HI := hideM hI
  clear hI
  have q0 : (op == 0) = false := by rw [beq_eq_false_iff_ne]; omega
  have q1 : (op == 1) = false := by rw [beq_eq_false_iff_ne]; omega
  have q15 : (op == 15) = false := by rw [beq_eq_false_iff_ne]; omega
  have q26 : (op == 26) = false := by rw [beq_eq_false_iff_ne]; omega
  have q27 : (op == 27) = false := by rw [beq_eq_false_iff_ne]; omega
  have q63 : (op == 63) = false := by rw [beq_eq_false_iff_ne]; omega
  have q64 : (op == 64) = false := by rw [beq_eq_false_iff_ne]; omega
  have q2 : (op == 2) = false := by rw [beq_eq_false_iff_ne]; omega
  have q3 : (op == 3) = false := by rw [beq_eq_false_iff_ne]; omega
  have q4 : (op == 4) = false := by rw [beq_eq_false_iff_ne]; omega
  have q12 : (op == 12) = false := by rw [beq_eq_false_iff_ne]; omega
  have q13 : (op == 13) = false := by rw [beq_eq_false_iff_ne]; omega
  have q14 : (op == 14) = false := by rw [beq_eq_false_iff_ne]; omega
  have q16 : (op == 16) = false := by rw [beq_eq_false_iff_ne]; omega
  have q17 : (op == 17) = false := by rw [beq_eq_false_iff_ne]; omega
  have q40 : (op == 40) = false := by rw [beq_eq_false_iff_ne]; omega
  have q41 : (op == 41) = false := by rw [beq_eq_false_iff_ne]; omega
  have q65 : (op == 65) = false := by rw [beq_eq_false_iff_ne]; omega
  have q66 : (op == 66) = false := by rw [beq_eq_false_iff_ne]; omega
  have a32 : decide ((32 : Int) ≤ op) = true := decide_eq_true (by omega)
  have b36 : decide (op ≤ (36 : Int)) = false := decide_eq_false (by omega)
  have a44 : decide ((44 : Int) ≤ op) = true := decide_eq_true (by omega)
  have b55 : decide (op ≤ (55 : Int)) = false := decide_eq_false (by omega)
  have a58 : decide ((58 : Int) ≤ op) = true := decide_eq_true (by omega)
  have b62 : decide (op ≤ (62 : Int)) = false := decide_eq_false (by omega)
  clear h
  go_enter Tryd.func48, Tryd.ntmps48
  go_wp2_with fail
  refine (C.reckons _ _ HI.out).mono ?_
  rintro e u ⟨rfl, hb⟩
  have HB := hideM hb
  clear hb
  rw [hp]
  go_wp2
  go_ret
  exact ⟨rfl, HB.out⟩

set_option maxHeartbeats 1000000 in
theorem pForm34 {I : World → Prop} (C : ReckC I) (op : Int) (w : World) (h : 91 ≤ op ∧ op ≤ 102) (hI : I w) : Calls Tryd.prog 48 #[.int .i64 op] w fun e w' => e = .returned (.int .i64 10) ∧ Below w.heap.size w w' := by
  have hp : rkn op = false := decide_eq_false (by omega)
  have hfl : flt op = true := decide_eq_true (by omega)
  have HI := hideM hI
  clear hI
  have q0 : (op == 0) = false := by rw [beq_eq_false_iff_ne]; omega
  have q1 : (op == 1) = false := by rw [beq_eq_false_iff_ne]; omega
  have q15 : (op == 15) = false := by rw [beq_eq_false_iff_ne]; omega
  have q26 : (op == 26) = false := by rw [beq_eq_false_iff_ne]; omega
  have q27 : (op == 27) = false := by rw [beq_eq_false_iff_ne]; omega
  have q63 : (op == 63) = false := by rw [beq_eq_false_iff_ne]; omega
  have q64 : (op == 64) = false := by rw [beq_eq_false_iff_ne]; omega
  have q2 : (op == 2) = false := by rw [beq_eq_false_iff_ne]; omega
  have q3 : (op == 3) = false := by rw [beq_eq_false_iff_ne]; omega
  have q4 : (op == 4) = false := by rw [beq_eq_false_iff_ne]; omega
  have q12 : (op == 12) = false := by rw [beq_eq_false_iff_ne]; omega
  have q13 : (op == 13) = false := by rw [beq_eq_false_iff_ne]; omega
  have q14 : (op == 14) = false := by rw [beq_eq_false_iff_ne]; omega
  have q16 : (op == 16) = false := by rw [beq_eq_false_iff_ne]; omega
  have q17 : (op == 17) = false := by rw [beq_eq_false_iff_ne]; omega
  have q40 : (op == 40) = false := by rw [beq_eq_false_iff_ne]; omega
  have q41 : (op == 41) = false := by rw [beq_eq_false_iff_ne]; omega
  have q65 : (op == 65) = false := by rw [beq_eq_false_iff_ne]; omega
  have q66 : (op == 66) = false := by rw [beq_eq_false_iff_ne]; omega
  have a32 : decide ((32 : Int) ≤ op) = true := decide_eq_true (by omega)
  have b36 : decide (op ≤ (36 : Int)) = false := decide_eq_false (by omega)
  have a44 : decide ((44 : Int) ≤ op) = true := decide_eq_true (by omega)
  have b55 : decide (op ≤ (55 : Int)) = false := decide_eq_false (by omega)
  have a58 : decide ((58 : Int) ≤ op) = true := decide_eq_true (by omega)
  have b62 : decide (op ≤ (62 : Int)) = false := decide_eq_false (by omega)
  clear h
  go_enter Tryd.func48, Tryd.ntmps48
  go_wp2_with fail
  refine (C.reckons _ _ HI.out).mono ?_
  rintro e u ⟨rfl, hb⟩
  have HB := hideM hb
  clear hb
  rw [hp]
  go_wp2_with fail
  refine (pfloats _ _).mono ?_
  rintro e u ⟨rfl, rfl⟩
  rw [hfl]
  go_wp2
  go_ret
  exact ⟨rfl, HB.out⟩

set_option maxHeartbeats 1000000 in
theorem pForm35 {I : World → Prop} (C : ReckC I) (op : Int) (w : World) (h : 103 ≤ op ∧ op ≤ 138) (hI : I w) : Calls Tryd.prog 48 #[.int .i64 op] w fun e w' => e = .returned (.int .i64 1) ∧ Below w.heap.size w w' := by
  have hp : rkn op = true := decide_eq_true (by omega)
  have hfl : flt op = false := decide_eq_false (by omega)
  have HI := hideM hI
  clear hI
  have q0 : (op == 0) = false := by rw [beq_eq_false_iff_ne]; omega
  have q1 : (op == 1) = false := by rw [beq_eq_false_iff_ne]; omega
  have q15 : (op == 15) = false := by rw [beq_eq_false_iff_ne]; omega
  have q26 : (op == 26) = false := by rw [beq_eq_false_iff_ne]; omega
  have q27 : (op == 27) = false := by rw [beq_eq_false_iff_ne]; omega
  have q63 : (op == 63) = false := by rw [beq_eq_false_iff_ne]; omega
  have q64 : (op == 64) = false := by rw [beq_eq_false_iff_ne]; omega
  have q2 : (op == 2) = false := by rw [beq_eq_false_iff_ne]; omega
  have q3 : (op == 3) = false := by rw [beq_eq_false_iff_ne]; omega
  have q4 : (op == 4) = false := by rw [beq_eq_false_iff_ne]; omega
  have q12 : (op == 12) = false := by rw [beq_eq_false_iff_ne]; omega
  have q13 : (op == 13) = false := by rw [beq_eq_false_iff_ne]; omega
  have q14 : (op == 14) = false := by rw [beq_eq_false_iff_ne]; omega
  have q16 : (op == 16) = false := by rw [beq_eq_false_iff_ne]; omega
  have q17 : (op == 17) = false := by rw [beq_eq_false_iff_ne]; omega
  have q40 : (op == 40) = false := by rw [beq_eq_false_iff_ne]; omega
  have q41 : (op == 41) = false := by rw [beq_eq_false_iff_ne]; omega
  have q65 : (op == 65) = false := by rw [beq_eq_false_iff_ne]; omega
  have q66 : (op == 66) = false := by rw [beq_eq_false_iff_ne]; omega
  have a32 : decide ((32 : Int) ≤ op) = true := decide_eq_true (by omega)
  have b36 : decide (op ≤ (36 : Int)) = false := decide_eq_false (by omega)
  have a44 : decide ((44 : Int) ≤ op) = true := decide_eq_true (by omega)
  have b55 : decide (op ≤ (55 : Int)) = false := decide_eq_false (by omega)
  have a58 : decide ((58 : Int) ≤ op) = true := decide_eq_true (by omega)
  have b62 : decide (op ≤ (62 : Int)) = false := decide_eq_false (by omega)
  clear h
  go_enter Tryd.func48, Tryd.ntmps48
  go_wp2_with fail
  refine (C.reckons _ _ HI.out).mono ?_
  rintro e u ⟨rfl, hb⟩
  have HB := hideM hb
  clear hb
  rw [hp]
  go_wp2
  go_ret
  exact ⟨rfl, HB.out⟩

set_option maxHeartbeats 1000000 in
theorem pForm36 {I : World → Prop} (C : ReckC I) (op : Int) (w : World) (h : 139 ≤ op ∧ op ≤ 166) (hI : I w) : Calls Tryd.prog 48 #[.int .i64 op] w fun e w' => e = .returned (.int .i64 10) ∧ Below w.heap.size w w' := by
  have hp : rkn op = false := decide_eq_false (by omega)
  have hfl : flt op = true := decide_eq_true (by omega)
  have HI := hideM hI
  clear hI
  have q0 : (op == 0) = false := by rw [beq_eq_false_iff_ne]; omega
  have q1 : (op == 1) = false := by rw [beq_eq_false_iff_ne]; omega
  have q15 : (op == 15) = false := by rw [beq_eq_false_iff_ne]; omega
  have q26 : (op == 26) = false := by rw [beq_eq_false_iff_ne]; omega
  have q27 : (op == 27) = false := by rw [beq_eq_false_iff_ne]; omega
  have q63 : (op == 63) = false := by rw [beq_eq_false_iff_ne]; omega
  have q64 : (op == 64) = false := by rw [beq_eq_false_iff_ne]; omega
  have q2 : (op == 2) = false := by rw [beq_eq_false_iff_ne]; omega
  have q3 : (op == 3) = false := by rw [beq_eq_false_iff_ne]; omega
  have q4 : (op == 4) = false := by rw [beq_eq_false_iff_ne]; omega
  have q12 : (op == 12) = false := by rw [beq_eq_false_iff_ne]; omega
  have q13 : (op == 13) = false := by rw [beq_eq_false_iff_ne]; omega
  have q14 : (op == 14) = false := by rw [beq_eq_false_iff_ne]; omega
  have q16 : (op == 16) = false := by rw [beq_eq_false_iff_ne]; omega
  have q17 : (op == 17) = false := by rw [beq_eq_false_iff_ne]; omega
  have q40 : (op == 40) = false := by rw [beq_eq_false_iff_ne]; omega
  have q41 : (op == 41) = false := by rw [beq_eq_false_iff_ne]; omega
  have q65 : (op == 65) = false := by rw [beq_eq_false_iff_ne]; omega
  have q66 : (op == 66) = false := by rw [beq_eq_false_iff_ne]; omega
  have a32 : decide ((32 : Int) ≤ op) = true := decide_eq_true (by omega)
  have b36 : decide (op ≤ (36 : Int)) = false := decide_eq_false (by omega)
  have a44 : decide ((44 : Int) ≤ op) = true := decide_eq_true (by omega)
  have b55 : decide (op ≤ (55 : Int)) = false := decide_eq_false (by omega)
  have a58 : decide ((58 : Int) ≤ op) = true := decide_eq_true (by omega)
  have b62 : decide (op ≤ (62 : Int)) = false := decide_eq_false (by omega)
  clear h
  go_enter Tryd.func48, Tryd.ntmps48
  go_wp2_with fail
  refine (C.reckons _ _ HI.out).mono ?_
  rintro e u ⟨rfl, hb⟩
  have HB := hideM hb
  clear hb
  rw [hp]
  go_wp2_with fail
  refine (pfloats _ _).mono ?_
  rintro e u ⟨rfl, rfl⟩
  rw [hfl]
  go_wp2
  go_ret
  exact ⟨rfl, HB.out⟩

set_option maxHeartbeats 1000000 in
theorem pForm37 {I : World → Prop} (C : ReckC I) (op : Int) (w : World) (h : 167 ≤ op ∧ op ≤ 167) (hI : I w) : Calls Tryd.prog 48 #[.int .i64 op] w fun e w' => e = .returned (.int .i64 1) ∧ Below w.heap.size w w' := by
  have hp : rkn op = true := decide_eq_true (by omega)
  have hfl : flt op = false := decide_eq_false (by omega)
  have HI := hideM hI
  clear hI
  obtain rfl : op = 167 := by omega
  clear h
  go_enter Tryd.func48, Tryd.ntmps48
  go_wp2_with fail
  refine (C.reckons _ _ HI.out).mono ?_
  rintro e u ⟨rfl, hb⟩
  have HB := hideM hb
  clear hb
  rw [hp]
  go_wp2
  go_ret
  exact ⟨rfl, HB.out⟩

set_option maxHeartbeats 1000000 in
theorem pForm38 {I : World → Prop} (C : ReckC I) (op : Int) (w : World) (h : 168 ≤ op ∧ op ≤ 171) (hI : I w) : Calls Tryd.prog 48 #[.int .i64 op] w fun e w' => e = .returned (.int .i64 10) ∧ Below w.heap.size w w' := by
  have hp : rkn op = false := decide_eq_false (by omega)
  have hfl : flt op = true := decide_eq_true (by omega)
  have HI := hideM hI
  clear hI
  have q0 : (op == 0) = false := by rw [beq_eq_false_iff_ne]; omega
  have q1 : (op == 1) = false := by rw [beq_eq_false_iff_ne]; omega
  have q15 : (op == 15) = false := by rw [beq_eq_false_iff_ne]; omega
  have q26 : (op == 26) = false := by rw [beq_eq_false_iff_ne]; omega
  have q27 : (op == 27) = false := by rw [beq_eq_false_iff_ne]; omega
  have q63 : (op == 63) = false := by rw [beq_eq_false_iff_ne]; omega
  have q64 : (op == 64) = false := by rw [beq_eq_false_iff_ne]; omega
  have q2 : (op == 2) = false := by rw [beq_eq_false_iff_ne]; omega
  have q3 : (op == 3) = false := by rw [beq_eq_false_iff_ne]; omega
  have q4 : (op == 4) = false := by rw [beq_eq_false_iff_ne]; omega
  have q12 : (op == 12) = false := by rw [beq_eq_false_iff_ne]; omega
  have q13 : (op == 13) = false := by rw [beq_eq_false_iff_ne]; omega
  have q14 : (op == 14) = false := by rw [beq_eq_false_iff_ne]; omega
  have q16 : (op == 16) = false := by rw [beq_eq_false_iff_ne]; omega
  have q17 : (op == 17) = false := by rw [beq_eq_false_iff_ne]; omega
  have q40 : (op == 40) = false := by rw [beq_eq_false_iff_ne]; omega
  have q41 : (op == 41) = false := by rw [beq_eq_false_iff_ne]; omega
  have q65 : (op == 65) = false := by rw [beq_eq_false_iff_ne]; omega
  have q66 : (op == 66) = false := by rw [beq_eq_false_iff_ne]; omega
  have a32 : decide ((32 : Int) ≤ op) = true := decide_eq_true (by omega)
  have b36 : decide (op ≤ (36 : Int)) = false := decide_eq_false (by omega)
  have a44 : decide ((44 : Int) ≤ op) = true := decide_eq_true (by omega)
  have b55 : decide (op ≤ (55 : Int)) = false := decide_eq_false (by omega)
  have a58 : decide ((58 : Int) ≤ op) = true := decide_eq_true (by omega)
  have b62 : decide (op ≤ (62 : Int)) = false := decide_eq_false (by omega)
  clear h
  go_enter Tryd.func48, Tryd.ntmps48
  go_wp2_with fail
  refine (C.reckons _ _ HI.out).mono ?_
  rintro e u ⟨rfl, hb⟩
  have HB := hideM hb
  clear hb
  rw [hp]
  go_wp2_with fail
  refine (pfloats _ _).mono ?_
  rintro e u ⟨rfl, rfl⟩
  rw [hfl]
  go_wp2
  go_ret
  exact ⟨rfl, HB.out⟩

set_option maxHeartbeats 1000000 in
theorem pForm39 {I : World → Prop} (C : ReckC I) (op : Int) (w : World) (h : 172 ≤ op ∧ op ≤ 173) (hI : I w) : Calls Tryd.prog 48 #[.int .i64 op] w fun e w' => e = .returned (.int .i64 1) ∧ Below w.heap.size w w' := by
  have hp : rkn op = true := decide_eq_true (by omega)
  have hfl : flt op = false := decide_eq_false (by omega)
  have HI := hideM hI
  clear hI
  have q0 : (op == 0) = false := by rw [beq_eq_false_iff_ne]; omega
  have q1 : (op == 1) = false := by rw [beq_eq_false_iff_ne]; omega
  have q15 : (op == 15) = false := by rw [beq_eq_false_iff_ne]; omega
  have q26 : (op == 26) = false := by rw [beq_eq_false_iff_ne]; omega
  have q27 : (op == 27) = false := by rw [beq_eq_false_iff_ne]; omega
  have q63 : (op == 63) = false := by rw [beq_eq_false_iff_ne]; omega
  have q64 : (op == 64) = false := by rw [beq_eq_false_iff_ne]; omega
  have q2 : (op == 2) = false := by rw [beq_eq_false_iff_ne]; omega
  have q3 : (op == 3) = false := by rw [beq_eq_false_iff_ne]; omega
  have q4 : (op == 4) = false := by rw [beq_eq_false_iff_ne]; omega
  have q12 : (op == 12) = false := by rw [beq_eq_false_iff_ne]; omega
  have q13 : (op == 13) = false := by rw [beq_eq_false_iff_ne]; omega
  have q14 : (op == 14) = false := by rw [beq_eq_false_iff_ne]; omega
  have q16 : (op == 16) = false := by rw [beq_eq_false_iff_ne]; omega
  have q17 : (op == 17) = false := by rw [beq_eq_false_iff_ne]; omega
  have q40 : (op == 40) = false := by rw [beq_eq_false_iff_ne]; omega
  have q41 : (op == 41) = false := by rw [beq_eq_false_iff_ne]; omega
  have q65 : (op == 65) = false := by rw [beq_eq_false_iff_ne]; omega
  have q66 : (op == 66) = false := by rw [beq_eq_false_iff_ne]; omega
  have a32 : decide ((32 : Int) ≤ op) = true := decide_eq_true (by omega)
  have b36 : decide (op ≤ (36 : Int)) = false := decide_eq_false (by omega)
  have a44 : decide ((44 : Int) ≤ op) = true := decide_eq_true (by omega)
  have b55 : decide (op ≤ (55 : Int)) = false := decide_eq_false (by omega)
  have a58 : decide ((58 : Int) ≤ op) = true := decide_eq_true (by omega)
  have b62 : decide (op ≤ (62 : Int)) = false := decide_eq_false (by omega)
  clear h
  go_enter Tryd.func48, Tryd.ntmps48
  go_wp2_with fail
  refine (C.reckons _ _ HI.out).mono ?_
  rintro e u ⟨rfl, hb⟩
  have HB := hideM hb
  clear hb
  rw [hp]
  go_wp2
  go_ret
  exact ⟨rfl, HB.out⟩

set_option maxHeartbeats 1000000 in
theorem pForm40 {I : World → Prop} (C : ReckC I) (op : Int) (w : World) (h : 174 ≤ op ∧ op ≤ 191) (hI : I w) : Calls Tryd.prog 48 #[.int .i64 op] w fun e w' => e = .returned (.int .i64 10) ∧ Below w.heap.size w w' := by
  have hp : rkn op = false := decide_eq_false (by omega)
  have hfl : flt op = true := decide_eq_true (by omega)
  have HI := hideM hI
  clear hI
  have q0 : (op == 0) = false := by rw [beq_eq_false_iff_ne]; omega
  have q1 : (op == 1) = false := by rw [beq_eq_false_iff_ne]; omega
  have q15 : (op == 15) = false := by rw [beq_eq_false_iff_ne]; omega
  have q26 : (op == 26) = false := by rw [beq_eq_false_iff_ne]; omega
  have q27 : (op == 27) = false := by rw [beq_eq_false_iff_ne]; omega
  have q63 : (op == 63) = false := by rw [beq_eq_false_iff_ne]; omega
  have q64 : (op == 64) = false := by rw [beq_eq_false_iff_ne]; omega
  have q2 : (op == 2) = false := by rw [beq_eq_false_iff_ne]; omega
  have q3 : (op == 3) = false := by rw [beq_eq_false_iff_ne]; omega
  have q4 : (op == 4) = false := by rw [beq_eq_false_iff_ne]; omega
  have q12 : (op == 12) = false := by rw [beq_eq_false_iff_ne]; omega
  have q13 : (op == 13) = false := by rw [beq_eq_false_iff_ne]; omega
  have q14 : (op == 14) = false := by rw [beq_eq_false_iff_ne]; omega
  have q16 : (op == 16) = false := by rw [beq_eq_false_iff_ne]; omega
  have q17 : (op == 17) = false := by rw [beq_eq_false_iff_ne]; omega
  have q40 : (op == 40) = false := by rw [beq_eq_false_iff_ne]; omega
  have q41 : (op == 41) = false := by rw [beq_eq_false_iff_ne]; omega
  have q65 : (op == 65) = false := by rw [beq_eq_false_iff_ne]; omega
  have q66 : (op == 66) = false := by rw [beq_eq_false_iff_ne]; omega
  have a32 : decide ((32 : Int) ≤ op) = true := decide_eq_true (by omega)
  have b36 : decide (op ≤ (36 : Int)) = false := decide_eq_false (by omega)
  have a44 : decide ((44 : Int) ≤ op) = true := decide_eq_true (by omega)
  have b55 : decide (op ≤ (55 : Int)) = false := decide_eq_false (by omega)
  have a58 : decide ((58 : Int) ≤ op) = true := decide_eq_true (by omega)
  have b62 : decide (op ≤ (62 : Int)) = false := decide_eq_false (by omega)
  clear h
  go_enter Tryd.func48, Tryd.ntmps48
  go_wp2_with fail
  refine (C.reckons _ _ HI.out).mono ?_
  rintro e u ⟨rfl, hb⟩
  have HB := hideM hb
  clear hb
  rw [hp]
  go_wp2_with fail
  refine (pfloats _ _).mono ?_
  rintro e u ⟨rfl, rfl⟩
  rw [hfl]
  go_wp2
  go_ret
  exact ⟨rfl, HB.out⟩

set_option maxHeartbeats 1000000 in
theorem pForm41 {I : World → Prop} (C : ReckC I) (op : Int) (w : World) (h : 192 ≤ op) (hI : I w) : Calls Tryd.prog 48 #[.int .i64 op] w fun e w' => e = .returned (.int .i64 0) ∧ Below w.heap.size w w' := by
  have hp : rkn op = false := decide_eq_false (by omega)
  have hfl : flt op = false := decide_eq_false (by omega)
  have HI := hideM hI
  clear hI
  have q0 : (op == 0) = false := by rw [beq_eq_false_iff_ne]; omega
  have q1 : (op == 1) = false := by rw [beq_eq_false_iff_ne]; omega
  have q15 : (op == 15) = false := by rw [beq_eq_false_iff_ne]; omega
  have q26 : (op == 26) = false := by rw [beq_eq_false_iff_ne]; omega
  have q27 : (op == 27) = false := by rw [beq_eq_false_iff_ne]; omega
  have q63 : (op == 63) = false := by rw [beq_eq_false_iff_ne]; omega
  have q64 : (op == 64) = false := by rw [beq_eq_false_iff_ne]; omega
  have q2 : (op == 2) = false := by rw [beq_eq_false_iff_ne]; omega
  have q3 : (op == 3) = false := by rw [beq_eq_false_iff_ne]; omega
  have q4 : (op == 4) = false := by rw [beq_eq_false_iff_ne]; omega
  have q12 : (op == 12) = false := by rw [beq_eq_false_iff_ne]; omega
  have q13 : (op == 13) = false := by rw [beq_eq_false_iff_ne]; omega
  have q14 : (op == 14) = false := by rw [beq_eq_false_iff_ne]; omega
  have q16 : (op == 16) = false := by rw [beq_eq_false_iff_ne]; omega
  have q17 : (op == 17) = false := by rw [beq_eq_false_iff_ne]; omega
  have q40 : (op == 40) = false := by rw [beq_eq_false_iff_ne]; omega
  have q41 : (op == 41) = false := by rw [beq_eq_false_iff_ne]; omega
  have q65 : (op == 65) = false := by rw [beq_eq_false_iff_ne]; omega
  have q66 : (op == 66) = false := by rw [beq_eq_false_iff_ne]; omega
  have a32 : decide ((32 : Int) ≤ op) = true := decide_eq_true (by omega)
  have b36 : decide (op ≤ (36 : Int)) = false := decide_eq_false (by omega)
  have a44 : decide ((44 : Int) ≤ op) = true := decide_eq_true (by omega)
  have b55 : decide (op ≤ (55 : Int)) = false := decide_eq_false (by omega)
  have a58 : decide ((58 : Int) ≤ op) = true := decide_eq_true (by omega)
  have b62 : decide (op ≤ (62 : Int)) = false := decide_eq_false (by omega)
  clear h
  go_enter Tryd.func48, Tryd.ntmps48
  go_wp2_with fail
  refine (C.reckons _ _ HI.out).mono ?_
  rintro e u ⟨rfl, hb⟩
  have HB := hideM hb
  clear hb
  rw [hp]
  go_wp2_with fail
  refine (pfloats _ _).mono ?_
  rintro e u ⟨rfl, rfl⟩
  rw [hfl]
  go_wp2
  go_ret
  exact ⟨rfl, HB.out⟩

end Go.Proofs.YtlpnoelolkbmmaaDoor
