/- The program's Form, a part of the classes. -/
import Derived.Test.YtlpnoelolkbmmaaDoorPF0
namespace Go.Proofs.YtlpnoelolkbmmaaDoor
open Go.RowKit Rep
set_option linter.unusedVariables false

set_option maxHeartbeats 1000000 in
theorem pForm14 {I : World → Prop} (C : ReckC I) (op : Int) (w : World) (h : 26 ≤ op ∧ op ≤ 26) (hI : I w) : Calls Tryd.prog 48 #[.int .i64 op] w fun e w' => e = .returned (.int .i64 1) ∧ Below w.heap.size w w' := by
  have hp : rkn op = false := decide_eq_false (by omega)
  have hfl : flt op = false := decide_eq_false (by omega)
  have HI := hideM hI
  clear hI
  obtain rfl : op = 26 := by omega
  clear h
  go_enter Tryd.func48, Tryd.ntmps48
  go_wp2
  go_ret
  exact ⟨rfl, Below.refl _ _⟩

set_option maxHeartbeats 1000000 in
theorem pForm15 {I : World → Prop} (C : ReckC I) (op : Int) (w : World) (h : 27 ≤ op ∧ op ≤ 27) (hI : I w) : Calls Tryd.prog 48 #[.int .i64 op] w fun e w' => e = .returned (.int .i64 1) ∧ Below w.heap.size w w' := by
  have hp : rkn op = false := decide_eq_false (by omega)
  have hfl : flt op = false := decide_eq_false (by omega)
  have HI := hideM hI
  clear hI
  obtain rfl : op = 27 := by omega
  clear h
  go_enter Tryd.func48, Tryd.ntmps48
  go_wp2
  go_ret
  exact ⟨rfl, Below.refl _ _⟩

set_option maxHeartbeats 1000000 in
theorem pForm16 {I : World → Prop} (C : ReckC I) (op : Int) (w : World) (h : 28 ≤ op ∧ op ≤ 31) (hI : I w) : Calls Tryd.prog 48 #[.int .i64 op] w fun e w' => e = .returned (.int .i64 0) ∧ Below w.heap.size w w' := by
  have hp : rkn op = false := decide_eq_false (by omega)
  have hfl : flt op = false := decide_eq_false (by omega)
  have HI := hideM hI
  clear hI
  have q0 : (op == 0) = false := by rw [beq_eq_false_iff_ne]; omega
  have q1 : (op == 1) = false := by rw [beq_eq_false_iff_ne]; omega
  have q15 : (op == 15) = false := by rw [beq_eq_false_iff_ne]; omega
  have q26 : (op == 26) = false := by rw [beq_eq_false_iff_ne]; omega
  have q27 : (op == 27) = false := by rw [beq_eq_false_iff_ne]; omega
  have q63 : (op == 63) = false := by rw [beq_eq_false_iff_ne]; omega
  have q64 : (op == 64) = false := by rw [beq_eq_false_iff_ne]; omega
  have q2 : (op == 2) = false := by rw [beq_eq_false_iff_ne]; omega
  have q3 : (op == 3) = false := by rw [beq_eq_false_iff_ne]; omega
  have q4 : (op == 4) = false := by rw [beq_eq_false_iff_ne]; omega
  have q12 : (op == 12) = false := by rw [beq_eq_false_iff_ne]; omega
  have q13 : (op == 13) = false := by rw [beq_eq_false_iff_ne]; omega
  have q14 : (op == 14) = false := by rw [beq_eq_false_iff_ne]; omega
  have q16 : (op == 16) = false := by rw [beq_eq_false_iff_ne]; omega
  have q17 : (op == 17) = false := by rw [beq_eq_false_iff_ne]; omega
  have q40 : (op == 40) = false := by rw [beq_eq_false_iff_ne]; omega
  have q41 : (op == 41) = false := by rw [beq_eq_false_iff_ne]; omega
  have q65 : (op == 65) = false := by rw [beq_eq_false_iff_ne]; omega
  have q66 : (op == 66) = false := by rw [beq_eq_false_iff_ne]; omega
  have a32 : decide ((32 : Int) ≤ op) = false := decide_eq_false (by omega)
  have a44 : decide ((44 : Int) ≤ op) = false := decide_eq_false (by omega)
  have a58 : decide ((58 : Int) ≤ op) = false := decide_eq_false (by omega)
  clear h
  go_enter Tryd.func48, Tryd.ntmps48
  go_wp2_with fail
  refine (C.reckons _ _ HI.out).mono ?_
  rintro e u ⟨rfl, hb⟩
  have HB := hideM hb
  clear hb
  rw [hp]
  go_wp2_with fail
  refine (pfloats _ _).mono ?_
  rintro e u ⟨rfl, rfl⟩
  rw [hfl]
  go_wp2
  go_ret
  exact ⟨rfl, HB.out⟩

set_option maxHeartbeats 1000000 in
theorem pForm17 {I : World → Prop} (C : ReckC I) (op : Int) (w : World) (h : 32 ≤ op ∧ op ≤ 36) (hI : I w) : Calls Tryd.prog 48 #[.int .i64 op] w fun e w' => e = .returned (.int .i64 6) ∧ Below w.heap.size w w' := by
  have hp : rkn op = false := decide_eq_false (by omega)
  have hfl : flt op = false := decide_eq_false (by omega)
  have HI := hideM hI
  clear hI
  have q0 : (op == 0) = false := by rw [beq_eq_false_iff_ne]; omega
  have q1 : (op == 1) = false := by rw [beq_eq_false_iff_ne]; omega
  have q15 : (op == 15) = false := by rw [beq_eq_false_iff_ne]; omega
  have q26 : (op == 26) = false := by rw [beq_eq_false_iff_ne]; omega
  have q27 : (op == 27) = false := by rw [beq_eq_false_iff_ne]; omega
  have q63 : (op == 63) = false := by rw [beq_eq_false_iff_ne]; omega
  have q64 : (op == 64) = false := by rw [beq_eq_false_iff_ne]; omega
  have q2 : (op == 2) = false := by rw [beq_eq_false_iff_ne]; omega
  have q3 : (op == 3) = false := by rw [beq_eq_false_iff_ne]; omega
  have q4 : (op == 4) = false := by rw [beq_eq_false_iff_ne]; omega
  have q12 : (op == 12) = false := by rw [beq_eq_false_iff_ne]; omega
  have q13 : (op == 13) = false := by rw [beq_eq_false_iff_ne]; omega
  have q14 : (op == 14) = false := by rw [beq_eq_false_iff_ne]; omega
  have q16 : (op == 16) = false := by rw [beq_eq_false_iff_ne]; omega
  have q17 : (op == 17) = false := by rw [beq_eq_false_iff_ne]; omega
  have q40 : (op == 40) = false := by rw [beq_eq_false_iff_ne]; omega
  have q41 : (op == 41) = false := by rw [beq_eq_false_iff_ne]; omega
  have q65 : (op == 65) = false := by rw [beq_eq_false_iff_ne]; omega
  have q66 : (op == 66) = false := by rw [beq_eq_false_iff_ne]; omega
  have a32 : decide ((32 : Int) ≤ op) = true := decide_eq_true (by omega)
  have b36 : decide (op ≤ (36 : Int)) = true := decide_eq_true (by omega)
  have a44 : decide ((44 : Int) ≤ op) = false := decide_eq_false (by omega)
  have a58 : decide ((58 : Int) ≤ op) = false := decide_eq_false (by omega)
  clear h
  go_enter Tryd.func48, Tryd.ntmps48
  go_wp2_with fail
  refine (C.reckons _ _ HI.out).mono ?_
  rintro e u ⟨rfl, hb⟩
  have HB := hideM hb
  clear hb
  rw [hp]
  go_wp2
  go_ret
  exact ⟨rfl, HB.out⟩

set_option maxHeartbeats 1000000 in
theorem pForm18 {I : World → Prop} (C : ReckC I) (op : Int) (w : World) (h : 37 ≤ op ∧ op ≤ 39) (hI : I w) : Calls Tryd.prog 48 #[.int .i64 op] w fun e w' => e = .returned (.int .i64 0) ∧ Below w.heap.size w w' := by
  have hp : rkn op = false := decide_eq_false (by omega)
  have hfl : flt op = false := decide_eq_false (by omega)
  have HI := hideM hI
  clear hI
  have q0 : (op == 0) = false := by rw [beq_eq_false_iff_ne]; omega
  have q1 : (op == 1) = false := by rw [beq_eq_false_iff_ne]; omega
  have q15 : (op == 15) = false := by rw [beq_eq_false_iff_ne]; omega
  have q26 : (op == 26) = false := by rw [beq_eq_false_iff_ne]; omega
  have q27 : (op == 27) = false := by rw [beq_eq_false_iff_ne]; omega
  have q63 : (op == 63) = false := by rw [beq_eq_false_iff_ne]; omega
  have q64 : (op == 64) = false := by rw [beq_eq_false_iff_ne]; omega
  have q2 : (op == 2) = false := by rw [beq_eq_false_iff_ne]; omega
  have q3 : (op == 3) = false := by rw [beq_eq_false_iff_ne]; omega
  have q4 : (op == 4) = false := by rw [beq_eq_false_iff_ne]; omega
  have q12 : (op == 12) = false := by rw [beq_eq_false_iff_ne]; omega
  have q13 : (op == 13) = false := by rw [beq_eq_false_iff_ne]; omega
  have q14 : (op == 14) = false := by rw [beq_eq_false_iff_ne]; omega
  have q16 : (op == 16) = false := by rw [beq_eq_false_iff_ne]; omega
  have q17 : (op == 17) = false := by rw [beq_eq_false_iff_ne]; omega
  have q40 : (op == 40) = false := by rw [beq_eq_false_iff_ne]; omega
  have q41 : (op == 41) = false := by rw [beq_eq_false_iff_ne]; omega
  have q65 : (op == 65) = false := by rw [beq_eq_false_iff_ne]; omega
  have q66 : (op == 66) = false := by rw [beq_eq_false_iff_ne]; omega
  have a32 : decide ((32 : Int) ≤ op) = true := decide_eq_true (by omega)
  have b36 : decide (op ≤ (36 : Int)) = false := decide_eq_false (by omega)
  have a44 : decide ((44 : Int) ≤ op) = false := decide_eq_false (by omega)
  have a58 : decide ((58 : Int) ≤ op) = false := decide_eq_false (by omega)
  clear h
  go_enter Tryd.func48, Tryd.ntmps48
  go_wp2_with fail
  refine (C.reckons _ _ HI.out).mono ?_
  rintro e u ⟨rfl, hb⟩
  have HB := hideM hb
  clear hb
  rw [hp]
  go_wp2_with fail
  refine (pfloats _ _).mono ?_
  rintro e u ⟨rfl, rfl⟩
  rw [hfl]
  go_wp2
  go_ret
  exact ⟨rfl, HB.out⟩

set_option maxHeartbeats 1000000 in
theorem pForm19 {I : World → Prop} (C : ReckC I) (op : Int) (w : World) (h : 40 ≤ op ∧ op ≤ 40) (hI : I w) : Calls Tryd.prog 48 #[.int .i64 op] w fun e w' => e = .returned (.int .i64 8) ∧ Below w.heap.size w w' := by
  have hp : rkn op = false := decide_eq_false (by omega)
  have hfl : flt op = false := decide_eq_false (by omega)
  have HI := hideM hI
  clear hI
  obtain rfl : op = 40 := by omega
  clear h
  go_enter Tryd.func48, Tryd.ntmps48
  go_wp2_with fail
  refine (C.reckons _ _ HI.out).mono ?_
  rintro e u ⟨rfl, hb⟩
  have HB := hideM hb
  clear hb
  rw [hp]
  go_wp2
  go_ret
  exact ⟨rfl, HB.out⟩

set_option maxHeartbeats 1000000 in
theorem pForm20 {I : World → Prop} (C : ReckC I) (op : Int) (w : World) (h : 41 ≤ op ∧ op ≤ 41) (hI : I w) : Calls Tryd.prog 48 #[.int .i64 op] w fun e w' => e = .returned (.int .i64 8) ∧ Below w.heap.size w w' := by
  have hp : rkn op = false := decide_eq_false (by omega)
  have hfl : flt op = false := decide_eq_false (by omega)
  have HI := hideM hI
  clear hI
  obtain rfl : op = 41 := by omega
  clear h
  go_enter Tryd.func48, Tryd.ntmps48
  go_wp2_with fail
  refine (C.reckons _ _ HI.out).mono ?_
  rintro e u ⟨rfl, hb⟩
  have HB := hideM hb
  clear hb
  rw [hp]
  go_wp2
  go_ret
  exact ⟨rfl, HB.out⟩

set_option maxHeartbeats 1000000 in
theorem pForm21 {I : World → Prop} (C : ReckC I) (op : Int) (w : World) (h : 42 ≤ op ∧ op ≤ 42) (hI : I w) : Calls Tryd.prog 48 #[.int .i64 op] w fun e w' => e = .returned (.int .i64 10) ∧ Below w.heap.size w w' := by
  have hp : rkn op = false := decide_eq_false (by omega)
  have hfl : flt op = true := decide_eq_true (by omega)
  have HI := hideM hI
  clear hI
  obtain rfl : op = 42 := by omega
  clear h
  go_enter Tryd.func48, Tryd.ntmps48
  go_wp2_with fail
  refine (C.reckons _ _ HI.out).mono ?_
  rintro e u ⟨rfl, hb⟩
  have HB := hideM hb
  clear hb
  rw [hp]
  go_wp2_with fail
  refine (pfloats _ _).mono ?_
  rintro e u ⟨rfl, rfl⟩
  rw [hfl]
  go_wp2
  go_ret
  exact ⟨rfl, HB.out⟩

set_option maxHeartbeats 1000000 in
theorem pForm22 {I : World → Prop} (C : ReckC I) (op : Int) (w : World) (h : 43 ≤ op ∧ op ≤ 43) (hI : I w) : Calls Tryd.prog 48 #[.int .i64 op] w fun e w' => e = .returned (.int .i64 10) ∧ Below w.heap.size w w' := by
  have hp : rkn op = false := decide_eq_false (by omega)
  have hfl : flt op = true := decide_eq_true (by omega)
  have HI := hideM hI
  clear hI
  obtain rfl : op = 43 := by omega
  clear h
  go_enter Tryd.func48, Tryd.ntmps48
  go_wp2_with fail
  refine (C.reckons _ _ HI.out).mono ?_
  rintro e u ⟨rfl, hb⟩
  have HB := hideM hb
  clear hb
  rw [hp]
  go_wp2_with fail
  refine (pfloats _ _).mono ?_
  rintro e u ⟨rfl, rfl⟩
  rw [hfl]
  go_wp2
  go_ret
  exact ⟨rfl, HB.out⟩

set_option maxHeartbeats 1000000 in
theorem pForm23 {I : World → Prop} (C : ReckC I) (op : Int) (w : World) (h : 44 ≤ op ∧ op ≤ 55) (hI : I w) : Calls Tryd.prog 48 #[.int .i64 op] w fun e w' => e = .returned (.int .i64 8) ∧ Below w.heap.size w w' := by
  have hp : rkn op = false := decide_eq_false (by omega)
  have hfl : flt op = false := decide_eq_false (by omega)
  have HI := hideM hI
  clear hI
  have q0 : (op == 0) = false := by rw [beq_eq_false_iff_ne]; omega
  have q1 : (op == 1) = false := by rw [beq_eq_false_iff_ne]; omega
  have q15 : (op == 15) = false := by rw [beq_eq_false_iff_ne]; omega
  have q26 : (op == 26) = false := by rw [beq_eq_false_iff_ne]; omega
  have q27 : (op == 27) = false := by rw [beq_eq_false_iff_ne]; omega
  have q63 : (op == 63) = false := by rw [beq_eq_false_iff_ne]; omega
  have q64 : (op == 64) = false := by rw [beq_eq_false_iff_ne]; omega
  have q2 : (op == 2) = false := by rw [beq_eq_false_iff_ne]; omega
  have q3 : (op == 3) = false := by rw [beq_eq_false_iff_ne]; omega
  have q4 : (op == 4) = false := by rw [beq_eq_false_iff_ne]; omega
  have q12 : (op == 12) = false := by rw [beq_eq_false_iff_ne]; omega
  have q13 : (op == 13) = false := by rw [beq_eq_false_iff_ne]; omega
  have q14 : (op == 14) = false := by rw [beq_eq_false_iff_ne]; omega
  have q16 : (op == 16) = false := by rw [beq_eq_false_iff_ne]; omega
  have q17 : (op == 17) = false := by rw [beq_eq_false_iff_ne]; omega
  have q40 : (op == 40) = false := by rw [beq_eq_false_iff_ne]; omega
  have q41 : (op == 41) = false := by rw [beq_eq_false_iff_ne]; omega
  have q65 : (op == 65) = false := by rw [beq_eq_false_iff_ne]; omega
  have q66 : (op == 66) = false := by rw [beq_eq_false_iff_ne]; omega
  have a32 : decide ((32 : Int) ≤ op) = true := decide_eq_true (by omega)
  have b36 : decide (op ≤ (36 : Int)) = false := decide_eq_false (by omega)
  have a44 : decide ((44 : Int) ≤ op) = true := decide_eq_true (by omega)
  have b55 : decide (op ≤ (55 : Int)) = true := decide_eq_true (by omega)
  have a58 : decide ((58 : Int) ≤ op) = false := decide_eq_false (by omega)
  clear h
  go_enter Tryd.func48, Tryd.ntmps48
  go_wp2_with fail
  refine (C.reckons _ _ HI.out).mono ?_
  rintro e u ⟨rfl, hb⟩
  have HB := hideM hb
  clear hb
  rw [hp]
  go_wp2
  go_ret
  exact ⟨rfl, HB.out⟩

set_option maxHeartbeats 1000000 in
theorem pForm24 {I : World → Prop} (C : ReckC I) (op : Int) (w : World) (h : 56 ≤ op ∧ op ≤ 56) (hI : I w) : Calls Tryd.prog 48 #[.int .i64 op] w fun e w' => e = .returned (.int .i64 10) ∧ Below w.heap.size w w' := by
  have hp : rkn op = false := decide_eq_false (by omega)
  have hfl : flt op = true := decide_eq_true (by omega)
  have HI := hideM hI
  clear hI
  obtain rfl : op = 56 := by omega
  clear h
  go_enter Tryd.func48, Tryd.ntmps48
  go_wp2_with fail
  refine (C.reckons _ _ HI.out).mono ?_
  rintro e u ⟨rfl, hb⟩
  have HB := hideM hb
  clear hb
  rw [hp]
  go_wp2_with fail
  refine (pfloats _ _).mono ?_
  rintro e u ⟨rfl, rfl⟩
  rw [hfl]
  go_wp2
  go_ret
  exact ⟨rfl, HB.out⟩

set_option maxHeartbeats 1000000 in
theorem pForm25 {I : World → Prop} (C : ReckC I) (op : Int) (w : World) (h : 57 ≤ op ∧ op ≤ 57) (hI : I w) : Calls Tryd.prog 48 #[.int .i64 op] w fun e w' => e = .returned (.int .i64 10) ∧ Below w.heap.size w w' := by
  have hp : rkn op = false := decide_eq_false (by omega)
  have hfl : flt op = true := decide_eq_true (by omega)
  have HI := hideM hI
  clear hI
  obtain rfl : op = 57 := by omega
  clear h
  go_enter Tryd.func48, Tryd.ntmps48
  go_wp2_with fail
  refine (C.reckons _ _ HI.out).mono ?_
  rintro e u ⟨rfl, hb⟩
  have HB := hideM hb
  clear hb
  rw [hp]
  go_wp2_with fail
  refine (pfloats _ _).mono ?_
  rintro e u ⟨rfl, rfl⟩
  rw [hfl]
  go_wp2
  go_ret
  exact ⟨rfl, HB.out⟩

set_option maxHeartbeats 1000000 in
theorem pForm26 {I : World → Prop} (C : ReckC I) (op : Int) (w : World) (h : 58 ≤ op ∧ op ≤ 62) (hI : I w) : Calls Tryd.prog 48 #[.int .i64 op] w fun e w' => e = .returned (.int .i64 8) ∧ Below w.heap.size w w' := by
  have hp : rkn op = false := decide_eq_false (by omega)
  have hfl : flt op = false := decide_eq_false (by omega)
  have HI := hideM hI
  clear hI
  have q0 : (op == 0) = false := by rw [beq_eq_false_iff_ne]; omega
  have q1 : (op == 1) = false := by rw [beq_eq_false_iff_ne]; omega
  have q15 : (op == 15) = false := by rw [beq_eq_false_iff_ne]; omega
  have q26 : (op == 26) = false := by rw [beq_eq_false_iff_ne]; omega
  have q27 : (op == 27) = false := by rw [beq_eq_false_iff_ne]; omega
  have q63 : (op == 63) = false := by rw [beq_eq_false_iff_ne]; omega
  have q64 : (op == 64) = false := by rw [beq_eq_false_iff_ne]; omega
  have q2 : (op == 2) = false := by rw [beq_eq_false_iff_ne]; omega
  have q3 : (op == 3) = false := by rw [beq_eq_false_iff_ne]; omega
  have q4 : (op == 4) = false := by rw [beq_eq_false_iff_ne]; omega
  have q12 : (op == 12) = false := by rw [beq_eq_false_iff_ne]; omega
  have q13 : (op == 13) = false := by rw [beq_eq_false_iff_ne]; omega
  have q14 : (op == 14) = false := by rw [beq_eq_false_iff_ne]; omega
  have q16 : (op == 16) = false := by rw [beq_eq_false_iff_ne]; omega
  have q17 : (op == 17) = false := by rw [beq_eq_false_iff_ne]; omega
  have q40 : (op == 40) = false := by rw [beq_eq_false_iff_ne]; omega
  have q41 : (op == 41) = false := by rw [beq_eq_false_iff_ne]; omega
  have q65 : (op == 65) = false := by rw [beq_eq_false_iff_ne]; omega
  have q66 : (op == 66) = false := by rw [beq_eq_false_iff_ne]; omega
  have a32 : decide ((32 : Int) ≤ op) = true := decide_eq_true (by omega)
  have b36 : decide (op ≤ (36 : Int)) = false := decide_eq_false (by omega)
  have a44 : decide ((44 : Int) ≤ op) = true := decide_eq_true (by omega)
  have b55 : decide (op ≤ (55 : Int)) = false := decide_eq_false (by omega)
  have a58 : decide ((58 : Int) ≤ op) = true := decide_eq_true (by omega)
  have b62 : decide (op ≤ (62 : Int)) = true := decide_eq_true (by omega)
  clear h
  go_enter Tryd.func48, Tryd.ntmps48
  go_wp2_with fail
  refine (C.reckons _ _ HI.out).mono ?_
  rintro e u ⟨rfl, hb⟩
  have HB := hideM hb
  clear hb
  rw [hp]
  go_wp2
  go_ret
  exact ⟨rfl, HB.out⟩

set_option maxHeartbeats 1000000 in
theorem pForm27 {I : World → Prop} (C : ReckC I) (op : Int) (w : World) (h : 63 ≤ op ∧ op ≤ 63) (hI : I w) : Calls Tryd.prog 48 #[.int .i64 op] w fun e w' => e = .returned (.int .i64 1) ∧ Below w.heap.size w w' := by
  have hp : rkn op = false := decide_eq_false (by omega)
  have hfl : flt op = false := decide_eq_false (by omega)
  have HI := hideM hI
  clear hI
  obtain rfl : op = 63 := by omega
  clear h
  go_enter Tryd.func48, Tryd.ntmps48
  go_wp2
  go_ret
  exact ⟨rfl, Below.refl _ _⟩

end Go.Proofs.YtlpnoelolkbmmaaDoor
