/- The program's Form, a part of the classes. -/
import Derived.Test.YtlpnoelolkbmmaaDoorPF0
namespace Go.Proofs.YtlpnoelolkbmmaaDoor
open Go.RowKit Rep
set_option linter.unusedVariables false

set_option maxHeartbeats 1000000 in
theorem pForm0 {I : World → Prop} (C : ReckC I) (op : Int) (w : World) (h : op ≤ -1) (hI : I w) : Calls Tryd.prog 48 #[.int .i64 op] w fun e w' => e = .returned (.int .i64 0) ∧ Below w.heap.size w w' := by
  have hp : rkn op = false := decide_eq_false (by omega)
  have hfl : flt op = false := decide_eq_false (by omega)
  have HI := hideM hI
  clear hI
  have q0 : (op == 0) = false := by rw [beq_eq_false_iff_ne]; omega
  have q1 : (op == 1) = false := by rw [beq_eq_false_iff_ne]; omega
  have q15 : (op == 15) = false := by rw [beq_eq_false_iff_ne]; omega
  have q26 : (op == 26) = false := by rw [beq_eq_false_iff_ne]; omega
  have q27 : (op == 27) = false := by rw [beq_eq_false_iff_ne]; omega
  have q63 : (op == 63) = false := by rw [beq_eq_false_iff_ne]; omega
  have q64 : (op == 64) = false := by rw [beq_eq_false_iff_ne]; omega
  have q2 : (op == 2) = false := by rw [beq_eq_false_iff_ne]; omega
  have q3 : (op == 3) = false := by rw [beq_eq_false_iff_ne]; omega
  have q4 : (op == 4) = false := by rw [beq_eq_false_iff_ne]; omega
  have q12 : (op == 12) = false := by rw [beq_eq_false_iff_ne]; omega
  have q13 : (op == 13) = false := by rw [beq_eq_false_iff_ne]; omega
  have q14 : (op == 14) = false := by rw [beq_eq_false_iff_ne]; omega
  have q16 : (op == 16) = false := by rw [beq_eq_false_iff_ne]; omega
  have q17 : (op == 17) = false := by rw [beq_eq_false_iff_ne]; omega
  have q40 : (op == 40) = false := by rw [beq_eq_false_iff_ne]; omega
  have q41 : (op == 41) = false := by rw [beq_eq_false_iff_ne]; omega
  have q65 : (op == 65) = false := by rw [beq_eq_false_iff_ne]; omega
  have q66 : (op == 66) = false := by rw [beq_eq_false_iff_ne]; omega
  have a32 : decide ((32 : Int) ≤ op) = false := decide_eq_false (by omega)
  have a44 : decide ((44 : Int) ≤ op) = false := decide_eq_false (by omega)
  have a58 : decide ((58 : Int) ≤ op) = false := decide_eq_false (by omega)
  clear h
  go_enter Tryd.func48, Tryd.ntmps48
  go_wp2_with fail
  refine (C.reckons _ _ HI.out).mono ?_
  rintro e u ⟨rfl, hb⟩
  have HB := hideM hb
  clear hb
  rw [hp]
  go_wp2_with fail
  refine (pfloats _ _).mono ?_
  rintro e u ⟨rfl, rfl⟩
  rw [hfl]
  go_wp2
  go_ret
  exact ⟨rfl, HB.out⟩

set_option maxHeartbeats 1000000 in
theorem pForm1 {I : World → Prop} (C : ReckC I) (op : Int) (w : World) (h : 0 ≤ op ∧ op ≤ 0) (hI : I w) : Calls Tryd.prog 48 #[.int .i64 op] w fun e w' => e = .returned (.int .i64 1) ∧ Below w.heap.size w w' := by
  have hp : rkn op = false := decide_eq_false (by omega)
  have hfl : flt op = false := decide_eq_false (by omega)
  have HI := hideM hI
  clear hI
  obtain rfl : op = 0 := by omega
  clear h
  go_enter Tryd.func48, Tryd.ntmps48
  go_wp2
  go_ret
  exact ⟨rfl, Below.refl _ _⟩

set_option maxHeartbeats 1000000 in
theorem pForm2 {I : World → Prop} (C : ReckC I) (op : Int) (w : World) (h : 1 ≤ op ∧ op ≤ 1) (hI : I w) : Calls Tryd.prog 48 #[.int .i64 op] w fun e w' => e = .returned (.int .i64 1) ∧ Below w.heap.size w w' := by
  have hp : rkn op = false := decide_eq_false (by omega)
  have hfl : flt op = false := decide_eq_false (by omega)
  have HI := hideM hI
  clear hI
  obtain rfl : op = 1 := by omega
  clear h
  go_enter Tryd.func48, Tryd.ntmps48
  go_wp2
  go_ret
  exact ⟨rfl, Below.refl _ _⟩

set_option maxHeartbeats 1000000 in
theorem pForm3 {I : World → Prop} (C : ReckC I) (op : Int) (w : World) (h : 2 ≤ op ∧ op ≤ 2) (hI : I w) : Calls Tryd.prog 48 #[.int .i64 op] w fun e w' => e = .returned (.int .i64 2) ∧ Below w.heap.size w w' := by
  have hp : rkn op = false := decide_eq_false (by omega)
  have hfl : flt op = false := decide_eq_false (by omega)
  have HI := hideM hI
  clear hI
  obtain rfl : op = 2 := by omega
  clear h
  go_enter Tryd.func48, Tryd.ntmps48
  go_wp2_with fail
  refine (C.reckons _ _ HI.out).mono ?_
  rintro e u ⟨rfl, hb⟩
  have HB := hideM hb
  clear hb
  rw [hp]
  go_wp2
  go_ret
  exact ⟨rfl, HB.out⟩

set_option maxHeartbeats 1000000 in
theorem pForm4 {I : World → Prop} (C : ReckC I) (op : Int) (w : World) (h : 3 ≤ op ∧ op ≤ 3) (hI : I w) : Calls Tryd.prog 48 #[.int .i64 op] w fun e w' => e = .returned (.int .i64 2) ∧ Below w.heap.size w w' := by
  have hp : rkn op = false := decide_eq_false (by omega)
  have hfl : flt op = false := decide_eq_false (by omega)
  have HI := hideM hI
  clear hI
  obtain rfl : op = 3 := by omega
  clear h
  go_enter Tryd.func48, Tryd.ntmps48
  go_wp2_with fail
  refine (C.reckons _ _ HI.out).mono ?_
  rintro e u ⟨rfl, hb⟩
  have HB := hideM hb
  clear hb
  rw [hp]
  go_wp2
  go_ret
  exact ⟨rfl, HB.out⟩

set_option maxHeartbeats 1000000 in
theorem pForm5 {I : World → Prop} (C : ReckC I) (op : Int) (w : World) (h : 4 ≤ op ∧ op ≤ 4) (hI : I w) : Calls Tryd.prog 48 #[.int .i64 op] w fun e w' => e = .returned (.int .i64 3) ∧ Below w.heap.size w w' := by
  have hp : rkn op = false := decide_eq_false (by omega)
  have hfl : flt op = false := decide_eq_false (by omega)
  have HI := hideM hI
  clear hI
  obtain rfl : op = 4 := by omega
  clear h
  go_enter Tryd.func48, Tryd.ntmps48
  go_wp2_with fail
  refine (C.reckons _ _ HI.out).mono ?_
  rintro e u ⟨rfl, hb⟩
  have HB := hideM hb
  clear hb
  rw [hp]
  go_wp2
  go_ret
  exact ⟨rfl, HB.out⟩

set_option maxHeartbeats 1000000 in
theorem pForm6 {I : World → Prop} (C : ReckC I) (op : Int) (w : World) (h : 5 ≤ op ∧ op ≤ 11) (hI : I w) : Calls Tryd.prog 48 #[.int .i64 op] w fun e w' => e = .returned (.int .i64 0) ∧ Below w.heap.size w w' := by
  have hp : rkn op = false := decide_eq_false (by omega)
  have hfl : flt op = false := decide_eq_false (by omega)
  have HI := hideM hI
  clear hI
  have q0 : (op == 0) = false := by rw [beq_eq_false_iff_ne]; omega
  have q1 : (op == 1) = false := by rw [beq_eq_false_iff_ne]; omega
  have q15 : (op == 15) = false := by rw [beq_eq_false_iff_ne]; omega
  have q26 : (op == 26) = false := by rw [beq_eq_false_iff_ne]; omega
  have q27 : (op == 27) = false := by rw [beq_eq_false_iff_ne]; omega
  have q63 : (op == 63) = false := by rw [beq_eq_false_iff_ne]; omega
  have q64 : (op == 64) = false := by rw [beq_eq_false_iff_ne]; omega
  have q2 : (op == 2) = false := by rw [beq_eq_false_iff_ne]; omega
  have q3 : (op == 3) = false := by rw [beq_eq_false_iff_ne]; omega
  have q4 : (op == 4) = false := by rw [beq_eq_false_iff_ne]; omega
  have q12 : (op == 12) = false := by rw [beq_eq_false_iff_ne]; omega
  have q13 : (op == 13) = false := by rw [beq_eq_false_iff_ne]; omega
  have q14 : (op == 14) = false := by rw [beq_eq_false_iff_ne]; omega
  have q16 : (op == 16) = false := by rw [beq_eq_false_iff_ne]; omega
  have q17 : (op == 17) = false := by rw [beq_eq_false_iff_ne]; omega
  have q40 : (op == 40) = false := by rw [beq_eq_false_iff_ne]; omega
  have q41 : (op == 41) = false := by rw [beq_eq_false_iff_ne]; omega
  have q65 : (op == 65) = false := by rw [beq_eq_false_iff_ne]; omega
  have q66 : (op == 66) = false := by rw [beq_eq_false_iff_ne]; omega
  have a32 : decide ((32 : Int) ≤ op) = false := decide_eq_false (by omega)
  have a44 : decide ((44 : Int) ≤ op) = false := decide_eq_false (by omega)
  have a58 : decide ((58 : Int) ≤ op) = false := decide_eq_false (by omega)
  clear h
  go_enter Tryd.func48, Tryd.ntmps48
  go_wp2_with fail
  refine (C.reckons _ _ HI.out).mono ?_
  rintro e u ⟨rfl, hb⟩
  have HB := hideM hb
  clear hb
  rw [hp]
  go_wp2_with fail
  refine (pfloats _ _).mono ?_
  rintro e u ⟨rfl, rfl⟩
  rw [hfl]
  go_wp2
  go_ret
  exact ⟨rfl, HB.out⟩

set_option maxHeartbeats 1000000 in
theorem pForm7 {I : World → Prop} (C : ReckC I) (op : Int) (w : World) (h : 12 ≤ op ∧ op ≤ 12) (hI : I w) : Calls Tryd.prog 48 #[.int .i64 op] w fun e w' => e = .returned (.int .i64 4) ∧ Below w.heap.size w w' := by
  have hp : rkn op = false := decide_eq_false (by omega)
  have hfl : flt op = false := decide_eq_false (by omega)
  have HI := hideM hI
  clear hI
  obtain rfl : op = 12 := by omega
  clear h
  go_enter Tryd.func48, Tryd.ntmps48
  go_wp2_with fail
  refine (C.reckons _ _ HI.out).mono ?_
  rintro e u ⟨rfl, hb⟩
  have HB := hideM hb
  clear hb
  rw [hp]
  go_wp2
  go_ret
  exact ⟨rfl, HB.out⟩

set_option maxHeartbeats 1000000 in
theorem pForm8 {I : World → Prop} (C : ReckC I) (op : Int) (w : World) (h : 13 ≤ op ∧ op ≤ 13) (hI : I w) : Calls Tryd.prog 48 #[.int .i64 op] w fun e w' => e = .returned (.int .i64 4) ∧ Below w.heap.size w w' := by
  have hp : rkn op = false := decide_eq_false (by omega)
  have hfl : flt op = false := decide_eq_false (by omega)
  have HI := hideM hI
  clear hI
  obtain rfl : op = 13 := by omega
  clear h
  go_enter Tryd.func48, Tryd.ntmps48
  go_wp2_with fail
  refine (C.reckons _ _ HI.out).mono ?_
  rintro e u ⟨rfl, hb⟩
  have HB := hideM hb
  clear hb
  rw [hp]
  go_wp2
  go_ret
  exact ⟨rfl, HB.out⟩

set_option maxHeartbeats 1000000 in
theorem pForm9 {I : World → Prop} (C : ReckC I) (op : Int) (w : World) (h : 14 ≤ op ∧ op ≤ 14) (hI : I w) : Calls Tryd.prog 48 #[.int .i64 op] w fun e w' => e = .returned (.int .i64 5) ∧ Below w.heap.size w w' := by
  have hp : rkn op = false := decide_eq_false (by omega)
  have hfl : flt op = false := decide_eq_false (by omega)
  have HI := hideM hI
  clear hI
  obtain rfl : op = 14 := by omega
  clear h
  go_enter Tryd.func48, Tryd.ntmps48
  go_wp2_with fail
  refine (C.reckons _ _ HI.out).mono ?_
  rintro e u ⟨rfl, hb⟩
  have HB := hideM hb
  clear hb
  rw [hp]
  go_wp2
  go_ret
  exact ⟨rfl, HB.out⟩

set_option maxHeartbeats 1000000 in
theorem pForm10 {I : World → Prop} (C : ReckC I) (op : Int) (w : World) (h : 15 ≤ op ∧ op ≤ 15) (hI : I w) : Calls Tryd.prog 48 #[.int .i64 op] w fun e w' => e = .returned (.int .i64 1) ∧ Below w.heap.size w w' := by
  have hp : rkn op = false := decide_eq_false (by omega)
  have hfl : flt op = false := decide_eq_false (by omega)
  have HI := hideM hI
  clear hI
  obtain rfl : op = 15 := by omega
  clear h
  go_enter Tryd.func48, Tryd.ntmps48
  go_wp2
  go_ret
  exact ⟨rfl, Below.refl _ _⟩

set_option maxHeartbeats 1000000 in
theorem pForm11 {I : World → Prop} (C : ReckC I) (op : Int) (w : World) (h : 16 ≤ op ∧ op ≤ 16) (hI : I w) : Calls Tryd.prog 48 #[.int .i64 op] w fun e w' => e = .returned (.int .i64 6) ∧ Below w.heap.size w w' := by
  have hp : rkn op = false := decide_eq_false (by omega)
  have hfl : flt op = false := decide_eq_false (by omega)
  have HI := hideM hI
  clear hI
  obtain rfl : op = 16 := by omega
  clear h
  go_enter Tryd.func48, Tryd.ntmps48
  go_wp2_with fail
  refine (C.reckons _ _ HI.out).mono ?_
  rintro e u ⟨rfl, hb⟩
  have HB := hideM hb
  clear hb
  rw [hp]
  go_wp2
  go_ret
  exact ⟨rfl, HB.out⟩

set_option maxHeartbeats 1000000 in
theorem pForm12 {I : World → Prop} (C : ReckC I) (op : Int) (w : World) (h : 17 ≤ op ∧ op ≤ 17) (hI : I w) : Calls Tryd.prog 48 #[.int .i64 op] w fun e w' => e = .returned (.int .i64 7) ∧ Below w.heap.size w w' := by
  have hp : rkn op = false := decide_eq_false (by omega)
  have hfl : flt op = false := decide_eq_false (by omega)
  have HI := hideM hI
  clear hI
  obtain rfl : op = 17 := by omega
  clear h
  go_enter Tryd.func48, Tryd.ntmps48
  go_wp2_with fail
  refine (C.reckons _ _ HI.out).mono ?_
  rintro e u ⟨rfl, hb⟩
  have HB := hideM hb
  clear hb
  rw [hp]
  go_wp2
  go_ret
  exact ⟨rfl, HB.out⟩

set_option maxHeartbeats 1000000 in
theorem pForm13 {I : World → Prop} (C : ReckC I) (op : Int) (w : World) (h : 18 ≤ op ∧ op ≤ 25) (hI : I w) : Calls Tryd.prog 48 #[.int .i64 op] w fun e w' => e = .returned (.int .i64 0) ∧ Below w.heap.size w w' := by
  have hp : rkn op = false := decide_eq_false (by omega)
  have hfl : flt op = false := decide_eq_false (by omega)
  have HI := hideM hI
  clear hI
  have q0 : (op == 0) = false := by rw [beq_eq_false_iff_ne]; omega
  have q1 : (op == 1) = false := by rw [beq_eq_false_iff_ne]; omega
  have q15 : (op == 15) = false := by rw [beq_eq_false_iff_ne]; omega
  have q26 : (op == 26) = false := by rw [beq_eq_false_iff_ne]; omega
  have q27 : (op == 27) = false := by rw [beq_eq_false_iff_ne]; omega
  have q63 : (op == 63) = false := by rw [beq_eq_false_iff_ne]; omega
  have q64 : (op == 64) = false := by rw [beq_eq_false_iff_ne]; omega
  have q2 : (op == 2) = false := by rw [beq_eq_false_iff_ne]; omega
  have q3 : (op == 3) = false := by rw [beq_eq_false_iff_ne]; omega
  have q4 : (op == 4) = false := by rw [beq_eq_false_iff_ne]; omega
  have q12 : (op == 12) = false := by rw [beq_eq_false_iff_ne]; omega
  have q13 : (op == 13) = false := by rw [beq_eq_false_iff_ne]; omega
  have q14 : (op == 14) = false := by rw [beq_eq_false_iff_ne]; omega
  have q16 : (op == 16) = false := by rw [beq_eq_false_iff_ne]; omega
  have q17 : (op == 17) = false := by rw [beq_eq_false_iff_ne]; omega
  have q40 : (op == 40) = false := by rw [beq_eq_false_iff_ne]; omega
  have q41 : (op == 41) = false := by rw [beq_eq_false_iff_ne]; omega
  have q65 : (op == 65) = false := by rw [beq_eq_false_iff_ne]; omega
  have q66 : (op == 66) = false := by rw [beq_eq_false_iff_ne]; omega
  have a32 : decide ((32 : Int) ≤ op) = false := decide_eq_false (by omega)
  have a44 : decide ((44 : Int) ≤ op) = false := decide_eq_false (by omega)
  have a58 : decide ((58 : Int) ≤ op) = false := decide_eq_false (by omega)
  clear h
  go_enter Tryd.func48, Tryd.ntmps48
  go_wp2_with fail
  refine (C.reckons _ _ HI.out).mono ?_
  rintro e u ⟨rfl, hb⟩
  have HB := hideM hb
  clear hb
  rw [hp]
  go_wp2_with fail
  refine (pfloats _ _).mono ?_
  rintro e u ⟨rfl, rfl⟩
  rw [hfl]
  go_wp2
  go_ret
  exact ⟨rfl, HB.out⟩

end Go.Proofs.YtlpnoelolkbmmaaDoor
