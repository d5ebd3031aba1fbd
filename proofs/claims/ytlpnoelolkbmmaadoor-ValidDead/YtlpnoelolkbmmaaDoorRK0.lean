/- Whether an instruction only reckons, as the program tells it by ranges of numbers. -/
import Derived.Test.YtlpnoelolkbmmaaDoorPF4
namespace Go.Proofs.YtlpnoelolkbmmaaDoor
open Go.RowKit Rep
set_option linter.unusedVariables false
theorem preck0 (op : Int) (w : World) (h : op ≤ 68) : Calls Tryd.prog 62 #[.int .i64 op] w fun e w' => e = .returned (.bool false) ∧ w' = w := by
  have q167 : (op == 167) = false := by rw [beq_eq_false_iff_ne]; omega
  have q172 : (op == 172) = false := by rw [beq_eq_false_iff_ne]; omega
  have q173 : (op == 173) = false := by rw [beq_eq_false_iff_ne]; omega
  have a69 : decide ((69 : Int) ≤ op) = false := decide_eq_false (by omega)
  have a103 : decide ((103 : Int) ≤ op) = false := decide_eq_false (by omega)
  clear h
  go_enter Tryd.func62, Tryd.ntmps62
  go_wp2
  go_ret
  exact ⟨rfl, rfl⟩
theorem preck1 (op : Int) (w : World) (h : 69 ≤ op ∧ op ≤ 90) : Calls Tryd.prog 62 #[.int .i64 op] w fun e w' => e = .returned (.bool true) ∧ w' = w := by
  have q167 : (op == 167) = false := by rw [beq_eq_false_iff_ne]; omega
  have q172 : (op == 172) = false := by rw [beq_eq_false_iff_ne]; omega
  have q173 : (op == 173) = false := by rw [beq_eq_false_iff_ne]; omega
  have a69 : decide ((69 : Int) ≤ op) = true := decide_eq_true (by omega)
  have b90 : decide (op ≤ (90 : Int)) = true := decide_eq_true (by omega)
  have a103 : decide ((103 : Int) ≤ op) = false := decide_eq_false (by omega)
  clear h
  go_enter Tryd.func62, Tryd.ntmps62
  go_wp2
  go_ret
  exact ⟨rfl, rfl⟩
theorem preck2 (op : Int) (w : World) (h : 91 ≤ op ∧ op ≤ 102) : Calls Tryd.prog 62 #[.int .i64 op] w fun e w' => e = .returned (.bool false) ∧ w' = w := by
  have q167 : (op == 167) = false := by rw [beq_eq_false_iff_ne]; omega
  have q172 : (op == 172) = false := by rw [beq_eq_false_iff_ne]; omega
  have q173 : (op == 173) = false := by rw [beq_eq_false_iff_ne]; omega
  have a69 : decide ((69 : Int) ≤ op) = true := decide_eq_true (by omega)
  have b90 : decide (op ≤ (90 : Int)) = false := decide_eq_false (by omega)
  have a103 : decide ((103 : Int) ≤ op) = false := decide_eq_false (by omega)
  clear h
  go_enter Tryd.func62, Tryd.ntmps62
  go_wp2
  go_ret
  exact ⟨rfl, rfl⟩
theorem preck3 (op : Int) (w : World) (h : 103 ≤ op ∧ op ≤ 138) : Calls Tryd.prog 62 #[.int .i64 op] w fun e w' => e = .returned (.bool true) ∧ w' = w := by
  have q167 : (op == 167) = false := by rw [beq_eq_false_iff_ne]; omega
  have q172 : (op == 172) = false := by rw [beq_eq_false_iff_ne]; omega
  have q173 : (op == 173) = false := by rw [beq_eq_false_iff_ne]; omega
  have a69 : decide ((69 : Int) ≤ op) = true := decide_eq_true (by omega)
  have b90 : decide (op ≤ (90 : Int)) = false := decide_eq_false (by omega)
  have a103 : decide ((103 : Int) ≤ op) = true := decide_eq_true (by omega)
  have b138 : decide (op ≤ (138 : Int)) = true := decide_eq_true (by omega)
  clear h
  go_enter Tryd.func62, Tryd.ntmps62
  go_wp2
  go_ret
  exact ⟨rfl, rfl⟩
theorem preck4 (op : Int) (w : World) (h : 139 ≤ op ∧ op ≤ 166) : Calls Tryd.prog 62 #[.int .i64 op] w fun e w' => e = .returned (.bool false) ∧ w' = w := by
  have q167 : (op == 167) = false := by rw [beq_eq_false_iff_ne]; omega
  have q172 : (op == 172) = false := by rw [beq_eq_false_iff_ne]; omega
  have q173 : (op == 173) = false := by rw [beq_eq_false_iff_ne]; omega
  have a69 : decide ((69 : Int) ≤ op) = true := decide_eq_true (by omega)
  have b90 : decide (op ≤ (90 : Int)) = false := decide_eq_false (by omega)
  have a103 : decide ((103 : Int) ≤ op) = true := decide_eq_true (by omega)
  have b138 : decide (op ≤ (138 : Int)) = false := decide_eq_false (by omega)
  clear h
  go_enter Tryd.func62, Tryd.ntmps62
  go_wp2
  go_ret
  exact ⟨rfl, rfl⟩
theorem preck5 (op : Int) (w : World) (h : 167 ≤ op ∧ op ≤ 167) : Calls Tryd.prog 62 #[.int .i64 op] w fun e w' => e = .returned (.bool true) ∧ w' = w := by
  obtain rfl : op = 167 := by omega
  clear h
  go_enter Tryd.func62, Tryd.ntmps62
  go_wp2
  go_ret
  exact ⟨rfl, rfl⟩
theorem preck6 (op : Int) (w : World) (h : 168 ≤ op ∧ op ≤ 171) : Calls Tryd.prog 62 #[.int .i64 op] w fun e w' => e = .returned (.bool false) ∧ w' = w := by
  have q167 : (op == 167) = false := by rw [beq_eq_false_iff_ne]; omega
  have q172 : (op == 172) = false := by rw [beq_eq_false_iff_ne]; omega
  have q173 : (op == 173) = false := by rw [beq_eq_false_iff_ne]; omega
  have a69 : decide ((69 : Int) ≤ op) = true := decide_eq_true (by omega)
  have b90 : decide (op ≤ (90 : Int)) = false := decide_eq_false (by omega)
  have a103 : decide ((103 : Int) ≤ op) = true := decide_eq_true (by omega)
  have b138 : decide (op ≤ (138 : Int)) = false := decide_eq_false (by omega)
  clear h
  go_enter Tryd.func62, Tryd.ntmps62
  go_wp2
  go_ret
  exact ⟨rfl, rfl⟩
theorem preck7 (op : Int) (w : World) (h : 172 ≤ op ∧ op ≤ 172) : Calls Tryd.prog 62 #[.int .i64 op] w fun e w' => e = .returned (.bool true) ∧ w' = w := by
  obtain rfl : op = 172 := by omega
  clear h
  go_enter Tryd.func62, Tryd.ntmps62
  go_wp2
  go_ret
  exact ⟨rfl, rfl⟩
theorem preck8 (op : Int) (w : World) (h : 173 ≤ op ∧ op ≤ 173) : Calls Tryd.prog 62 #[.int .i64 op] w fun e w' => e = .returned (.bool true) ∧ w' = w := by
  obtain rfl : op = 173 := by omega
  clear h
  go_enter Tryd.func62, Tryd.ntmps62
  go_wp2
  go_ret
  exact ⟨rfl, rfl⟩
theorem preck9 (op : Int) (w : World) (h : 174 ≤ op) : Calls Tryd.prog 62 #[.int .i64 op] w fun e w' => e = .returned (.bool false) ∧ w' = w := by
  have q167 : (op == 167) = false := by rw [beq_eq_false_iff_ne]; omega
  have q172 : (op == 172) = false := by rw [beq_eq_false_iff_ne]; omega
  have q173 : (op == 173) = false := by rw [beq_eq_false_iff_ne]; omega
  have a69 : decide ((69 : Int) ≤ op) = true := decide_eq_true (by omega)
  have b90 : decide (op ≤ (90 : Int)) = false := decide_eq_false (by omega)
  have a103 : decide ((103 : Int) ≤ op) = true := decide_eq_true (by omega)
  have b138 : decide (op ≤ (138 : Int)) = false := decide_eq_false (by omega)
  clear h
  go_enter Tryd.func62, Tryd.ntmps62
  go_wp2
  go_ret
  exact ⟨rfl, rfl⟩
theorem preckons (op : Int) (w : World) : Calls Tryd.prog 62 #[.int .i64 op] w fun e w' => e = .returned (.bool (rkn op)) ∧ w' = w := by
  by_cases c0 : op ≤ 68
  · rw [show rkn op = false from decide_eq_false (by omega)]; exact preck0 op w (by omega)
  by_cases c1 : op ≤ 90
  · rw [show rkn op = true from decide_eq_true (by omega)]; exact preck1 op w (by omega)
  by_cases c2 : op ≤ 102
  · rw [show rkn op = false from decide_eq_false (by omega)]; exact preck2 op w (by omega)
  by_cases c3 : op ≤ 138
  · rw [show rkn op = true from decide_eq_true (by omega)]; exact preck3 op w (by omega)
  by_cases c4 : op ≤ 166
  · rw [show rkn op = false from decide_eq_false (by omega)]; exact preck4 op w (by omega)
  by_cases c5 : op ≤ 167
  · rw [show rkn op = true from decide_eq_true (by omega)]; exact preck5 op w (by omega)
  by_cases c6 : op ≤ 171
  · rw [show rkn op = false from decide_eq_false (by omega)]; exact preck6 op w (by omega)
  by_cases c7 : op ≤ 172
  · rw [show rkn op = true from decide_eq_true (by omega)]; exact preck7 op w (by omega)
  by_cases c8 : op ≤ 173
  · rw [show rkn op = true from decide_eq_true (by omega)]; exact preck8 op w (by omega)
  rw [show rkn op = false from decide_eq_false (by omega)]; exact preck9 op w (by omega)
theorem reckT : ReckC (fun _ => True) := ⟨fun _ _ => trivial, fun op w _ => (preckons op w).mono fun e w' ⟨h1, h2⟩ => ⟨h1, by rw [h2]; exact Below.refl _ _⟩⟩
end Go.Proofs.YtlpnoelolkbmmaaDoor
