/- The law on quotients and rests, walked over what the program's exported functions answer: it returns true. -/
import Derived.Test.YtilgmaabongngaaDoorCon
import Derived.Test.YtilgmaabongngaaDoorQuot
namespace Go.Proofs.YtilgmaabongngaaDoor
open Go.RowKit
set_option linter.unusedVariables false

set_option maxHeartbeats 1000000 in
theorem q32uz {I : World → Prop} (C : NumsC I) (a b : Int) (w : World) (hI : I w) (h0 : 0 ≤ a) (h1 : a ≤ 18446744073709551615) (k0 : 0 ≤ b) (k1 : b ≤ 18446744073709551615)
    (hz : b % 4294967296 = 0) (f1 : Nums.bin 110 (a % 4294967296) (b % 4294967296) = (0, 2, true)) (f2 : Nums.bin 112 (a % 4294967296) (b % 4294967296) = (0, 2, true)) :
    Calls Tryd.prog 6 #[.agg #[.int .u64 a, .int .u64 b, .bool false, .bool false]] w fun e w' => e = .returned (.bool true) ∧ Below w.heap.size w w' := by
  have hA : 0 ≤ a % 4294967296 ∧ a % 4294967296 ≤ 18446744073709551615 := by omega
  have hB : 0 ≤ b % 4294967296 ∧ b % 4294967296 ≤ 18446744073709551615 := by omega
  have hz' : (b % 4294967296 == 0) = true := by simp [hz]
  clear hz
  have F1 := hide f1
  have F2 := hide f2
  clear f1 f2
  go_enter Tryd.func6, Tryd.ntmps6
  go_wp2_with fail
  go_quiet (fail)
  generalize hw0 : World.drewN (World.alloc w _) _ = w0
  have hb0 : Below w.heap.size w w0 := by rw [← hw0]; exact below_drewN ((Below.refl _ _).alloc (Nat.le_refl _) _) _
  have hI0 := C.keep hb0 hI
  clear hw0
  go_wp2_with fail
  refine (C.bin _ _ _ _ hI0 hA.1 hA.2 hB.1 hB.2).mono ?_
  rintro e w1 ⟨rfl, hb1⟩
  have hI1 := C.keep hb1 hI0
  rw [F1.out]
  go_wp2_with fail
  refine (C.bin _ _ _ _ hI1 hA.1 hA.2 hB.1 hB.2).mono ?_
  rintro e w2 ⟨rfl, hb2⟩
  have hI2 := C.keep hb2 hI1
  rw [F2.out]
  go_wp2_with fail
  refine (C.value _ _ _).mono ?_
  rintro e w3 ⟨rfl, hb3⟩
  have hI3 := C.keep hb3 hI2
  rw [show Nums.value (-2147483648) 127 = 2147483648 by decide +kernel]
  go_wp2_with fail
  refine (wakesC C _ hI3).mono ?_
  rintro e w9 ⟨rfl, hb9⟩
  go_wp2
  go_ret
  exact ⟨rfl, bel_on (bel_on (bel_on (bel_on hb0 hb1) hb2) hb3) hb9⟩

set_option maxHeartbeats 1000000 in
theorem q32un {I : World → Prop} (C : NumsC I) (a b : Int) (w : World) (hI : I w) (h0 : 0 ≤ a) (h1 : a ≤ 18446744073709551615) (k0 : 0 ≤ b) (k1 : b ≤ 18446744073709551615)
    (hz : b % 4294967296 ≠ 0) (q r p : Int) (f1 : Nums.bin 110 (a % 4294967296) (b % 4294967296) = (q, 0, true)) (f2 : Nums.bin 112 (a % 4294967296) (b % 4294967296) = (r, 0, true)) (f3 : Nums.bin 108 q (b % 4294967296) = (p, 0, true)) (f4 : Nums.bin 106 p r = (a % 4294967296, 0, true)) (q0 : 0 ≤ q) (q1 : q ≤ 18446744073709551615) (r0 : 0 ≤ r) (r1 : r ≤ 18446744073709551615) (p0 : 0 ≤ p) (p1 : p ≤ 18446744073709551615) :
    Calls Tryd.prog 6 #[.agg #[.int .u64 a, .int .u64 b, .bool false, .bool false]] w fun e w' => e = .returned (.bool true) ∧ Below w.heap.size w w' := by
  have hA : 0 ≤ a % 4294967296 ∧ a % 4294967296 ≤ 18446744073709551615 := by omega
  have hB : 0 ≤ b % 4294967296 ∧ b % 4294967296 ≤ 18446744073709551615 := by omega
  have hz' : (b % 4294967296 == 0) = false := by simp [hz]
  clear hz
  have F1 := hide f1
  have F2 := hide f2
  clear f1 f2
  have F3 := hide f3
  have F4 := hide f4
  clear f3 f4
  go_enter Tryd.func6, Tryd.ntmps6
  go_wp2_with fail
  go_quiet (fail)
  generalize hw0 : World.drewN (World.alloc w _) _ = w0
  have hb0 : Below w.heap.size w w0 := by rw [← hw0]; exact below_drewN ((Below.refl _ _).alloc (Nat.le_refl _) _) _
  have hI0 := C.keep hb0 hI
  clear hw0
  go_wp2_with fail
  refine (C.bin _ _ _ _ hI0 hA.1 hA.2 hB.1 hB.2).mono ?_
  rintro e w1 ⟨rfl, hb1⟩
  have hI1 := C.keep hb1 hI0
  rw [F1.out]
  go_wp2_with fail
  refine (C.bin _ _ _ _ hI1 hA.1 hA.2 hB.1 hB.2).mono ?_
  rintro e w2 ⟨rfl, hb2⟩
  have hI2 := C.keep hb2 hI1
  rw [F2.out]
  go_wp2_with fail
  refine (C.bin _ _ _ _ hI2 q0 q1 hB.1 hB.2).mono ?_
  rintro e w3 ⟨rfl, hb3⟩
  have hI3 := C.keep hb3 hI2
  rw [F3.out]
  go_wp2_with fail
  refine (C.bin _ _ _ _ hI3 p0 p1 r0 r1).mono ?_
  rintro e w4 ⟨rfl, hb4⟩
  have hI4 := C.keep hb4 hI3
  rw [F4.out]
  go_wp2_with fail
  refine (wakesC C _ hI4).mono ?_
  rintro e w9 ⟨rfl, hb9⟩
  go_wp2
  go_ret
  exact ⟨rfl, bel_on (bel_on (bel_on (bel_on (bel_on hb0 hb1) hb2) hb3) hb4) hb9⟩

set_option maxHeartbeats 1000000 in
theorem q32sz {I : World → Prop} (C : NumsC I) (a b : Int) (w : World) (hI : I w) (h0 : 0 ≤ a) (h1 : a ≤ 18446744073709551615) (k0 : 0 ≤ b) (k1 : b ≤ 18446744073709551615)
    (hz : b % 4294967296 = 0) (f1 : Nums.bin 109 (a % 4294967296) (b % 4294967296) = (0, 2, true)) (f2 : Nums.bin 111 (a % 4294967296) (b % 4294967296) = (0, 2, true)) :
    Calls Tryd.prog 6 #[.agg #[.int .u64 a, .int .u64 b, .bool false, .bool true]] w fun e w' => e = .returned (.bool true) ∧ Below w.heap.size w w' := by
  have hA : 0 ≤ a % 4294967296 ∧ a % 4294967296 ≤ 18446744073709551615 := by omega
  have hB : 0 ≤ b % 4294967296 ∧ b % 4294967296 ≤ 18446744073709551615 := by omega
  have hz' : (b % 4294967296 == 0) = true := by simp [hz]
  clear hz
  have F1 := hide f1
  have F2 := hide f2
  clear f1 f2
  go_enter Tryd.func6, Tryd.ntmps6
  go_wp2_with fail
  go_quiet (fail)
  generalize hw0 : World.drewN (World.alloc w _) _ = w0
  have hb0 : Below w.heap.size w w0 := by rw [← hw0]; exact below_drewN ((Below.refl _ _).alloc (Nat.le_refl _) _) _
  have hI0 := C.keep hb0 hI
  clear hw0
  go_wp2_with fail
  refine (C.bin _ _ _ _ hI0 hA.1 hA.2 hB.1 hB.2).mono ?_
  rintro e w1 ⟨rfl, hb1⟩
  have hI1 := C.keep hb1 hI0
  rw [F1.out]
  go_wp2_with fail
  refine (C.bin _ _ _ _ hI1 hA.1 hA.2 hB.1 hB.2).mono ?_
  rintro e w2 ⟨rfl, hb2⟩
  have hI2 := C.keep hb2 hI1
  rw [F2.out]
  go_wp2_with fail
  refine (C.value _ _ _).mono ?_
  rintro e w3 ⟨rfl, hb3⟩
  have hI3 := C.keep hb3 hI2
  rw [show Nums.value (-2147483648) 127 = 2147483648 by decide +kernel]
  go_wp2_with fail
  refine (wakesC C _ hI3).mono ?_
  rintro e w9 ⟨rfl, hb9⟩
  go_wp2
  go_ret
  exact ⟨rfl, bel_on (bel_on (bel_on (bel_on hb0 hb1) hb2) hb3) hb9⟩

set_option maxHeartbeats 1000000 in
theorem q32so {I : World → Prop} (C : NumsC I) (a b : Int) (w : World) (hI : I w) (h0 : 0 ≤ a) (h1 : a ≤ 18446744073709551615) (k0 : 0 ≤ b) (k1 : b ≤ 18446744073709551615)
    (hz : b % 4294967296 ≠ 0) (hl : a % 4294967296 = 2147483648) (hs : Nums.signed (b % 4294967296) 127 = -1) (f1 : Nums.bin 109 (a % 4294967296) (b % 4294967296) = (0, 3, true)) (f2 : Nums.bin 111 (a % 4294967296) (b % 4294967296) = (0, 0, true)) :
    Calls Tryd.prog 6 #[.agg #[.int .u64 a, .int .u64 b, .bool false, .bool true]] w fun e w' => e = .returned (.bool true) ∧ Below w.heap.size w w' := by
  have hA : 0 ≤ a % 4294967296 ∧ a % 4294967296 ≤ 18446744073709551615 := by omega
  have hB : 0 ≤ b % 4294967296 ∧ b % 4294967296 ≤ 18446744073709551615 := by omega
  have hz' : (b % 4294967296 == 0) = false := by simp [hz]
  have hl' : (a % 4294967296 == 2147483648) = true := by simp [hl]
  have HL := hide hl
  clear hl
  clear hz
  have F1 := hide f1
  have F2 := hide f2
  clear f1 f2
  have HS := hide hs
  clear hs
  go_enter Tryd.func6, Tryd.ntmps6
  go_wp2_with fail
  go_quiet (fail)
  generalize hw0 : World.drewN (World.alloc w _) _ = w0
  have hb0 : Below w.heap.size w w0 := by rw [← hw0]; exact below_drewN ((Below.refl _ _).alloc (Nat.le_refl _) _) _
  have hI0 := C.keep hb0 hI
  clear hw0
  go_wp2_with fail
  refine (C.bin _ _ _ _ hI0 hA.1 hA.2 hB.1 hB.2).mono ?_
  rintro e w1 ⟨rfl, hb1⟩
  have hI1 := C.keep hb1 hI0
  rw [F1.out]
  go_wp2_with fail
  refine (C.bin _ _ _ _ hI1 hA.1 hA.2 hB.1 hB.2).mono ?_
  rintro e w2 ⟨rfl, hb2⟩
  have hI2 := C.keep hb2 hI1
  rw [F2.out]
  go_wp2_with fail
  refine (C.value _ _ _).mono ?_
  rintro e w3 ⟨rfl, hb3⟩
  have hI3 := C.keep hb3 hI2
  rw [show Nums.value (-2147483648) 127 = 2147483648 by decide +kernel]
  go_wp2_with fail
  refine (C.signed _ _ _ hB.1 hB.2).mono ?_
  rintro e w4 ⟨rfl, hb4⟩
  have hI4 := C.keep hb4 hI3
  rw [HS.out]
  go_wp2_with fail
  refine (wakesC C _ hI4).mono ?_
  rintro e w9 ⟨rfl, hb9⟩
  go_wp2
  go_ret
  exact ⟨rfl, bel_on (bel_on (bel_on (bel_on (bel_on hb0 hb1) hb2) hb3) hb4) hb9⟩

set_option maxHeartbeats 1000000 in
theorem q32sn {I : World → Prop} (C : NumsC I) (a b : Int) (w : World) (hI : I w) (h0 : 0 ≤ a) (h1 : a ≤ 18446744073709551615) (k0 : 0 ≤ b) (k1 : b ≤ 18446744073709551615)
    (hz : b % 4294967296 ≠ 0) (q r p : Int) (f1 : Nums.bin 109 (a % 4294967296) (b % 4294967296) = (q, 0, true)) (f2 : Nums.bin 111 (a % 4294967296) (b % 4294967296) = (r, 0, true)) (f3 : Nums.bin 108 q (b % 4294967296) = (p, 0, true)) (f4 : Nums.bin 106 p r = (a % 4294967296, 0, true)) (q0 : 0 ≤ q) (q1 : q ≤ 18446744073709551615) (r0 : 0 ≤ r) (r1 : r ≤ 18446744073709551615) (p0 : 0 ≤ p) (p1 : p ≤ 18446744073709551615) :
    Calls Tryd.prog 6 #[.agg #[.int .u64 a, .int .u64 b, .bool false, .bool true]] w fun e w' => e = .returned (.bool true) ∧ Below w.heap.size w w' := by
  have hA : 0 ≤ a % 4294967296 ∧ a % 4294967296 ≤ 18446744073709551615 := by omega
  have hB : 0 ≤ b % 4294967296 ∧ b % 4294967296 ≤ 18446744073709551615 := by omega
  have hz' : (b % 4294967296 == 0) = false := by simp [hz]
  clear hz
  have F1 := hide f1
  have F2 := hide f2
  clear f1 f2
  have F3 := hide f3
  have F4 := hide f4
  clear f3 f4
  go_enter Tryd.func6, Tryd.ntmps6
  go_wp2_with fail
  go_quiet (fail)
  generalize hw0 : World.drewN (World.alloc w _) _ = w0
  have hb0 : Below w.heap.size w w0 := by rw [← hw0]; exact below_drewN ((Below.refl _ _).alloc (Nat.le_refl _) _) _
  have hI0 := C.keep hb0 hI
  clear hw0
  go_wp2_with fail
  refine (C.bin _ _ _ _ hI0 hA.1 hA.2 hB.1 hB.2).mono ?_
  rintro e w1 ⟨rfl, hb1⟩
  have hI1 := C.keep hb1 hI0
  rw [F1.out]
  go_wp2_with fail
  refine (C.bin _ _ _ _ hI1 hA.1 hA.2 hB.1 hB.2).mono ?_
  rintro e w2 ⟨rfl, hb2⟩
  have hI2 := C.keep hb2 hI1
  rw [F2.out]
  go_wp2_with fail
  refine (C.bin _ _ _ _ hI2 q0 q1 hB.1 hB.2).mono ?_
  rintro e w3 ⟨rfl, hb3⟩
  have hI3 := C.keep hb3 hI2
  rw [F3.out]
  go_wp2_with fail
  refine (C.bin _ _ _ _ hI3 p0 p1 r0 r1).mono ?_
  rintro e w4 ⟨rfl, hb4⟩
  have hI4 := C.keep hb4 hI3
  rw [F4.out]
  go_wp2_with fail
  refine (wakesC C _ hI4).mono ?_
  rintro e w9 ⟨rfl, hb9⟩
  go_wp2
  go_ret
  exact ⟨rfl, bel_on (bel_on (bel_on (bel_on (bel_on hb0 hb1) hb2) hb3) hb4) hb9⟩

set_option maxHeartbeats 1000000 in
theorem q64uz {I : World → Prop} (C : NumsC I) (a b : Int) (w : World) (hI : I w) (h0 : 0 ≤ a) (h1 : a ≤ 18446744073709551615) (k0 : 0 ≤ b) (k1 : b ≤ 18446744073709551615)
    (hz : b = 0) (f1 : Nums.bin 128 (a) (b) = (0, 2, true)) (f2 : Nums.bin 130 (a) (b) = (0, 2, true)) :
    Calls Tryd.prog 6 #[.agg #[.int .u64 a, .int .u64 b, .bool true, .bool false]] w fun e w' => e = .returned (.bool true) ∧ Below w.heap.size w w' := by
  have hA : 0 ≤ a ∧ a ≤ 18446744073709551615 := by omega
  have hB : 0 ≤ b ∧ b ≤ 18446744073709551615 := by omega
  have hz' : (b == 0) = true := by simp [hz]
  clear hz
  have F1 := hide f1
  have F2 := hide f2
  clear f1 f2
  go_enter Tryd.func6, Tryd.ntmps6
  go_wp2_with fail
  go_quiet (fail)
  generalize hw0 : World.drewN (World.alloc w _) _ = w0
  have hb0 : Below w.heap.size w w0 := by rw [← hw0]; exact below_drewN ((Below.refl _ _).alloc (Nat.le_refl _) _) _
  have hI0 := C.keep hb0 hI
  clear hw0
  go_wp2_with fail
  refine (C.bin _ _ _ _ hI0 hA.1 hA.2 hB.1 hB.2).mono ?_
  rintro e w1 ⟨rfl, hb1⟩
  have hI1 := C.keep hb1 hI0
  rw [F1.out]
  go_wp2_with fail
  refine (C.bin _ _ _ _ hI1 hA.1 hA.2 hB.1 hB.2).mono ?_
  rintro e w2 ⟨rfl, hb2⟩
  have hI2 := C.keep hb2 hI1
  rw [F2.out]
  go_wp2_with fail
  refine (C.value _ _ _).mono ?_
  rintro e w3 ⟨rfl, hb3⟩
  have hI3 := C.keep hb3 hI2
  rw [show Nums.value (-2147483648) 126 = 18446744071562067968 by decide +kernel]
  go_wp2_with fail
  refine (wakesC C _ hI3).mono ?_
  rintro e w9 ⟨rfl, hb9⟩
  go_wp2
  go_ret
  exact ⟨rfl, bel_on (bel_on (bel_on (bel_on hb0 hb1) hb2) hb3) hb9⟩

set_option maxHeartbeats 1000000 in
theorem q64un {I : World → Prop} (C : NumsC I) (a b : Int) (w : World) (hI : I w) (h0 : 0 ≤ a) (h1 : a ≤ 18446744073709551615) (k0 : 0 ≤ b) (k1 : b ≤ 18446744073709551615)
    (hz : b ≠ 0) (q r p : Int) (f1 : Nums.bin 128 (a) (b) = (q, 0, true)) (f2 : Nums.bin 130 (a) (b) = (r, 0, true)) (f3 : Nums.bin 126 q (b) = (p, 0, true)) (f4 : Nums.bin 124 p r = (a, 0, true)) (q0 : 0 ≤ q) (q1 : q ≤ 18446744073709551615) (r0 : 0 ≤ r) (r1 : r ≤ 18446744073709551615) (p0 : 0 ≤ p) (p1 : p ≤ 18446744073709551615) :
    Calls Tryd.prog 6 #[.agg #[.int .u64 a, .int .u64 b, .bool true, .bool false]] w fun e w' => e = .returned (.bool true) ∧ Below w.heap.size w w' := by
  have hA : 0 ≤ a ∧ a ≤ 18446744073709551615 := by omega
  have hB : 0 ≤ b ∧ b ≤ 18446744073709551615 := by omega
  have hz' : (b == 0) = false := by simp [hz]
  clear hz
  have F1 := hide f1
  have F2 := hide f2
  clear f1 f2
  have F3 := hide f3
  have F4 := hide f4
  clear f3 f4
  go_enter Tryd.func6, Tryd.ntmps6
  go_wp2_with fail
  go_quiet (fail)
  generalize hw0 : World.drewN (World.alloc w _) _ = w0
  have hb0 : Below w.heap.size w w0 := by rw [← hw0]; exact below_drewN ((Below.refl _ _).alloc (Nat.le_refl _) _) _
  have hI0 := C.keep hb0 hI
  clear hw0
  go_wp2_with fail
  refine (C.bin _ _ _ _ hI0 hA.1 hA.2 hB.1 hB.2).mono ?_
  rintro e w1 ⟨rfl, hb1⟩
  have hI1 := C.keep hb1 hI0
  rw [F1.out]
  go_wp2_with fail
  refine (C.bin _ _ _ _ hI1 hA.1 hA.2 hB.1 hB.2).mono ?_
  rintro e w2 ⟨rfl, hb2⟩
  have hI2 := C.keep hb2 hI1
  rw [F2.out]
  go_wp2_with fail
  refine (C.bin _ _ _ _ hI2 q0 q1 hB.1 hB.2).mono ?_
  rintro e w3 ⟨rfl, hb3⟩
  have hI3 := C.keep hb3 hI2
  rw [F3.out]
  go_wp2_with fail
  refine (C.bin _ _ _ _ hI3 p0 p1 r0 r1).mono ?_
  rintro e w4 ⟨rfl, hb4⟩
  have hI4 := C.keep hb4 hI3
  rw [F4.out]
  go_wp2_with fail
  refine (wakesC C _ hI4).mono ?_
  rintro e w9 ⟨rfl, hb9⟩
  go_wp2
  go_ret
  exact ⟨rfl, bel_on (bel_on (bel_on (bel_on (bel_on hb0 hb1) hb2) hb3) hb4) hb9⟩

set_option maxHeartbeats 1000000 in
theorem q64sz {I : World → Prop} (C : NumsC I) (a b : Int) (w : World) (hI : I w) (h0 : 0 ≤ a) (h1 : a ≤ 18446744073709551615) (k0 : 0 ≤ b) (k1 : b ≤ 18446744073709551615)
    (hz : b = 0) (f1 : Nums.bin 127 (a) (b) = (0, 2, true)) (f2 : Nums.bin 129 (a) (b) = (0, 2, true)) :
    Calls Tryd.prog 6 #[.agg #[.int .u64 a, .int .u64 b, .bool true, .bool true]] w fun e w' => e = .returned (.bool true) ∧ Below w.heap.size w w' := by
  have hA : 0 ≤ a ∧ a ≤ 18446744073709551615 := by omega
  have hB : 0 ≤ b ∧ b ≤ 18446744073709551615 := by omega
  have hz' : (b == 0) = true := by simp [hz]
  clear hz
  have F1 := hide f1
  have F2 := hide f2
  clear f1 f2
  go_enter Tryd.func6, Tryd.ntmps6
  go_wp2_with fail
  go_quiet (fail)
  generalize hw0 : World.drewN (World.alloc w _) _ = w0
  have hb0 : Below w.heap.size w w0 := by rw [← hw0]; exact below_drewN ((Below.refl _ _).alloc (Nat.le_refl _) _) _
  have hI0 := C.keep hb0 hI
  clear hw0
  go_wp2_with fail
  refine (C.bin _ _ _ _ hI0 hA.1 hA.2 hB.1 hB.2).mono ?_
  rintro e w1 ⟨rfl, hb1⟩
  have hI1 := C.keep hb1 hI0
  rw [F1.out]
  go_wp2_with fail
  refine (C.bin _ _ _ _ hI1 hA.1 hA.2 hB.1 hB.2).mono ?_
  rintro e w2 ⟨rfl, hb2⟩
  have hI2 := C.keep hb2 hI1
  rw [F2.out]
  go_wp2_with fail
  refine (C.value _ _ _).mono ?_
  rintro e w3 ⟨rfl, hb3⟩
  have hI3 := C.keep hb3 hI2
  rw [show Nums.value (-2147483648) 126 = 18446744071562067968 by decide +kernel]
  go_wp2_with fail
  refine (wakesC C _ hI3).mono ?_
  rintro e w9 ⟨rfl, hb9⟩
  go_wp2
  go_ret
  exact ⟨rfl, bel_on (bel_on (bel_on (bel_on hb0 hb1) hb2) hb3) hb9⟩

set_option maxHeartbeats 1000000 in
theorem q64so {I : World → Prop} (C : NumsC I) (a b : Int) (w : World) (hI : I w) (h0 : 0 ≤ a) (h1 : a ≤ 18446744073709551615) (k0 : 0 ≤ b) (k1 : b ≤ 18446744073709551615)
    (hz : b ≠ 0) (hl : a = 9223372036854775808) (hs : Nums.signed (b) 126 = -1) (f1 : Nums.bin 127 (a) (b) = (0, 3, true)) (f2 : Nums.bin 129 (a) (b) = (0, 0, true)) :
    Calls Tryd.prog 6 #[.agg #[.int .u64 a, .int .u64 b, .bool true, .bool true]] w fun e w' => e = .returned (.bool true) ∧ Below w.heap.size w w' := by
  have hA : 0 ≤ a ∧ a ≤ 18446744073709551615 := by omega
  have hB : 0 ≤ b ∧ b ≤ 18446744073709551615 := by omega
  have hz' : (b == 0) = false := by simp [hz]
  have hl' : (a == 9223372036854775808) = true := by simp [hl]
  have HL := hide hl
  clear hl
  clear hz
  have F1 := hide f1
  have F2 := hide f2
  clear f1 f2
  have HS := hide hs
  clear hs
  go_enter Tryd.func6, Tryd.ntmps6
  go_wp2_with fail
  go_quiet (fail)
  generalize hw0 : World.drewN (World.alloc w _) _ = w0
  have hb0 : Below w.heap.size w w0 := by rw [← hw0]; exact below_drewN ((Below.refl _ _).alloc (Nat.le_refl _) _) _
  have hI0 := C.keep hb0 hI
  clear hw0
  go_wp2_with fail
  refine (C.bin _ _ _ _ hI0 hA.1 hA.2 hB.1 hB.2).mono ?_
  rintro e w1 ⟨rfl, hb1⟩
  have hI1 := C.keep hb1 hI0
  rw [F1.out]
  go_wp2_with fail
  refine (C.bin _ _ _ _ hI1 hA.1 hA.2 hB.1 hB.2).mono ?_
  rintro e w2 ⟨rfl, hb2⟩
  have hI2 := C.keep hb2 hI1
  rw [F2.out]
  go_wp2_with fail
  refine (C.value _ _ _).mono ?_
  rintro e w3 ⟨rfl, hb3⟩
  have hI3 := C.keep hb3 hI2
  rw [show Nums.value (-2147483648) 126 = 18446744071562067968 by decide +kernel]
  go_wp2_with fail
  refine (C.signed _ _ _ hB.1 hB.2).mono ?_
  rintro e w4 ⟨rfl, hb4⟩
  have hI4 := C.keep hb4 hI3
  rw [HS.out]
  go_wp2_with fail
  refine (wakesC C _ hI4).mono ?_
  rintro e w9 ⟨rfl, hb9⟩
  go_wp2
  go_ret
  exact ⟨rfl, bel_on (bel_on (bel_on (bel_on (bel_on hb0 hb1) hb2) hb3) hb4) hb9⟩

set_option maxHeartbeats 1000000 in
theorem q64sn {I : World → Prop} (C : NumsC I) (a b : Int) (w : World) (hI : I w) (h0 : 0 ≤ a) (h1 : a ≤ 18446744073709551615) (k0 : 0 ≤ b) (k1 : b ≤ 18446744073709551615)
    (hz : b ≠ 0) (q r p : Int) (f1 : Nums.bin 127 (a) (b) = (q, 0, true)) (f2 : Nums.bin 129 (a) (b) = (r, 0, true)) (f3 : Nums.bin 126 q (b) = (p, 0, true)) (f4 : Nums.bin 124 p r = (a, 0, true)) (q0 : 0 ≤ q) (q1 : q ≤ 18446744073709551615) (r0 : 0 ≤ r) (r1 : r ≤ 18446744073709551615) (p0 : 0 ≤ p) (p1 : p ≤ 18446744073709551615) :
    Calls Tryd.prog 6 #[.agg #[.int .u64 a, .int .u64 b, .bool true, .bool true]] w fun e w' => e = .returned (.bool true) ∧ Below w.heap.size w w' := by
  have hA : 0 ≤ a ∧ a ≤ 18446744073709551615 := by omega
  have hB : 0 ≤ b ∧ b ≤ 18446744073709551615 := by omega
  have hz' : (b == 0) = false := by simp [hz]
  clear hz
  have F1 := hide f1
  have F2 := hide f2
  clear f1 f2
  have F3 := hide f3
  have F4 := hide f4
  clear f3 f4
  go_enter Tryd.func6, Tryd.ntmps6
  go_wp2_with fail
  go_quiet (fail)
  generalize hw0 : World.drewN (World.alloc w _) _ = w0
  have hb0 : Below w.heap.size w w0 := by rw [← hw0]; exact below_drewN ((Below.refl _ _).alloc (Nat.le_refl _) _) _
  have hI0 := C.keep hb0 hI
  clear hw0
  go_wp2_with fail
  refine (C.bin _ _ _ _ hI0 hA.1 hA.2 hB.1 hB.2).mono ?_
  rintro e w1 ⟨rfl, hb1⟩
  have hI1 := C.keep hb1 hI0
  rw [F1.out]
  go_wp2_with fail
  refine (C.bin _ _ _ _ hI1 hA.1 hA.2 hB.1 hB.2).mono ?_
  rintro e w2 ⟨rfl, hb2⟩
  have hI2 := C.keep hb2 hI1
  rw [F2.out]
  go_wp2_with fail
  refine (C.bin _ _ _ _ hI2 q0 q1 hB.1 hB.2).mono ?_
  rintro e w3 ⟨rfl, hb3⟩
  have hI3 := C.keep hb3 hI2
  rw [F3.out]
  go_wp2_with fail
  refine (C.bin _ _ _ _ hI3 p0 p1 r0 r1).mono ?_
  rintro e w4 ⟨rfl, hb4⟩
  have hI4 := C.keep hb4 hI3
  rw [F4.out]
  go_wp2_with fail
  refine (wakesC C _ hI4).mono ?_
  rintro e w9 ⟨rfl, hb9⟩
  go_wp2
  go_ret
  exact ⟨rfl, bel_on (bel_on (bel_on (bel_on (bel_on hb0 hb1) hb2) hb3) hb4) hb9⟩

theorem quotC {I : World → Prop} (C : NumsC I) (a b : Int) (wide sign : Bool) (w : World) (hI : I w) (h0 : 0 ≤ a) (h1 : a ≤ 18446744073709551615) (k0 : 0 ≤ b) (k1 : b ≤ 18446744073709551615) :
    Calls Tryd.prog 6 #[.agg #[.int .u64 a, .int .u64 b, .bool wide, .bool sign]] w fun e w' => e = .returned (.bool true) ∧ Below w.heap.size w w' := by
  cases wide
  · cases sign
    · rcases Nums.qf32 false (a % 4294967296) (b % 4294967296) (by omega) (by omega) (by omega) (by omega) with ⟨a1, a2, a3⟩ | ⟨a1, a2, a3, a4, a5, a6⟩ | ⟨a1, q, r, p, a2, a3, a4, a5, a6, a7, a8, a9, b1, b2⟩
      · exact q32uz C a b w hI h0 h1 k0 k1 a1 a2 a3
      · cases a2
      · exact q32un C a b w hI h0 h1 k0 k1 a1 q r p a2 a3 a4 a5 a6 a7 a8 a9 b1 b2
    · rcases Nums.qf32 true (a % 4294967296) (b % 4294967296) (by omega) (by omega) (by omega) (by omega) with ⟨a1, a2, a3⟩ | ⟨a1, a2, a3, a4, a5, a6⟩ | ⟨a1, q, r, p, a2, a3, a4, a5, a6, a7, a8, a9, b1, b2⟩
      · exact q32sz C a b w hI h0 h1 k0 k1 a1 a2 a3
      · exact q32so C a b w hI h0 h1 k0 k1 a1 a3 a4 a5 a6
      · exact q32sn C a b w hI h0 h1 k0 k1 a1 q r p a2 a3 a4 a5 a6 a7 a8 a9 b1 b2
  · cases sign
    · rcases Nums.qf64 false a b h0 (by omega) k0 (by omega) with ⟨a1, a2, a3⟩ | ⟨a1, a2, a3, a4, a5, a6⟩ | ⟨a1, q, r, p, a2, a3, a4, a5, a6, a7, a8, a9, b1, b2⟩
      · exact q64uz C a b w hI h0 h1 k0 k1 a1 a2 a3
      · cases a2
      · exact q64un C a b w hI h0 h1 k0 k1 a1 q r p a2 a3 a4 a5 a6 a7 a8 a9 b1 b2
    · rcases Nums.qf64 true a b h0 (by omega) k0 (by omega) with ⟨a1, a2, a3⟩ | ⟨a1, a2, a3, a4, a5, a6⟩ | ⟨a1, q, r, p, a2, a3, a4, a5, a6, a7, a8, a9, b1, b2⟩
      · exact q64sz C a b w hI h0 h1 k0 k1 a1 a2 a3
      · exact q64so C a b w hI h0 h1 k0 k1 a1 a3 a4 a5 a6
      · exact q64sn C a b w hI h0 h1 k0 k1 a1 q r p a2 a3 a4 a5 a6 a7 a8 a9 b1 b2
end Go.Proofs.YtilgmaabongngaaDoor
