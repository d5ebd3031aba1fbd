/- The law on turning and moving bits, walked over what the program's exported functions answer: it returns true. -/
import Derived.Test.YtilgmaabongngaaDoorCon
import Derived.Test.YtilgmaabongngaaDoorTurn
namespace Go.Proofs.YtilgmaabongngaaDoor
open Go.RowKit

set_option maxHeartbeats 1000000 in
theorem turns32 {I : World → Prop} (C : NumsC I) (a b : Int) (w : World) (hI : I w) (h0 : 0 ≤ a) (h1 : a ≤ 18446744073709551615) (k0 : 0 ≤ b) (k1 : b ≤ 18446744073709551615) :
    Calls Tryd.prog 7 #[.int .u64 a, .int .u64 b, .bool false] w fun e w' => e = .returned (.bool true) ∧ Below w.heap.size w w' := by
  have hA : 0 ≤ a % 4294967296 ∧ a % 4294967296 ≤ 18446744073709551615 := by omega
  obtain ⟨x, v, f1, f2, f3, f4, f5, x0, x1, v0, v1⟩ := Nums.tf32 (a % 4294967296) b (by omega) (by omega)
  have F1 := hide f1
  have F2 := hide f2
  have F3 := hide f3
  have F4 := hide f4
  have F5 := hide f5
  clear f1 f2 f3 f4 f5
  go_enter Tryd.func7, Tryd.ntmps7
  go_wp2_with fail
  refine (C.bin _ _ _ _ hI hA.1 hA.2 k0 k1).mono ?_
  rintro e w1 ⟨rfl, hb1⟩
  have hI1 := C.keep hb1 hI
  rw [F1.out]
  go_wp2_with fail
  refine (C.bin _ _ _ _ hI1 x0 x1 k0 k1).mono ?_
  rintro e w2 ⟨rfl, hb2⟩
  have hI2 := C.keep hb2 hI1
  rw [F2.out]
  go_wp2_with fail
  refine (C.bin _ _ _ _ hI2 hA.1 hA.2 (by decide) (by decide)).mono ?_
  rintro e w3 ⟨rfl, hb3⟩
  have hI3 := C.keep hb3 hI2
  rw [F3.out]
  go_wp2_with fail
  refine (C.bin _ _ _ _ hI3 hA.1 hA.2 k0 k1).mono ?_
  rintro e w4 ⟨rfl, hb4⟩
  have hI4 := C.keep hb4 hI3
  rw [F4.out]
  go_wp2_with fail
  refine (C.bin _ _ _ _ hI4 v0 v1 k0 k1).mono ?_
  rintro e w5 ⟨rfl, hb5⟩
  have hI5 := C.keep hb5 hI4
  rw [F5.out]
  go_wp2_with fail
  refine (wakesC C _ hI5).mono ?_
  rintro e w9 ⟨rfl, hb9⟩
  go_wp2
  go_ret
  exact ⟨rfl, bel_on (bel_on (bel_on (bel_on (bel_on hb1 hb2) hb3) hb4) hb5) hb9⟩

set_option maxHeartbeats 1000000 in
theorem turns64 {I : World → Prop} (C : NumsC I) (a b : Int) (w : World) (hI : I w) (h0 : 0 ≤ a) (h1 : a ≤ 18446744073709551615) (k0 : 0 ≤ b) (k1 : b ≤ 18446744073709551615) :
    Calls Tryd.prog 7 #[.int .u64 a, .int .u64 b, .bool true] w fun e w' => e = .returned (.bool true) ∧ Below w.heap.size w w' := by
  obtain ⟨x, v, f1, f2, f3, f4, f5, x0, x1, v0, v1⟩ := Nums.tf64 a b h0 (by omega)
  have F1 := hide f1
  have F2 := hide f2
  have F3 := hide f3
  have F4 := hide f4
  have F5 := hide f5
  clear f1 f2 f3 f4 f5
  go_enter Tryd.func7, Tryd.ntmps7
  go_wp2_with fail
  refine (C.bin _ _ _ _ hI h0 h1 k0 k1).mono ?_
  rintro e w1 ⟨rfl, hb1⟩
  have hI1 := C.keep hb1 hI
  rw [F1.out]
  go_wp2_with fail
  refine (C.bin _ _ _ _ hI1 x0 x1 k0 k1).mono ?_
  rintro e w2 ⟨rfl, hb2⟩
  have hI2 := C.keep hb2 hI1
  rw [F2.out]
  go_wp2_with fail
  refine (C.bin _ _ _ _ hI2 h0 h1 (by decide) (by decide)).mono ?_
  rintro e w3 ⟨rfl, hb3⟩
  have hI3 := C.keep hb3 hI2
  rw [F3.out]
  go_wp2_with fail
  refine (C.bin _ _ _ _ hI3 h0 h1 k0 k1).mono ?_
  rintro e w4 ⟨rfl, hb4⟩
  have hI4 := C.keep hb4 hI3
  rw [F4.out]
  go_wp2_with fail
  refine (C.bin _ _ _ _ hI4 v0 v1 k0 k1).mono ?_
  rintro e w5 ⟨rfl, hb5⟩
  have hI5 := C.keep hb5 hI4
  rw [F5.out]
  go_wp2_with fail
  refine (wakesC C _ hI5).mono ?_
  rintro e w9 ⟨rfl, hb9⟩
  go_wp2
  go_ret
  exact ⟨rfl, bel_on (bel_on (bel_on (bel_on (bel_on hb1 hb2) hb3) hb4) hb5) hb9⟩

theorem turnsC {I : World → Prop} (C : NumsC I) (a b : Int) (wide : Bool) (w : World) (hI : I w) (h0 : 0 ≤ a) (h1 : a ≤ 18446744073709551615) (k0 : 0 ≤ b) (k1 : b ≤ 18446744073709551615) :
    Calls Tryd.prog 7 #[.int .u64 a, .int .u64 b, .bool wide] w fun e w' => e = .returned (.bool true) ∧ Below w.heap.size w w' := by
  cases wide
  · exact turns32 C a b w hI h0 h1 k0 k1
  · exact turns64 C a b w hI h0 h1 k0 k1
end Go.Proofs.YtilgmaabongngaaDoor
