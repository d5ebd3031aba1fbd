/- The laws of layer 2, walked over what the program's exported functions answer (NumsC): each returns true. -/
import Derived.Test.YtilgmaabongngaaDoorCon
import Derived.Test.YtilgmaabongngaaDoorRef2
import Derived.Test.YtilgmaabongngaaDoorRef1b
namespace Go.Proofs.YtilgmaabongngaaDoor
open Go.RowKit

set_option maxHeartbeats 1000000 in
theorem twoC {I : World → Prop} (C : NumsC I) (op a b : Int) (w : World) (hI : I w) (h0 : 0 ≤ a) (h1 : a ≤ 18446744073709551615) (k0 : 0 ≤ b) (k1 : b ≤ 18446744073709551615) :
    Calls Tryd.prog 4 #[.int .i64 op, .int .u64 a, .int .u64 b] w fun e w' => e = .returned (.bool true) ∧ Below w.heap.size w w' := by
  go_enter Tryd.func4, Tryd.ntmps4
  go_wp2_with fail
  refine (C.bin _ _ _ _ hI h0 h1 k0 k1).mono ?_
  rintro e w1 ⟨rfl, hb1⟩
  have hI1 := C.keep hb1 hI
  go_wp2_with fail
  refine (refBinary _ _ _ _ h0 h1 k0 k1).mono ?_
  rintro e w2 ⟨rfl, rfl⟩
  generalize Nums.bin op a b = r at *
  go_wp2_with fail
  refine (wakesC C _ hI1).mono ?_
  rintro e w3 ⟨rfl, hb3⟩
  go_wp2
  go_ret
  exact ⟨rfl, bel_on hb1 hb3⟩

set_option maxHeartbeats 1000000 in
theorem oneC {I : World → Prop} (C : NumsC I) (op a : Int) (w : World) (hI : I w) (h0 : 0 ≤ a) (h1 : a ≤ 18446744073709551615) :
    Calls Tryd.prog 3 #[.int .i64 op, .int .u64 a] w fun e w' => e = .returned (.bool true) ∧ Below w.heap.size w w' := by
  go_enter Tryd.func3, Tryd.ntmps3
  go_wp2_with fail
  refine (C.un _ _ _ hI h0 h1).mono ?_
  rintro e w1 ⟨rfl, hb1⟩
  have hI1 := C.keep hb1 hI
  go_wp2_with fail
  refine (refUnary _ _ _ h0 h1).mono ?_
  rintro e w2 ⟨rfl, rfl⟩
  generalize Nums.un op a = r at *
  go_wp2_with fail
  refine (wakesC C _ hI1).mono ?_
  rintro e w3 ⟨rfl, hb3⟩
  go_wp2
  go_ret
  exact ⟨rfl, bel_on hb1 hb3⟩

theorem back64 (n : Int) (h0 : -9223372036854775808 ≤ n) (h1 : n ≤ 9223372036854775807) : Nums.signed (Nums.value n 126) 126 = n := by
  show Nums.sg 64 (n % 18446744073709551616) = n
  unfold Nums.sg
  rw [Nums.hf64, Nums.md64]
  split <;> omega
theorem value_bd (n typ : Int) : 0 ≤ Nums.value n typ ∧ Nums.value n typ ≤ 18446744073709551615 := by
  unfold Nums.value
  split
  · omega
  · split <;> omega

set_option maxHeartbeats 1000000 in
theorem signedC {I : World → Prop} (C : NumsC I) (v n typ : Int) (w : World) (hI : I w) (h0 : 0 ≤ v) (h1 : v ≤ 18446744073709551615) (n0 : -9223372036854775808 ≤ n) (n1 : n ≤ 9223372036854775807) :
    Calls Tryd.prog 5 #[.int .u64 v, .int .i64 n, .int .i64 typ] w fun e w' => e = .returned (.bool true) ∧ Below w.heap.size w w' := by
  have hv := value_bd n 126
  have hback := hide (back64 n n0 n1)
  go_enter Tryd.func5, Tryd.ntmps5
  go_wp2_with fail
  refine (C.signed _ _ _ h0 h1).mono ?_
  rintro e w1 ⟨rfl, hb1⟩
  have hI1 := C.keep hb1 hI
  go_wp2_with fail
  refine (refSigned _ _ _ h0 h1).mono ?_
  rintro e w2 ⟨rfl, rfl⟩
  go_wp2_with fail
  refine (C.value _ _ _).mono ?_
  rintro e w3 ⟨rfl, hb3⟩
  have hI3 := C.keep hb3 hI1
  go_wp2_with fail
  refine (refValue _ _ _).mono ?_
  rintro e w4 ⟨rfl, rfl⟩
  go_wp2_with fail
  refine (C.value _ _ _).mono ?_
  rintro e w5 ⟨rfl, hb5⟩
  have hI5 := C.keep hb5 hI3
  go_wp2_with fail
  refine (C.signed _ _ _ hv.1 hv.2).mono ?_
  rintro e w6 ⟨rfl, hb6⟩
  have hI6 := C.keep hb6 hI5
  rw [hback.out]
  go_wp2_with fail
  refine (wakesC C _ hI6).mono ?_
  rintro e w7 ⟨rfl, hb7⟩
  go_wp2
  go_ret
  exact ⟨rfl, bel_on (bel_on (bel_on (bel_on hb1 hb3) hb5) hb6) hb7⟩
end Go.Proofs.YtilgmaabongngaaDoor
