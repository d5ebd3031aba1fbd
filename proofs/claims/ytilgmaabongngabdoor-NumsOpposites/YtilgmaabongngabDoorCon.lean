/- What the program's exported functions are to answer (NumsC), and the statements' own example over it. -/
import Derived.Test.YtilgmaabongngabDoorBase
namespace Go.Proofs.YtilgmaabongngabDoor
open Go.RowKit

/-- What the program's functions answer, in worlds of which I holds; I is kept by whatever only makes new memory. -/
structure NumsC (I : World → Prop) : Prop where
  keep : ∀ {w w' : World}, Below w.heap.size w w' → I w → I w'
  bin : ∀ (op a b : Int) (w : World), I w → 0 ≤ a → a ≤ 18446744073709551615 → 0 ≤ b → b ≤ 18446744073709551615 →
    Calls Tryd.prog 4 #[.int .i64 op, .int .u64 a, .int .u64 b] w fun e w' => e = .returned (.tuple #[.int .u64 (Nums.bin op a b).1, .int .i64 (Nums.bin op a b).2.1, .bool (Nums.bin op a b).2.2]) ∧ Below w.heap.size w w'
  un : ∀ (op a : Int) (w : World), I w → 0 ≤ a → a ≤ 18446744073709551615 →
    Calls Tryd.prog 5 #[.int .i64 op, .int .u64 a] w fun e w' => e = .returned (.tuple #[.int .u64 (Nums.un op a).1, .bool (Nums.un op a).2]) ∧ Below w.heap.size w w'
  signed : ∀ (v typ : Int) (w : World), 0 ≤ v → v ≤ 18446744073709551615 →
    Calls Tryd.prog 9 #[.int .u64 v, .int .i64 typ] w fun e w' => e = .returned (.int .i64 (Nums.signed v typ)) ∧ Below w.heap.size w w'

theorem wake1 : Nums.bin 117 2147483648 33 = (3221225472, 0, true) := by decide +kernel
theorem wake2 : Nums.bin 109 2147483648 4294967295 = (0, 3, true) := by decide +kernel
theorem wake3 : Nums.signed 4294967295 127 = -1 := by decide +kernel

set_option maxHeartbeats 400000 in
theorem wakesC {I : World → Prop} (C : NumsC I) (w : World) (hI : I w) : Calls Tryd.prog 6 #[] w fun e w' => e = .returned (.bool true) ∧ Below w.heap.size w w' := by
  go_enter Tryd.func6, Tryd.ntmps6
  go_wp2_with fail
  refine (C.bin _ _ _ _ hI (by decide) (by decide) (by decide) (by decide)).mono ?_
  rintro e w1 ⟨rfl, hb1⟩
  have hI1 := C.keep hb1 hI
  rw [wake1]
  go_wp2_with fail
  refine (C.bin _ _ _ _ hI1 (by decide) (by decide) (by decide) (by decide)).mono ?_
  rintro e w2 ⟨rfl, hb2⟩
  rw [wake2]
  go_wp2_with fail
  refine (C.signed _ _ _ (by decide) (by decide)).mono ?_
  rintro e w3 ⟨rfl, hb3⟩
  rw [wake3]
  go_wp2
  go_ret
  exact ⟨rfl, bel_on (bel_on hb1 hb2) hb3⟩
end Go.Proofs.YtilgmaabongngabDoor
