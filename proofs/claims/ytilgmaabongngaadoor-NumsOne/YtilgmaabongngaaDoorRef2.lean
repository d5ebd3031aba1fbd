/- What the document's own function of two values answers, of any number as instruction: the plain function; nothing is changed. -/
import Derived.Test.YtilgmaabongngaaDoorRefB
import Derived.Test.YtilgmaabongngaaDoorRefC
namespace Go.Proofs.YtilgmaabongngaaDoor
open Go.RowKit

theorem sig_two (op : Int) : (Nums.sig op).1 ≠ 2 → Nums.bin op = fun _ _ => (0, 0, false) := by
  intro h
  funext a b
  unfold Nums.sig at h
  unfold Nums.bin
  repeat' split at h
  all_goals first | (exfalso; exact h rfl) | skip
  all_goals rw [if_neg (by omega), if_neg (by omega), if_neg (by omega), if_neg (by omega)]
theorem sig_is_two (op : Int) : (Nums.sig op).1 = 2 → (70 ≤ op ∧ op ≤ 79) ∨ (81 ≤ op ∧ op ≤ 90) ∨ (106 ≤ op ∧ op ≤ 120) ∨ (124 ≤ op ∧ op ≤ 138) := by
  intro h
  unfold Nums.sig at h
  repeat' split at h
  all_goals first | omega | (exfalso; revert h; decide)

set_option maxHeartbeats 1000000 in
theorem refNot2 (op a b : Int) (w : World) (h : (Nums.sig op).1 ≠ 2) :
    Calls Tryd.prog 12 #[.int .i64 op, .int .u64 a, .int .u64 b] w fun e w' => e = .returned (.tuple #[.int .u64 0, .int .i64 0, .bool false]) ∧ w' = w := by
  have h2 : ((Nums.sig op).1 == 2) = false := by simp [h]
  go_enter Tryd.func12, Tryd.ntmps12
  go_wp2_with fail
  refine (refSig _ _).mono ?_
  rintro e u ⟨rfl, rfl⟩
  generalize Nums.sig op = t at *
  go_wp2
  go_ret3
  exact ⟨rfl, rfl⟩

theorem refBinary (op a b : Int) (w : World) (h0 : 0 ≤ a) (h1 : a ≤ 18446744073709551615) (k0 : 0 ≤ b) (k1 : b ≤ 18446744073709551615) :
    Calls Tryd.prog 12 #[.int .i64 op, .int .u64 a, .int .u64 b] w fun e w' => e = .returned (.tuple #[.int .u64 (Nums.bin op a b).1, .int .i64 (Nums.bin op a b).2.1, .bool (Nums.bin op a b).2.2]) ∧ w' = w := by
  by_cases h : (Nums.sig op).1 = 2
  · rcases sig_is_two op h with hc | hc | hc | hc
    · rcases (by omega : op = 70 ∨ op = 71 ∨ op = 72 ∨ op = 73 ∨ op = 74 ∨ op = 75 ∨ op = 76 ∨ op = 77 ∨ op = 78 ∨ op = 79) with rfl | rfl | rfl | rfl | rfl | rfl | rfl | rfl | rfl | rfl
      · exact refCm70 a b w h0 h1 k0 k1
      · exact refCm71 a b w h0 h1 k0 k1
      · exact refCm72 a b w h0 h1 k0 k1
      · exact refCm73 a b w h0 h1 k0 k1
      · exact refCm74 a b w h0 h1 k0 k1
      · exact refCm75 a b w h0 h1 k0 k1
      · exact refCm76 a b w h0 h1 k0 k1
      · exact refCm77 a b w h0 h1 k0 k1
      · exact refCm78 a b w h0 h1 k0 k1
      · exact refCm79 a b w h0 h1 k0 k1
    · rcases (by omega : op = 81 ∨ op = 82 ∨ op = 83 ∨ op = 84 ∨ op = 85 ∨ op = 86 ∨ op = 87 ∨ op = 88 ∨ op = 89 ∨ op = 90) with rfl | rfl | rfl | rfl | rfl | rfl | rfl | rfl | rfl | rfl
      · exact refCm81 a b w h0 h1 k0 k1
      · exact refCm82 a b w h0 h1 k0 k1
      · exact refCm83 a b w h0 h1 k0 k1
      · exact refCm84 a b w h0 h1 k0 k1
      · exact refCm85 a b w h0 h1 k0 k1
      · exact refCm86 a b w h0 h1 k0 k1
      · exact refCm87 a b w h0 h1 k0 k1
      · exact refCm88 a b w h0 h1 k0 k1
      · exact refCm89 a b w h0 h1 k0 k1
      · exact refCm90 a b w h0 h1 k0 k1
    · rcases (by omega : op = 106 ∨ op = 107 ∨ op = 108 ∨ op = 109 ∨ op = 110 ∨ op = 111 ∨ op = 112 ∨ op = 113 ∨ op = 114 ∨ op = 115 ∨ op = 116 ∨ op = 117 ∨ op = 118 ∨ op = 119 ∨ op = 120) with rfl | rfl | rfl | rfl | rfl | rfl | rfl | rfl | rfl | rfl | rfl | rfl | rfl | rfl | rfl
      · exact refAr106 a b w h0 h1 k0 k1
      · exact refAr107 a b w h0 h1 k0 k1
      · exact refAr108 a b w h0 h1 k0 k1
      · exact refAr109 a b w h0 h1 k0 k1
      · exact refAr110 a b w h0 h1 k0 k1
      · exact refAr111 a b w h0 h1 k0 k1
      · exact refAr112 a b w h0 h1 k0 k1
      · exact refAr113 a b w h0 h1 k0 k1
      · exact refAr114 a b w h0 h1 k0 k1
      · exact refAr115 a b w h0 h1 k0 k1
      · exact refAr116 a b w h0 h1 k0 k1
      · exact refAr117 a b w h0 h1 k0 k1
      · exact refAr118 a b w h0 h1 k0 k1
      · exact refAr119 a b w h0 h1 k0 k1
      · exact refAr120 a b w h0 h1 k0 k1
    · rcases (by omega : op = 124 ∨ op = 125 ∨ op = 126 ∨ op = 127 ∨ op = 128 ∨ op = 129 ∨ op = 130 ∨ op = 131 ∨ op = 132 ∨ op = 133 ∨ op = 134 ∨ op = 135 ∨ op = 136 ∨ op = 137 ∨ op = 138) with rfl | rfl | rfl | rfl | rfl | rfl | rfl | rfl | rfl | rfl | rfl | rfl | rfl | rfl | rfl
      · exact refAr124 a b w h0 h1 k0 k1
      · exact refAr125 a b w h0 h1 k0 k1
      · exact refAr126 a b w h0 h1 k0 k1
      · exact refAr127 a b w h0 h1 k0 k1
      · exact refAr128 a b w h0 h1 k0 k1
      · exact refAr129 a b w h0 h1 k0 k1
      · exact refAr130 a b w h0 h1 k0 k1
      · exact refAr131 a b w h0 h1 k0 k1
      · exact refAr132 a b w h0 h1 k0 k1
      · exact refAr133 a b w h0 h1 k0 k1
      · exact refAr134 a b w h0 h1 k0 k1
      · exact refAr135 a b w h0 h1 k0 k1
      · exact refAr136 a b w h0 h1 k0 k1
      · exact refAr137 a b w h0 h1 k0 k1
      · exact refAr138 a b w h0 h1 k0 k1
  · rw [sig_two op h]
    exact refNot2 op a b w h
end Go.Proofs.YtilgmaabongngaaDoor
