/- What the program's function of two values answers, of any number as instruction: the plain function; nothing is changed. -/
import Derived.Test.YtilgmaabongngabDoorP4A
import Derived.Test.YtilgmaabongngabDoorP4B
import Derived.Test.YtilgmaabongngabDoorP4C
namespace Go.Proofs.YtilgmaabongngabDoor
open Go.RowKit

theorem pReckon2 (op a b : Int) (w : World) (h : (Nums.sig op).1 = 2) (h0 : 0 ≤ a) (h1 : a ≤ 18446744073709551615) (k0 : 0 ≤ b) (k1 : b ≤ 18446744073709551615) :
    Calls Tryd.prog 8 #[.int .i64 op, .int .u64 a, .int .u64 b] w fun e w' => e = .returned (.tuple #[.int .u64 (Nums.bin op a b).1, .int .i64 (Nums.bin op a b).2.1]) ∧ w' = w := by
  rcases sig_is_two op h with hc | hc | hc | hc
  · rcases (by omega : op = 70 ∨ op = 71 ∨ op = 72 ∨ op = 73 ∨ op = 74 ∨ op = 75 ∨ op = 76 ∨ op = 77 ∨ op = 78 ∨ op = 79) with rfl | rfl | rfl | rfl | rfl | rfl | rfl | rfl | rfl | rfl
    · exact pReckon70 a b w h0 h1 k0 k1
    · exact pReckon71 a b w h0 h1 k0 k1
    · exact pReckon72 a b w h0 h1 k0 k1
    · exact pReckon73 a b w h0 h1 k0 k1
    · exact pReckon74 a b w h0 h1 k0 k1
    · exact pReckon75 a b w h0 h1 k0 k1
    · exact pReckon76 a b w h0 h1 k0 k1
    · exact pReckon77 a b w h0 h1 k0 k1
    · exact pReckon78 a b w h0 h1 k0 k1
    · exact pReckon79 a b w h0 h1 k0 k1
  · rcases (by omega : op = 81 ∨ op = 82 ∨ op = 83 ∨ op = 84 ∨ op = 85 ∨ op = 86 ∨ op = 87 ∨ op = 88 ∨ op = 89 ∨ op = 90) with rfl | rfl | rfl | rfl | rfl | rfl | rfl | rfl | rfl | rfl
    · exact pReckon81 a b w h0 h1 k0 k1
    · exact pReckon82 a b w h0 h1 k0 k1
    · exact pReckon83 a b w h0 h1 k0 k1
    · exact pReckon84 a b w h0 h1 k0 k1
    · exact pReckon85 a b w h0 h1 k0 k1
    · exact pReckon86 a b w h0 h1 k0 k1
    · exact pReckon87 a b w h0 h1 k0 k1
    · exact pReckon88 a b w h0 h1 k0 k1
    · exact pReckon89 a b w h0 h1 k0 k1
    · exact pReckon90 a b w h0 h1 k0 k1
  · rcases (by omega : op = 106 ∨ op = 107 ∨ op = 108 ∨ op = 109 ∨ op = 110 ∨ op = 111 ∨ op = 112 ∨ op = 113 ∨ op = 114 ∨ op = 115 ∨ op = 116 ∨ op = 117 ∨ op = 118 ∨ op = 119 ∨ op = 120) with rfl | rfl | rfl | rfl | rfl | rfl | rfl | rfl | rfl | rfl | rfl | rfl | rfl | rfl | rfl
    · exact pReckon106 a b w h0 h1 k0 k1
    · exact pReckon107 a b w h0 h1 k0 k1
    · exact pReckon108 a b w h0 h1 k0 k1
    · exact pReckon109 a b w h0 h1 k0 k1
    · exact pReckon110 a b w h0 h1 k0 k1
    · exact pReckon111 a b w h0 h1 k0 k1
    · exact pReckon112 a b w h0 h1 k0 k1
    · exact pReckon113 a b w h0 h1 k0 k1
    · exact pReckon114 a b w h0 h1 k0 k1
    · exact pReckon115 a b w h0 h1 k0 k1
    · exact pReckon116 a b w h0 h1 k0 k1
    · exact pReckon117 a b w h0 h1 k0 k1
    · exact pReckon118 a b w h0 h1 k0 k1
    · exact pReckon119 a b w h0 h1 k0 k1
    · exact pReckon120 a b w h0 h1 k0 k1
  · rcases (by omega : op = 124 ∨ op = 125 ∨ op = 126 ∨ op = 127 ∨ op = 128 ∨ op = 129 ∨ op = 130 ∨ op = 131 ∨ op = 132 ∨ op = 133 ∨ op = 134 ∨ op = 135 ∨ op = 136 ∨ op = 137 ∨ op = 138) with rfl | rfl | rfl | rfl | rfl | rfl | rfl | rfl | rfl | rfl | rfl | rfl | rfl | rfl | rfl
    · exact pReckon124 a b w h0 h1 k0 k1
    · exact pReckon125 a b w h0 h1 k0 k1
    · exact pReckon126 a b w h0 h1 k0 k1
    · exact pReckon127 a b w h0 h1 k0 k1
    · exact pReckon128 a b w h0 h1 k0 k1
    · exact pReckon129 a b w h0 h1 k0 k1
    · exact pReckon130 a b w h0 h1 k0 k1
    · exact pReckon131 a b w h0 h1 k0 k1
    · exact pReckon132 a b w h0 h1 k0 k1
    · exact pReckon133 a b w h0 h1 k0 k1
    · exact pReckon134 a b w h0 h1 k0 k1
    · exact pReckon135 a b w h0 h1 k0 k1
    · exact pReckon136 a b w h0 h1 k0 k1
    · exact pReckon137 a b w h0 h1 k0 k1
    · exact pReckon138 a b w h0 h1 k0 k1
theorem bin_ok (op a b : Int) (h : (Nums.sig op).1 = 2) : (Nums.bin op a b).2.2 = true := by
  unfold Nums.bin
  rcases sig_is_two op h with hc | hc | hc | hc
  · rw [if_pos hc]
  · rw [if_neg (by omega), if_pos hc]
  · rw [if_neg (by omega), if_neg (by omega), if_pos hc]
  · rw [if_neg (by omega), if_neg (by omega), if_neg (by omega), if_pos hc]

set_option maxHeartbeats 1000000 in
theorem pBinary (op a b : Int) (w : World) (h0 : 0 ≤ a) (h1 : a ≤ 18446744073709551615) (k0 : 0 ≤ b) (k1 : b ≤ 18446744073709551615) :
    Calls Tryd.prog 4 #[.int .i64 op, .int .u64 a, .int .u64 b] w fun e w' => e = .returned (.tuple #[.int .u64 (Nums.bin op a b).1, .int .i64 (Nums.bin op a b).2.1, .bool (Nums.bin op a b).2.2]) ∧ w' = w := by
  by_cases h : (Nums.sig op).1 = 2
  · have hc : ∀ w : World, Calls Tryd.prog 8 #[.int .i64 op, .int .u64 a, .int .u64 b] w fun e w' => e = .returned (.tuple #[.int .u64 (Nums.bin op a b).1, .int .i64 (Nums.bin op a b).2.1]) ∧ w' = w := fun w => pReckon2 op a b w h h0 h1 k0 k1
    rw [bin_ok op a b h]
    have hs : ∀ w : World, Calls Tryd.prog 7 #[.int .i64 op] w fun e w' => e = .returned (.tuple #[.int .i64 (Nums.sig op).2.1, .int .i64 (Nums.sig op).1, .int .i64 (Nums.sig op).2.2]) ∧ w' = w := fun w => pShape op w
    rw [h] at hs
    clear h
    generalize (Nums.sig op).2.1 = s1 at *
    generalize (Nums.sig op).2.2 = s2 at *
    generalize (Nums.bin op a b).1 = x at *
    generalize (Nums.bin op a b).2.1 = y at *
    go_enter Tryd.func4, Tryd.ntmps4
    go_wp2_with fail
    refine (hs _).mono ?_
    rintro e u ⟨rfl, rfl⟩
    go_wp2_with fail
    refine (hc _).mono ?_
    rintro e u ⟨rfl, rfl⟩
    go_wp2
    go_ret3
    exact ⟨rfl, rfl⟩
  · rw [sig_two op h]
    have hs : ∀ w : World, Calls Tryd.prog 7 #[.int .i64 op] w fun e w' => e = .returned (.tuple #[.int .i64 (Nums.sig op).2.1, .int .i64 (Nums.sig op).1, .int .i64 (Nums.sig op).2.2]) ∧ w' = w := fun w => pShape op w
    have h2 : ((Nums.sig op).1 != 2) = true := by simp [h]
    clear h
    generalize Nums.sig op = s at *
    go_enter Tryd.func4, Tryd.ntmps4
    go_wp2_with fail
    refine (hs _).mono ?_
    rintro e u ⟨rfl, rfl⟩
    go_wp2
    go_ret3
    exact ⟨rfl, rfl⟩
end Go.Proofs.YtilgmaabongngabDoor
