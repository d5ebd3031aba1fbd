/- What the document's own function of two values answers, the reckoning ones of 32 bits: the plain function; nothing is changed. -/
import Derived.Test.YtilgmaabongngaaDoorRef
import Derived.Test.YtilgmaabongngaaDoorAr
namespace Go.Proofs.YtilgmaabongngaaDoor
open Go.RowKit
set_option linter.unusedVariables false

theorem ar_zero (k W : Nat) (a : Int) (h : k = 3 ∨ k = 4 ∨ k = 5 ∨ k = 6) : Nums.ar k W a 0 = (0, 2) := by rcases h with rfl | rfl | rfl | rfl <;> rfl
theorem ar3_ (W : Nat) (typ A B : Int) (ht : (W = 32 ∧ typ = 127) ∨ (W = 64 ∧ typ = 126)) (hB : B ≠ 0) : Nums.ar 3 W A B = Nums.divide 3 A B (Nums.sg W A) (Nums.sg W B) typ := by
  show (if B = 0 then ((0, 2) : Int × Int) else if Nums.sg W A = - Nums.hf W ∧ Nums.sg W B = -1 then (0, 3) else ((Nums.sg W A).tdiv (Nums.sg W B) % Nums.md W, 0)) = _
  rw [if_neg hB]
  generalize Nums.sg W A = x
  generalize Nums.sg W B = y
  rcases ht with ⟨rfl, rfl⟩ | ⟨rfl, rfl⟩
  · by_cases h : x = - Nums.hf 32 ∧ y = -1
    · rw [if_pos h]; obtain ⟨rfl, rfl⟩ := h; exact (divide_over32 A B hB).symm
    · rw [if_neg h, divide_3 _ _ _ _ _ hB h]; rfl
  · by_cases h : x = - Nums.hf 64 ∧ y = -1
    · rw [if_pos h]; obtain ⟨rfl, rfl⟩ := h; exact (divide_over64 A B hB).symm
    · rw [if_neg h, divide_3 _ _ _ _ _ hB h]; rfl
theorem ar_div (k W : Nat) (typ A B : Int) (hk : k = 3 ∨ k = 4 ∨ k = 5 ∨ k = 6) (ht : (W = 32 ∧ typ = 127) ∨ (W = 64 ∧ typ = 126)) : Nums.ar k W A B = Nums.divide k A B (Nums.sg W A) (Nums.sg W B) typ := by
  by_cases hB : B = 0
  · subst hB; rw [ar_zero k W A hk, divide_zero]
  rcases hk with rfl | rfl | rfl | rfl
  · exact ar3_ W typ A B ht hB
  · show (if B = 0 then ((0, 2) : Int × Int) else (A / B, 0)) = _
    rw [if_neg hB]; exact (divide_4 _ _ _ _ _ hB).symm
  · show (if B = 0 then ((0, 2) : Int × Int) else ((Nums.sg W A).tmod (Nums.sg W B) % Nums.md W, 0)) = _
    rw [if_neg hB]
    refine Eq.trans ?_ (divide_5 _ _ _ _ _ hB).symm
    rcases ht with ⟨rfl, rfl⟩ | ⟨rfl, rfl⟩ <;> rfl
  · show (if B = 0 then ((0, 2) : Int × Int) else (A % B, 0)) = _
    rw [if_neg hB]; exact (divide_6 _ _ _ _ _ hB).symm
theorem ar3_32 (a b : Int) : Nums.ar 3 32 (a % 4294967296) (b % 4294967296) = Nums.divide 3 (a % 4294967296) (b % 4294967296) (Nums.signed (a % 4294967296) 127) (Nums.signed (b % 4294967296) 127) 127 := by
  rw [Nums.signed32, Nums.signed32]; exact ar_div 3 32 127 _ _ (by decide) (by decide)
theorem ar3_64 (a b : Int) : Nums.ar 3 64 a b = Nums.divide 3 a b (Nums.sg 64 a) (Nums.sg 64 b) 126 := ar_div 3 64 126 _ _ (by decide) (by decide)
theorem ar4_32 (a b : Int) : Nums.ar 4 32 (a % 4294967296) (b % 4294967296) = Nums.divide 4 (a % 4294967296) (b % 4294967296) (Nums.signed (a % 4294967296) 127) (Nums.signed (b % 4294967296) 127) 127 := by
  rw [Nums.signed32, Nums.signed32]; exact ar_div 4 32 127 _ _ (by decide) (by decide)
theorem ar4_64 (a b : Int) : Nums.ar 4 64 a b = Nums.divide 4 a b (Nums.sg 64 a) (Nums.sg 64 b) 126 := ar_div 4 64 126 _ _ (by decide) (by decide)
theorem ar5_32 (a b : Int) : Nums.ar 5 32 (a % 4294967296) (b % 4294967296) = Nums.divide 5 (a % 4294967296) (b % 4294967296) (Nums.signed (a % 4294967296) 127) (Nums.signed (b % 4294967296) 127) 127 := by
  rw [Nums.signed32, Nums.signed32]; exact ar_div 5 32 127 _ _ (by decide) (by decide)
theorem ar5_64 (a b : Int) : Nums.ar 5 64 a b = Nums.divide 5 a b (Nums.sg 64 a) (Nums.sg 64 b) 126 := ar_div 5 64 126 _ _ (by decide) (by decide)
theorem ar6_32 (a b : Int) : Nums.ar 6 32 (a % 4294967296) (b % 4294967296) = Nums.divide 6 (a % 4294967296) (b % 4294967296) (Nums.signed (a % 4294967296) 127) (Nums.signed (b % 4294967296) 127) 127 := by
  rw [Nums.signed32, Nums.signed32]; exact ar_div 6 32 127 _ _ (by decide) (by decide)
theorem ar6_64 (a b : Int) : Nums.ar 6 64 a b = Nums.divide 6 a b (Nums.sg 64 a) (Nums.sg 64 b) 126 := ar_div 6 64 126 _ _ (by decide) (by decide)

set_option maxHeartbeats 1000000 in
theorem refAr106 (a b : Int) (w : World) (h0 : 0 ≤ a) (h1 : a ≤ 18446744073709551615) (k0 : 0 ≤ b) (k1 : b ≤ 18446744073709551615) :
    Calls Tryd.prog 12 #[.int .i64 106, .int .u64 a, .int .u64 b] w fun e w' => e = .returned (.tuple #[.int .u64 (Nums.ar 0 32 (a % 4294967296) (b % 4294967296)).1, .int .i64 (Nums.ar 0 32 (a % 4294967296) (b % 4294967296)).2, .bool true]) ∧ w' = w := by
  have ha : 0 ≤ a % 4294967296 ∧ a % 4294967296 ≤ 18446744073709551615 := by omega
  have hb : 0 ≤ b % 4294967296 ∧ b % 4294967296 ≤ 18446744073709551615 := by omega
  go_enter Tryd.func12, Tryd.ntmps12
  go_wp2_with fail
  refine (refSig _ _).mono ?_
  rintro e u ⟨rfl, rfl⟩
  rw [show Nums.sig 106 = (2, 127, 127) from rfl]
  go_wp2_with fail
  refine (refSigned _ _ _ ha.1 ha.2).mono ?_
  rintro e u ⟨rfl, rfl⟩
  go_wp2_with fail
  refine (refSigned _ _ _ hb.1 hb.2).mono ?_
  rintro e u ⟨rfl, rfl⟩
  go_wp2
  go_ret3
  exact ⟨uib_ret (by rw [Nums.ar0_32 a b]; rfl), rfl⟩

set_option maxHeartbeats 1000000 in
theorem refAr107 (a b : Int) (w : World) (h0 : 0 ≤ a) (h1 : a ≤ 18446744073709551615) (k0 : 0 ≤ b) (k1 : b ≤ 18446744073709551615) :
    Calls Tryd.prog 12 #[.int .i64 107, .int .u64 a, .int .u64 b] w fun e w' => e = .returned (.tuple #[.int .u64 (Nums.ar 1 32 (a % 4294967296) (b % 4294967296)).1, .int .i64 (Nums.ar 1 32 (a % 4294967296) (b % 4294967296)).2, .bool true]) ∧ w' = w := by
  have ha : 0 ≤ a % 4294967296 ∧ a % 4294967296 ≤ 18446744073709551615 := by omega
  have hb : 0 ≤ b % 4294967296 ∧ b % 4294967296 ≤ 18446744073709551615 := by omega
  go_enter Tryd.func12, Tryd.ntmps12
  go_wp2_with fail
  refine (refSig _ _).mono ?_
  rintro e u ⟨rfl, rfl⟩
  rw [show Nums.sig 107 = (2, 127, 127) from rfl]
  go_wp2_with fail
  refine (refSigned _ _ _ ha.1 ha.2).mono ?_
  rintro e u ⟨rfl, rfl⟩
  go_wp2_with fail
  refine (refSigned _ _ _ hb.1 hb.2).mono ?_
  rintro e u ⟨rfl, rfl⟩
  go_wp2
  go_ret3
  exact ⟨uib_ret (by rw [Nums.ar1_32 a b]; rfl), rfl⟩

set_option maxHeartbeats 1000000 in
theorem refAr108 (a b : Int) (w : World) (h0 : 0 ≤ a) (h1 : a ≤ 18446744073709551615) (k0 : 0 ≤ b) (k1 : b ≤ 18446744073709551615) :
    Calls Tryd.prog 12 #[.int .i64 108, .int .u64 a, .int .u64 b] w fun e w' => e = .returned (.tuple #[.int .u64 (Nums.ar 2 32 (a % 4294967296) (b % 4294967296)).1, .int .i64 (Nums.ar 2 32 (a % 4294967296) (b % 4294967296)).2, .bool true]) ∧ w' = w := by
  have ha : 0 ≤ a % 4294967296 ∧ a % 4294967296 ≤ 18446744073709551615 := by omega
  have hb : 0 ≤ b % 4294967296 ∧ b % 4294967296 ≤ 18446744073709551615 := by omega
  go_enter Tryd.func12, Tryd.ntmps12
  go_wp2_with fail
  refine (refSig _ _).mono ?_
  rintro e u ⟨rfl, rfl⟩
  rw [show Nums.sig 108 = (2, 127, 127) from rfl]
  go_wp2_with fail
  refine (refSigned _ _ _ ha.1 ha.2).mono ?_
  rintro e u ⟨rfl, rfl⟩
  go_wp2_with fail
  refine (refSigned _ _ _ hb.1 hb.2).mono ?_
  rintro e u ⟨rfl, rfl⟩
  go_wp2
  go_ret3
  exact ⟨uib_ret (by rw [Nums.ar2_32 a b]; rfl), rfl⟩

set_option maxHeartbeats 1000000 in
theorem refAr109 (a b : Int) (w : World) (h0 : 0 ≤ a) (h1 : a ≤ 18446744073709551615) (k0 : 0 ≤ b) (k1 : b ≤ 18446744073709551615) :
    Calls Tryd.prog 12 #[.int .i64 109, .int .u64 a, .int .u64 b] w fun e w' => e = .returned (.tuple #[.int .u64 (Nums.ar 3 32 (a % 4294967296) (b % 4294967296)).1, .int .i64 (Nums.ar 3 32 (a % 4294967296) (b % 4294967296)).2, .bool true]) ∧ w' = w := by
  have ha : 0 ≤ a % 4294967296 ∧ a % 4294967296 ≤ 18446744073709551615 := by omega
  have hb : 0 ≤ b % 4294967296 ∧ b % 4294967296 ≤ 18446744073709551615 := by omega
  go_enter Tryd.func12, Tryd.ntmps12
  go_wp2_with fail
  refine (refSig _ _).mono ?_
  rintro e u ⟨rfl, rfl⟩
  rw [show Nums.sig 109 = (2, 127, 127) from rfl]
  go_wp2_with fail
  refine (refSigned _ _ _ ha.1 ha.2).mono ?_
  rintro e u ⟨rfl, rfl⟩
  go_wp2_with fail
  refine (refSigned _ _ _ hb.1 hb.2).mono ?_
  rintro e u ⟨rfl, rfl⟩
  have hr := Nums.signed_bd32 a
  have hr' := Nums.signed_bd32 b
  go_wp2_with fail
  refine (refDivide _ _ _ _ _ _ _ (fun h => by rw [Nums.signed32]; exact Nums.sg_ne32 b h) ha.1 ha.2 hb.1 hb.2 hr.1 hr.2 hr'.1 hr'.2 (by decide) (by decide)).mono ?_
  rintro e u ⟨rfl, rfl⟩
  rw [← ar3_32 a b]
  go_wp2
  go_ret3
  exact ⟨rfl, rfl⟩

set_option maxHeartbeats 1000000 in
theorem refAr110 (a b : Int) (w : World) (h0 : 0 ≤ a) (h1 : a ≤ 18446744073709551615) (k0 : 0 ≤ b) (k1 : b ≤ 18446744073709551615) :
    Calls Tryd.prog 12 #[.int .i64 110, .int .u64 a, .int .u64 b] w fun e w' => e = .returned (.tuple #[.int .u64 (Nums.ar 4 32 (a % 4294967296) (b % 4294967296)).1, .int .i64 (Nums.ar 4 32 (a % 4294967296) (b % 4294967296)).2, .bool true]) ∧ w' = w := by
  have ha : 0 ≤ a % 4294967296 ∧ a % 4294967296 ≤ 18446744073709551615 := by omega
  have hb : 0 ≤ b % 4294967296 ∧ b % 4294967296 ≤ 18446744073709551615 := by omega
  go_enter Tryd.func12, Tryd.ntmps12
  go_wp2_with fail
  refine (refSig _ _).mono ?_
  rintro e u ⟨rfl, rfl⟩
  rw [show Nums.sig 110 = (2, 127, 127) from rfl]
  go_wp2_with fail
  refine (refSigned _ _ _ ha.1 ha.2).mono ?_
  rintro e u ⟨rfl, rfl⟩
  go_wp2_with fail
  refine (refSigned _ _ _ hb.1 hb.2).mono ?_
  rintro e u ⟨rfl, rfl⟩
  have hr := Nums.signed_bd32 a
  have hr' := Nums.signed_bd32 b
  go_wp2_with fail
  refine (refDivide _ _ _ _ _ _ _ (fun h => by rw [Nums.signed32]; exact Nums.sg_ne32 b h) ha.1 ha.2 hb.1 hb.2 hr.1 hr.2 hr'.1 hr'.2 (by decide) (by decide)).mono ?_
  rintro e u ⟨rfl, rfl⟩
  rw [← ar4_32 a b]
  go_wp2
  go_ret3
  exact ⟨rfl, rfl⟩

set_option maxHeartbeats 1000000 in
theorem refAr111 (a b : Int) (w : World) (h0 : 0 ≤ a) (h1 : a ≤ 18446744073709551615) (k0 : 0 ≤ b) (k1 : b ≤ 18446744073709551615) :
    Calls Tryd.prog 12 #[.int .i64 111, .int .u64 a, .int .u64 b] w fun e w' => e = .returned (.tuple #[.int .u64 (Nums.ar 5 32 (a % 4294967296) (b % 4294967296)).1, .int .i64 (Nums.ar 5 32 (a % 4294967296) (b % 4294967296)).2, .bool true]) ∧ w' = w := by
  have ha : 0 ≤ a % 4294967296 ∧ a % 4294967296 ≤ 18446744073709551615 := by omega
  have hb : 0 ≤ b % 4294967296 ∧ b % 4294967296 ≤ 18446744073709551615 := by omega
  go_enter Tryd.func12, Tryd.ntmps12
  go_wp2_with fail
  refine (refSig _ _).mono ?_
  rintro e u ⟨rfl, rfl⟩
  rw [show Nums.sig 111 = (2, 127, 127) from rfl]
  go_wp2_with fail
  refine (refSigned _ _ _ ha.1 ha.2).mono ?_
  rintro e u ⟨rfl, rfl⟩
  go_wp2_with fail
  refine (refSigned _ _ _ hb.1 hb.2).mono ?_
  rintro e u ⟨rfl, rfl⟩
  have hr := Nums.signed_bd32 a
  have hr' := Nums.signed_bd32 b
  go_wp2_with fail
  refine (refDivide _ _ _ _ _ _ _ (fun h => by rw [Nums.signed32]; exact Nums.sg_ne32 b h) ha.1 ha.2 hb.1 hb.2 hr.1 hr.2 hr'.1 hr'.2 (by decide) (by decide)).mono ?_
  rintro e u ⟨rfl, rfl⟩
  rw [← ar5_32 a b]
  go_wp2
  go_ret3
  exact ⟨rfl, rfl⟩

set_option maxHeartbeats 1000000 in
theorem refAr112 (a b : Int) (w : World) (h0 : 0 ≤ a) (h1 : a ≤ 18446744073709551615) (k0 : 0 ≤ b) (k1 : b ≤ 18446744073709551615) :
    Calls Tryd.prog 12 #[.int .i64 112, .int .u64 a, .int .u64 b] w fun e w' => e = .returned (.tuple #[.int .u64 (Nums.ar 6 32 (a % 4294967296) (b % 4294967296)).1, .int .i64 (Nums.ar 6 32 (a % 4294967296) (b % 4294967296)).2, .bool true]) ∧ w' = w := by
  have ha : 0 ≤ a % 4294967296 ∧ a % 4294967296 ≤ 18446744073709551615 := by omega
  have hb : 0 ≤ b % 4294967296 ∧ b % 4294967296 ≤ 18446744073709551615 := by omega
  go_enter Tryd.func12, Tryd.ntmps12
  go_wp2_with fail
  refine (refSig _ _).mono ?_
  rintro e u ⟨rfl, rfl⟩
  rw [show Nums.sig 112 = (2, 127, 127) from rfl]
  go_wp2_with fail
  refine (refSigned _ _ _ ha.1 ha.2).mono ?_
  rintro e u ⟨rfl, rfl⟩
  go_wp2_with fail
  refine (refSigned _ _ _ hb.1 hb.2).mono ?_
  rintro e u ⟨rfl, rfl⟩
  have hr := Nums.signed_bd32 a
  have hr' := Nums.signed_bd32 b
  go_wp2_with fail
  refine (refDivide _ _ _ _ _ _ _ (fun h => by rw [Nums.signed32]; exact Nums.sg_ne32 b h) ha.1 ha.2 hb.1 hb.2 hr.1 hr.2 hr'.1 hr'.2 (by decide) (by decide)).mono ?_
  rintro e u ⟨rfl, rfl⟩
  rw [← ar6_32 a b]
  go_wp2
  go_ret3
  exact ⟨rfl, rfl⟩

set_option maxHeartbeats 1000000 in
theorem refAr113 (a b : Int) (w : World) (h0 : 0 ≤ a) (h1 : a ≤ 18446744073709551615) (k0 : 0 ≤ b) (k1 : b ≤ 18446744073709551615) :
    Calls Tryd.prog 12 #[.int .i64 113, .int .u64 a, .int .u64 b] w fun e w' => e = .returned (.tuple #[.int .u64 (Nums.ar 7 32 (a % 4294967296) (b % 4294967296)).1, .int .i64 (Nums.ar 7 32 (a % 4294967296) (b % 4294967296)).2, .bool true]) ∧ w' = w := by
  have ha : 0 ≤ a % 4294967296 ∧ a % 4294967296 ≤ 18446744073709551615 := by omega
  have hb : 0 ≤ b % 4294967296 ∧ b % 4294967296 ≤ 18446744073709551615 := by omega
  go_enter Tryd.func12, Tryd.ntmps12
  go_wp2_with fail
  refine (refSig _ _).mono ?_
  rintro e u ⟨rfl, rfl⟩
  rw [show Nums.sig 113 = (2, 127, 127) from rfl]
  go_wp2_with fail
  refine (refSigned _ _ _ ha.1 ha.2).mono ?_
  rintro e u ⟨rfl, rfl⟩
  go_wp2_with fail
  refine (refSigned _ _ _ hb.1 hb.2).mono ?_
  rintro e u ⟨rfl, rfl⟩
  go_wp2
  go_ret3
  exact ⟨uib_ret (by rw [Nums.ar7_32 a b]; rfl), rfl⟩

set_option maxHeartbeats 1000000 in
theorem refAr114 (a b : Int) (w : World) (h0 : 0 ≤ a) (h1 : a ≤ 18446744073709551615) (k0 : 0 ≤ b) (k1 : b ≤ 18446744073709551615) :
    Calls Tryd.prog 12 #[.int .i64 114, .int .u64 a, .int .u64 b] w fun e w' => e = .returned (.tuple #[.int .u64 (Nums.ar 8 32 (a % 4294967296) (b % 4294967296)).1, .int .i64 (Nums.ar 8 32 (a % 4294967296) (b % 4294967296)).2, .bool true]) ∧ w' = w := by
  have ha : 0 ≤ a % 4294967296 ∧ a % 4294967296 ≤ 18446744073709551615 := by omega
  have hb : 0 ≤ b % 4294967296 ∧ b % 4294967296 ≤ 18446744073709551615 := by omega
  go_enter Tryd.func12, Tryd.ntmps12
  go_wp2_with fail
  refine (refSig _ _).mono ?_
  rintro e u ⟨rfl, rfl⟩
  rw [show Nums.sig 114 = (2, 127, 127) from rfl]
  go_wp2_with fail
  refine (refSigned _ _ _ ha.1 ha.2).mono ?_
  rintro e u ⟨rfl, rfl⟩
  go_wp2_with fail
  refine (refSigned _ _ _ hb.1 hb.2).mono ?_
  rintro e u ⟨rfl, rfl⟩
  go_wp2
  go_ret3
  exact ⟨uib_ret (by rw [Nums.ar8_32 a b]; rfl), rfl⟩

set_option maxHeartbeats 1000000 in
theorem refAr115 (a b : Int) (w : World) (h0 : 0 ≤ a) (h1 : a ≤ 18446744073709551615) (k0 : 0 ≤ b) (k1 : b ≤ 18446744073709551615) :
    Calls Tryd.prog 12 #[.int .i64 115, .int .u64 a, .int .u64 b] w fun e w' => e = .returned (.tuple #[.int .u64 (Nums.ar 9 32 (a % 4294967296) (b % 4294967296)).1, .int .i64 (Nums.ar 9 32 (a % 4294967296) (b % 4294967296)).2, .bool true]) ∧ w' = w := by
  have ha : 0 ≤ a % 4294967296 ∧ a % 4294967296 ≤ 18446744073709551615 := by omega
  have hb : 0 ≤ b % 4294967296 ∧ b % 4294967296 ≤ 18446744073709551615 := by omega
  go_enter Tryd.func12, Tryd.ntmps12
  go_wp2_with fail
  refine (refSig _ _).mono ?_
  rintro e u ⟨rfl, rfl⟩
  rw [show Nums.sig 115 = (2, 127, 127) from rfl]
  go_wp2_with fail
  refine (refSigned _ _ _ ha.1 ha.2).mono ?_
  rintro e u ⟨rfl, rfl⟩
  go_wp2_with fail
  refine (refSigned _ _ _ hb.1 hb.2).mono ?_
  rintro e u ⟨rfl, rfl⟩
  go_wp2
  go_ret3
  exact ⟨uib_ret (by rw [Nums.ar9_32 a b]; rfl), rfl⟩

set_option maxHeartbeats 1000000 in
theorem refAr116 (a b : Int) (w : World) (h0 : 0 ≤ a) (h1 : a ≤ 18446744073709551615) (k0 : 0 ≤ b) (k1 : b ≤ 18446744073709551615) :
    Calls Tryd.prog 12 #[.int .i64 116, .int .u64 a, .int .u64 b] w fun e w' => e = .returned (.tuple #[.int .u64 (Nums.ar 10 32 (a % 4294967296) (b % 4294967296)).1, .int .i64 (Nums.ar 10 32 (a % 4294967296) (b % 4294967296)).2, .bool true]) ∧ w' = w := by
  have ha : 0 ≤ a % 4294967296 ∧ a % 4294967296 ≤ 18446744073709551615 := by omega
  have hb : 0 ≤ b % 4294967296 ∧ b % 4294967296 ≤ 18446744073709551615 := by omega
  go_enter Tryd.func12, Tryd.ntmps12
  go_wp2_with fail
  refine (refSig _ _).mono ?_
  rintro e u ⟨rfl, rfl⟩
  rw [show Nums.sig 116 = (2, 127, 127) from rfl]
  go_wp2_with fail
  refine (refSigned _ _ _ ha.1 ha.2).mono ?_
  rintro e u ⟨rfl, rfl⟩
  go_wp2_with fail
  refine (refSigned _ _ _ hb.1 hb.2).mono ?_
  rintro e u ⟨rfl, rfl⟩
  go_wp2
  go_ret3
  exact ⟨uib_ret (by rw [Nums.ar10_32 a b]; rfl), rfl⟩

set_option maxHeartbeats 1000000 in
theorem refAr117 (a b : Int) (w : World) (h0 : 0 ≤ a) (h1 : a ≤ 18446744073709551615) (k0 : 0 ≤ b) (k1 : b ≤ 18446744073709551615) :
    Calls Tryd.prog 12 #[.int .i64 117, .int .u64 a, .int .u64 b] w fun e w' => e = .returned (.tuple #[.int .u64 (Nums.ar 11 32 (a % 4294967296) (b % 4294967296)).1, .int .i64 (Nums.ar 11 32 (a % 4294967296) (b % 4294967296)).2, .bool true]) ∧ w' = w := by
  have ha : 0 ≤ a % 4294967296 ∧ a % 4294967296 ≤ 18446744073709551615 := by omega
  have hb : 0 ≤ b % 4294967296 ∧ b % 4294967296 ≤ 18446744073709551615 := by omega
  go_enter Tryd.func12, Tryd.ntmps12
  go_wp2_with fail
  refine (refSig _ _).mono ?_
  rintro e u ⟨rfl, rfl⟩
  rw [show Nums.sig 117 = (2, 127, 127) from rfl]
  go_wp2_with fail
  refine (refSigned _ _ _ ha.1 ha.2).mono ?_
  rintro e u ⟨rfl, rfl⟩
  go_wp2_with fail
  refine (refSigned _ _ _ hb.1 hb.2).mono ?_
  rintro e u ⟨rfl, rfl⟩
  go_wp2
  go_ret3
  exact ⟨uib_ret (by rw [Nums.ar11_32 a b]; rfl), rfl⟩

set_option maxHeartbeats 1000000 in
theorem refAr118 (a b : Int) (w : World) (h0 : 0 ≤ a) (h1 : a ≤ 18446744073709551615) (k0 : 0 ≤ b) (k1 : b ≤ 18446744073709551615) :
    Calls Tryd.prog 12 #[.int .i64 118, .int .u64 a, .int .u64 b] w fun e w' => e = .returned (.tuple #[.int .u64 (Nums.ar 12 32 (a % 4294967296) (b % 4294967296)).1, .int .i64 (Nums.ar 12 32 (a % 4294967296) (b % 4294967296)).2, .bool true]) ∧ w' = w := by
  have ha : 0 ≤ a % 4294967296 ∧ a % 4294967296 ≤ 18446744073709551615 := by omega
  have hb : 0 ≤ b % 4294967296 ∧ b % 4294967296 ≤ 18446744073709551615 := by omega
  go_enter Tryd.func12, Tryd.ntmps12
  go_wp2_with fail
  refine (refSig _ _).mono ?_
  rintro e u ⟨rfl, rfl⟩
  rw [show Nums.sig 118 = (2, 127, 127) from rfl]
  go_wp2_with fail
  refine (refSigned _ _ _ ha.1 ha.2).mono ?_
  rintro e u ⟨rfl, rfl⟩
  go_wp2_with fail
  refine (refSigned _ _ _ hb.1 hb.2).mono ?_
  rintro e u ⟨rfl, rfl⟩
  go_wp2
  go_ret3
  exact ⟨uib_ret (by rw [Nums.ar12_32 a b]; rfl), rfl⟩

set_option maxHeartbeats 1000000 in
theorem refAr119 (a b : Int) (w : World) (h0 : 0 ≤ a) (h1 : a ≤ 18446744073709551615) (k0 : 0 ≤ b) (k1 : b ≤ 18446744073709551615) :
    Calls Tryd.prog 12 #[.int .i64 119, .int .u64 a, .int .u64 b] w fun e w' => e = .returned (.tuple #[.int .u64 (Nums.ar 13 32 (a % 4294967296) (b % 4294967296)).1, .int .i64 (Nums.ar 13 32 (a % 4294967296) (b % 4294967296)).2, .bool true]) ∧ w' = w := by
  have ha : 0 ≤ a % 4294967296 ∧ a % 4294967296 ≤ 18446744073709551615 := by omega
  have hb : 0 ≤ b % 4294967296 ∧ b % 4294967296 ≤ 18446744073709551615 := by omega
  go_enter Tryd.func12, Tryd.ntmps12
  go_wp2_with fail
  refine (refSig _ _).mono ?_
  rintro e u ⟨rfl, rfl⟩
  rw [show Nums.sig 119 = (2, 127, 127) from rfl]
  go_wp2_with fail
  refine (refSigned _ _ _ ha.1 ha.2).mono ?_
  rintro e u ⟨rfl, rfl⟩
  go_wp2_with fail
  refine (refSigned _ _ _ hb.1 hb.2).mono ?_
  rintro e u ⟨rfl, rfl⟩
  go_wp2
  go_ret3
  exact ⟨uib_ret (by rw [Nums.ar13_32 a b]; rfl), rfl⟩

set_option maxHeartbeats 1000000 in
theorem refAr120 (a b : Int) (w : World) (h0 : 0 ≤ a) (h1 : a ≤ 18446744073709551615) (k0 : 0 ≤ b) (k1 : b ≤ 18446744073709551615) :
    Calls Tryd.prog 12 #[.int .i64 120, .int .u64 a, .int .u64 b] w fun e w' => e = .returned (.tuple #[.int .u64 (Nums.ar 14 32 (a % 4294967296) (b % 4294967296)).1, .int .i64 (Nums.ar 14 32 (a % 4294967296) (b % 4294967296)).2, .bool true]) ∧ w' = w := by
  have ha : 0 ≤ a % 4294967296 ∧ a % 4294967296 ≤ 18446744073709551615 := by omega
  have hb : 0 ≤ b % 4294967296 ∧ b % 4294967296 ≤ 18446744073709551615 := by omega
  go_enter Tryd.func12, Tryd.ntmps12
  go_wp2_with fail
  refine (refSig _ _).mono ?_
  rintro e u ⟨rfl, rfl⟩
  rw [show Nums.sig 120 = (2, 127, 127) from rfl]
  go_wp2_with fail
  refine (refSigned _ _ _ ha.1 ha.2).mono ?_
  rintro e u ⟨rfl, rfl⟩
  go_wp2_with fail
  refine (refSigned _ _ _ hb.1 hb.2).mono ?_
  rintro e u ⟨rfl, rfl⟩
  go_wp2
  go_ret3
  exact ⟨uib_ret (by rw [Nums.ar14_32 a b]; rfl), rfl⟩

end Go.Proofs.YtilgmaabongngaaDoor
