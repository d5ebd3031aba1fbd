/- Quotient and rest are put together again: of the plain functions. -/
import Derived.Test.YtilgmaabongngaaDoorAr
namespace Go.Proofs.YtilgmaabongngaaDoor
open Go.RowKit
namespace Nums

theorem sg_mod32 (A : Int) (h0 : 0 ≤ A) (h1 : A < 4294967296) : sg 32 A % 4294967296 = A := by
  unfold sg; rw [hf32, md32]; split <;> omega
theorem sg_mod64 (A : Int) (h0 : 0 ≤ A) (h1 : A < 18446744073709551616) : sg 64 A % 18446744073709551616 = A := by
  unfold sg; rw [hf64, md64]; split <;> omega
theorem sg_mod (W : Nat) (hW : W = 32 ∨ W = 64) (A : Int) (h0 : 0 ≤ A) (h1 : A < md W) : sg W A % md W = A := by
  rcases hW with rfl | rfl
  · exact sg_mod32 A h0 h1
  · exact sg_mod64 A h0 h1
theorem md_pos (W : Nat) : 0 < md W := by unfold md; split <;> decide
theorem round_u (M A B : Int) (h0 : 0 ≤ A) (h1 : A < M) (hB : 0 < B) : (A / B * B % M + A % B) % M = A := by
  have hr := Int.emod_nonneg A (show B ≠ 0 by omega)
  have hd := Int.emod_def A B
  have hq : 0 ≤ A / B * B := Int.mul_nonneg (Int.ediv_nonneg h0 (by omega)) (by omega)
  rw [Int.mul_comm B] at hd
  generalize A / B * B = z at *
  rw [Int.emod_eq_of_lt hq (by omega), show z + A % B = A by omega, Int.emod_eq_of_lt h0 h1]
theorem round_s (M x y A B : Int) (hx : x % M = A) (hy : y % M = B) : (x.tdiv y % M * B % M + x.tmod y % M) % M = A := by
  have e : x.tdiv y % M * B % M = x.tdiv y * y % M := by rw [Int.mul_emod (x.tdiv y) y, hy]
  rw [e, ← Int.add_emod, Int.mul_comm, Int.mul_tdiv_add_tmod, hx]
theorem q_bd (M A B : Int) (h0 : 0 ≤ A) (h1 : A < M) : 0 ≤ B → 0 ≤ A / B ∧ A / B < M := by
  intro hB
  refine ⟨Int.ediv_nonneg h0 hB, Int.lt_of_le_of_lt (Int.ediv_le_self _ h0) h1⟩

theorem ar_round (W : Nat) (hW : W = 32 ∨ W = 64) (sign : Bool) (A B : Int) (h0 : 0 ≤ A) (h1 : A < md W) (k0 : 0 ≤ B) (k1 : B < md W) :
    (B = 0 ∧ ar (if sign then 3 else 4) W A B = (0, 2) ∧ ar (if sign then 5 else 6) W A B = (0, 2)) ∨
    (B ≠ 0 ∧ sign = true ∧ A = hf W ∧ sg W B = -1 ∧ ar (if sign then 3 else 4) W A B = (0, 3) ∧ ar (if sign then 5 else 6) W A B = (0, 0)) ∨
    (B ≠ 0 ∧ ∃ q r, ar (if sign then 3 else 4) W A B = (q, 0) ∧ ar (if sign then 5 else 6) W A B = (r, 0) ∧ 0 ≤ q ∧ q < md W ∧ 0 ≤ r ∧ r < md W ∧ (q * B % md W + r) % md W = A) := by
  have hM := md_pos W
  by_cases hB : B = 0
  · subst hB
    left
    cases sign <;> exact ⟨rfl, rfl, rfl⟩
  right
  cases sign
  · right
    refine ⟨hB, A / B, A % B, ?_, ?_, (q_bd _ A B h0 h1 k0).1, (q_bd _ A B h0 h1 k0).2, Int.emod_nonneg _ hB, Int.lt_trans (Int.emod_lt_of_pos _ (by omega)) k1, round_u _ A B h0 h1 (by omega)⟩
    · show (if B = 0 then ((0, 2) : Int × Int) else (A / B, 0)) = _
      rw [if_neg hB]
    · show (if B = 0 then ((0, 2) : Int × Int) else (A % B, 0)) = _
      rw [if_neg hB]
  · by_cases hov : sg W A = - hf W ∧ sg W B = -1
    · left
      refine ⟨hB, rfl, ?_, hov.2, ?_, ?_⟩
      · have := sg_mod W hW A h0 h1
        rw [hov.1] at this
        rcases hW with rfl | rfl
        · rw [hf32, md32] at *; omega
        · rw [hf64, md64] at *; omega
      · show (if B = 0 then ((0, 2) : Int × Int) else if sg W A = - hf W ∧ sg W B = -1 then (0, 3) else ((sg W A).tdiv (sg W B) % md W, 0)) = _
        rw [if_neg hB, if_pos hov]
      · show (if B = 0 then ((0, 2) : Int × Int) else ((sg W A).tmod (sg W B) % md W, 0)) = _
        rw [if_neg hB, hov.2, Int.tmod_neg, Int.tmod_one, Int.zero_emod]
    · right
      refine ⟨hB, (sg W A).tdiv (sg W B) % md W, (sg W A).tmod (sg W B) % md W, ?_, ?_, Int.emod_nonneg _ (by omega), Int.emod_lt_of_pos _ hM, Int.emod_nonneg _ (by omega), Int.emod_lt_of_pos _ hM, round_s _ _ _ A B (sg_mod W hW A h0 h1) (sg_mod W hW B k0 k1)⟩
      · show (if B = 0 then ((0, 2) : Int × Int) else if sg W A = - hf W ∧ sg W B = -1 then (0, 3) else ((sg W A).tdiv (sg W B) % md W, 0)) = _
        rw [if_neg hB, if_neg hov]
      · show (if B = 0 then ((0, 2) : Int × Int) else ((sg W A).tmod (sg W B) % md W, 0)) = _
        rw [if_neg hB]

/-- what the law asks, of one width, with signs or without -/
def QF (d m s typ least : Int) (sign : Bool) (A B : Int) : Prop :=
  (B = 0 ∧ bin d A B = (0, 2, true) ∧ bin (d + 2) A B = (0, 2, true)) ∨
  (B ≠ 0 ∧ sign = true ∧ A = least ∧ signed B typ = -1 ∧ bin d A B = (0, 3, true) ∧ bin (d + 2) A B = (0, 0, true)) ∨
  (B ≠ 0 ∧ ∃ q r p, bin d A B = (q, 0, true) ∧ bin (d + 2) A B = (r, 0, true) ∧ bin m q B = (p, 0, true) ∧ bin s p r = (A, 0, true) ∧ 0 ≤ q ∧ q ≤ 18446744073709551615 ∧ 0 ≤ r ∧ r ≤ 18446744073709551615 ∧ 0 ≤ p ∧ p ≤ 18446744073709551615)

theorem bin32 (op : Int) (k : Nat) (ho : op = 106 + k) (hk : k ≤ 14) (A B : Int) (h0 : 0 ≤ A) (h1 : A < 4294967296) (k0 : 0 ≤ B) (k1 : B < 4294967296) : bin op A B = ((ar k 32 A B).1, (ar k 32 A B).2, true) := by
  subst ho
  unfold bin
  rw [if_neg (by omega), if_neg (by omega), if_pos (by omega), Int.emod_eq_of_lt h0 h1, Int.emod_eq_of_lt k0 k1, show ((106 : Int) + k - 106).toNat = k by omega]
theorem bin64 (op : Int) (k : Nat) (ho : op = 124 + k) (hk : k ≤ 14) (A B : Int) : bin op A B = ((ar k 64 A B).1, (ar k 64 A B).2, true) := by
  subst ho
  unfold bin
  rw [if_neg (by omega), if_neg (by omega), if_neg (by omega), if_pos (by omega), show ((124 : Int) + k - 124).toNat = k by omega]
theorem qf32 (sign : Bool) (A B : Int) (h0 : 0 ≤ A) (h1 : A < 4294967296) (k0 : 0 ≤ B) (k1 : B < 4294967296) : QF (if sign then 109 else 110) 108 106 127 2147483648 sign A B := by
  have hs : signed B 127 = sg 32 B := by have := signed32 B; rwa [Int.emod_eq_of_lt k0 k1] at this
  have hd : bin (if sign then 109 else 110) A B = ((ar (if sign then 3 else 4) 32 A B).1, (ar (if sign then 3 else 4) 32 A B).2, true) := bin32 _ _ (by cases sign <;> rfl) (by cases sign <;> decide) A B h0 h1 k0 k1
  have hr : bin ((if sign then 109 else 110) + 2) A B = ((ar (if sign then 5 else 6) 32 A B).1, (ar (if sign then 5 else 6) 32 A B).2, true) := bin32 _ _ (by cases sign <;> rfl) (by cases sign <;> decide) A B h0 h1 k0 k1
  unfold QF
  rw [hd, hr, hs]
  rcases ar_round 32 (.inl rfl) sign A B h0 h1 k0 k1 with ⟨a1, a2, a3⟩ | ⟨a1, a2, a3, a4, a5, a6⟩ | ⟨a1, q, r, a2, a3, a4, a5, a6, a7, a8⟩
  · left; rw [a2, a3]; exact ⟨a1, rfl, rfl⟩
  · right; left; rw [a5, a6]; exact ⟨a1, a2, a3, a4, rfl, rfl⟩
  · right; right; rw [a2, a3]
    rw [md32] at a5 a7 a8
    have hp : 0 ≤ q * B % 4294967296 ∧ q * B % 4294967296 < 4294967296 := ⟨Int.emod_nonneg _ (by decide), Int.emod_lt_of_pos _ (by decide)⟩
    refine ⟨a1, q, r, q * B % 4294967296, rfl, rfl, ?_, ?_, a4, by omega, a6, by omega, hp.1, by omega⟩
    · rw [bin32 108 2 rfl (by decide) q B a4 a5 k0 k1]; rfl
    · rw [bin32 106 0 rfl (by decide) _ r hp.1 hp.2 a6 a7]
      show ((_ + _) % md 32, _, _) = _
      rw [md32, a8]; rfl
theorem qf64 (sign : Bool) (A B : Int) (h0 : 0 ≤ A) (h1 : A < 18446744073709551616) (k0 : 0 ≤ B) (k1 : B < 18446744073709551616) : QF (if sign then 127 else 128) 126 124 126 9223372036854775808 sign A B := by
  have hd : bin (if sign then 127 else 128) A B = ((ar (if sign then 3 else 4) 64 A B).1, (ar (if sign then 3 else 4) 64 A B).2, true) := bin64 _ _ (by cases sign <;> rfl) (by cases sign <;> decide) A B
  have hr : bin ((if sign then 127 else 128) + 2) A B = ((ar (if sign then 5 else 6) 64 A B).1, (ar (if sign then 5 else 6) 64 A B).2, true) := bin64 _ _ (by cases sign <;> rfl) (by cases sign <;> decide) A B
  unfold QF
  rw [hd, hr, signed64]
  rcases ar_round 64 (.inr rfl) sign A B h0 h1 k0 k1 with ⟨a1, a2, a3⟩ | ⟨a1, a2, a3, a4, a5, a6⟩ | ⟨a1, q, r, a2, a3, a4, a5, a6, a7, a8⟩
  · left; rw [a2, a3]; exact ⟨a1, rfl, rfl⟩
  · right; left; rw [a5, a6]; exact ⟨a1, a2, a3, a4, rfl, rfl⟩
  · right; right; rw [a2, a3]
    rw [md64] at a5 a7 a8
    have hp : 0 ≤ q * B % 18446744073709551616 ∧ q * B % 18446744073709551616 < 18446744073709551616 := ⟨Int.emod_nonneg _ (by decide), Int.emod_lt_of_pos _ (by decide)⟩
    refine ⟨a1, q, r, q * B % 18446744073709551616, rfl, rfl, ?_, ?_, a4, by omega, a6, by omega, hp.1, by omega⟩
    · rw [bin64 126 2 rfl (by decide) q B]; rfl
    · rw [bin64 124 0 rfl (by decide) _ r]
      show ((_ + _) % md 64, _, _) = _
      rw [md64, a8]; rfl
end Nums
end Go.Proofs.YtilgmaabongngaaDoor
