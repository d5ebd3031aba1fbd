/- What is turned left and right by as much is as it was; moved left and right again it loses its upper bits: of the plain functions. -/
import Derived.Test.YtilgmaabongngaaDoorQuot
namespace Go.Proofs.YtilgmaabongngaaDoor
open Go.RowKit
namespace Nums

theorem turn_left (P Q A : Int) (hP : 0 < P) (hQ : 0 < Q) (h0 : 0 ≤ A) (h1 : A < P * Q) : (A * P + A / Q) % (P * Q) = A % Q * P + A / Q ∧ 0 ≤ A / Q ∧ A / Q < P ∧ A % Q * P + A / Q < P * Q := by
  have hh : A / Q < P := Int.ediv_lt_of_lt_mul hQ h1
  have hh0 : 0 ≤ A / Q := Int.ediv_nonneg h0 (by omega)
  have hl0 : 0 ≤ A % Q := Int.emod_nonneg _ (by omega)
  have hl : A % Q < Q := Int.emod_lt_of_pos _ hQ
  have hA : A = Q * (A / Q) + A % Q := (Int.mul_ediv_add_emod A Q).symm
  have e : A * P + A / Q = (A % Q * P + A / Q) + (P * Q) * (A / Q) := by
    conv => lhs; lhs; rw [hA]
    rw [Int.add_mul, Int.mul_comm Q (A / Q), Int.mul_assoc, Int.mul_comm Q P, Int.mul_comm (A / Q) (P * Q)]
    omega
  have hb : A % Q * P + A / Q < P * Q := by
    have : A % Q * P ≤ (Q - 1) * P := Int.mul_le_mul_of_nonneg_right (by omega) (by omega)
    rw [Int.sub_mul, Int.one_mul, Int.mul_comm Q P] at this
    omega
  have hn : 0 ≤ A % Q * P := Int.mul_nonneg hl0 (by omega)
  refine ⟨?_, hh0, hh, hb⟩
  rw [e, Int.add_mul_emod_self_left, Int.emod_eq_of_lt (by omega) hb]
theorem turn_right (P Q A : Int) (hP : 0 < P) (hQ : 0 < Q) (h0 : 0 ≤ A) (h1 : A < P * Q) : ((A % Q * P + A / Q) / P + (A % Q * P + A / Q) * Q) % (P * Q) = A := by
  have ⟨_, hh0, hh, _⟩ := turn_left P Q A hP hQ h0 h1
  have hA : A = Q * (A / Q) + A % Q := (Int.mul_ediv_add_emod A Q).symm
  have e1 : (A % Q * P + A / Q) / P = A % Q := by
    rw [Int.add_comm, Int.add_mul_ediv_right _ _ (by omega), Int.ediv_eq_zero_of_lt hh0 hh, Int.zero_add]
  have e2 : A % Q + (A % Q * P + A / Q) * Q = A + (P * Q) * (A % Q) := by
    rw [Int.add_mul, Int.mul_assoc, Int.mul_comm (A % Q) (P * Q), Int.mul_comm (A / Q) Q]
    omega
  rw [e1, e2, Int.add_mul_emod_self_left, Int.emod_eq_of_lt h0 h1]
theorem move_back (P Q A : Int) (hP : 0 < P) : A * P % (P * Q) / P = A % Q := by
  rw [Int.mul_comm A P, Int.mul_emod_mul_of_pos _ _ hP, Int.mul_ediv_cancel_left _ (by omega)]
theorem mask_div (P Q : Int) (hP : 0 < P) : (P * Q - 1) / P = Q - 1 := by
  have : P * Q - 1 = (P - 1) + (Q - 1) * P := by rw [Int.sub_mul, Int.one_mul, Int.mul_comm Q P]; omega
  rw [this, Int.add_mul_ediv_right _ _ (by omega), Int.ediv_eq_zero_of_lt (by omega) (by omega), Int.zero_add]
theorem and_mask (A : Int) (n : Nat) (hn : n ≤ 64) (h0 : 0 ≤ A) (h1 : A ≤ 18446744073709551615) : bits .and .u64 A (2 ^ n - 1) = A % 2 ^ n := by
  have hp := pow_pos n
  have hle : (2 : Int) ^ n ≤ 18446744073709551616 := by
    have h2 : (2 : Nat) ^ n ≤ 2 ^ 64 := Nat.pow_le_pow_right (by decide) hn
    have h3 : ((2 ^ n : Nat) : Int) ≤ ((2 ^ 64 : Nat) : Int) := by exact_mod_cast h2
    have h4 : ((2 ^ 64 : Nat) : Int) = 18446744073709551616 := by decide
    rw [h4] at h3
    simpa using h3
  rw [u64_and A _ h0 (by omega) (by omega) (by omega)]
  have e : (2 ^ n - 1 : Int).toNat = 2 ^ n - 1 := by
    have : (2 ^ n : Int) = ((2 ^ n : Nat) : Int) := by simp
    rw [this]
    have h1 : 0 < 2 ^ n := Nat.pow_pos (by decide)
    omega
  rw [e, Nat.and_two_pow_sub_one_eq_mod]
  have e2 : ((A.toNat % 2 ^ n : Nat) : Int) = A % 2 ^ n := by rw [Int.natCast_emod, Int.toNat_of_nonneg h0]; simp
  exact e2

/-- what the law asks, of one width: s bits of W -/
theorem turns (W s : Nat) (hW : W = 32 ∨ W = 64) (hs : s < W) (A : Int) (h0 : 0 ≤ A) (h1 : A < md W) :
    ∃ x, (A * 2 ^ s + A / 2 ^ (W - s)) % md W = x ∧ 0 ≤ x ∧ x < md W ∧ (x / 2 ^ s + x * 2 ^ (W - s)) % md W = A ∧
      A * 2 ^ s % md W / 2 ^ s = A % 2 ^ (W - s) ∧ (md W - 1) / 2 ^ s = 2 ^ (W - s) - 1 := by
  have hM : md W = 2 ^ s * 2 ^ (W - s) := by
    rw [← Int.pow_add, show s + (W - s) = W by omega]
    rcases hW with rfl | rfl <;> decide
  have hP := pow_pos s
  have hQ := pow_pos (W - s)
  rw [hM] at h1 ⊢
  generalize (2 : Int) ^ s = P at *
  generalize (2 : Int) ^ (W - s) = Q at *
  obtain ⟨t1, t2, t3, t4⟩ := turn_left P Q A hP hQ h0 h1
  have hn : 0 ≤ A % Q * P := Int.mul_nonneg (Int.emod_nonneg _ (by omega)) (by omega)
  exact ⟨_, t1, by omega, t4, turn_right P Q A hP hQ h0 h1, move_back P Q A hP, mask_div P Q hP⟩
theorem stays (W : Nat) (A : Int) (hM : md W = 2 ^ W) (h0 : 0 ≤ A) (h1 : A < md W) : (A * 2 ^ 0 + A / 2 ^ (W - 0)) % md W = A := by
  rw [Int.pow_zero, Int.mul_one, Nat.sub_zero, ← hM, Int.ediv_eq_zero_of_lt h0 h1, Int.add_zero, Int.emod_eq_of_lt h0 h1]

/-- ... by the instructions -/
def TF (left right shl shr wide : Int) (A b mask : Int) : Prop :=
  ∃ x v, bin left A b = (x, 0, true) ∧ bin right x b = (A, 0, true) ∧ bin left A wide = (A, 0, true) ∧ bin shl A b = (v, 0, true) ∧ bin shr v b = (bits .and .u64 A mask, 0, true) ∧
    0 ≤ x ∧ x ≤ 18446744073709551615 ∧ 0 ≤ v ∧ v ≤ 18446744073709551615
theorem bin32' (op : Int) (k : Nat) (ho : op = 106 + k) (hk : k ≤ 14) (A b : Int) (h0 : 0 ≤ A) (h1 : A < 4294967296) : bin op A b = ((ar k 32 A (b % 4294967296)).1, (ar k 32 A (b % 4294967296)).2, true) := by
  subst ho
  unfold bin
  rw [if_neg (by omega), if_neg (by omega), if_pos (by omega), Int.emod_eq_of_lt h0 h1, show ((106 : Int) + k - 106).toNat = k by omega]
theorem tf32 (A b : Int) (h0 : 0 ≤ A) (h1 : A < 4294967296) : TF 119 120 116 118 32 A b (4294967295 / 2 ^ (b % 32).toNat) := by
  obtain ⟨x, t1, t2, t3, t4, t5, t6⟩ := turns 32 (b % 32).toNat (.inl rfl) (by omega) A h0 h1
  have hsh := sh32 b
  rw [md32] at t1 t3 t4 t5 t6
  have hv : 0 ≤ A * 2 ^ (b % 32).toNat % 4294967296 ∧ A * 2 ^ (b % 32).toNat % 4294967296 < 4294967296 := ⟨Int.emod_nonneg _ (by decide), Int.emod_lt_of_pos _ (by decide)⟩
  refine ⟨x, A * 2 ^ (b % 32).toNat % 4294967296, ?_, ?_, ?_, ?_, ?_, t2, by omega, hv.1, by omega⟩
  · rw [bin32' 119 13 rfl (by decide) A b h0 h1]
    show ((A * 2 ^ sh 32 (b % 4294967296) + A / 2 ^ (32 - sh 32 (b % 4294967296))) % md 32, _, _) = _
    rw [hsh, md32, t1]; rfl
  · rw [bin32' 120 14 rfl (by decide) x b t2 t3]
    show ((x / 2 ^ sh 32 (b % 4294967296) + x * 2 ^ (32 - sh 32 (b % 4294967296))) % md 32, _, _) = _
    rw [hsh, md32, t4]; rfl
  · rw [bin32' 119 13 rfl (by decide) A 32 h0 h1]
    show ((A * 2 ^ 0 + A / 2 ^ (32 - 0)) % md 32, _, _) = _
    rw [stays 32 A (by decide) h0 h1]; rfl
  · rw [bin32' 116 10 rfl (by decide) A b h0 h1]
    show (A * 2 ^ sh 32 (b % 4294967296) % md 32, _, _) = _
    rw [hsh, md32]; rfl
  · rw [bin32' 118 12 rfl (by decide) _ b hv.1 hv.2]
    show (A * 2 ^ (b % 32).toNat % 4294967296 / 2 ^ sh 32 (b % 4294967296), _, _) = _
    have t6' : (4294967295 : Int) / 2 ^ (b % 32).toNat = 2 ^ (32 - (b % 32).toNat) - 1 := t6
    rw [hsh, t5, t6', and_mask A _ (by omega) h0 (by omega)]; rfl
theorem tf64 (A b : Int) (h0 : 0 ≤ A) (h1 : A < 18446744073709551616) : TF 137 138 134 136 64 A b (18446744073709551615 / 2 ^ (b % 64).toNat) := by
  obtain ⟨x, t1, t2, t3, t4, t5, t6⟩ := turns 64 (b % 64).toNat (.inr rfl) (by omega) A h0 h1
  have hsh := sh64 b
  rw [md64] at t1 t3 t4 t5 t6
  have hv : 0 ≤ A * 2 ^ (b % 64).toNat % 18446744073709551616 ∧ A * 2 ^ (b % 64).toNat % 18446744073709551616 < 18446744073709551616 := ⟨Int.emod_nonneg _ (by decide), Int.emod_lt_of_pos _ (by decide)⟩
  refine ⟨x, A * 2 ^ (b % 64).toNat % 18446744073709551616, ?_, ?_, ?_, ?_, ?_, t2, by omega, hv.1, by omega⟩
  · rw [bin64 137 13 rfl (by decide) A b]
    show ((A * 2 ^ sh 64 b + A / 2 ^ (64 - sh 64 b)) % md 64, _, _) = _
    rw [hsh, md64, t1]; rfl
  · rw [bin64 138 14 rfl (by decide) x b]
    show ((x / 2 ^ sh 64 b + x * 2 ^ (64 - sh 64 b)) % md 64, _, _) = _
    rw [hsh, md64, t4]; rfl
  · rw [bin64 137 13 rfl (by decide) A 64]
    show ((A * 2 ^ 0 + A / 2 ^ (64 - 0)) % md 64, _, _) = _
    rw [stays 64 A (by decide) h0 h1]; rfl
  · rw [bin64 134 10 rfl (by decide) A b]
    show (A * 2 ^ sh 64 b % md 64, _, _) = _
    rw [hsh, md64]; rfl
  · rw [bin64 136 12 rfl (by decide) _ b]
    show (A * 2 ^ (b % 64).toNat % 18446744073709551616 / 2 ^ sh 64 b, _, _) = _
    have t6' : (18446744073709551615 : Int) / 2 ^ (b % 64).toNat = 2 ^ (64 - (b % 64).toNat) - 1 := t6
    rw [hsh, t5, t6', and_mask A _ (by omega) h0 (by omega)]; rfl
end Nums
end Go.Proofs.YtilgmaabongngaaDoor
