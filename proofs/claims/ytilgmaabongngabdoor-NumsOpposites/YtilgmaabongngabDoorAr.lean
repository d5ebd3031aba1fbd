/- What the machine's own steps come to, instruction by instruction: the plain functions. -/
import Derived.Test.YtilgmaabongngabDoorMath
namespace Go.Proofs.YtilgmaabongngabDoor
open Go.RowKit
namespace Nums

theorem signed32 (a : Int) : signed (a % 4294967296) 127 = sg 32 (a % 4294967296) := by
  unfold signed; rw [if_pos rfl, Int.emod_emod_of_dvd _ (Int.dvd_refl _)]
theorem signed64 (a : Int) : signed a 126 = sg 64 a := rfl
theorem sg_bd32 (a : Int) : -2147483648 ≤ sg 32 (a % 4294967296) ∧ sg 32 (a % 4294967296) ≤ 2147483647 := by
  unfold sg; rw [hf32, md32]; split <;> omega
theorem sg_bd64 (a : Int) (h0 : 0 ≤ a) (h1 : a ≤ 18446744073709551615) : -9223372036854775808 ≤ sg 64 a ∧ sg 64 a ≤ 9223372036854775807 := by
  unfold sg; rw [hf64, md64]; split <;> omega
theorem sg_ne32 (b : Int) (h : b % 4294967296 ≠ 0) : sg 32 (b % 4294967296) ≠ 0 := by
  unfold sg; rw [hf32, md32]; split <;> omega
theorem sg_ne64 (b : Int) (h1 : b ≤ 18446744073709551615) (h : b ≠ 0) : sg 64 b ≠ 0 := by
  unfold sg; rw [hf64, md64]; split <;> omega
theorem signed_bd32 (a : Int) : -9223372036854775808 ≤ signed (a % 4294967296) 127 ∧ signed (a % 4294967296) 127 ≤ 9223372036854775807 := by
  rw [signed32]; have := sg_bd32 a; omega

theorem sh32 (b : Int) : sh 32 (b % 4294967296) = (b % 32).toNat := by
  unfold sh
  have e : ((32 : Nat) : Int) = 32 := rfl
  rw [e]
  omega
theorem sh64 (b : Int) : sh 64 b = (b % 64).toNat := rfl
theorem sh32_le (b : Int) : (b % 32).toNat ≤ 31 := by omega
theorem sh64_le (b : Int) : (b % 64).toNat ≤ 63 := by omega
theorem sub32 (b : Int) : (32 - b % 32).toNat = 32 - (b % 32).toNat := by omega
theorem sub64 (b : Int) : (64 - b % 64).toNat = 64 - (b % 64).toNat := by omega

theorem wrap_mul_mod (x : Int) (i : Nat) (hi : i ≤ 64) : (x * 2 ^ i % 18446744073709551616) % 2 ^ i = 0 := by
  have hd : (2 ^ i : Int) ∣ 18446744073709551616 := by
    have : (18446744073709551616 : Int) = 2 ^ i * 2 ^ (64 - i) := by rw [← Int.pow_add, show i + (64 - i) = 64 by omega]; decide
    exact ⟨_, this⟩
  rw [Int.emod_emod_of_dvd _ hd]
  exact Int.mul_emod_left _ _
theorem or_rot (x : Int) (i j : Nat) (hij : i + j ≤ 64) (hx0 : 0 ≤ x) (hx : x < 2 ^ (i + j)) (h64 : x ≤ 18446744073709551615) :
    bits .or .u64 (IntKind.u64.wrap (x * 2 ^ i)) (x / 2 ^ j) = x * 2 ^ i % 18446744073709551616 + x / 2 ^ j := by
  rw [IntKind.wrap_u64]
  have hd := div_bd x j hx0
  refine or_sum i _ _ (by omega) (by omega) (wrap_mul_mod x i (by omega)) hd.1 ?_ (by omega)
  exact Int.ediv_lt_of_lt_mul (pow_pos j) (by rw [← Int.pow_add]; exact hx)
theorem or_rot' (x : Int) (i j : Nat) (hij : i + j ≤ 64) (hx0 : 0 ≤ x) (hx : x < 2 ^ (i + j)) (h64 : x ≤ 18446744073709551615) :
    bits .or .u64 (x / 2 ^ j) (IntKind.u64.wrap (x * 2 ^ i)) = x / 2 ^ j + x * 2 ^ i % 18446744073709551616 := by
  rw [IntKind.wrap_u64]
  have hd := div_bd x j hx0
  refine or_sum' i _ _ (by omega) (by omega) (wrap_mul_mod x i (by omega)) hd.1 ?_ (by omega)
  exact Int.ediv_lt_of_lt_mul (pow_pos j) (by rw [← Int.pow_add]; exact hx)

theorem ar0_32 (a b : Int) : (a + b) % 4294967296 = (ar 0 32 (a % 4294967296) (b % 4294967296)).1 := by
  show _ = (_ + _) % md 32; rw [md32]; omega
theorem ar1_32 (a b : Int) : IntKind.u64.wrap (a % 4294967296 - b % 4294967296) % 4294967296 = (ar 1 32 (a % 4294967296) (b % 4294967296)).1 := by
  show _ = (_ - _) % md 32; rw [md32, IntKind.wrap_u64]; omega
theorem ar2_32 (a b : Int) : IntKind.u64.wrap (a % 4294967296 * (b % 4294967296)) % 4294967296 = (ar 2 32 (a % 4294967296) (b % 4294967296)).1 := by
  show _ = (_ * _) % md 32; rw [md32, IntKind.wrap_u64]; generalize a % 4294967296 * (b % 4294967296) = x; omega
theorem ar7_32 (a b : Int) : bits .and .u64 (a % 4294967296) (b % 4294967296) % 4294967296 = (ar 7 32 (a % 4294967296) (b % 4294967296)).1 := rfl
theorem ar8_32 (a b : Int) : bits .or .u64 (a % 4294967296) (b % 4294967296) % 4294967296 = (ar 8 32 (a % 4294967296) (b % 4294967296)).1 := rfl
theorem ar9_32 (a b : Int) : bits .xor .u64 (a % 4294967296) (b % 4294967296) % 4294967296 = (ar 9 32 (a % 4294967296) (b % 4294967296)).1 := rfl
theorem ar10_32 (a b : Int) : IntKind.u64.wrap (a % 4294967296 * 2 ^ (b % 32).toNat) % 4294967296 = (ar 10 32 (a % 4294967296) (b % 4294967296)).1 := by
  show _ = (_ * 2 ^ sh 32 _) % md 32; rw [md32, sh32, IntKind.wrap_u64]; generalize a % 4294967296 * 2 ^ (b % 32).toNat = x; omega
theorem ar11_32 (a b : Int) : IntKind.u64.wrap (signed (a % 4294967296) 127 / 2 ^ (b % 32).toNat) % 4294967296 = (ar 11 32 (a % 4294967296) (b % 4294967296)).1 := by
  show _ = (sg 32 _ / 2 ^ sh 32 _) % md 32; rw [md32, sh32, IntKind.wrap_u64, signed32]; generalize sg 32 (a % 4294967296) / 2 ^ (b % 32).toNat = x; omega
theorem ar12_32 (a b : Int) : a % 4294967296 / 2 ^ (b % 32).toNat % 4294967296 = (ar 12 32 (a % 4294967296) (b % 4294967296)).1 := by
  show _ = _ / 2 ^ sh 32 _; rw [sh32]; have := div_bd (a % 4294967296) (b % 32).toNat (by omega); omega
theorem ar13_32 (a b : Int) : bits .or .u64 (IntKind.u64.wrap (a % 4294967296 * 2 ^ (b % 32).toNat)) (a % 4294967296 / 2 ^ (32 - b % 32).toNat) % 4294967296 = (ar 13 32 (a % 4294967296) (b % 4294967296)).1 := by
  show _ = (_ * 2 ^ sh 32 _ + _ / 2 ^ (32 - sh 32 _)) % md 32
  have hs := sh32_le b
  have e : (2 : Int) ^ ((b % 32).toNat + (32 - (b % 32).toNat)) = 4294967296 := by rw [show (b % 32).toNat + (32 - (b % 32).toNat) = 32 by omega]; decide
  rw [md32, sh32, sub32, or_rot _ _ _ (by omega) (by omega) (by rw [e]; omega) (by omega)]
  generalize a % 4294967296 * 2 ^ (b % 32).toNat = x
  generalize a % 4294967296 / 2 ^ (32 - (b % 32).toNat) = y
  omega
theorem ar14_32 (a b : Int) : bits .or .u64 (a % 4294967296 / 2 ^ (b % 32).toNat) (IntKind.u64.wrap (a % 4294967296 * 2 ^ (32 - b % 32).toNat)) % 4294967296 = (ar 14 32 (a % 4294967296) (b % 4294967296)).1 := by
  show _ = (_ / 2 ^ sh 32 _ + _ * 2 ^ (32 - sh 32 _)) % md 32
  have hs := sh32_le b
  have e : (2 : Int) ^ (32 - (b % 32).toNat + (b % 32).toNat) = 4294967296 := by rw [show 32 - (b % 32).toNat + (b % 32).toNat = 32 by omega]; decide
  rw [md32, sh32, sub32, or_rot' _ _ _ (by omega) (by omega) (by rw [e]; omega) (by omega)]
  generalize a % 4294967296 / 2 ^ (b % 32).toNat = x
  generalize a % 4294967296 * 2 ^ (32 - (b % 32).toNat) = y
  omega

theorem ar0_64 (a b : Int) : IntKind.u64.wrap (a + b) = (ar 0 64 a b).1 := by rw [IntKind.wrap_u64]; rfl
theorem ar1_64 (a b : Int) : IntKind.u64.wrap (a - b) = (ar 1 64 a b).1 := by rw [IntKind.wrap_u64]; rfl
theorem ar2_64 (a b : Int) : IntKind.u64.wrap (a * b) = (ar 2 64 a b).1 := by rw [IntKind.wrap_u64]; rfl
theorem ar7_64 (a b : Int) : bits .and .u64 a b = (ar 7 64 a b).1 := by
  show _ = bits .and .u64 a b % md 64; have := bits_bd .and (by simp) a b; rw [md64]; omega
theorem ar8_64 (a b : Int) : bits .or .u64 a b = (ar 8 64 a b).1 := by
  show _ = bits .or .u64 a b % md 64; have := bits_bd .or (by simp) a b; rw [md64]; omega
theorem ar9_64 (a b : Int) : bits .xor .u64 a b = (ar 9 64 a b).1 := by
  show _ = bits .xor .u64 a b % md 64; have := bits_bd .xor (by simp) a b; rw [md64]; omega
theorem ar10_64 (a b : Int) : IntKind.u64.wrap (a * 2 ^ (b % 64).toNat) = (ar 10 64 a b).1 := by rw [IntKind.wrap_u64]; rfl
theorem ar11_64 (a b : Int) : IntKind.u64.wrap (signed a 126 / 2 ^ (b % 64).toNat) = (ar 11 64 a b).1 := by rw [IntKind.wrap_u64]; rfl
theorem ar12_64 (a b : Int) : a / 2 ^ (b % 64).toNat = (ar 12 64 a b).1 := rfl
theorem ar13_64 (a b : Int) (h0 : 0 ≤ a) (h1 : a ≤ 18446744073709551615) : bits .or .u64 (IntKind.u64.wrap (a * 2 ^ (b % 64).toNat)) (a / 2 ^ (64 - b % 64).toNat) = (ar 13 64 a b).1 := by
  show _ = (_ * 2 ^ sh 64 _ + _ / 2 ^ (64 - sh 64 _)) % md 64
  have hs := sh64_le b
  have e : (2 : Int) ^ ((b % 64).toNat + (64 - (b % 64).toNat)) = 18446744073709551616 := by rw [show (b % 64).toNat + (64 - (b % 64).toNat) = 64 by omega]; decide
  have hb := bits_bd .or (by simp) (IntKind.u64.wrap (a * 2 ^ (b % 64).toNat)) (a / 2 ^ (64 - (b % 64).toNat))
  rw [md64, sh64, sub64]
  rw [or_rot _ _ _ (by omega) h0 (by rw [e]; omega) h1] at hb ⊢
  generalize a * 2 ^ (b % 64).toNat = x at *
  generalize a / 2 ^ (64 - (b % 64).toNat) = y at *
  omega
theorem ar14_64 (a b : Int) (h0 : 0 ≤ a) (h1 : a ≤ 18446744073709551615) : bits .or .u64 (a / 2 ^ (b % 64).toNat) (IntKind.u64.wrap (a * 2 ^ (64 - b % 64).toNat)) = (ar 14 64 a b).1 := by
  show _ = (_ / 2 ^ sh 64 _ + _ * 2 ^ (64 - sh 64 _)) % md 64
  have hs := sh64_le b
  have e : (2 : Int) ^ (64 - (b % 64).toNat + (b % 64).toNat) = 18446744073709551616 := by rw [show 64 - (b % 64).toNat + (b % 64).toNat = 64 by omega]; decide
  have hb := bits_bd .or (by simp) (a / 2 ^ (b % 64).toNat) (IntKind.u64.wrap (a * 2 ^ (64 - (b % 64).toNat)))
  rw [md64, sh64, sub64]
  rw [or_rot' _ _ _ (by omega) h0 (by rw [e]; omega) h1] at hb ⊢
  generalize a / 2 ^ (b % 64).toNat = x at *
  generalize a * 2 ^ (64 - (b % 64).toNat) = y at *
  omega
end Nums
end Go.Proofs.YtilgmaabongngabDoor
