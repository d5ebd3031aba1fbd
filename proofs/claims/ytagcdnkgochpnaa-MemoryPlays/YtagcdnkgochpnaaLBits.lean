/- What and, or of machine numbers come to where groups of seven bits are cut off and joined. -/
import Derived.WalkKit
import Derived.Laws.BitsAllLaws
namespace Go.Proofs.Ytagcdnkgochpnaa
open Go.RowKit
namespace Leb

theorem ofInt_toNat (x : Int) : ((BitVec.ofInt 64 x).toNat : Int) = x % 18446744073709551616 := by
  rw [BitVec.toNat_ofInt]
  have h : 0 ≤ x % 18446744073709551616 := Int.emod_nonneg _ (by decide)
  have e : ((2 ^ 64 : Nat) : Int) = 18446744073709551616 := by decide
  rw [e]
  omega
theorem and127_u64 (n : Int) (h0 : 0 ≤ n) (h1 : n ≤ 18446744073709551615) : bits .and .u64 n 127 = n % 128 := by
  rw [u64_and n 127 h0 (by omega) (by decide) (by decide)]
  have e : (127 : Int).toNat = 127 := rfl
  rw [e, nat_mask7]
  omega
theorem and127_i64 (n : Int) : bits .and .i64 n 127 = n % 128 := by
  have h := ofInt_toNat n
  show IntKind.i64.wrap (((BitVec.ofInt 64 n &&& BitVec.ofInt 64 127).toNat : Nat) : Int) = _
  have e : (BitVec.ofInt 64 127).toNat = 127 := by decide
  rw [BitVec.toNat_and, e, nat_mask7, IntKind.wrap_i64]
  omega
theorem byte_all (p : Nat → Bool) (h : (List.range 256).all p = true) (c : Int) (h0 : 0 ≤ c) (h1 : c ≤ 255) : p c.toNat = true := by
  rw [List.all_eq_true] at h
  exact h _ (List.mem_range.2 (by omega))
theorem and127_u8 (c : Int) (h0 : 0 ≤ c) (h1 : c ≤ 255) : bits .and .u8 c 127 = c % 128 := by
  have := byte_all (fun n => bits .and .u8 (n : Int) 127 == (n : Int) % 128) (by decide +kernel) c h0 h1
  simp only [beq_iff_eq] at this
  rwa [Int.toNat_of_nonneg h0] at this
theorem or128_u8 (c : Int) (h0 : 0 ≤ c) (h1 : c ≤ 255) : bits .or .u8 c 128 = c % 128 + 128 := by
  have := byte_all (fun n => bits .or .u8 (n : Int) 128 == (n : Int) % 128 + 128) (by decide +kernel) c h0 h1
  simp only [beq_iff_eq] at this
  rwa [Int.toNat_of_nonneg h0] at this
theorem and64_u8 (c : Int) (h0 : 0 ≤ c) (h1 : c ≤ 255) : bits .and .u8 c 64 = if 64 ≤ c % 128 then 64 else 0 := by
  have := byte_all (fun n => bits .and .u8 (n : Int) 64 == if 64 ≤ (n : Int) % 128 then 64 else 0) (by decide +kernel) c h0 h1
  simp only [beq_iff_eq] at this
  rwa [Int.toNat_of_nonneg h0] at this
/-- x | y, where x has nothing below bit i and y nothing from it on. -/
theorem or_u64 (i : Nat) (x y : Int) (hx0 : 0 ≤ x) (hx1 : x ≤ 18446744073709551615) (hx : x % 2 ^ i = 0) (hy0 : 0 ≤ y) (hy : y < 2 ^ i) (hy1 : y ≤ 18446744073709551615) : bits .or .u64 x y = x + y := by
  rw [u64_or x y hx0 (by omega) hy0 (by omega), nat_join i]
  · omega
  · have : ((x.toNat % 2 ^ i : Nat) : Int) = 0 := by rw [Int.natCast_emod, Int.toNat_of_nonneg hx0]; simpa using hx
    exact_mod_cast this
  · have : ((y.toNat : Nat) : Int) < ((2 ^ i : Nat) : Int) := by rw [Int.toNat_of_nonneg hy0]; simpa using hy
    exact_mod_cast this
theorem or_u64' (i : Nat) (x y : Int) (hx0 : 0 ≤ x) (hx1 : x ≤ 18446744073709551615) (hx : x % 2 ^ i = 0) (hy0 : 0 ≤ y) (hy : y < 2 ^ i) (hy1 : y ≤ 18446744073709551615) : bits .or .u64 y x = y + x := by
  rw [u64_or y x hy0 (by omega) hx0 (by omega), Nat.or_comm, nat_join i]
  · omega
  · have : ((x.toNat % 2 ^ i : Nat) : Int) = 0 := by rw [Int.natCast_emod, Int.toNat_of_nonneg hx0]; simpa using hx
    exact_mod_cast this
  · have : ((y.toNat : Nat) : Int) < ((2 ^ i : Nat) : Int) := by rw [Int.toNat_of_nonneg hy0]; simpa using hy
    exact_mod_cast this
theorem or_i64 (x y : Int) (hx0 : -9223372036854775808 ≤ x) (hx1 : x ≤ 9223372036854775807) (hx : x % 128 = 0) (hy0 : 0 ≤ y) (hy : y < 128) : bits .or .i64 x y = x + y := by
  have h := ofInt_toNat x
  have h' := ofInt_toNat y
  show IntKind.i64.wrap (((BitVec.ofInt 64 x ||| BitVec.ofInt 64 y).toNat : Nat) : Int) = _
  rw [BitVec.toNat_or, nat_join 7 _ _ (by simp only [Nat.reducePow]; omega) (by simp only [Nat.reducePow]; omega), IntKind.wrap_i64]
  omega
end Leb
end Go.Proofs.Ytagcdnkgochpnaa
