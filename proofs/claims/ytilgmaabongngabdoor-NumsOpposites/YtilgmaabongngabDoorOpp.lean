/- Each comparison tells what its opposite does not; bits that are 1 and bits that are 0 are all bits: of the plain functions. -/
import Derived.Test.YtilgmaabongngabDoorMath
import Derived.Test.YtilgmaabongngabDoorPop
namespace Go.Proofs.YtilgmaabongngabDoor
open Go.RowKit
namespace Nums

theorem not_add (p : Prop) [Decidable p] (q : Prop) [Decidable q] (h : q ↔ ¬p) : (if decide p = true then (1 : Int) else 0) + (if decide q = true then (1 : Int) else 0) = 1 := by
  by_cases hp : p
  · have : ¬q := fun hq => (h.1 hq) hp
    simp [hp, this]
  · have : q := h.2 hp
    simp [hp, this]
theorem cm01 (W : Nat) (a b : Int) : cmv 0 W a b + cmv 1 W a b = 1 := not_add _ _ Iff.rfl
theorem cm28 (W : Nat) (a b : Int) : cmv 2 W a b + cmv 8 W a b = 1 := not_add _ _ Int.not_lt.symm
theorem cm39 (W : Nat) (a b : Int) : cmv 3 W a b + cmv 9 W a b = 1 := not_add _ _ Int.not_lt.symm
theorem cm46 (W : Nat) (a b : Int) : cmv 4 W a b + cmv 6 W a b = 1 := not_add _ _ Int.not_lt.symm
theorem cm57 (W : Nat) (a b : Int) : cmv 5 W a b + cmv 7 W a b = 1 := not_add _ _ Int.not_lt.symm
theorem cmv_bd (k W : Nat) (a b : Int) : 0 ≤ cmv k W a b ∧ cmv k W a b ≤ 1 := by unfold cmv; split <;> omega
theorem pop_compl (n : Nat) : ∀ a : Int, 0 ≤ a → a < 2 ^ n → pop n a + pop n (2 ^ n - 1 - a) = n := by
  induction n with
  | zero => intro a _ _; rfl
  | succ n ih =>
    intro a h0 h1
    have e : (2 : Int) ^ (n + 1) = 2 * 2 ^ n := by rw [Int.pow_succ, Int.mul_comm]
    rw [e] at h1 ⊢
    have hi := ih (a / 2) (by omega) (by omega)
    show (a % 2).toNat + pop n (a / 2) + (((2 * 2 ^ n - 1 - a) % 2).toNat + pop n ((2 * 2 ^ n - 1 - a) / 2)) = n + 1
    have e2 : (2 * 2 ^ n - 1 - a) / 2 = 2 ^ n - 1 - a / 2 := by omega
    rw [e2]
    omega
theorem clz_pop (n : Nat) : ∀ a : Int, clz a n + pop n a ≤ n := by
  induction n with
  | zero => intro a; show 0 + 0 ≤ 0; omega
  | succ n ih =>
    intro a
    have hs := pop_split 1 n a
    have h1 : pop 1 (a / 2 ^ n) = (a / 2 ^ n % 2).toNat := by show (a / 2 ^ n % 2).toNat + 0 = _; omega
    rw [h1] at hs
    rw [hs]
    have hi := ih a
    unfold clz
    have hb := pop_le n a
    split <;> omega
theorem xor_all (n a : Nat) (h : a < 2 ^ n) : (2 ^ n - 1) ^^^ a = 2 ^ n - 1 - a := by
  apply Nat.eq_of_testBit_eq
  intro i
  rw [Nat.testBit_xor, Nat.testBit_two_pow_sub_one, show 2 ^ n - 1 - a = 2 ^ n - (a + 1) by omega, Nat.testBit_two_pow_sub_succ h]
  by_cases hi : i < n
  · simp [hi]
  · have hb : a.testBit i = false := Nat.testBit_lt_two_pow (Nat.lt_of_lt_of_le h (Nat.pow_le_pow_right (by decide) (by omega)))
    simp [hi, hb]
theorem not_all (a : Int) (h0 : 0 ≤ a) (h1 : a ≤ 18446744073709551615) : bits .xor .u64 IntKind.u64.max a = 18446744073709551615 - a := by
  have hm : IntKind.u64.max = 18446744073709551615 := by decide
  rw [hm, u64_xor _ a (by decide) (by decide) h0 (by omega)]
  have e : (18446744073709551615 : Int).toNat = 2 ^ 64 - 1 := by decide
  have h64 : 2 ^ 64 = 18446744073709551616 := by decide
  rw [e, xor_all 64 a.toNat (by rw [h64]; omega), h64]
  omega
end Nums
end Go.Proofs.YtilgmaabongngabDoor
