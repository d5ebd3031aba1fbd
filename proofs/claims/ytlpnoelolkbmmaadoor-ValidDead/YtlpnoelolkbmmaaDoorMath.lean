/- What the integer instructions reckon, as plain functions of numbers: types, signed numbers, one value, two values. -/
import Derived.WalkKit
import Derived.Laws.BitsAllLaws
namespace Go.Proofs.YtlpnoelolkbmmaaDoor
open Go.RowKit
namespace Nums

def md (W : Nat) : Int := if W = 32 then 4294967296 else 18446744073709551616
def hf (W : Nat) : Int := if W = 32 then 2147483648 else 9223372036854775808
def sg (W : Nat) (a : Int) : Int := if a < hf W then a else a - md W
theorem md32 : md 32 = 4294967296 := rfl
theorem md64 : md 64 = 18446744073709551616 := rfl
theorem hf32 : hf 32 = 2147483648 := rfl
theorem hf64 : hf 64 = 9223372036854775808 := rfl
def sig (op : Int) : Int × Int × Int :=
  if op = 69 ∨ (103 ≤ op ∧ op ≤ 105) then (1, 127, 127)
  else if op = 80 then (1, 126, 127)
  else if (70 ≤ op ∧ op ≤ 79) ∨ (106 ≤ op ∧ op ≤ 120) then (2, 127, 127)
  else if 81 ≤ op ∧ op ≤ 90 then (2, 126, 127)
  else if 121 ≤ op ∧ op ≤ 123 then (1, 126, 126)
  else if 124 ≤ op ∧ op ≤ 138 then (2, 126, 126)
  else if op = 167 then (1, 126, 127)
  else if op = 172 ∨ op = 173 then (1, 127, 126)
  else (0, 0, 0)
def signed (v typ : Int) : Int := if typ = 127 then sg 32 (v % 4294967296) else if typ = 126 then sg 64 v else 0
def value (n typ : Int) : Int := if typ = 127 then n % 4294967296 else if typ = 126 then n % 18446744073709551616 else 0
def sh (W : Nat) (b : Int) : Nat := (b % W).toNat
def ar (k W : Nat) (a b : Int) : Int × Int :=
  match k with
  | 0 => ((a + b) % md W, 0)
  | 1 => ((a - b) % md W, 0)
  | 2 => ((a * b) % md W, 0)
  | 3 => if b = 0 then (0, 2) else if sg W a = - hf W ∧ sg W b = -1 then (0, 3) else ((sg W a).tdiv (sg W b) % md W, 0)
  | 4 => if b = 0 then (0, 2) else (a / b, 0)
  | 5 => if b = 0 then (0, 2) else ((sg W a).tmod (sg W b) % md W, 0)
  | 6 => if b = 0 then (0, 2) else (a % b, 0)
  | 7 => (bits .and .u64 a b % md W, 0)
  | 8 => (bits .or .u64 a b % md W, 0)
  | 9 => (bits .xor .u64 a b % md W, 0)
  | 10 => (a * 2 ^ sh W b % md W, 0)
  | 11 => (sg W a / 2 ^ sh W b % md W, 0)
  | 12 => (a / 2 ^ sh W b, 0)
  | 13 => ((a * 2 ^ sh W b + a / 2 ^ (W - sh W b)) % md W, 0)
  | _ => ((a / 2 ^ sh W b + a * 2 ^ (W - sh W b)) % md W, 0)
def cm (k W : Nat) (a b : Int) : Bool :=
  match k with
  | 0 => decide (a = b)
  | 1 => decide (a ≠ b)
  | 2 => decide (sg W a < sg W b)
  | 3 => decide (a < b)
  | 4 => decide (sg W b < sg W a)
  | 5 => decide (b < a)
  | 6 => decide (sg W a ≤ sg W b)
  | 7 => decide (a ≤ b)
  | 8 => decide (sg W b ≤ sg W a)
  | _ => decide (b ≤ a)
def cmv (k W : Nat) (a b : Int) : Int := if cm k W a b = true then 1 else 0
def bin (op a b : Int) : Int × Int × Bool :=
  if 70 ≤ op ∧ op ≤ 79 then (cmv (op - 70).toNat 32 (a % 4294967296) (b % 4294967296), 0, true)
  else if 81 ≤ op ∧ op ≤ 90 then (cmv (op - 81).toNat 64 a b, 0, true)
  else if 106 ≤ op ∧ op ≤ 120 then ((ar (op - 106).toNat 32 (a % 4294967296) (b % 4294967296)).1, (ar (op - 106).toNat 32 (a % 4294967296) (b % 4294967296)).2, true)
  else if 124 ≤ op ∧ op ≤ 138 then ((ar (op - 124).toNat 64 a b).1, (ar (op - 124).toNat 64 a b).2, true)
  else (0, 0, false)
/-- how many of the n lowest bits lie ahead of the highest 1 among them -/
def clz (a : Int) : Nat → Nat
  | 0 => 0
  | n + 1 => if a / 2 ^ n % 2 = 1 then 0 else clz a n + 1
def ctz : Nat → Int → Nat
  | 0, _ => 0
  | n + 1, a => if a % 2 = 1 then 0 else ctz n (a / 2) + 1
def pop : Nat → Int → Nat
  | 0, _ => 0
  | n + 1, a => (a % 2).toNat + pop n (a / 2)
def un (op a : Int) : Int × Bool :=
  if op = 69 then (if a % 4294967296 = 0 then 1 else 0, true)
  else if op = 80 then (if a = 0 then 1 else 0, true)
  else if op = 103 then (clz (a % 4294967296) 32, true)
  else if op = 104 then (ctz 32 (a % 4294967296), true)
  else if op = 105 then (pop 32 (a % 4294967296), true)
  else if op = 121 then (clz a 64, true)
  else if op = 122 then (ctz 64 a, true)
  else if op = 123 then (pop 64 a, true)
  else if op = 167 then (a % 4294967296, true)
  else if op = 172 then (sg 32 (a % 4294967296) % 18446744073709551616, true)
  else if op = 173 then (a % 4294967296, true)
  else (0, false)

theorem pow_succ_ediv (a : Int) (k : Nat) : a / 2 ^ k / 2 = a / 2 ^ (k + 1) := by
  rw [Int.ediv_ediv_of_nonneg (Int.le_of_lt (Int.pow_pos (by decide))), Int.pow_succ]
theorem clz_le (a : Int) (n : Nat) : clz a n ≤ n := by
  induction n with
  | zero => simp [clz]
  | succ n ih => unfold clz; split <;> omega
theorem ctz_le (n : Nat) : ∀ a : Int, ctz n a ≤ n := by
  induction n with
  | zero => intro a; simp [ctz]
  | succ n ih => intro a; unfold ctz; have := ih (a / 2); split <;> omega
theorem pop_le (n : Nat) : ∀ a : Int, pop n a ≤ n := by
  induction n with
  | zero => intro a; simp [pop]
  | succ n ih => intro a; unfold pop; have := ih (a / 2); omega
theorem pow_pos (k : Nat) : (0 : Int) < 2 ^ k := Int.pow_pos (by decide)
theorem div_bd (a : Int) (k : Nat) (h0 : 0 ≤ a) : 0 ≤ a / 2 ^ k ∧ a / 2 ^ k ≤ a := by
  refine ⟨Int.ediv_nonneg h0 (Int.le_of_lt (pow_pos k)), ?_⟩
  exact Int.ediv_le_self _ h0
theorem and1 (x : Int) (h0 : 0 ≤ x) (h1 : x ≤ 18446744073709551615) : bits .and .u64 x 1 = x % 2 := by
  rw [u64_and x 1 h0 (by omega) (by decide) (by decide)]
  have e : (1 : Int).toNat = 1 := rfl
  rw [e, Nat.and_one_is_mod]
  omega
theorem and32 (x : Int) (h0 : 0 ≤ x) (h1 : x ≤ 18446744073709551615) : bits .and .u64 x 4294967295 = x % 4294967296 := by
  rw [u64_and x 4294967295 h0 (by omega) (by decide) (by decide)]
  have e : (4294967295 : Int).toNat = 2 ^ 32 - 1 := rfl
  rw [e, Nat.and_two_pow_sub_one_eq_mod]
  omega
theorem bits_bd (o : BinOp) (h : o = .and ∨ o = .or ∨ o = .xor) (a b : Int) : 0 ≤ bits o .u64 a b ∧ bits o .u64 a b ≤ 18446744073709551615 := by
  rcases h with rfl | rfl | rfl
  all_goals
    simp only [bits, IntKind.wrap_u64]
    omega
/-- x | y, where x has nothing below bit i and y nothing from it on. -/
theorem or_sum (i : Nat) (x y : Int) (hx0 : 0 ≤ x) (hx1 : x ≤ 18446744073709551615) (hx : x % 2 ^ i = 0) (hy0 : 0 ≤ y) (hy : y < 2 ^ i) (hy1 : y ≤ 18446744073709551615) : bits .or .u64 x y = x + y := by
  rw [u64_or x y hx0 (by omega) hy0 (by omega), nat_join i]
  · omega
  · have : ((x.toNat % 2 ^ i : Nat) : Int) = 0 := by rw [Int.natCast_emod, Int.toNat_of_nonneg hx0]; simpa using hx
    exact_mod_cast this
  · have : ((y.toNat : Nat) : Int) < ((2 ^ i : Nat) : Int) := by rw [Int.toNat_of_nonneg hy0]; simpa using hy
    exact_mod_cast this
theorem or_sum' (i : Nat) (x y : Int) (hx0 : 0 ≤ x) (hx1 : x ≤ 18446744073709551615) (hx : x % 2 ^ i = 0) (hy0 : 0 ≤ y) (hy : y < 2 ^ i) (hy1 : y ≤ 18446744073709551615) : bits .or .u64 y x = y + x := by
  rw [u64_or y x hy0 (by omega) hx0 (by omega), Nat.or_comm, nat_join i]
  · omega
  · have : ((x.toNat % 2 ^ i : Nat) : Int) = 0 := by rw [Int.natCast_emod, Int.toNat_of_nonneg hx0]; simpa using hx
    exact_mod_cast this
  · have : ((y.toNat : Nat) : Int) < ((2 ^ i : Nat) : Int) := by rw [Int.toNat_of_nonneg hy0]; simpa using hy
    exact_mod_cast this
end Nums
end Go.Proofs.YtlpnoelolkbmmaaDoor
