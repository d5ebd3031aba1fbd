/- Integers of 31 bits: the mathematics of what goes round. -/
import Derived.Test.YtcnkjlngaoaikaaDoorRows
import Derived.WalkKit
import Derived.WalkSpells
import Derived.WalkSmall
import Derived.BigQuiet
import Derived.Deep.QuietTactic
namespace Go.Proofs.YtcnkjlngaoaikaaDoor
open Go.RowKit
set_option linter.unusedVariables false
namespace Ints
def wr (n : Int) : Int := (n + 1073741824) % 2147483648 - 1073741824
theorem wr_bd (n : Int) : -1073741824 ≤ wr n ∧ wr n ≤ 1073741823 := by unfold wr; omega
theorem wr_mod (n : Int) : wr n % 2147483648 = n % 2147483648 := by unfold wr; omega
theorem wr_congr {a b : Int} (h : a % 2147483648 = b % 2147483648) : wr a = wr b := by unfold wr; omega
theorem wr_id {n : Int} (h0 : -1073741824 ≤ n) (h1 : n ≤ 1073741823) : wr n = n := by unfold wr; omega
theorem wr_wr (n : Int) : wr (wr n) = wr n := wr_congr (wr_mod n)
theorem wr_add (a b : Int) : wr (wr a + wr b) = wr (a + b) := wr_congr (by have := wr_mod a; have := wr_mod b; omega)
theorem wr_sub (a b : Int) : wr (wr a - wr b) = wr (a - b) := wr_congr (by have := wr_mod a; have := wr_mod b; omega)
theorem wr_mul (a b : Int) : wr (wr a * wr b) = wr (a * b) := wr_congr (by rw [Int.mul_emod, wr_mod, wr_mod, ← Int.mul_emod])
theorem wr_eq_iff (n : Int) : (wr n = n) ↔ (-1073741824 ≤ n ∧ n ≤ 1073741823) := by unfold wr; omega
/-- a product of two of them is no more than 2^60 -/
theorem mul_bd {a b : Int} (ha : -1073741824 ≤ a ∧ a ≤ 1073741823) (hb : -1073741824 ≤ b ∧ b ≤ 1073741823) : -1152921504606846976 ≤ a * b ∧ a * b ≤ 1152921504606846976 := by
  have h1 : a.natAbs ≤ 1073741824 := by omega
  have h2 : b.natAbs ≤ 1073741824 := by omega
  have h3 : (a * b).natAbs ≤ 1152921504606846976 := by rw [Int.natAbs_mul]; exact Nat.le_trans (Nat.mul_le_mul h1 h2) (by decide)
  omega
theorem tdiv_bd {a b : Int} (ha : -1073741824 ≤ a ∧ a ≤ 1073741823) : -1073741824 ≤ a.tdiv b ∧ a.tdiv b ≤ 1073741824 := by
  have h1 : (a.tdiv b).natAbs ≤ a.natAbs := by rw [Int.natAbs_tdiv]; exact Nat.div_le_self _ _
  omega
theorem tmod_bd {a b : Int} (ha : -1073741824 ≤ a ∧ a ≤ 1073741823) : -1073741824 ≤ a.tmod b ∧ a.tmod b ≤ 1073741823 := by
  by_cases h : 0 ≤ a
  · have h1 := Int.tmod_nonneg b h
    have h2 : (a.tmod b).natAbs ≤ a.natAbs := by rw [Int.natAbs_tmod]; exact Nat.mod_le _ _
    omega
  · have h2 : (a.tmod b).natAbs ≤ a.natAbs := by rw [Int.natAbs_tmod]; exact Nat.mod_le _ _
    have h3 : 0 ≤ (-a).tmod b := Int.tmod_nonneg b (by omega)
    rw [Int.neg_tmod] at h3
    omega
/-- what is left over, as the document has it -/
theorem rest_eq {a b : Int} (ha : -1073741824 ≤ a ∧ a ≤ 1073741823) (hb : -1073741824 ≤ b ∧ b ≤ 1073741823) : wr (a - wr (a.tdiv b) * b) = a.tmod b := by
  have h1 : wr (a - wr (a.tdiv b) * b) = wr (a.tmod b) := by
    apply wr_congr
    have e : a - a.tdiv b * b = a.tmod b := by have := Int.mul_tdiv_add_tmod a b; rw [Int.mul_comm] at this; omega
    rw [← e, Int.sub_emod, Int.mul_emod, wr_mod, ← Int.mul_emod, ← Int.sub_emod]
  have := tmod_bd (b := b) ha
  rw [h1, wr_id this.1 this.2]
/-- what an operation tells -/
def dO (op a b : Int) : Int × Bool :=
  if op = 1 then (wr (a + b), true) else if op = 2 then (wr (a - b), true) else if op = 3 then (wr (a * b), true)
  else if op = 4 then (if wr b = 0 then (0, false) else (wr ((wr a).tdiv (wr b)), true))
  else if op = 5 then (if wr b = 0 then (0, false) else ((wr a).tmod (wr b), true))
  else if op = 6 then (if wr a < wr b then 1 else 0, true) else if op = 7 then (if wr a = wr b then 1 else 0, true) else (0, false)
def wrds : List ByteArray := [⟨#[]⟩, ⟨#[43]⟩, ⟨#[45]⟩, ⟨#[42]⟩, ⟨#[47]⟩, ⟨#[37]⟩, ⟨#[60]⟩, ⟨#[61, 61]⟩]
def word (op : Int) : ByteArray := if op < 1 ∨ 7 < op then ⟨#[]⟩ else wrds.getD op.toNat ⟨#[]⟩
/-- the first from a place on that the text is -/
def opF (s : ByteArray) : Nat → Nat → Int
  | 0, _ => 0
  | f + 1, k => if wrds.getD k ⟨#[]⟩ = s then (k : Int) else opF s f (k + 1)
def opOf (s : ByteArray) : Int := opF s 7 1
/-- the variable's eight cells -/
def WI (w : World) : Prop := ∀ k, k < 8 → w.cell? ⟨0, k, none⟩ = some (.string (wrds.getD k ⟨#[]⟩))
end Ints
end Go.Proofs.YtcnkjlngaoaikaaDoor
