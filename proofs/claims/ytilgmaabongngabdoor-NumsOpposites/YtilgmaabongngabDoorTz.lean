/- What the library's function answers that tells how many bits stand behind the lowest 1, where its table holds what its text lays. -/
import Derived.Test.YtilgmaabongngabDoorLib
namespace Go.Proofs.YtilgmaabongngabDoor
open Go.RowKit

/-- the table: at the place that a power of two leads to, its exponent -/
def dbTab : List Int := [0, 1, 56, 2, 57, 49, 28, 3, 61, 58, 42, 50, 38, 29, 17, 4, 62, 47, 59, 36, 45, 43, 51, 22, 53, 39, 33, 30, 24, 18, 12, 5, 63, 55, 48, 27, 60, 41, 37, 16, 46, 35, 44, 21, 52, 32, 23, 11, 54, 26, 40, 15, 34, 20, 31, 10, 25, 14, 19, 9, 13, 8, 7, 6]
def dbAt (t : Nat) : Nat := 2 ^ t * 285870213051353865 % 18446744073709551616 / 288230376151711744
theorem db_all (t : Nat) (h : t < 64) : dbAt t < 64 ∧ dbTab[dbAt t]? = some (t : Int) := by
  have : (List.range 64).all (fun t => decide (dbAt t < 64 ∧ dbTab[dbAt t]? = some (t : Int))) = true := by decide +kernel
  rw [List.all_eq_true] at this
  exact of_decide_eq_true (this t (List.mem_range.2 h))

theorem tz_eqs (a t : Nat) (h1 : a < 18446744073709551616) (hz : a ≠ 0) (ht : Nums.ctz 64 (a : Int) = t) :
    ∃ b p q i : Nat, IntKind.u64.wrap (-(a : Int)) = (b : Int) ∧ bits .and .u64 (a : Int) (b : Int) = (p : Int) ∧ IntKind.u64.wrap ((p : Int) * 285870213051353865) = (q : Int) ∧ (q : Int) / 288230376151711744 = (i : Int) ∧
      b < 18446744073709551616 ∧ p < 18446744073709551616 ∧ q < 18446744073709551616 ∧ i < 64 ∧ dbTab[i]? = some (t : Int) := by
  have h64 : 2 ^ 64 = 18446744073709551616 := by decide
  have hlow := Nums.low_bit 64 a (by omega) (by rw [h64]; exact h1)
  have hlt := Nums.ctz_lt 64 a (by omega) (by rw [h64]; exact h1)
  rw [ht] at hlow hlt
  rw [h64] at hlow
  have hdb := db_all t hlt
  have e3 : IntKind.u64.wrap (((2 ^ t : Nat) : Int) * 285870213051353865) = ((2 ^ t * 285870213051353865 % 18446744073709551616 : Nat) : Int) := by
    rw [IntKind.wrap_u64]
    generalize 2 ^ t = p
    omega
  refine ⟨18446744073709551616 - a, 2 ^ t, 2 ^ t * 285870213051353865 % 18446744073709551616, dbAt t, ?_, ?_, e3, ?_, by omega, ?_, Nat.mod_lt _ (by decide), hdb.1, hdb.2⟩
  · rw [IntKind.wrap_u64]; omega
  · rw [Nums.and_nat a _ h1 (by omega), hlow]
  · unfold dbAt
    generalize 2 ^ t * 285870213051353865 % 18446744073709551616 = q
    omega
  · have := Nat.pow_lt_pow_right (a := 2) (by decide) hlt
    rw [h64] at this
    exact this

set_option maxHeartbeats 1000000 in
theorem bitsTz (a : Nat) (w : World) (h1 : a < 18446744073709551616) (htab : ∀ (i : Nat) (z : Int), dbTab[i]? = some z → w.cell? ⟨0, i, none⟩ = some (.int .u8 z)) :
    Calls Tryd.prog 21 #[.int .u64 a] w fun e w' => e = .returned (.int .i64 (Nums.ctz 64 a : Nat)) ∧ w' = w := by
  by_cases hz : a = 0
  · subst hz
    rw [show ((0 : Nat) : Int) = 0 from rfl, Nums.ctz_zero]
    go_enter Tryd.func21, Tryd.ntmps21
    go_wp2
    go_ret
    exact ⟨rfl, rfl⟩
  · obtain ⟨t, ht⟩ : ∃ t, Nums.ctz 64 (a : Int) = t := ⟨_, rfl⟩
    obtain ⟨b, p, q, i, e1, e2, e3, e4, lb, lp, lq, li, hi⟩ := tz_eqs a t h1 hz ht
    have hcell := htab _ _ hi
    have ht8 := Nums.ctz_le 64 (a : Int)
    rw [ht] at ht8 ⊢
    have hz' : ((a : Int) == 0) = false := by simp; omega
    clear htab hi hz ht
    go_enter Tryd.func21, Tryd.ntmps21
    go_wp2
    go_ret
    exact ⟨rfl, rfl⟩
/-- the library's table lies where its text lays it -/
def TabI (w : World) : Prop := ∀ (i : Nat) (z : Int), dbTab[i]? = some z → w.cell? ⟨0, i, none⟩ = some (.int .u8 z)
theorem TabI.keep {w w' : World} (hb : Below w.heap.size w w') (h : TabI w) : TabI w' := by
  intro i z hi
  have := h i z hi
  rw [hb.cell (World.block_lt_of_cell? _ _ this)]
  exact this
end Go.Proofs.YtilgmaabongngabDoor
