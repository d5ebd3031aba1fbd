/- What the library's functions on bits answer: the length of a number, the bits that are 1. -/
import Derived.Test.YtilgmaabongngabDoorBase
import Derived.Test.YtilgmaabongngabDoorPop
import Derived.Deep.CutRange
namespace Go.Proofs.YtilgmaabongngabDoor
open Go.RowKit

namespace Nums
theorem and_nat (x c : Nat) (hx : x < 18446744073709551616) (hc : c < 18446744073709551616) : bits .and .u64 (x : Int) (c : Int) = ((x &&& c : Nat) : Int) := u64_and_nat x c hx hc
theorem ofInt_toNat (x : Int) : ((BitVec.ofInt 64 x).toNat : Int) = x % 18446744073709551616 := by
  rw [BitVec.toNat_ofInt]
  have h : 0 ≤ x % 18446744073709551616 := Int.emod_nonneg _ (by decide)
  have e : ((2 ^ 64 : Nat) : Int) = 18446744073709551616 := by decide
  rw [e]
  omega
theorem and127_i64 (n : Int) : bits .and .i64 n 127 = n % 128 := by
  have h := ofInt_toNat n
  show IntKind.i64.wrap (((BitVec.ofInt 64 n &&& BitVec.ofInt 64 127).toNat : Nat) : Int) = _
  have e : (BitVec.ofInt 64 127).toNat = 2 ^ 7 - 1 := by decide
  rw [BitVec.toNat_and, e, Nat.and_two_pow_sub_one_eq_mod, IntKind.wrap_i64]
  omega
theorem and_le (x c : Nat) : x &&& c ≤ c := Nat.and_le_right
theorem ones1 (a : Nat) (h : a < 18446744073709551616) : IntKind.u64.wrap (bits .and .u64 ((a : Int) / 2) 6148914691236517205 + bits .and .u64 (a : Int) 6148914691236517205) = ((s1 8 a : Nat) : Int) ∧ s1 8 a < 18446744073709551616 := by
  have e1 := and_nat (a / 2) 6148914691236517205 (by omega) (by decide)
  have e2 := and_nat a 6148914691236517205 h (by decide)
  have l1 := and_le (a / 2) 6148914691236517205
  have l2 := and_le a 6148914691236517205
  have hs : s1 8 a = (a / 2 &&& 6148914691236517205) + (a &&& 6148914691236517205) := rfl
  rw [hs]
  refine ⟨?_, by omega⟩
  rw [IntKind.wrap_u64]
  have e1' : bits .and .u64 ((a : Int) / 2) 6148914691236517205 = ((a / 2 &&& 6148914691236517205 : Nat) : Int) := e1
  have e2' : bits .and .u64 (a : Int) 6148914691236517205 = ((a &&& 6148914691236517205 : Nat) : Int) := e2
  rw [e1', e2']
  omega
theorem ones2 (a : Nat) (h : a < 18446744073709551616) : IntKind.u64.wrap (bits .and .u64 ((a : Int) / 4) 3689348814741910323 + bits .and .u64 (a : Int) 3689348814741910323) = ((s2 8 a : Nat) : Int) ∧ s2 8 a ≤ 7378697629483820646 := by
  have e1 := and_nat (a / 4) 3689348814741910323 (by omega) (by decide)
  have e2 := and_nat a 3689348814741910323 h (by decide)
  have l1 := and_le (a / 4) 3689348814741910323
  have l2 := and_le a 3689348814741910323
  have hs : s2 8 a = (a / 4 &&& 3689348814741910323) + (a &&& 3689348814741910323) := rfl
  rw [hs]
  refine ⟨?_, by omega⟩
  rw [IntKind.wrap_u64]
  have e1' : bits .and .u64 ((a : Int) / 4) 3689348814741910323 = ((a / 4 &&& 3689348814741910323 : Nat) : Int) := e1
  have e2' : bits .and .u64 (a : Int) 3689348814741910323 = ((a &&& 3689348814741910323 : Nat) : Int) := e2
  rw [e1', e2']
  omega
theorem ones3 (a : Nat) (h : a ≤ 7378697629483820646) : bits .and .u64 (IntKind.u64.wrap ((a : Int) / 16 + (a : Int))) 1085102592571150095 = ((s3 8 a : Nat) : Int) ∧ s3 8 a ≤ 1085102592571150095 := by
  have e1 := and_nat (a / 16 + a) 1085102592571150095 (by omega) (by decide)
  have hs : s3 8 a = (a / 16 + a) &&& 1085102592571150095 := rfl
  rw [hs]
  refine ⟨?_, and_le _ _⟩
  have e : IntKind.u64.wrap ((a : Int) / 16 + (a : Int)) = ((a / 16 + a : Nat) : Int) := by rw [IntKind.wrap_u64]; omega
  rw [e]
  exact e1
end Nums

theorem ones_end (y P : Nat) (h : y % 128 = P) : bits .and .i64 (wrap64 (y : Int)) 127 = (P : Int) := by
  rw [Nums.and127_i64]
  unfold wrap64
  omega

set_option maxHeartbeats 1000000 in
theorem bitsOnes (a : Nat) (w : World) (h1 : a < 18446744073709551616) :
    Calls Tryd.prog 22 #[.int .u64 a] w fun e w' => e = .returned (.int .i64 (Nums.pop 64 a : Nat)) ∧ w' = w := by
  have o1 := Nums.ones1 a h1
  have o2 := Nums.ones2 _ o1.2
  have o3 := Nums.ones3 _ o2.2
  obtain ⟨P, HP⟩ : ∃ P, Nums.pop 64 a = P := ⟨_, rfl⟩
  have o4 := Nums.ones_count a _ _ _ _ rfl rfl rfl rfl
  rw [HP] at o4 ⊢
  clear HP
  generalize hx1 : Nums.s1 8 a = x1 at *
  generalize hx2 : Nums.s2 8 x1 = x2 at *
  generalize hx3 : Nums.s3 8 x2 = x3 at *
  clear hx1 hx2 hx3
  obtain ⟨y1, hy1⟩ : ∃ y, y = x3 + x3 / 256 := ⟨_, rfl⟩
  rw [← hy1] at o4
  obtain ⟨y2, hy2⟩ : ∃ y, y = y1 + y1 / 65536 := ⟨_, rfl⟩
  rw [← hy2] at o4
  obtain ⟨y3, hy3⟩ : ∃ y, y = y2 + y2 / 4294967296 := ⟨_, rfl⟩
  rw [← hy3] at o4
  have q1 : IntKind.u64.wrap ((x3 : Int) + (x3 : Int) / 256) = (y1 : Int) := by rw [IntKind.wrap_u64]; omega
  have q2 : IntKind.u64.wrap ((y1 : Int) + (y1 : Int) / 65536) = (y2 : Int) := by rw [IntKind.wrap_u64]; omega
  have q3 : IntKind.u64.wrap ((y2 : Int) + (y2 : Int) / 4294967296) = (y3 : Int) := by rw [IntKind.wrap_u64]; omega
  have o1' := hide o1.1
  have o2' := hide o2.1
  have o3' := hide o3.1
  have q1' := hide q1
  have q2' := hide q2
  have q3' := hide q3
  have o4' := hide o4
  have r1 : (x1 : Int) < 18446744073709551616 := by omega
  have r2 : (x2 : Int) < 18446744073709551616 := by omega
  have r3 : (x3 : Int) < 18446744073709551616 := by omega
  have r4 : (y1 : Int) < 18446744073709551616 := by omega
  have r5 : (y2 : Int) < 18446744073709551616 := by omega
  have r6 : (y3 : Int) < 18446744073709551616 := by omega
  clear o1 o2 o3 q1 q2 q3 o4 hy1 hy2 hy3
  go_enter Tryd.func22, Tryd.ntmps22
  go_upto_region 2 with fail
  rw [o1'.out]
  go_upto_region 3 with fail
  rw [o2'.out]
  go_upto_region 4 with fail
  rw [o3'.out]
  go_upto_region 5 with fail
  rw [q1'.out]
  go_upto_region 6 with fail
  rw [q2'.out]
  go_upto_region 7 with fail
  rw [q3'.out]
  go_wp2
  go_ret
  refine ⟨ret_int ?_, rfl⟩
  exact ones_end _ _ o4'.out.1

/-- how long each byte is -/
def lenTab : ByteArray := ⟨#[0, 1, 2, 2, 3, 3, 3, 3, 4, 4, 4, 4, 4, 4, 4, 4, 5, 5, 5, 5, 5, 5, 5, 5, 5, 5, 5, 5, 5, 5, 5, 5, 6, 6, 6, 6, 6, 6, 6, 6, 6, 6, 6, 6, 6, 6, 6, 6, 6, 6, 6, 6, 6, 6, 6, 6, 6, 6, 6, 6, 6, 6, 6, 6, 7, 7, 7, 7, 7, 7, 7, 7, 7, 7, 7, 7, 7, 7, 7, 7, 7, 7, 7, 7, 7, 7, 7, 7, 7, 7, 7, 7, 7, 7, 7, 7, 7, 7, 7, 7, 7, 7, 7, 7, 7, 7, 7, 7, 7, 7, 7, 7, 7, 7, 7, 7, 7, 7, 7, 7, 7, 7, 7, 7, 7, 7, 7, 7, 8, 8, 8, 8, 8, 8, 8, 8, 8, 8, 8, 8, 8, 8, 8, 8, 8, 8, 8, 8, 8, 8, 8, 8, 8, 8, 8, 8, 8, 8, 8, 8, 8, 8, 8, 8, 8, 8, 8, 8, 8, 8, 8, 8, 8, 8, 8, 8, 8, 8, 8, 8, 8, 8, 8, 8, 8, 8, 8, 8, 8, 8, 8, 8, 8, 8, 8, 8, 8, 8, 8, 8, 8, 8, 8, 8, 8, 8, 8, 8, 8, 8, 8, 8, 8, 8, 8, 8, 8, 8, 8, 8, 8, 8, 8, 8, 8, 8, 8, 8, 8, 8, 8, 8, 8, 8, 8, 8, 8, 8, 8, 8, 8, 8, 8, 8, 8, 8, 8, 8, 8, 8, 8, 8, 8, 8, 8, 8]⟩
theorem lenTab_size : lenTab.size = 256 := by decide +kernel
set_option maxRecDepth 100000 in
theorem lenTab_len (i : Nat) (h : i < lenTab.size) : Nums.IsLen (i : Int) (lenTab[i]'h).toNat ∧ (lenTab[i]'h).toNat ≤ 8 := by
  have h256 : i < 256 := by rw [lenTab_size] at h; exact h
  have := Nums.byte_all (fun i => if h : i < lenTab.size then decide ((lenTab[i]'h).toNat ≤ 8 ∧ i < 2 ^ (lenTab[i]'h).toNat ∧ ((lenTab[i]'h).toNat = 0 ∨ 2 ^ ((lenTab[i]'h).toNat - 1) ≤ i)) else true) (by decide +kernel) i h256
  simp only [h, dite_true, decide_eq_true_eq] at this
  obtain ⟨a, b, c⟩ := this
  refine ⟨⟨by omega, by exact_mod_cast b, ?_⟩, a⟩
  rcases c with c | c
  · exact .inl c
  · exact .inr (by exact_mod_cast c)
theorem up8 {x : Int} {L : Nat} (h0 : 0 ≤ x) (hk : 256 ≤ x) (h : Nums.IsLen (x / 256) L) : Nums.IsLen x (L + 8) := by
  have e : (2 : Int) ^ 8 = 256 := by decide
  exact Nums.IsLen.up (k := 8) h0 (by rw [e]; exact h) (by rw [e]; exact hk)
theorem up16 {x : Int} {L : Nat} (h0 : 0 ≤ x) (hk : 65536 ≤ x) (h : Nums.IsLen (x / 65536) L) : Nums.IsLen x (L + 16) := by
  have e : (2 : Int) ^ 16 = 65536 := by decide
  exact Nums.IsLen.up (k := 16) h0 (by rw [e]; exact h) (by rw [e]; exact hk)
theorem up32 {x : Int} {L : Nat} (h0 : 0 ≤ x) (hk : 4294967296 ≤ x) (h : Nums.IsLen (x / 4294967296) L) : Nums.IsLen x (L + 32) := by
  have e : (2 : Int) ^ 32 = 4294967296 := by decide
  exact Nums.IsLen.up (k := 32) h0 (by rw [e]; exact h) (by rw [e]; exact hk)
theorem len_fin (a x c : Int) (n : Nat) (h : x.toNat < lenTab.size) (hx : 0 ≤ x) (hc : c = n) (hn : n ≤ 56) (hup : ∀ L, Nums.IsLen x L → Nums.IsLen a (L + n)) :
    ∃ L : Nat, Nums.IsLen a L ∧ Ending.returned (.int .i64 (wrap64 (c + wrap64 (((lenTab[x.toNat]'h).toNat : Nat) : Int)))) = .returned (.int .i64 (L : Int)) := by
  have hl := lenTab_len x.toNat h
  rw [Int.toNat_of_nonneg hx] at hl
  refine ⟨(lenTab[x.toNat]'h).toNat + n, hup _ hl.1, ret_int ?_⟩
  subst hc
  generalize (lenTab[x.toNat]'h).toNat = t at *
  unfold wrap64
  omega
theorem len_fin0 (x : Int) (h : x.toNat < lenTab.size) (hx : 0 ≤ x) :
    ∃ L : Nat, Nums.IsLen x L ∧ Ending.returned (.int .i64 (wrap64 (wrap64 (((lenTab[x.toNat]'h).toNat : Nat) : Int)))) = .returned (.int .i64 (L : Int)) := by
  have hl := lenTab_len x.toNat h
  rw [Int.toNat_of_nonneg hx] at hl
  refine ⟨(lenTab[x.toNat]'h).toNat, hl.1, ret_int ?_⟩
  generalize (lenTab[x.toNat]'h).toNat = t at *
  unfold wrap64
  omega

set_option maxRecDepth 100000 in
set_option maxHeartbeats 1000000 in
theorem bitsLen (a : Int) (w : World) (h0 : 0 ≤ a) (h1 : a ≤ 18446744073709551615) :
    Calls Tryd.prog 20 #[.int .u64 a] w fun e w' => (∃ L : Nat, Nums.IsLen a L ∧ e = .returned (.int .i64 L)) ∧ w' = w := by
  go_enter Tryd.func20, Tryd.ntmps20
  go_wp2
  all_goals go_ret
  · exact ⟨len_fin a (a / 4294967296 / 65536 / 256) 56 56 _ (by omega) rfl (by decide) (fun L h => up32 h0 (by assumption) (up16 (by omega) (by assumption) (up8 (by omega) (by assumption) h))), rfl⟩
  · exact ⟨len_fin a (a / 4294967296 / 65536) 48 48 _ (by omega) rfl (by decide) (fun L h => up32 h0 (by assumption) (up16 (by omega) (by assumption) h)), rfl⟩
  · exact ⟨len_fin a (a / 4294967296 / 256) 40 40 _ (by omega) rfl (by decide) (fun L h => up32 h0 (by assumption) (up8 (by omega) (by assumption) h)), rfl⟩
  · exact ⟨len_fin a (a / 4294967296) 32 32 _ (by omega) rfl (by decide) (fun L h => up32 h0 (by assumption) h), rfl⟩
  · exact ⟨len_fin a (a / 65536 / 256) 24 24 _ (by omega) rfl (by decide) (fun L h => up16 h0 (by assumption) (up8 (by omega) (by assumption) h)), rfl⟩
  · exact ⟨len_fin a (a / 65536) 16 16 _ (by omega) rfl (by decide) (fun L h => up16 h0 (by assumption) h), rfl⟩
  · exact ⟨len_fin a (a / 256) 8 8 _ (by omega) rfl (by decide) (fun L h => up8 h0 (by assumption) h), rfl⟩
  · exact ⟨len_fin0 a _ h0, rfl⟩
end Go.Proofs.YtilgmaabongngabDoor
