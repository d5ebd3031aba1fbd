/- Plain facts on the plain functions that both sides of layer 2 lean on. -/
import Derived.Test.YtilgmaabongngabDoorBase
import Derived.Test.YtilgmaabongngabDoorAr
namespace Go.Proofs.YtilgmaabongngabDoor
open Go.RowKit
set_option linter.unusedVariables false

def Nums.holds (k a b x y : Int) : Bool :=
  if k = 0 then decide (a = b) else if k = 1 then decide (a ≠ b) else if k = 2 then decide (x < y) else if k = 3 then decide (a < b) else if k = 4 then decide (y < x)
  else if k = 5 then decide (b < a) else if k = 6 then decide (x ≤ y) else if k = 7 then decide (a ≤ b) else if k = 8 then decide (y ≤ x) else decide (b ≤ a)
def Nums.divide (k a b x y typ : Int) : Int × Int :=
  if b = 0 then (0, 2)
  else if k = 3 ∧ x = (if typ = 126 then -9223372036854775808 else -2147483648) ∧ y = -1 then (0, 3)
  else if k = 3 then (Nums.value (x.tdiv y) typ, 0)
  else if k = 4 then (a / b, 0)
  else if k = 5 then (Nums.value (x.tmod y) typ, 0)
  else (a % b, 0)
theorem dec_of_beq {a b : Int} {c : Bool} (h : (a == b) = c) : decide (a = b) = c := by rw [← h, Bool.eq_iff_iff]; simp
theorem sg32_of (v : Int) : wrap64 (wrap32 (v % 4294967296)) = Nums.sg 32 (v % 4294967296) := by
  have h : 0 ≤ v % 4294967296 ∧ v % 4294967296 < 4294967296 := by omega
  generalize v % 4294967296 = x at *
  unfold wrap64 wrap32 Nums.sg
  rw [Nums.hf32, Nums.md32]
  split <;> omega
theorem sg64_of (v : Int) (h0 : 0 ≤ v) (h1 : v ≤ 18446744073709551615) : wrap64 v = Nums.sg 64 v := by
  unfold wrap64 Nums.sg
  rw [Nums.hf64, Nums.md64]
  split <;> omega
theorem value_wrap (n typ : Int) : Nums.value (wrap64 n) typ = Nums.value n typ := by
  unfold Nums.value wrap64
  split
  · omega
  · split <;> omega
theorem tmod_neg_one (x : Int) : x.tmod (-1) = 0 := by rw [Int.tmod_neg, Int.tmod_one]
theorem divide_zero (k a x y typ : Int) : Nums.divide k a 0 x y typ = (0, 2) := rfl
theorem divide_over64 (a b : Int) (h : b ≠ 0) : Nums.divide 3 a b (-9223372036854775808) (-1) 126 = (0, 3) := by unfold Nums.divide; rw [if_neg h, if_pos ⟨rfl, rfl, rfl⟩]
theorem divide_over32 (a b : Int) (h : b ≠ 0) : Nums.divide 3 a b (-2147483648) (-1) 127 = (0, 3) := by unfold Nums.divide; rw [if_neg h, if_pos ⟨rfl, rfl, rfl⟩]
theorem divide_3 (a b x y typ : Int) (h : b ≠ 0) (hn : ¬(x = (if typ = 126 then -9223372036854775808 else -2147483648) ∧ y = -1)) : Nums.divide 3 a b x y typ = (Nums.value (x.tdiv y) typ, 0) := by
  unfold Nums.divide; rw [if_neg h, if_neg (fun h => hn h.2), if_pos rfl]
theorem divide_4 (a b x y typ : Int) (h : b ≠ 0) : Nums.divide 4 a b x y typ = (a / b, 0) := by
  unfold Nums.divide; rw [if_neg h, if_neg (fun h => absurd h.1 (by decide)), if_neg (by decide), if_pos rfl]
theorem divide_5 (a b x y typ : Int) (h : b ≠ 0) : Nums.divide 5 a b x y typ = (Nums.value (x.tmod y) typ, 0) := by
  unfold Nums.divide; rw [if_neg h, if_neg (fun h => absurd h.1 (by decide)), if_neg (by decide), if_neg (by decide), if_pos rfl]
theorem divide_5' (a b x typ : Int) (h : b ≠ 0) (ht : typ = 126 ∨ typ = 127) : Nums.divide 5 a b x (-1) typ = (0, 0) := by
  rw [divide_5 _ _ _ _ _ h, tmod_neg_one]; rcases ht with rfl | rfl <;> rfl
theorem divide_6 (a b x y typ : Int) (h : b ≠ 0) : Nums.divide 6 a b x y typ = (a % b, 0) := by
  unfold Nums.divide; rw [if_neg h, if_neg (fun h => absurd h.1 (by decide)), if_neg (by decide), if_neg (by decide), if_neg (by decide)]
theorem ar_zero (k W : Nat) (a : Int) (h : k = 3 ∨ k = 4 ∨ k = 5 ∨ k = 6) : Nums.ar k W a 0 = (0, 2) := by rcases h with rfl | rfl | rfl | rfl <;> rfl
theorem ar3_ (W : Nat) (typ A B : Int) (ht : (W = 32 ∧ typ = 127) ∨ (W = 64 ∧ typ = 126)) (hB : B ≠ 0) : Nums.ar 3 W A B = Nums.divide 3 A B (Nums.sg W A) (Nums.sg W B) typ := by
  show (if B = 0 then ((0, 2) : Int × Int) else if Nums.sg W A = - Nums.hf W ∧ Nums.sg W B = -1 then (0, 3) else ((Nums.sg W A).tdiv (Nums.sg W B) % Nums.md W, 0)) = _
  rw [if_neg hB]
  generalize Nums.sg W A = x
  generalize Nums.sg W B = y
  rcases ht with ⟨rfl, rfl⟩ | ⟨rfl, rfl⟩
  · by_cases h : x = - Nums.hf 32 ∧ y = -1
    · rw [if_pos h]; obtain ⟨rfl, rfl⟩ := h; exact (divide_over32 A B hB).symm
    · rw [if_neg h, divide_3 _ _ _ _ _ hB h]; rfl
  · by_cases h : x = - Nums.hf 64 ∧ y = -1
    · rw [if_pos h]; obtain ⟨rfl, rfl⟩ := h; exact (divide_over64 A B hB).symm
    · rw [if_neg h, divide_3 _ _ _ _ _ hB h]; rfl
theorem ar_div (k W : Nat) (typ A B : Int) (hk : k = 3 ∨ k = 4 ∨ k = 5 ∨ k = 6) (ht : (W = 32 ∧ typ = 127) ∨ (W = 64 ∧ typ = 126)) : Nums.ar k W A B = Nums.divide k A B (Nums.sg W A) (Nums.sg W B) typ := by
  by_cases hB : B = 0
  · subst hB; rw [ar_zero k W A hk, divide_zero]
  rcases hk with rfl | rfl | rfl | rfl
  · exact ar3_ W typ A B ht hB
  · show (if B = 0 then ((0, 2) : Int × Int) else (A / B, 0)) = _
    rw [if_neg hB]; exact (divide_4 _ _ _ _ _ hB).symm
  · show (if B = 0 then ((0, 2) : Int × Int) else ((Nums.sg W A).tmod (Nums.sg W B) % Nums.md W, 0)) = _
    rw [if_neg hB]
    refine Eq.trans ?_ (divide_5 _ _ _ _ _ hB).symm
    rcases ht with ⟨rfl, rfl⟩ | ⟨rfl, rfl⟩ <;> rfl
  · show (if B = 0 then ((0, 2) : Int × Int) else (A % B, 0)) = _
    rw [if_neg hB]; exact (divide_6 _ _ _ _ _ hB).symm
theorem ar3_32 (a b : Int) : Nums.ar 3 32 (a % 4294967296) (b % 4294967296) = Nums.divide 3 (a % 4294967296) (b % 4294967296) (Nums.signed (a % 4294967296) 127) (Nums.signed (b % 4294967296) 127) 127 := by
  rw [Nums.signed32, Nums.signed32]; exact ar_div 3 32 127 _ _ (by decide) (by decide)
theorem ar3_64 (a b : Int) : Nums.ar 3 64 a b = Nums.divide 3 a b (Nums.sg 64 a) (Nums.sg 64 b) 126 := ar_div 3 64 126 _ _ (by decide) (by decide)
theorem ar4_32 (a b : Int) : Nums.ar 4 32 (a % 4294967296) (b % 4294967296) = Nums.divide 4 (a % 4294967296) (b % 4294967296) (Nums.signed (a % 4294967296) 127) (Nums.signed (b % 4294967296) 127) 127 := by
  rw [Nums.signed32, Nums.signed32]; exact ar_div 4 32 127 _ _ (by decide) (by decide)
theorem ar4_64 (a b : Int) : Nums.ar 4 64 a b = Nums.divide 4 a b (Nums.sg 64 a) (Nums.sg 64 b) 126 := ar_div 4 64 126 _ _ (by decide) (by decide)
theorem ar5_32 (a b : Int) : Nums.ar 5 32 (a % 4294967296) (b % 4294967296) = Nums.divide 5 (a % 4294967296) (b % 4294967296) (Nums.signed (a % 4294967296) 127) (Nums.signed (b % 4294967296) 127) 127 := by
  rw [Nums.signed32, Nums.signed32]; exact ar_div 5 32 127 _ _ (by decide) (by decide)
theorem ar5_64 (a b : Int) : Nums.ar 5 64 a b = Nums.divide 5 a b (Nums.sg 64 a) (Nums.sg 64 b) 126 := ar_div 5 64 126 _ _ (by decide) (by decide)
theorem ar6_32 (a b : Int) : Nums.ar 6 32 (a % 4294967296) (b % 4294967296) = Nums.divide 6 (a % 4294967296) (b % 4294967296) (Nums.signed (a % 4294967296) 127) (Nums.signed (b % 4294967296) 127) 127 := by
  rw [Nums.signed32, Nums.signed32]; exact ar_div 6 32 127 _ _ (by decide) (by decide)
theorem ar6_64 (a b : Int) : Nums.ar 6 64 a b = Nums.divide 6 a b (Nums.sg 64 a) (Nums.sg 64 b) 126 := ar_div 6 64 126 _ _ (by decide) (by decide)
theorem holds_cm (k W : Nat) (A B : Int) (hk : k < 10) : Nums.holds k A B (Nums.sg W A) (Nums.sg W B) = Nums.cm k W A B := by
  rcases (by omega : k = 0 ∨ k = 1 ∨ k = 2 ∨ k = 3 ∨ k = 4 ∨ k = 5 ∨ k = 6 ∨ k = 7 ∨ k = 8 ∨ k = 9) with rfl | rfl | rfl | rfl | rfl | rfl | rfl | rfl | rfl | rfl <;> rfl
theorem holds_cm32 (k : Nat) (a b : Int) (hk : k < 10) : Nums.holds k (a % 4294967296) (b % 4294967296) (Nums.signed (a % 4294967296) 127) (Nums.signed (b % 4294967296) 127) = Nums.cm k 32 (a % 4294967296) (b % 4294967296) := by
  rw [Nums.signed32, Nums.signed32]; exact holds_cm k 32 _ _ hk
theorem holds_cm64 (k : Nat) (a b : Int) (hk : k < 10) : Nums.holds k a b (Nums.signed a 126) (Nums.signed b 126) = Nums.cm k 64 a b := holds_cm k 64 _ _ hk
theorem sig_two (op : Int) : (Nums.sig op).1 ≠ 2 → Nums.bin op = fun _ _ => (0, 0, false) := by
  intro h
  funext a b
  unfold Nums.sig at h
  unfold Nums.bin
  repeat' split at h
  all_goals first | (exfalso; exact h rfl) | skip
  all_goals rw [if_neg (by omega), if_neg (by omega), if_neg (by omega), if_neg (by omega)]
theorem sig_is_two (op : Int) : (Nums.sig op).1 = 2 → (70 ≤ op ∧ op ≤ 79) ∨ (81 ≤ op ∧ op ≤ 90) ∨ (106 ≤ op ∧ op ≤ 120) ∨ (124 ≤ op ∧ op ≤ 138) := by
  intro h
  unfold Nums.sig at h
  repeat' split at h
  all_goals first | omega | (exfalso; revert h; decide)
theorem sig_one (op : Int) : (Nums.sig op).1 ≠ 1 → Nums.un op = fun _ => (0, false) := by
  intro h
  funext a
  unfold Nums.sig at h
  unfold Nums.un
  repeat' split at h
  all_goals first | (exfalso; exact h rfl) | skip
  all_goals rw [if_neg (by omega), if_neg (by omega), if_neg (by omega), if_neg (by omega), if_neg (by omega), if_neg (by omega), if_neg (by omega), if_neg (by omega), if_neg (by omega), if_neg (by omega), if_neg (by omega)]
theorem sig_is_one (op : Int) : (Nums.sig op).1 = 1 → op = 69 ∨ op = 80 ∨ op = 103 ∨ op = 104 ∨ op = 105 ∨ op = 121 ∨ op = 122 ∨ op = 123 ∨ op = 167 ∨ op = 172 ∨ op = 173 := by
  intro h
  unfold Nums.sig at h
  repeat' split at h
  all_goals first | omega | (exfalso; revert h; decide)
end Go.Proofs.YtilgmaabongngabDoor
