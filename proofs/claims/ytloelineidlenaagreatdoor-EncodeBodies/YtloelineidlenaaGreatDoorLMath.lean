/- Plain mathematics of numbers in groups of seven bits: the bytes of a number, and what bytes say; no program is named here. -/
import Derived.WalkKit
import Derived.Laws.BytesArg
namespace Go.Proofs.YtloelineidlenaaGreatDoor
namespace Leb

/-! ### The bytes of a number without sign -/
def uBf : Nat → Int → List Int
  | 0, n => [n % 128]
  | f + 1, n => if n < 128 then [n % 128] else (n % 128 + 128) :: uBf f (n / 128)
def uB (n : Int) : List Int := uBf n.toNat n

theorem uBf_more : ∀ (f g : Nat) (n : Int), 0 ≤ n → n.toNat ≤ f → n.toNat ≤ g → uBf f n = uBf g n
  | 0, 0, _, _, _, _ => rfl
  | 0, g + 1, n, h, hf, _ => by
    have : n < 128 := by omega
    simp [uBf, this]
  | f + 1, 0, n, h, _, hg => by
    have : n < 128 := by omega
    simp [uBf, this]
  | f + 1, g + 1, n, h, hf, hg => by
    simp only [uBf]
    split
    · rfl
    · rw [uBf_more f g (n / 128) (by omega) (by omega) (by omega)]

theorem uB_small {n : Int} (h0 : 0 ≤ n) (h : n < 128) : uB n = [n] := by
  have e : n % 128 = n := by omega
  unfold uB
  cases n.toNat <;> simp [uBf, h, e]
theorem uB_great {n : Int} (h : 128 ≤ n) : uB n = (n % 128 + 128) :: uB (n / 128) := by
  have hn : ∃ f, n.toNat = f + 1 := ⟨n.toNat - 1, by omega⟩
  obtain ⟨f, hf⟩ := hn
  unfold uB
  rw [hf]
  simp only [uBf]
  rw [if_neg (by omega), uBf_more f (n / 128).toNat (n / 128) (by omega) (by omega) (by omega)]

/-! ### The bytes of a number with sign -/
def sBf : Nat → Int → List Int
  | 0, n => [n % 128]
  | f + 1, n => if -64 ≤ n ∧ n ≤ 63 then [n % 128] else (n % 128 + 128) :: sBf f (n / 128)
def sB (n : Int) : List Int := sBf n.natAbs n

theorem sBf_more : ∀ (f g : Nat) (n : Int), n.natAbs ≤ f → n.natAbs ≤ g → sBf f n = sBf g n
  | 0, 0, _, _, _ => rfl
  | 0, g + 1, n, hf, _ => by
    have : -64 ≤ n ∧ n ≤ 63 := by omega
    simp [sBf, this]
  | f + 1, 0, n, _, hg => by
    have : -64 ≤ n ∧ n ≤ 63 := by omega
    simp [sBf, this]
  | f + 1, g + 1, n, hf, hg => by
    simp only [sBf]
    split
    · rfl
    · rw [sBf_more f g (n / 128) (by omega) (by omega)]

theorem sB_small {n : Int} (h : -64 ≤ n ∧ n ≤ 63) : sB n = [n % 128] := by
  unfold sB
  cases n.natAbs <;> simp [sBf, h]
theorem sB_great {n : Int} (h : ¬ (-64 ≤ n ∧ n ≤ 63)) : sB n = (n % 128 + 128) :: sB (n / 128) := by
  have hn : ∃ f, n.natAbs = f + 1 := ⟨n.natAbs - 1, by omega⟩
  obtain ⟨f, hf⟩ := hn
  unfold sB
  rw [hf]
  simp only [sBf]
  rw [if_neg h, sBf_more f (n / 128).natAbs (n / 128) (by omega) (by omega)]

/-! ### Their lengths -/
theorem uB_len : ∀ (j : Nat) (n : Int), 0 ≤ n → n < 128 ^ (j + 1) → (uB n).length ≤ j + 1
  | 0, n, h0, h => by rw [uB_small h0 (by simpa using h)]; simp
  | j + 1, n, h0, h => by
    by_cases hs : n < 128
    · rw [uB_small h0 hs]; simp
    · rw [uB_great (by omega)]
      have hd : n / 128 < 128 ^ (j + 1) := by
        have e : (128 : Int) ^ (j + 1 + 1) = 128 ^ (j + 1) * 128 := by rw [Int.pow_succ]
        rw [e] at h
        omega
      have := uB_len j (n / 128) (by omega) hd
      simp; omega
theorem uB_pos (n : Int) : 0 < (uB n).length := by
  unfold uB
  cases n.toNat with
  | zero => simp [uBf]
  | succ f => simp only [uBf]; split <;> simp
theorem sB_len : ∀ (j : Nat) (n : Int), -(64 * 128 ^ j) ≤ n → n < 64 * 128 ^ j → (sB n).length ≤ j + 1
  | 0, n, h0, h => by
    have h0' : -64 ≤ n := by simpa using h0
    have h' : n < 64 := by simpa using h
    rw [sB_small ⟨h0', by omega⟩]; simp
  | j + 1, n, h0, h => by
    by_cases hs : -64 ≤ n ∧ n ≤ 63
    · rw [sB_small hs]; simp
    · rw [sB_great hs]
      have e : (128 : Int) ^ (j + 1) = 128 ^ j * 128 := by rw [Int.pow_succ]
      rw [e] at h h0
      have := sB_len j (n / 128) (by omega) (by omega)
      simp; omega
theorem sB_pos (n : Int) : 0 < (sB n).length := by
  unfold sB
  cases n.natAbs with
  | zero => simp [sBf]
  | succ f => simp only [sBf]; split <;> simp

theorem uB_ten {n : Int} (h0 : 0 ≤ n) (h : n ≤ 18446744073709551615) : (uB n).length ≤ 10 := by
  have e : (128 : Int) ^ 10 = 1180591620717411303424 := by decide
  exact uB_len 9 n h0 (by show n < 128 ^ 10; rw [e]; omega)
theorem sB_ten {n : Int} (h0 : -9223372036854775808 ≤ n) (h : n ≤ 9223372036854775807) : (sB n).length ≤ 10 := by
  have e : (64 : Int) * 128 ^ 9 = 590295810358705651712 := by decide
  exact sB_len 9 n (by rw [e]; omega) (by rw [e]; omega)
end Leb
end Go.Proofs.YtloelineidlenaaGreatDoor
