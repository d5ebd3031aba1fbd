/- Plain mathematics of reading numbers in groups of seven bits: how many groups there are, what they say; no program is named here. -/
import Derived.Test.YtpigdljibfddlaaMath
namespace Go.Proofs.Ytpigdljibfddlaa
namespace Leb

/-- Byte k of a string, as a number; 0 behind its end. -/
def bt (s : ByteArray) (k : Nat) : Int := if h : k < s.size then ((s[k]'h).toNat : Int) else 0
theorem get_bt (s : ByteArray) : ∀ (n : Nat) (h : n < s.size), ((s[n]'h).toNat : Int) = bt s n := fun n h => by unfold bt; rw [dif_pos h]
theorem bt_bd (s : ByteArray) (k : Nat) : 0 ≤ bt s k ∧ bt s k ≤ 255 := by
  unfold bt; split
  · have := (s[k]).toNat_lt; omega
  · omega

/-- The place behind the first byte below 128, looked for in so many bytes from place i on; 0: there is none. -/
def grpF (f : Nat → Int) (L : Nat) : Nat → Nat → Nat
  | 0, _ => 0
  | n + 1, i => if i < L then (if f i < 128 then i + 1 else grpF f L n (i + 1)) else 0
def grp (f : Nat → Int) (L most : Nat) : Nat := grpF f L most 0
/-- What k groups say, the lowest first. -/
def val (f : Nat → Int) : Nat → Int
  | 0 => 0
  | k + 1 => val f k + 128 ^ k * (f k % 128)

theorem grpF_end (f : Nat → Int) (L i : Nat) : grpF f L 0 i = 0 := rfl
theorem grpF_past (f : Nat → Int) (L n i : Nat) (h : ¬ i < L) : grpF f L n i = 0 := by
  cases n with
  | zero => rfl
  | succ n => simp [grpF, h]
theorem grpF_last (f : Nat → Int) (L n i : Nat) (hn : 0 < n) (h : i < L) (hf : f i < 128) : grpF f L n i = i + 1 := by
  cases n with
  | zero => omega
  | succ n => simp [grpF, h, hf]
theorem grpF_on (f : Nat → Int) (L n i : Nat) (hn : 0 < n) (h : i < L) (hf : ¬ f i < 128) : grpF f L n i = grpF f L (n - 1) (i + 1) := by
  cases n with
  | zero => omega
  | succ n => simp [grpF, h, hf]
/-- Where there is one: it lies within, it is the last byte, and those ahead of it are not. -/
theorem grpF_some (f : Nat → Int) (L : Nat) : ∀ (n i : Nat), grpF f L n i ≠ 0 → i < grpF f L n i ∧ grpF f L n i ≤ i + n ∧ grpF f L n i ≤ L ∧ f (grpF f L n i - 1) < 128 ∧ (∀ j, i ≤ j → j + 1 < grpF f L n i → 128 ≤ f j)
  | 0, i, h => absurd rfl h
  | n + 1, i, h => by
    simp only [grpF] at h ⊢
    split
    · split
      · rename_i hl hf
        exact ⟨by omega, by omega, by omega, by simpa using hf, fun j h1 h2 => by omega⟩
      · rename_i hl hf
        rw [if_pos hl, if_neg hf] at h
        obtain ⟨a, b, c, d, e⟩ := grpF_some f L n (i + 1) h
        refine ⟨by omega, by omega, c, d, fun j h1 h2 => ?_⟩
        by_cases hj : j = i
        · subst hj; omega
        · exact e j (by omega) h2
    · rename_i hl
      rw [if_neg hl] at h
      exact absurd rfl h
theorem grp_some (f : Nat → Int) (L most : Nat) (h : grp f L most ≠ 0) : 0 < grp f L most ∧ grp f L most ≤ most ∧ grp f L most ≤ L ∧ f (grp f L most - 1) < 128 ∧ (∀ j, j + 1 < grp f L most → 128 ≤ f j) := by
  obtain ⟨a, b, c, d, e⟩ := grpF_some f L most 0 h
  exact ⟨a, by unfold grp; omega, c, d, fun j hj => e j (Nat.zero_le _) hj⟩

theorem pow_pos128 (k : Nat) : (0 : Int) < 128 ^ k := Int.pow_pos (by decide)
theorem val_bd (f : Nat → Int) : ∀ k, 0 ≤ val f k ∧ val f k < 128 ^ k
  | 0 => by simp [val]
  | k + 1 => by
    have h := val_bd f k
    have hp := pow_pos128 k
    have h1 : 0 ≤ f k % 128 ∧ f k % 128 ≤ 127 := by omega
    have e : (128 : Int) ^ (k + 1) = 128 ^ k * 128 := Int.pow_succ _ _
    have h2 : 0 ≤ 128 ^ k * (f k % 128) := Int.mul_nonneg (by omega) h1.1
    have h3 : 128 ^ k * (f k % 128) ≤ 128 ^ k * 127 := Int.mul_le_mul_of_nonneg_left h1.2 (by omega)
    simp only [val]
    rw [e]
    omega
theorem pow_mono128 {j k : Nat} (h : j ≤ k) : (128 : Int) ^ j ≤ 128 ^ k := by
  have : (128 : Nat) ^ j ≤ 128 ^ k := Nat.pow_le_pow_right (by decide) h
  exact_mod_cast this
theorem val_9 (f : Nat → Int) (k : Nat) (h : k ≤ 9) : 0 ≤ val f k ∧ val f k < 9223372036854775808 := by
  have h1 := val_bd f k
  have h2 := pow_mono128 h
  have e : (128 : Int) ^ 9 = 9223372036854775808 := by decide
  omega
theorem val_5 (f : Nat → Int) (k : Nat) (h : k ≤ 4) : 0 ≤ val f k ∧ val f k < 268435456 := by
  have h1 := val_bd f k
  have h2 := pow_mono128 h
  have e : (128 : Int) ^ 4 = 268435456 := by decide
  omega
theorem val_split (f : Nat → Int) (k : Nat) (N : Int) : val f (k + 1) + 128 ^ (k + 1) * N = val f k + 128 ^ k * (N * 128 + f k % 128) := by
  simp only [val]
  rw [Int.pow_succ, Int.mul_add, Int.mul_assoc, Int.mul_comm 128 N]
  omega

/-- What S says of k groups. -/
def sval (f : Nat → Int) (k : Nat) : Int := val f k + 128 ^ k * (if 64 ≤ f (k - 1) % 128 then -1 else 0)

/-- How many groups there may be at most. -/
def most (bits : Int) : Nat := if bits = 32 then 5 else 10
def asks (L : Nat) (a bits : Int) : Bool := decide ((bits = 32 ∨ bits = 64) ∧ 0 ≤ a ∧ a ≤ L)
theorem asks_yes {L : Nat} {a bits : Int} (h : asks L a bits = true) : (bits = 32 ∨ bits = 64) ∧ 0 ≤ a ∧ a ≤ L := of_decide_eq_true h
theorem asks_no {L : Nat} {a bits : Int} (h : asks L a bits = false) : ¬ ((bits = 32 ∨ bits = 64) ∧ 0 ≤ a ∧ a ≤ L) := of_decide_eq_false h
/-- What U answers, of k groups. -/
def uFin (f : Nat → Int) (k : Nat) (a bits : Int) : Int × Int × Int :=
  if k = 0 ∨ (bits = 32 ∧ 4294967295 < val f k) ∨ (k = 10 ∧ 1 < f 9) then (0, 0, 10) else (val f k, a + k, 0)
def sFin (f : Nat → Int) (k : Nat) (a bits : Int) : Int × Int × Int :=
  if k = 0 ∨ (bits = 32 ∧ (sval f k < -2147483648 ∨ 2147483647 < sval f k)) ∨ (k = 10 ∧ f 9 ≠ 0 ∧ f 9 ≠ 127) then (0, 0, 10) else (sval f k, a + k, 0)
def uOut (f : Nat → Int) (L : Nat) (a bits : Int) : Int × Int × Int := uFin f (grp f L (most bits)) a bits
def sOut (f : Nat → Int) (L : Nat) (a bits : Int) : Int × Int × Int := sFin f (grp f L (most bits)) a bits
/-- The bytes of s from place a on. -/
def from_ (s : ByteArray) (a : Nat) : Nat → Int := fun i => bt s (a + i)
def uRead (s : ByteArray) (a bits : Int) : Int × Int × Int := if asks s.size a bits then uOut (from_ s a.toNat) (s.size - a.toNat) a bits else (0, 0, 1)
def sRead (s : ByteArray) (a bits : Int) : Int × Int × Int := if asks s.size a bits then sOut (from_ s a.toNat) (s.size - a.toNat) a bits else (0, 0, 1)
theorem from_bd (s : ByteArray) (a i : Nat) : 0 ≤ from_ s a i ∧ from_ s a i ≤ 255 := bt_bd s _

theorem val_four (f : Nat → Int) (h0 : 0 ≤ f 4) (h : f 4 < 128) : (4294967295 < val f 5 ↔ 15 < f 4) := by
  have h1 := val_5 f 4 (by omega)
  have e : val f 5 = val f 4 + 268435456 * (f 4 % 128) := rfl
  omega
theorem val_nine (f : Nat → Int) (h0 : 0 ≤ f 9) (h : f 9 ≤ 1) : val f 10 ≤ 18446744073709551615 := by
  have h1 := val_9 f 9 (by omega)
  have e : val f 10 = val f 9 + 9223372036854775808 * (f 9 % 128) := rfl
  omega
/-- The lowest 64 bits. -/
def low64 (n : Int) : Int := n % 18446744073709551616
theorem low64_bd (n : Int) : 0 ≤ low64 n ∧ low64 n ≤ 18446744073709551615 := by unfold low64; omega
theorem low64_in {n : Int} (h0 : 0 ≤ n) (h1 : n ≤ 18446744073709551615) : low64 n = n := by unfold low64; omega
theorem low64_up (n g : Int) (h0 : 0 ≤ g) (h1 : g < 128) : low64 (low64 n * 128) + g = low64 (n * 128 + g) := by unfold low64; omega
theorem low64_128 (n : Int) : low64 (n * 128) % 2 ^ 7 = 0 := by unfold low64; omega

theorem sval_bd (f : Nat → Int) (k : Nat) (h1 : 0 < k) (h : k ≤ 9 ∨ (k = 10 ∧ (f 9 = 0 ∨ f 9 = 127))) : -9223372036854775808 ≤ sval f k ∧ sval f k ≤ 9223372036854775807 := by
  rcases h with h | ⟨rfl, h⟩
  · have hv := val_bd f k
    have h2 := pow_mono128 h
    have e : (128 : Int) ^ 9 = 9223372036854775808 := by decide
    unfold sval
    split
    · omega
    · omega
  · have hv := val_9 f 9 (by omega)
    have e : val f 10 = val f 9 + 9223372036854775808 * (f 9 % 128) := rfl
    have e2 : (128 : Int) ^ 10 = 1180591620717411303424 := by decide
    unfold sval
    rw [e, e2]
    rcases h with h | h <;> rw [h] <;> simp <;> omega
/-- The number with sign of the lowest 64 bits. -/
def s64 (n : Int) : Int := (n + 9223372036854775808) % 18446744073709551616 - 9223372036854775808
theorem s64_bd (n : Int) : -9223372036854775808 ≤ s64 n ∧ s64 n ≤ 9223372036854775807 := by unfold s64; omega
theorem s64_in {n : Int} (h0 : -9223372036854775808 ≤ n) (h1 : n ≤ 9223372036854775807) : s64 n = n := by unfold s64; omega
theorem s64_up (n g : Int) (h0 : 0 ≤ g) (h1 : g < 128) : s64 (s64 n * 128) + g = s64 (n * 128 + g) := by unfold s64; omega
theorem s64_128 (n : Int) : s64 (n * 128) % 128 = 0 := by unfold s64; omega
end Leb
end Go.Proofs.Ytpigdljibfddlaa
