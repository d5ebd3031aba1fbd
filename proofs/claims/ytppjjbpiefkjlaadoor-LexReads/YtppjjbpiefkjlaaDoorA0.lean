/- Tokens: the plain mathematics of cutting a text into them. -/
import Derived.Test.YtppjjbpiefkjlaaDoorRows
import Derived.WalkKit
import Derived.WalkSpells
import Derived.WalkSmall
import Derived.BigQuiet
import Derived.Deep.QuietTactic
import Derived.Laws.RangeAny
import Derived.Lib.OthersKept
namespace Go.Proofs.YtppjjbpiefkjlaaDoor
open Go.RowKit
set_option linter.unusedVariables false
namespace Lx
/-- byte k of a text as a number; 0 behind its end -/
def bt (s : ByteArray) (k : Nat) : Int := if h : k < s.size then ((s[k]'h).toNat : Int) else 0
theorem get_bt (s : ByteArray) (n : Nat) (h : n < s.size) : ((s[n]'h).toNat : Int) = bt s n := by unfold bt; rw [dif_pos h]
theorem bt_bd (s : ByteArray) (k : Nat) : 0 ≤ bt s k ∧ bt s k ≤ 255 := by
  unfold bt; split
  · have := (s[k]).toNat_lt; omega
  · omega
def sm (c : Int) : Bool := decide (97 ≤ c) && decide (c ≤ 122)
def cp (c : Int) : Bool := decide (65 ≤ c) && decide (c ≤ 90)
def dg (c : Int) : Bool := decide (48 ≤ c) && decide (c ≤ 57)
def pt (c : Int) : Bool := sm c || cp c || dg c || c == 95
def bl (c : Int) : Bool := c == 9 || c == 10 || c == 13 || c == 32
/-- behind all bytes of a kind from a place on -/
def enF (s : ByteArray) (p : Int → Bool) : Nat → Nat → Nat
  | 0, i => i
  | f + 1, i => if i < s.size ∧ p (bt s i) = true then enF s p f (i + 1) else i
def en (s : ByteArray) (p : Int → Bool) (i : Nat) : Nat := enF s p (s.size - i) i
section
variable (s : ByteArray) (p : Int → Bool)
theorem en_on {i : Nat} (h : i < s.size) (hp : p (bt s i) = true) : en s p i = en s p (i + 1) := by
  unfold en
  obtain ⟨f, hf⟩ : ∃ f, s.size - i = f + 1 := ⟨s.size - i - 1, by omega⟩
  rw [hf, show s.size - (i + 1) = f by omega, enF, if_pos ⟨h, hp⟩]
theorem en_stop {i : Nat} (hp : p (bt s i) = false) : en s p i = i := by
  unfold en
  cases s.size - i with
  | zero => rfl
  | succ f => rw [enF, if_neg (fun h => by rw [hp] at h; cases h.2)]
theorem en_end {i : Nat} (h : ¬ i < s.size) : en s p i = i := by
  unfold en
  rw [show s.size - i = 0 by omega]; rfl
theorem enF_ge : ∀ (f i : Nat), i ≤ enF s p f i
  | 0, i => Nat.le_refl _
  | f + 1, i => by rw [enF]; split; exact Nat.le_trans (Nat.le_succ i) (enF_ge f (i + 1)); exact Nat.le_refl _
theorem en_ge (i : Nat) : i ≤ en s p i := enF_ge s p _ i
theorem enF_le : ∀ (f i : Nat), i ≤ s.size → enF s p f i ≤ s.size
  | 0, i, h => h
  | f + 1, i, h => by rw [enF]; split; exact enF_le f (i + 1) (by omega); exact h
theorem en_le {i : Nat} (h : i ≤ s.size) : en s p i ≤ s.size := enF_le s p _ i h
theorem enF_all : ∀ (f i j : Nat), i ≤ j → j < enF s p f i → p (bt s j) = true
  | 0, i, j, h, h' => by rw [enF] at h'; omega
  | f + 1, i, j, h, h' => by
    rw [enF] at h'
    split at h'
    · rename_i hc
      rcases Nat.eq_or_lt_of_le h with rfl | h
      · exact hc.2
      · exact enF_all f (i + 1) j h h'
    · omega
theorem en_all {i j : Nat} (h : i ≤ j) (h' : j < en s p i) : p (bt s j) = true := enF_all s p _ i j h h'
theorem enF_not : ∀ (f i : Nat), s.size ≤ i + f → enF s p f i < s.size → p (bt s (enF s p f i)) = false
  | 0, i, h, h' => by rw [enF] at h'; omega
  | f + 1, i, h, h' => by
    rw [enF] at h' ⊢
    split at h'
    · rename_i hc; rw [if_pos hc]; exact enF_not f (i + 1) (by omega) h'
    · rename_i hc; rw [if_neg hc]; cases hp : p (bt s i); rfl; exact absurd ⟨h', hp⟩ hc
theorem en_not {i : Nat} (h : en s p i < s.size) : p (bt s (en s p i)) = false := enF_not s p _ i (by omega) h
theorem en_of : ∀ (n i : Nat), i + n ≤ s.size → (∀ j, i ≤ j → j < i + n → p (bt s j) = true) → en s p i = en s p (i + n)
  | 0, i, _, _ => rfl
  | n + 1, i, h, hp => by
    rw [en_on s p (by omega) (hp i (Nat.le_refl _) (by omega)), en_of n (i + 1) (by omega) (fun j h1 h2 => hp j (by omega) (by omega)), show i + (n + 1) = i + 1 + n by omega]
/-- it is told by what it does -/
theorem en_eq {i e : Nat} (h0 : i ≤ e) (h1 : e ≤ s.size) (ha : ∀ j, i ≤ j → j < e → p (bt s j) = true) (hn : e < s.size → p (bt s e) = false) : en s p i = e := by
  rw [en_of s p (e - i) i (by omega) (fun j h1 h2 => ha j h1 (by omega)), show i + (e - i) = e by omega]
  by_cases h : e < s.size
  · exact en_stop s p (hn h)
  · exact en_end s p h
end
theorem bt_extract (s : ByteArray) (a i : Nat) (ha : a ≤ s.size) : bt (s.extract a s.size) i = bt s (a + i) := by
  unfold bt
  by_cases h : a + i < s.size
  · rw [dif_pos (by rw [ByteArray.size_extract]; omega), dif_pos h]
    simp [ByteArray.getElem_extract]
  · rw [dif_neg (by rw [ByteArray.size_extract]; omega), dif_neg h]
theorem size_from (s : ByteArray) (a : Nat) : (s.extract a s.size).size = s.size - a := by rw [ByteArray.size_extract]; omega
theorem en_from (s : ByteArray) (p : Int → Bool) (a i : Nat) (ha : a + i ≤ s.size) : en (s.extract a s.size) p i = en s p (a + i) - a := by
  have h0 := en_ge s p (a + i)
  have h1 := en_le s p ha
  refine en_eq _ p (by omega) (by rw [size_from]; omega) (fun j hj hj' => ?_) (fun h => ?_)
  · rw [bt_extract s a j (by omega)]; exact en_all s p (i := a + i) (by omega) (by omega)
  · rw [bt_extract s a _ (by omega), show a + (en s p (a + i) - a) = en s p (a + i) by omega]
    exact en_not s p (by rw [size_from] at h; omega)
/-- behind blanks and remarks; c: within a remark -/
def skF (s : ByteArray) : Nat → Bool → Nat → Nat
  | 0, _, i => i
  | f + 1, c, i => if i < s.size then (if bt s i = 10 then skF s f false (i + 1) else if c = true then skF s f true (i + 1) else if bt s i = 35 then skF s f true (i + 1) else if bl (bt s i) = true then skF s f false (i + 1) else i) else i
def sk (s : ByteArray) (c : Bool) (i : Nat) : Nat := skF s (s.size - i) c i
section
variable (s : ByteArray)
theorem sk_step {i : Nat} (c : Bool) (h : i < s.size) : sk s c i = if bt s i = 10 then sk s false (i + 1) else if c = true then sk s true (i + 1) else if bt s i = 35 then sk s true (i + 1) else if bl (bt s i) = true then sk s false (i + 1) else i := by
  unfold sk
  obtain ⟨f, hf⟩ : ∃ f, s.size - i = f + 1 := ⟨s.size - i - 1, by omega⟩
  rw [hf, show s.size - (i + 1) = f by omega, skF, if_pos h]
theorem sk_end {i : Nat} (c : Bool) (h : ¬ i < s.size) : sk s c i = i := by
  unfold sk
  rw [show s.size - i = 0 by omega]; rfl
theorem skF_ge : ∀ (f : Nat) (c : Bool) (i : Nat), i ≤ skF s f c i
  | 0, c, i => Nat.le_refl _
  | f + 1, c, i => by
    rw [skF]
    have h1 := skF_ge f false (i + 1)
    have h2 := skF_ge f true (i + 1)
    repeat' split
    all_goals omega
theorem sk_ge (c : Bool) (i : Nat) : i ≤ sk s c i := skF_ge s _ c i
theorem skF_le : ∀ (f : Nat) (c : Bool) (i : Nat), i ≤ s.size → skF s f c i ≤ s.size
  | 0, c, i, h => h
  | f + 1, c, i, h => by
    rw [skF]
    split
    · have h1 := skF_le f false (i + 1) (by omega)
      have h2 := skF_le f true (i + 1) (by omega)
      repeat' split
      all_goals omega
    · exact h
theorem sk_le (c : Bool) {i : Nat} (h : i ≤ s.size) : sk s c i ≤ s.size := skF_le s _ c i h
theorem sk_rem : ∀ (n i : Nat), i + n ≤ s.size → (∀ j, i ≤ j → j < i + n → bt s j ≠ 10) → sk s true i = sk s true (i + n)
  | 0, i, _, _ => rfl
  | n + 1, i, h, hp => by
    rw [sk_step s true (by omega), if_neg (hp i (Nat.le_refl _) (by omega)), if_pos rfl, sk_rem n (i + 1) (by omega) (fun j h1 h2 => hp j (by omega) (by omega)), show i + (n + 1) = i + 1 + n by omega]
end
theorem skF_from (s : ByteArray) (a : Nat) (ha : a ≤ s.size) : ∀ (f : Nat) (c : Bool) (i : Nat), a + skF (s.extract a s.size) f c i = skF s f c (a + i)
  | 0, c, i => rfl
  | f + 1, c, i => by
    rw [skF, skF, bt_extract s a i ha, size_from, show a + i + 1 = a + (i + 1) by omega]
    by_cases h : a + i < s.size
    · rw [if_pos (show i < s.size - a by omega), if_pos h]
      have h1 := skF_from s a ha f false (i + 1)
      have h2 := skF_from s a ha f true (i + 1)
      repeat' split
      all_goals first | exact h1 | exact h2 | rfl
    · rw [if_neg (show ¬ i < s.size - a by omega), if_neg h]
theorem sk_from (s : ByteArray) (a : Nat) (ha : a ≤ s.size) (c : Bool) : a + sk (s.extract a s.size) c 0 = sk s c a := by
  unfold sk
  rw [skF_from s a ha, size_from, Nat.add_zero, Nat.sub_zero]
/-- the rune at a place: a byte below 128 is one; from 128 on it is 128 at least, and none of its bytes is below -/
theorem dec_low (s : ByteArray) (i : Nat) (h : i < s.size) (hb : bt s i < 128) : Utf8.decode s i = ((bt s i).toNat, 1) := by
  have e := get_bt s i h
  rw [decode_ascii s i h (by omega)]
  congr 1
  omega
theorem get_bt' (s : ByteArray) (i : Nat) (h : i < s.size) : ((s.get! i).toNat : Int) = bt s i := by
  rw [← get_bt s i h]
  congr 2
  simp [ByteArray.get!, getElem!_pos, h]
  rfl
theorem dec_high (s : ByteArray) (i : Nat) (h : i < s.size) (hb : ¬ bt s i < 128) : (128 : Int) ≤ (Utf8.decode s i).1 ∧ 1 ≤ (Utf8.decode s i).2 ∧ i + (Utf8.decode s i).2 ≤ s.size ∧ ∀ j, i ≤ j → j < i + (Utf8.decode s i).2 → 128 ≤ bt s j := by
  have e := get_bt s i h
  have hd := decode_high s i h (by omega)
  refine ⟨by have := hd.1; omega, hd.2, ?_⟩
  have g : ∀ k, i + k < s.size → ((s.get! (i + k)).toNat : Int) = bt s (i + k) := fun k hk => get_bt' s (i + k) hk
  have hc : ∀ k, (decide (i + k < s.size) && (s.get! (i + k)).toNat / 64 == 2) = true → i + k < s.size ∧ 128 ≤ bt s (i + k) := fun k hk => by
    rw [Bool.and_eq_true, decide_eq_true_eq, beq_iff_eq] at hk
    refine ⟨hk.1, ?_⟩
    rw [← g k hk.1]
    have := hk.2
    omega
  have key : ∀ n, n = (Utf8.decode s i).2 → n = 1 ∨ (n = 2 ∧ (decide (i + 1 < s.size) && (s.get! (i + 1)).toNat / 64 == 2) = true) ∨ (n = 3 ∧ (decide (i + 1 < s.size) && (s.get! (i + 1)).toNat / 64 == 2) = true ∧ (decide (i + 2 < s.size) && (s.get! (i + 2)).toNat / 64 == 2) = true)
      ∨ (n = 4 ∧ (decide (i + 1 < s.size) && (s.get! (i + 1)).toNat / 64 == 2) = true ∧ (decide (i + 2 < s.size) && (s.get! (i + 2)).toNat / 64 == 2) = true ∧ (decide (i + 3 < s.size) && (s.get! (i + 3)).toNat / 64 == 2) = true) := by
    intro n hn
    subst hn
    simp only [Utf8.decode]
    repeat' split
    all_goals simp_all
  generalize hn : (Utf8.decode s i).2 = n at *
  have key := key n rfl
  have b0 : 128 ≤ bt s i := by omega
  rcases key with rfl | ⟨rfl, h1⟩ | ⟨rfl, h1, h2⟩ | ⟨rfl, h1, h2, h3⟩
  · refine ⟨by omega, fun j hj hj' => ?_⟩
    obtain rfl : j = i := by omega
    exact b0
  · have h1 := hc 1 h1
    refine ⟨by omega, fun j hj hj' => ?_⟩
    rcases (show j = i ∨ j = i + 1 by omega) with rfl | rfl
    · exact b0
    · exact h1.2
  · have h1 := hc 1 h1
    have h2 := hc 2 h2
    refine ⟨by omega, fun j hj hj' => ?_⟩
    rcases (show j = i ∨ j = i + 1 ∨ j = i + 2 by omega) with rfl | rfl | rfl
    · exact b0
    · exact h1.2
    · exact h2.2
  · have h1 := hc 1 h1
    have h2 := hc 2 h2
    have h3 := hc 3 h3
    refine ⟨by omega, fun j hj hj' => ?_⟩
    rcases (show j = i ∨ j = i + 1 ∨ j = i + 2 ∨ j = i + 3 by omega) with rfl | rfl | rfl | rfl
    · exact b0
    · exact h1.2
    · exact h2.2
    · exact h3.2
end Lx
end Go.Proofs.YtppjjbpiefkjlaaDoor
