/- Plain mathematics: what is put in groups of seven bits is read as it was, whatever stands around it; cut off it is none; and it is as short as may be. -/
import Derived.Test.YtpigdljibfddlaaRead
namespace Go.Proofs.Ytpigdljibfddlaa
namespace Leb

theorem uB_bd : ∀ (f : Nat) (n : Int), 0 ≤ n → n.toNat ≤ f → ∀ x ∈ uB n, 0 ≤ x ∧ x ≤ 255
  | 0, n, h0, hf, x, hx => by
    rw [uB_small h0 (by omega)] at hx
    simp at hx; omega
  | f + 1, n, h0, hf, x, hx => by
    by_cases h : n < 128
    · rw [uB_small h0 h] at hx
      simp at hx; omega
    · rw [uB_great (by omega)] at hx
      rcases List.mem_cons.1 hx with rfl | hx
      · omega
      · exact uB_bd f (n / 128) (by omega) (by omega) x hx
theorem sB_bd : ∀ (f : Nat) (n : Int), n.natAbs ≤ f → ∀ x ∈ sB n, 0 ≤ x ∧ x ≤ 255
  | 0, n, hf, x, hx => by
    rw [sB_small (by omega)] at hx
    simp at hx; omega
  | f + 1, n, hf, x, hx => by
    by_cases h : -64 ≤ n ∧ n ≤ 63
    · rw [sB_small h] at hx
      simp at hx; omega
    · rw [sB_great h] at hx
      rcases List.mem_cons.1 hx with rfl | hx
      · omega
      · exact sB_bd f (n / 128) (by omega) x hx

/-- The bytes xs lie from place i on. -/
def Lies (f : Nat → Int) (i : Nat) (xs : List Int) : Prop := ∀ j, j < xs.length → f (i + j) = xs.getD j 0
theorem Lies.head {f : Nat → Int} {i : Nat} {x : Int} {xs : List Int} (h : Lies f i (x :: xs)) : f i = x := by simpa using h 0 (by simp)
theorem Lies.tail {f : Nat → Int} {i : Nat} {x : Int} {xs : List Int} (h : Lies f i (x :: xs)) : Lies f (i + 1) xs := fun j hj => by
  have := h (j + 1) (by simpa using hj)
  rw [show i + 1 + j = i + (j + 1) by omega, this]
  simp

/-- How many groups are found where a number lies: all, if so many may be looked at. -/
theorem grp_u (f : Nat → Int) (L : Nat) : ∀ (g : Nat) (n : Int) (i fuel : Nat), 0 ≤ n → n.toNat ≤ g → Lies f i (uB n) → i + (uB n).length ≤ L → grpF f L fuel i = if (uB n).length ≤ fuel then i + (uB n).length else 0 := by
  intro g
  induction g with
  | zero =>
    intro n i fuel h0 hg hl hL
    rw [uB_small h0 (by omega)] at hl hL ⊢
    have := hl.head
    cases fuel with
    | zero => simp [grpF]
    | succ m => rw [grpF_last _ _ _ _ (by omega) (by simp at hL; omega) (by omega)]; simp
  | succ g ih =>
    intro n i fuel h0 hg hl hL
    by_cases h : n < 128
    · rw [uB_small h0 h] at hl hL ⊢
      have := hl.head
      cases fuel with
      | zero => simp [grpF]
      | succ m => rw [grpF_last _ _ _ _ (by omega) (by simp at hL; omega) (by omega)]; simp
    · rw [uB_great (by omega)] at hl hL ⊢
      have hh := hl.head
      cases fuel with
      | zero => simp [grpF]
      | succ m =>
        rw [grpF_on _ _ _ _ (by omega) (by simp at hL; omega) (by omega), Nat.add_sub_cancel, ih (n / 128) (i + 1) m (by omega) (by omega) hl.tail (by simp at hL; omega)]
        simp only [List.length_cons]
        by_cases hm : (uB (n / 128)).length ≤ m
        · rw [if_pos hm, if_pos (by omega)]; omega
        · rw [if_neg hm, if_neg (by omega)]
theorem val_u (f : Nat → Int) : ∀ (g : Nat) (n : Int) (i : Nat), 0 ≤ n → n.toNat ≤ g → Lies f i (uB n) → val f (i + (uB n).length) = val f i + 128 ^ i * n := by
  intro g
  induction g with
  | zero =>
    intro n i h0 hg hl
    rw [uB_small h0 (by omega)] at hl ⊢
    have := hl.head
    show val f i + 128 ^ i * (f i % 128) = _
    rw [this, show n % 128 = n by omega]
  | succ g ih =>
    intro n i h0 hg hl
    by_cases h : n < 128
    · rw [uB_small h0 h] at hl ⊢
      have := hl.head
      show val f i + 128 ^ i * (f i % 128) = _
      rw [this, show n % 128 = n by omega]
    · rw [uB_great (by omega)] at hl ⊢
      have hh := hl.head
      have := ih (n / 128) (i + 1) (by omega) (by omega) hl.tail
      rw [List.length_cons, show i + ((uB (n / 128)).length + 1) = i + 1 + (uB (n / 128)).length by omega, this, val_split, hh]
      rw [show n / 128 * 128 + (n % 128 + 128) % 128 = n by omega]
theorem cut_u (f : Nat → Int) : ∀ (g : Nat) (n : Int) (i fuel : Nat), 0 ≤ n → n.toNat ≤ g → (∀ j, j + 1 < (uB n).length → f (i + j) = (uB n).getD j 0) → grpF f (i + ((uB n).length - 1)) fuel i = 0 := by
  intro g
  induction g with
  | zero =>
    intro n i fuel h0 hg hl
    rw [uB_small h0 (by omega)]
    exact grpF_past _ _ _ _ (by simp)
  | succ g ih =>
    intro n i fuel h0 hg hl
    by_cases h : n < 128
    · rw [uB_small h0 h]
      exact grpF_past _ _ _ _ (by simp)
    · rw [uB_great (by omega)] at hl ⊢
      have hp := uB_pos (n / 128)
      have hh : f i = n % 128 + 128 := by simpa using hl 0 (by simp; omega)
      cases fuel with
      | zero => rfl
      | succ m =>
        rw [List.length_cons, Nat.add_sub_cancel, grpF_on _ _ _ _ (by omega) (by omega) (by omega), Nat.add_sub_cancel]
        have := ih (n / 128) (i + 1) m (by omega) (by omega) (fun j hj => by
          have := hl (j + 1) (by simp; omega)
          rw [show i + 1 + j = i + (j + 1) by omega, this]
          simp)
        rw [show i + 1 + ((uB (n / 128)).length - 1) = i + (uB (n / 128)).length by omega] at this
        exact this

theorem grp_s (f : Nat → Int) (L : Nat) : ∀ (g : Nat) (n : Int) (i fuel : Nat), n.natAbs ≤ g → Lies f i (sB n) → i + (sB n).length ≤ L → grpF f L fuel i = if (sB n).length ≤ fuel then i + (sB n).length else 0 := by
  intro g
  induction g with
  | zero =>
    intro n i fuel hg hl hL
    rw [sB_small (by omega)] at hl hL ⊢
    have := hl.head
    cases fuel with
    | zero => simp [grpF]
    | succ m => rw [grpF_last _ _ _ _ (by omega) (by simp at hL; omega) (by omega)]; simp
  | succ g ih =>
    intro n i fuel hg hl hL
    by_cases h : -64 ≤ n ∧ n ≤ 63
    · rw [sB_small h] at hl hL ⊢
      have := hl.head
      cases fuel with
      | zero => simp [grpF]
      | succ m => rw [grpF_last _ _ _ _ (by omega) (by simp at hL; omega) (by omega)]; simp
    · rw [sB_great h] at hl hL ⊢
      have hh := hl.head
      cases fuel with
      | zero => simp [grpF]
      | succ m =>
        rw [grpF_on _ _ _ _ (by omega) (by simp at hL; omega) (by omega), Nat.add_sub_cancel, ih (n / 128) (i + 1) m (by omega) hl.tail (by simp at hL; omega)]
        simp only [List.length_cons]
        by_cases hm : (sB (n / 128)).length ≤ m
        · rw [if_pos hm, if_pos (by omega)]; omega
        · rw [if_neg hm, if_neg (by omega)]
/-- The sign that a last byte says. -/
def sg (c : Int) : Int := if 64 ≤ c % 128 then -1 else 0
theorem val_s (f : Nat → Int) : ∀ (g : Nat) (n : Int) (i : Nat), n.natAbs ≤ g → Lies f i (sB n) → val f (i + (sB n).length) + 128 ^ (i + (sB n).length) * sg (f (i + (sB n).length - 1)) = val f i + 128 ^ i * n := by
  intro g
  induction g with
  | zero =>
    intro n i hg hl
    rw [sB_small (by omega)] at hl ⊢
    have := hl.head
    show val f (i + 1) + 128 ^ (i + 1) * sg (f i) = _
    rw [val_split, this]
    unfold sg
    split <;> congr 2 <;> omega
  | succ g ih =>
    intro n i hg hl
    by_cases h : -64 ≤ n ∧ n ≤ 63
    · rw [sB_small h] at hl ⊢
      have := hl.head
      show val f (i + 1) + 128 ^ (i + 1) * sg (f i) = _
      rw [val_split, this]
      unfold sg
      split <;> congr 2 <;> omega
    · rw [sB_great h] at hl ⊢
      have hh := hl.head
      have := ih (n / 128) (i + 1) (by omega) hl.tail
      rw [List.length_cons, show i + ((sB (n / 128)).length + 1) = i + 1 + (sB (n / 128)).length by omega, this, val_split, hh]
      rw [show n / 128 * 128 + (n % 128 + 128) % 128 = n by omega]
theorem cut_s (f : Nat → Int) : ∀ (g : Nat) (n : Int) (i fuel : Nat), n.natAbs ≤ g → (∀ j, j + 1 < (sB n).length → f (i + j) = (sB n).getD j 0) → grpF f (i + ((sB n).length - 1)) fuel i = 0 := by
  intro g
  induction g with
  | zero =>
    intro n i fuel hg hl
    rw [sB_small (by omega)]
    exact grpF_past _ _ _ _ (by simp)
  | succ g ih =>
    intro n i fuel hg hl
    by_cases h : -64 ≤ n ∧ n ≤ 63
    · rw [sB_small h]
      exact grpF_past _ _ _ _ (by simp)
    · rw [sB_great h] at hl ⊢
      have hp := sB_pos (n / 128)
      have hh : f i = n % 128 + 128 := by simpa using hl 0 (by simp; omega)
      cases fuel with
      | zero => rfl
      | succ m =>
        rw [List.length_cons, Nat.add_sub_cancel, grpF_on _ _ _ _ (by omega) (by omega) (by omega), Nat.add_sub_cancel]
        have := ih (n / 128) (i + 1) m (by omega) (fun j hj => by
          have := hl (j + 1) (by simp; omega)
          rw [show i + 1 + j = i + (j + 1) by omega, this]
          simp)
        rw [show i + 1 + ((sB (n / 128)).length - 1) = i + (sB (n / 128)).length by omega] at this
        exact this
end Leb
end Go.Proofs.Ytpigdljibfddlaa
