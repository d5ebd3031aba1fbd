/- Tokens: what LexBlanks' loop gathers; places rise; what an error tells. -/
import Derived.Test.YtagoajoaojakhaaDoorB9
namespace Go.Proofs.YtagoajoaojakhaaDoor
open Go.RowKit
set_option linter.unusedVariables false
namespace Lx
theorem lxF_err (s : ByteArray) : ∀ (f i : Nat) (acc : List Tk), (lxF s f i acc).2.2 ≠ 0 → (lxF s f i acc).1 = [] ∧ 0 ≤ (lxF s f i acc).2.1 ∧ (lxF s f i acc).2.1 < s.size
  | 0, i, acc, h => absurd rfl h
  | f + 1, i, acc, h => by
    rcases Nat.lt_or_ge i s.size with hl | hl
    · rw [lxF, if_pos hl] at h ⊢
      cases ho : one s i with
      | error z => exact ⟨rfl, Int.natCast_nonneg _, Int.ofNat_lt.2 hl⟩
      | ok r =>
        obtain ⟨k, x, n, e⟩ := r
        rw [ho] at h
        simp only at h ⊢
        by_cases h4 : acc.length = 4096
        · rw [if_pos h4]; exact ⟨rfl, Int.natCast_nonneg _, Int.ofNat_lt.2 hl⟩
        · rw [if_neg h4] at h ⊢; exact lxF_err s f _ _ h
    · rw [lxF_end s _ _ _ (by omega)] at h; exact absurd rfl h
theorem lx_err {s : ByteArray} (hs : s.size ≤ 8192) (h : (lx s).2.2 ≠ 0) : (lx s).1 = [] ∧ 0 ≤ (lx s).2.1 ∧ (lx s).2.1 < s.size := by
  have e : lx s = lxF s s.size (sk s false 0) [] := if_neg (by omega)
  rw [e] at h ⊢
  exact lxF_err s _ _ _ h
/-- places rise, and lie within -/
def Up (z : Nat) : Nat → List Tk → Prop
  | _, [] => True
  | i, t :: L => ∃ p : Nat, t.a = p ∧ i ≤ p ∧ p < z ∧ Up z (p + 1) L
theorem Up.le {z : Nat} : ∀ {L : List Tk} {i j : Nat}, i ≤ j → Up z j L → Up z i L
  | [], _, _, _, _ => trivial
  | t :: L, i, j, h, ⟨p, h1, h2, h3, h4⟩ => ⟨p, h1, by omega, h3, h4⟩
theorem lx_up {s : ByteArray} : ∀ (L : List Tk) (i : Nat), lxF s s.size i [] = (L, 0, 0) → Up s.size i L
  | [], i, _ => trivial
  | t :: L, i, h => by
    rcases Nat.lt_or_ge i s.size with hl | hl
    · obtain ⟨k, x, n, e, L', ho, hL, hr⟩ := lx_head hl (by omega) h
      injection hL with h1 h2
      subst h1; subst h2
      have he := one_end hl ho
      have hge := sk_ge s false e
      exact ⟨i, rfl, Nat.le_refl _, hl, Up.le (by omega) (lx_up L _ hr)⟩
    · rw [lxF_end s _ _ _ (by omega)] at h; cases h
theorem Up.at_ {z : Nat} : ∀ {L : List Tk} {i : Nat}, Up z i L → ∀ (j : Nat) (t : Tk), L[j]? = some t → ∃ p : Nat, t.a = p ∧ i ≤ p ∧ p < z
  | [], i, _, j, t, hj => by simp at hj
  | x :: L, i, ⟨p, h1, h2, h3, h4⟩, 0, t, hj => by simp at hj; subst hj; exact ⟨p, h1, h2, h3⟩
  | x :: L, i, ⟨p, h1, h2, h3, h4⟩, j + 1, t, hj => by
    obtain ⟨q, a, b, c⟩ := Up.at_ h4 j t (by simpa using hj)
    exact ⟨q, a, by omega, c⟩
theorem Up.two {z : Nat} : ∀ {L : List Tk} {i : Nat}, Up z i L → ∀ (j : Nat) (t u : Tk), L[j]? = some t → L[j + 1]? = some u → t.a < u.a
  | [], i, _, j, t, u, hj, _ => by simp at hj
  | x :: L, i, ⟨p, h1, h2, h3, h4⟩, 0, t, u, hj, hu => by
    simp at hj; subst hj
    obtain ⟨q, a, b, c⟩ := Up.at_ h4 0 u (by simpa using hu)
    omega
  | x :: L, i, ⟨p, h1, h2, h3, h4⟩, j + 1, t, u, hj, hu => Up.two h4 j t u (by simpa using hj) (by simpa using hu)
/-- what the loop gathers: the text, the last place, whether nothing came yet -/
def stp (s b : ByteArray) (st : ByteArray × Nat × Bool) (x : Tk) : ByteArray × Nat × Bool :=
  (if st.2.2 = true then st.1 ++ s.extract 0 x.a.toNat else st.1 ++ (s.extract st.2.1 x.a.toNat ++ b), x.a.toNat, false)
def gth (s b : ByteArray) (L : List Tk) : ByteArray × Nat × Bool := L.foldl (stp s b) (b, 0, true)
theorem gth_snoc (s b : ByteArray) (L : List Tk) (x : Tk) : gth s b (L ++ [x]) = stp s b (gth s b L) x := by unfold gth; rw [List.foldl_append]; rfl
theorem gth_spt (s b : ByteArray) : ∀ (L : List Tk) (t : ByteArray) (last : Nat), (L.foldl (stp s b) (t, last, false)).1 ++ s.extract (L.foldl (stp s b) (t, last, false)).2.1 s.size = t ++ spt s b last L
  | [], t, last => rfl
  | x :: L, t, last => by
    rw [List.foldl_cons]
    have e : stp s b (t, last, false) x = (t ++ (s.extract last x.a.toNat ++ b), x.a.toNat, false) := rfl
    rw [e, gth_spt s b L, spt, ByteArray.append_assoc]
theorem gth_spr (s b : ByteArray) (L : List Tk) : (gth s b L).1 ++ s.extract (gth s b L).2.1 s.size = spr s b L := by
  cases L with
  | nil => show b ++ s.extract 0 s.size = b ++ s; simp
  | cons x L =>
    unfold gth
    rw [List.foldl_cons]
    have e : stp s b (b, 0, true) x = (b ++ s.extract 0 x.a.toNat, x.a.toNat, false) := rfl
    rw [e, gth_spt s b L, spr]
end Lx
end Go.Proofs.YtagoajoaojakhaaDoor
