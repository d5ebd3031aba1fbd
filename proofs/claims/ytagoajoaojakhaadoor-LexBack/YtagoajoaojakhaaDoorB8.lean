/- Tokens: blanks put ahead of them: the whole text. -/
import Derived.Test.YtagoajoaojakhaaDoorB7
namespace Go.Proofs.YtagoajoaojakhaaDoor
open Go.RowKit
set_option linter.unusedVariables false
namespace Lx
/-- the text from a token on, with blanks ahead of each later one -/
def spt (s b : ByteArray) (i : Nat) : List Tk → ByteArray
  | [] => s.extract i s.size
  | t :: L => s.extract i t.a.toNat ++ b ++ spt s b t.a.toNat L
theorem Lk.refl : ∀ (l : List Tk), Lk l l
  | [] => trivial
  | x :: l => ⟨rfl, rfl, rfl, Lk.refl l⟩
theorem bt_app (x y : ByteArray) (k : Nat) : bt (x ++ y) k = if k < x.size then bt x k else bt y (k - x.size) := by
  unfold bt
  by_cases h : k < x.size
  · rw [if_pos h, dif_pos (by simp; omega), dif_pos h, ByteArray.getElem_append_left h]
  · rw [if_neg h]
    by_cases h2 : k - x.size < y.size
    · rw [dif_pos (by simp; omega), dif_pos h2, ByteArray.getElem_append_right (by omega)]
    · rw [dif_neg (by simp; omega), dif_neg h2]
/-- what comes behind does not hang on what came ahead -/
theorem lx_pre (s : ByteArray) : ∀ (F p : Nat) (l0 acc : List Tk), l0.length + acc.length ≤ 4096 → (lxF s F p (l0 ++ acc)).2.2 = 0 → ∃ K, lxF s F p acc = (acc ++ K, 0, 0) ∧ lxF s F p (l0 ++ acc) = (l0 ++ (acc ++ K), 0, 0)
  | 0, p, l0, acc, _, _ => ⟨[], by rw [lxF, List.append_nil], by rw [lxF, List.append_nil]⟩
  | F + 1, p, l0, acc, hle, hz => by
    rcases Nat.lt_or_ge p s.size with hp | hp
    · rw [lxF, if_pos hp] at hz
      cases hop : one s p with
      | error z => rw [hop] at hz; simp only at hz; rcases one_er hop with e | e <;> omega
      | ok r =>
        obtain ⟨k2, x2, n2, e2⟩ := r
        rw [hop] at hz
        simp only at hz
        by_cases h4 : (l0 ++ acc).length = 4096
        · rw [if_pos h4] at hz; cases hz
        · rw [if_neg h4, List.append_assoc] at hz
          rw [List.length_append] at h4
          obtain ⟨K, hK1, hK2⟩ := lx_pre s F (sk s false e2) l0 (acc ++ [⟨k2, x2, n2, (p : Int)⟩]) (by rw [List.length_append]; simp; omega) hz
          have hne : ¬ acc.length = 4096 := by omega
          have hne2 : ¬ (l0 ++ acc).length = 4096 := by rw [List.length_append]; exact h4
          refine ⟨⟨k2, x2, n2, (p : Int)⟩ :: K, ?_, ?_⟩
          · rw [lxF, if_pos hp, hop]; simp only; rw [if_neg hne, hK1]; simp
          · rw [lxF, if_pos hp, hop]; simp only; rw [if_neg hne2, List.append_assoc, hK2]; simp
    · exact ⟨[], by rw [lxF_end s _ _ _ (by omega), List.append_nil], by rw [lxF_end s _ _ _ (by omega), List.append_nil]⟩
/-- what s gives from a place on: a token, and what it gives behind it -/
theorem lx_head {s : ByteArray} {f i : Nat} {L : List Tk} (hi : i < s.size) (hf : s.size ≤ i + f) (h : lxF s f i [] = (L, 0, 0)) :
    ∃ k x n e L', one s i = .ok (k, x, n, e) ∧ L = ⟨k, x, n, (i : Int)⟩ :: L' ∧ lxF s s.size (sk s false e) [] = (L', 0, 0) := by
  obtain ⟨g, hg, hst⟩ := lxF_step s f i [] hi hf
  rw [h] at hst
  cases ho : one s i with
  | error z =>
    rw [ho] at hst
    simp only at hst
    have : z = 0 := by injection hst with _ h; injection h with _ h; exact h.symm
    rcases one_er ho with e | e <;> omega
  | ok r =>
    obtain ⟨k, x, n, e⟩ := r
    rw [ho] at hst
    simp only at hst
    rw [if_neg (by decide)] at hst
    have he := one_end hi ho
    have hge := sk_ge s false e
    obtain ⟨K, hK1, hK2⟩ := lx_pre s g (sk s false e) [⟨k, x, n, (i : Int)⟩] [] (by simp) (by
      have : lxF s g (sk s false e) ([⟨k, x, n, (i : Int)⟩] ++ []) = (L, 0, 0) := hst.symm
      rw [this])
    have hL : lxF s g (sk s false e) ([⟨k, x, n, (i : Int)⟩] ++ []) = (L, 0, 0) := hst.symm
    rw [hL] at hK2
    refine ⟨k, x, n, e, K, rfl, ?_, ?_⟩
    · injection hK2 with h1 _
    · rw [lxF_fuel s s.size g _ [] (by omega) (by omega), hK1]; rfl
end Lx
end Go.Proofs.YtagoajoaojakhaaDoor
