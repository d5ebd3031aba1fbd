/- Tokens: LexJoins. -/
import Derived.Test.YtagoajoaojakhaaDoorB2
import Derived.Test.YtagoajoaojakhaaDoorA14
import Derived.Test.YtagoajoaojakhaaDoorA16
import Derived.Test.YtagoajoaojakhaaDoorA17
namespace Go.Proofs.YtagoajoaojakhaaDoor
open Go.RowKit Lx
set_option linter.unusedVariables false
namespace Lx
theorem lxF_at (s : ByteArray) : ∀ (f i : Nat) (acc : List Tk), (∀ t ∈ acc, 0 ≤ t.a ∧ t.a ≤ s.size) → ∀ t ∈ (lxF s f i acc).1, 0 ≤ t.a ∧ t.a ≤ s.size
  | 0, i, acc, h => h
  | f + 1, i, acc, h => by
    rw [lxF]
    split
    · rename_i hi
      split
      · intro t ht; cases ht
      · split
        · intro t ht; cases ht
        · refine lxF_at s f _ _ fun t ht => ?_
          rcases List.mem_append.1 ht with ht | ht
          · exact h t ht
          · simp at ht; subst ht; simp; omega
    · exact h
theorem lx_at (s : ByteArray) : ∀ t ∈ (lx s).1, 0 ≤ t.a ∧ t.a ≤ s.size := by
  unfold lx
  split
  · intro t ht; cases ht
  · exact lxF_at s _ _ _ fun t ht => by cases ht
theorem jA {n m : Nat} (h : ¬ 4000 < n + m) : wrap64 ((n : Int) + (m : Int)) = (n : Int) + (m : Int) ∧ decide ((n : Int) + (m : Int) > 4000) = false ∧ ¬ 9223372036854775807 < n + 1 ∧ ¬ 9223372036854775807 < n + 1 + m := by
  refine ⟨?_, decide_eq_false (by omega), by omega, by omega⟩
  unfold wrap64; omega
theorem jB {n m : Nat} (h : 4000 < n + m) (hn : n ≤ 9223372036854775807) (hm : m ≤ 9223372036854775807) : True := trivial
theorem jC {n k : Nat} {a : Int} (h : ¬ 4000 < n + k) (ha : 0 ≤ a ∧ a ≤ k) : wrap64 ((n : Int) + 1) = ((n + 1 : Nat) : Int) ∧ wrap64 (a + ((n + 1 : Nat) : Int)) = ((n + 1 : Nat) : Int) + a := by
  refine ⟨?_, ?_⟩
  · unfold wrap64; omega
  · unfold wrap64; omega
theorem ne_of {z : Int} (h : z ≠ 0) : (z != 0) = true := by simpa using h
theorem take_snoc {l : List Tk} {j : Nat} {t : Tk} (h : l[j]? = some t) : l.take (j + 1) = l.take j ++ [t] := by
  rw [List.take_add_one, h]; rfl
theorem eqI_self (z : Int) : (z == z) = true := by simp
end Lx
end Go.Proofs.YtagoajoaojakhaaDoor
