/- Tokens: LexJoins. -/
import Derived.Test.YtppjjbpiefkjlaaDoorB2
import Derived.Test.YtppjjbpiefkjlaaDoorA14
import Derived.Test.YtppjjbpiefkjlaaDoorA16
import Derived.Test.YtppjjbpiefkjlaaDoorA17
namespace Go.Proofs.YtppjjbpiefkjlaaDoor
open Go.RowKit Lx
set_option linter.unusedVariables false
namespace Lx
theorem lxF_at (s : ByteArray) : ∀ (f i : Nat) (acc : List Tk), (∀ t ∈ acc, 0 ≤ t.a ∧ t.a ≤ s.size) → ∀ t ∈ (lxF s f i acc).1, 0 ≤ t.a ∧ t.a ≤ s.size
  | 0, i, acc, h => h
  | f + 1, i, acc, h => by
    rw [lxF]
    split
    · rename_i hi
      split
      · intro t ht; cases ht
      · split
        · intro t ht; cases ht
        · refine lxF_at s f _ _ fun t ht => ?_
          rcases List.mem_append.1 ht with ht | ht
          · exact h t ht
          · simp at ht; subst ht; simp; omega
    · exact h
theorem lx_at (s : ByteArray) : ∀ t ∈ (lx s).1, 0 ≤ t.a ∧ t.a ≤ s.size := by
  unfold lx
  split
  · intro t ht; cases ht
  · exact lxF_at s _ _ _ fun t ht => by cases ht
theorem jA {n m : Nat} (h : ¬ 4000 < n + m) : wrap64 ((n : Int) + (m : Int)) = (n : Int) + (m : Int) ∧ decide ((n : Int) + (m : Int) > 4000) = false ∧ ¬ 9223372036854775807 < n + 1 ∧ ¬ 9223372036854775807 < n + 1 + m := by
  refine ⟨?_, decide_eq_false (by omega), by omega, by omega⟩
  unfold wrap64; omega
theorem jB {n m : Nat} (h : 4000 < n + m) (hn : n ≤ 9223372036854775807) (hm : m ≤ 9223372036854775807) : True := trivial
theorem jC {n k : Nat} {a : Int} (h : ¬ 4000 < n + k) (ha : 0 ≤ a ∧ a ≤ k) : wrap64 ((n : Int) + 1) = ((n + 1 : Nat) : Int) ∧ wrap64 (a + ((n + 1 : Nat) : Int)) = ((n + 1 : Nat) : Int) + a := by
  refine ⟨?_, ?_⟩
  · unfold wrap64; omega
  · unfold wrap64; omega
theorem ne_of {z : Int} (h : z ≠ 0) : (z != 0) = true := by simpa using h
theorem take_snoc {l : List Tk} {j : Nat} {t : Tk} (h : l[j]? = some t) : l.take (j + 1) = l.take j ++ [t] := by
  rw [List.take_add_one, h]; rfl
theorem eqI_self (z : Int) : (z == z) = true := by simp
end Lx
set_option maxRecDepth 100000 in
set_option maxHeartbeats 8000000 in
theorem joins1 (s t : ByteArray) (hz : ¬ 4000 < s.size + t.size) (w : World) (hWL : WL w) (he : (lx s).2.2 ≠ 0) :
    Calls Tryd.prog 4 #[.string s, .string t] w fun e w' => e = .returned (.bool true) ∧ Below w.heap.size w w' := by
  obtain ⟨U, hU⟩ : ∃ U, U = s ++ ⟨#[10]⟩ ++ t := ⟨_, rfl⟩
  have hj := lx_join s t U (by rw [hU]; exact (ext_of s t).1) (by rw [hU]; exact (ext_of s t).2) (by omega)
  rcases hj with ⟨k1, k2, k3, k4⟩ | ⟨k1, _⟩ | ⟨k1, _⟩
  case inr.inl => exact absurd k1 he
  case inr.inr => exact absurd k1 he
  obtain ⟨hwa, q0, hc1, hc2⟩ := jA hz
  have H1 := hideR (pLexO s w hWL)
  have H2 := fun (u : World) (hb : Below w.heap.size w u) => hideR (pLexO t u (hWL.on hb))
  have H3 := fun (u : World) (hb : Below w.heap.size w u) => hideR (pLexO U u (hWL.on hb))
  have HWk := fun (u : World) (hb : Below w.heap.size w u) => hideR (lWakes u (hWL.on hb))
  rw [k2] at H3
  generalize lx s = R at *
  obtain ⟨L, pl, er⟩ := R
  simp only at k1 k2 k3 k4 he
  generalize lx t = R2 at *
  obtain ⟨L2, pl2, er2⟩ := R2
  have q1 := ne_of he
  have q2 := eqI_self er
  have q3 : decide (pl < (s.size : Int)) = true := decide_eq_true k4
  have hsl := hU.symm
  clear hU hWL k1 k2 k3 hz he
  go_enter Tryd.func4, Tryd.ntmps4
  go_wp2_with fail
  refine H1.out.mono ?_
  rintro e u1 ⟨v1, rfl, hT1, hb1⟩
  have HB1 := hideR hb1
  clear hT1 hb1 H1
  go_wp2_with fail
  refine (H2 _ HB1.out).out.mono ?_
  rintro e u2 ⟨v2, rfl, hT2, hb2⟩
  have HB2 := hideR (below_go HB1.out hb2)
  clear hT2 hb2 HB1 H2
  go_wp2_with fail
  refine (H3 _ HB2.out).out.mono ?_
  rintro e u3 ⟨v3, rfl, hT3, hb3⟩
  obtain ⟨o3, c3, rfl⟩ := own_slice hT3
  have HB3 := hideR (below_go HB2.out hb3)
  clear hT3 hb3 HB2 H3
  go_wp2_with fail
  refine (HWk _ HB3.out).out.mono ?_
  rintro e u4 ⟨rfl, hb4⟩
  have HB4 := hideR (below_go HB3.out hb4)
  clear hb4 HB3 HWk
  go_wp2
  go_ret
  exact ⟨rfl, HB4.out⟩
end Go.Proofs.YtppjjbpiefkjlaaDoor
