/- Tokens: LexBlanks' loop: sizes, and what is known behind each round. -/
import Derived.Test.YtagoajoaojakhaaDoorB10
import Derived.Test.YtagoajoaojakhaaDoorB3
import Derived.Test.YtagoajoaojakhaaDoorH0
namespace Go.Proofs.YtagoajoaojakhaaDoor
open Go.RowKit
set_option linter.unusedVariables false
namespace Reg
theorem lit_tab {x L : List Value} {n : Nat} (hx : x.length = n) (hL : L.length = n) (h : ∀ i, i < n → x.getD i undef = L.getD i undef) : x = L := by
  apply List.ext_getElem (by omega)
  intro i h1 h2
  have := h i (by omega)
  rw [List.getD_eq_getElem?_getD, List.getD_eq_getElem?_getD, List.getElem?_eq_getElem h1, List.getElem?_eq_getElem h2] at this
  exact this
theorem does_tab0 {P : Program} {ops : Array Oper} {Q : Exit → Act → World → Prop} {p : Value → World → Prop} {o oj : Oper} {a : Act} {w : World} {j lo : Nat} {b : Bool} {L : List Value} (hg : o.guard = some (j, b)) (hj : ops[j]? = some oj) (hk : oj.dst = some (j + lo)) (hb : L.getD j undef = .bool (!b)) (hd : a.tmps[j + lo]?.getD undef = L.getD j undef) (h : p undef w) : Does P ops Q p o a w :=
  Does.skip hg hj hk (by show a.tmps.getD (j + lo) undef = _; rw [Array.getD_eq_getD_getElem?, hd, hb]) h
end Reg
namespace Lx
theorem bne_of {c k : Int} (h : (c == k) = false) : (c != k) = true := by unfold bne; rw [h]; rfl
theorem bne_no {c k : Int} (h : (c == k) = true) : (c != k) = false := by unfold bne; rw [h]; rfl
theorem lxF_ok (s : ByteArray) : ∀ (f i : Nat) (acc : List Tk), (lxF s f i acc).2.2 = 0 → (lxF s f i acc).2.1 = 0
  | 0, i, acc, _ => rfl
  | f + 1, i, acc, h => by
    rcases Nat.lt_or_ge i s.size with hl | hl
    · rw [lxF, if_pos hl] at h ⊢
      cases ho : one s i with
      | error z => rw [ho] at h; simp only at h; rcases one_er ho with e | e <;> omega
      | ok r =>
        obtain ⟨k, x, n, e⟩ := r
        rw [ho] at h
        simp only at h ⊢
        by_cases h4 : acc.length = 4096
        · rw [if_pos h4] at h; cases h
        · rw [if_neg h4] at h ⊢; exact lxF_ok s f _ _ h
    · rw [lxF_end s _ _ _ (by omega)]
theorem ok_eq {s : ByteArray} (hs : s.size ≤ 8192) (h : (lx s).2.2 = 0) : lx s = ((lx s).1, 0, 0) := by
  have e : lx s = lxF s s.size (sk s false 0) [] := if_neg (by omega)
  have h2 : (lx s).2.1 = 0 := by rw [e] at h ⊢; exact lxF_ok s _ _ _ h
  rcases hR : lx s with ⟨L, a, z⟩
  rw [hR] at h h2
  simp only at h h2
  rw [h, h2]
theorem bB {j n : Nat} (h : j < n) (hn : n ≤ 4096) : decide ((j : Int) < (n : Int)) = true ∧ wrap64 ((j : Int) + 1) = ((j + 1 : Nat) : Int) := by
  refine ⟨decide_eq_true (by omega), ?_⟩
  unfold wrap64; omega
theorem bC {p la z : Nat} (h1 : la ≤ p) (h2 : p < z) : decide ((p : Int) < (la : Int)) = false ∧ decide ((p : Int) ≥ (z : Int)) = false := ⟨decide_eq_false (by omega), decide_eq_false (by omega)⟩
theorem bA {n k : Nat} (h : k < n) (hn : n ≤ 3) : decide ((k : Int) < (n : Int)) = true ∧ wrap64 ((k : Int) + 1) = ((k + 1 : Nat) : Int) := by
  refine ⟨decide_eq_true (by omega), ?_⟩
  unfold wrap64; omega
theorem gth_sz0 (s b : ByteArray) : ∀ (L : List Tk) (st : ByteArray × Nat × Bool), (L.foldl (stp s b) st).1.size ≤ st.1.size + L.length * (s.size + b.size)
  | [], st => by simp
  | x :: L, st => by
    rw [List.foldl_cons]
    have h := gth_sz0 s b L (stp s b st x)
    have h2 : (stp s b st x).1.size ≤ st.1.size + (s.size + b.size) := by
      unfold stp
      simp only
      split
      · rw [ByteArray.size_append, ByteArray.size_extract]; omega
      · rw [ByteArray.size_append, ByteArray.size_append, ByteArray.size_extract]; omega
    rw [List.length_cons, Nat.succ_mul]
    omega
theorem gth_sz {s b : ByteArray} (hs : s.size ≤ 1500) (hb : b.size ≤ 3) {L : List Tk} (hL : L.length ≤ 4096) : (gth s b L).1.size ≤ 7000000 := by
  have h := gth_sz0 s b L (b, 0, true)
  have h2 : L.length * (s.size + b.size) ≤ 4096 * 1503 := Nat.mul_le_mul hL (by omega)
  unfold gth
  simp only at h
  omega
theorem gth_last {s b : ByteArray} {L : List Tk} {j : Nat} {u : Tk} (h : L[j]? = some u) : (gth s b (L.take (j + 1))).2.1 = u.a.toNat ∧ (gth s b (L.take (j + 1))).2.2 = false := by
  rw [take_snoc h, gth_snoc]; exact ⟨rfl, rfl⟩
theorem bD {q p : Nat} (h : (q : Int) < (p : Int)) : ((p : Int) == (q : Int)) = false := beq_eq_false_iff_ne.2 (by omega)
theorem bE {j : Nat} (h : 0 < j) (hj : j ≤ 4096) : ∃ i, j = i + 1 ∧ decide (((i + 1 : Nat) : Int) > 0) = true ∧ wrap64 (((i + 1 : Nat) : Int) - 1) = (i : Int) := by
  refine ⟨j - 1, by omega, decide_eq_true (by omega), ?_⟩
  unfold wrap64; omega
theorem bF {a b : Nat} (ha : a ≤ 7000000) (hb : b ≤ 1600) : ¬ 9223372036854775807 < a + b := by omega
theorem gth_la {s b : ByteArray} {L : List Tk} {i : Nat} (h : Up s.size i L) : (gth s b L).2.1 ≤ s.size := by
  rcases Nat.eq_zero_or_pos L.length with h0 | h0
  · rw [List.eq_nil_of_length_eq_zero h0]; exact Nat.zero_le _
  · obtain ⟨u, hu⟩ : ∃ t, L[L.length - 1]? = some t := ⟨_, List.getElem?_eq_getElem (by omega)⟩
    obtain ⟨q, hq, _, hqs⟩ := h.at_ _ u hu
    have e := (gth_last (s := s) (b := b) hu).1
    rw [show L.length - 1 + 1 = L.length by omega, List.take_length, hq] at e
    rw [e]
    exact Nat.le_of_lt hqs
theorem Lk.eqs {l k : List Tk} (h : Lk l k) : ∀ (i : Nat) t u, l[i]? = some t → k[i]? = some u → TkEq false t u := fun i t u h1 h2 => by
  obtain ⟨a, b, c⟩ := h.at_ i t u h1 h2
  exact ⟨a, b, c, fun e => by cases e⟩
theorem bG {a z : Nat} (h : a ≤ z) : 0 ≤ (a : Int) ∧ (a : Int) ≤ (z : Int) := by omega
end Lx
end Go.Proofs.YtagoajoaojakhaaDoor
