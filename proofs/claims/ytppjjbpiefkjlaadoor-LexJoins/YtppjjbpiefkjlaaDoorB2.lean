/- Tokens: the tokens of two texts with a line's end between. -/
import Derived.Test.YtppjjbpiefkjlaaDoorB1
namespace Go.Proofs.YtppjjbpiefkjlaaDoor
open Go.RowKit
set_option linter.unusedVariables false
namespace Lx
theorem one_er {s : ByteArray} {i : Nat} {z : Int} (h : one s i = .error z) : z = 2 ∨ z = 110 := by
  unfold one at h
  repeat' split at h
  all_goals first | (injection h with h; omega) | cases h
theorem lxF_fuel (s : ByteArray) : ∀ (f g i : Nat) (acc : List Tk), s.size ≤ i + f → s.size ≤ i + g → lxF s f i acc = lxF s g i acc
  | 0, g, i, acc, hf, hg => by rw [lxF_end s 0 i acc (by omega), lxF_end s g i acc (by omega)]
  | f + 1, g, i, acc, hf, hg => by
    rcases Nat.lt_or_ge i s.size with hl | hl
    · obtain ⟨g, rfl⟩ : ∃ k, g = k + 1 := ⟨g - 1, by omega⟩
      rw [lxF, lxF, if_pos hl, if_pos hl]
      cases ho : one s i with
      | error z => rfl
      | ok r =>
        obtain ⟨k, x, n, e⟩ := r
        have he := one_end hl ho
        have hs := sk_ge s false e
        simp only
        split
        · rfl
        · exact lxF_fuel s f g _ _ (by omega) (by omega)
    · rw [lxF_end s _ i acc (by omega), lxF_end s g i acc (by omega)]
def shf (m : Nat) (l : List Tk) : List Tk := l.map fun t => ⟨t.k, t.x, t.n, (m : Int) + t.a⟩
theorem shf_app (m : Nat) (l k : List Tk) : shf m (l ++ k) = shf m l ++ shf m k := by simp [shf]
theorem shf_len (m : Nat) (l : List Tk) : (shf m l).length = l.length := by simp [shf]
structure Sub (m : Nat) (t u : ByteArray) : Prop where
  size : m + t.size = u.size
  ex : u.extract m u.size = t
section
variable {m : Nat} {t u : ByteArray} (h : Sub m t u)
theorem sub_ex (h : Sub m t u) (i : Nat) : u.extract (m + i) u.size = t.extract i t.size := by
  have hs := h.size
  have := ext_ext u m i t.size (by omega)
  rw [h.ex, hs] at this
  exact this.symm
theorem sub_sk (h : Sub m t u) (c : Bool) {i : Nat} (hi : i ≤ t.size) : sk u c (m + i) = m + sk t c i := by
  have hs := h.size
  rw [← sk_from u (m + i) (by omega) c, ← sk_from t i hi c, sub_ex h i, Nat.add_assoc]
theorem sub_one (h : Sub m t u) {i : Nat} (hi : i < t.size) : one u (m + i) = shft m (one t i) := by
  have hs := h.size
  rw [one_from u (m + i) (by omega), one_from t i hi, sub_ex h i]
  cases one (t.extract i t.size) 0 with
  | error z => rfl
  | ok r => obtain ⟨k, x, n, e⟩ := r; simp [shft, Nat.add_assoc]
theorem sub_lx (h : Sub m t u) : ∀ (f i : Nat) (acc l0 : List Tk), l0.length + acc.length + (t.size - i) < 4096 →
    lxF u f (m + i) (l0 ++ shf m acc) = (if (lxF t f i acc).2.2 = 0 then (l0 ++ shf m (lxF t f i acc).1, 0, 0) else ([], (m : Int) + (lxF t f i acc).2.1, (lxF t f i acc).2.2))
  | 0, i, acc, l0, hb => by rw [lxF, lxF, if_pos rfl]
  | f + 1, i, acc, l0, hb => by
    have hs := h.size
    rcases Nat.lt_or_ge i t.size with hl | hl
    · rw [lxF, if_pos (show m + i < u.size by omega), lxF, if_pos hl, sub_one h hl]
      cases ho : one t i with
      | error z =>
        have hz : z ≠ 0 := by rcases one_er ho with h | h <;> omega
        simp only [shft]
        rw [if_neg hz, Int.natCast_add]
      | ok r =>
        obtain ⟨k, x, n, e⟩ := r
        have he := one_end hl ho
        have hg := sk_ge t false e
        simp only [shft]
        rw [if_neg (show ¬ (l0 ++ shf m acc).length = 4096 by rw [List.length_append, shf_len]; omega), if_neg (show ¬ acc.length = 4096 by omega), sub_sk h false he.2]
        have := sub_lx h f (sk t false e) (acc ++ [⟨k, x, n, i⟩]) l0 (by rw [List.length_append]; simp; omega)
        rw [shf_app, ← List.append_assoc] at this
        rw [← this]
        simp [shf]
    · rw [lxF_end u _ _ _ (by omega), lxF_end t _ _ _ (by omega), if_pos rfl]
end
section
variable {s u : ByteArray} (h : Ext s u)
theorem ext_lx (h : Ext s u) (h4 : s.size < 4096) : ∀ (f F i : Nat) (acc : List Tk), i ≤ s.size → s.size ≤ i + f → u.size ≤ (if i < s.size then i else sk u false (s.size + 1)) + F → acc.length ≤ i →
    ((lxF s f i acc).2.2 = 0 ∧ (lxF s f i acc).1.length ≤ s.size ∧ ∃ F', u.size ≤ sk u false (s.size + 1) + F' ∧ lxF u F (if i < s.size then i else sk u false (s.size + 1)) acc = lxF u F' (sk u false (s.size + 1)) (lxF s f i acc).1)
    ∨ ((lxF s f i acc).2.2 ≠ 0 ∧ lxF u F (if i < s.size then i else sk u false (s.size + 1)) acc = ([], (lxF s f i acc).2.1, (lxF s f i acc).2.2) ∧ (lxF s f i acc).1 = [] ∧ 0 ≤ (lxF s f i acc).2.1 ∧ (lxF s f i acc).2.1 < s.size)
  | 0, F, i, acc, hi, hf, hF, ha => by
    obtain rfl : i = s.size := by omega
    rw [if_neg (Nat.lt_irrefl _)] at hF ⊢
    exact .inl ⟨rfl, ha, F, hF, rfl⟩
  | f + 1, F, i, acc, hi, hf, hF, ha => by
    rcases Nat.lt_or_ge i s.size with hl | hl
    · rw [if_pos hl] at hF ⊢
      have hlt := h.lt
      obtain ⟨G, rfl⟩ : ∃ G, F = G + 1 := ⟨F - 1, by omega⟩
      rw [lxF, if_pos hl]
      have hu : lxF u (G + 1) i acc = (match one s i with
        | .error z => ([], (i : Int), z)
        | .ok (k, x, n, e) => if acc.length = 4096 then ([], (i : Int), 3) else lxF u G (sk u false e) (acc ++ [⟨k, x, n, i⟩])) := by
        rw [lxF, if_pos (by omega), xOne h hl]
        cases one s i <;> rfl
      rw [hu]
      cases ho : one s i with
      | error z =>
        have hz : z ≠ 0 := by rcases one_er ho with h | h <;> omega
        exact .inr ⟨hz, rfl, rfl, by simp, by simp; omega⟩
      | ok r =>
        obtain ⟨k, x, n, e⟩ := r
        have he := one_end hl ho
        have hg := sk_ge s false e
        have hle := sk_le s false he.2
        simp only
        have hne : ¬ acc.length = 4096 := by omega
        rw [if_neg hne, if_neg hne, xSk h s.size false e he.2 (by omega)]
        have hm := sk_ge u false (s.size + 1)
        exact ext_lx h h4 f G (sk s false e) (acc ++ [⟨k, x, n, i⟩]) hle (by omega) (by split <;> omega) (by rw [List.length_append]; simp; omega)
    · obtain rfl : i = s.size := by omega
      rw [if_neg (Nat.lt_irrefl _)] at hF ⊢
      rw [lxF_end s _ _ _ (Nat.lt_irrefl _)]
      exact .inl ⟨rfl, ha, F, hF, rfl⟩
end
/-- the whole -/
theorem lx_join (s t u : ByteArray) (he : Ext s u) (hs : Sub (s.size + 1) t u) (hz : s.size + t.size ≤ 4000) :
    ((lx s).2.2 ≠ 0 ∧ lx u = ([], (lx s).2.1, (lx s).2.2) ∧ (lx s).1 = [] ∧ (lx s).2.1 < s.size)
    ∨ ((lx s).2.2 = 0 ∧ (lx t).2.2 ≠ 0 ∧ lx u = ([], (s.size + 1 : Nat) + (lx t).2.1, (lx t).2.2) ∧ 0 ≤ (lx t).2.1)
    ∨ ((lx s).2.2 = 0 ∧ (lx t).2.2 = 0 ∧ lx u = ((lx s).1 ++ shf (s.size + 1) (lx t).1, 0, 0)) := by
  have hus := hs.size
  have e1 : lx s = lxF s s.size (sk s false 0) [] := if_neg (by omega)
  have e2 : lx t = lxF t t.size (sk t false 0) [] := if_neg (by omega)
  have e3 : lx u = lxF u u.size (sk u false 0) [] := if_neg (by omega)
  have hsk := xSk he s.size false 0 (Nat.zero_le _) (by omega)
  have hle := sk_le s false (Nat.zero_le s.size)
  have key := ext_lx he (by omega) s.size u.size (sk s false 0) [] hle (by omega) (by omega) (Nat.zero_le _)
  rw [← hsk, ← e3, ← e1] at key
  rcases key with ⟨k1, k2, F', k3, k4⟩ | ⟨k1, k2, k3, k4, k5⟩
  · have hm : sk u false (s.size + 1) = s.size + 1 + sk t false 0 := sub_sk hs false (i := 0) (Nat.zero_le _)
    have ht := sub_lx hs F' (sk t false 0) [] (lx s).1 (by simp; omega)
    rw [← hm] at ht
    have hsl : shf (s.size + 1) [] = [] := rfl
    rw [hsl, List.append_nil] at ht
    have hfu : lxF t F' (sk t false 0) [] = lx t := by
      rw [e2]
      exact lxF_fuel t F' t.size _ [] (by omega) (by omega)
    rw [hfu] at ht
    rw [ht] at k4
    by_cases hz : (lx t).2.2 = 0
    · rw [if_pos hz] at k4
      exact .inr (.inr ⟨k1, hz, k4⟩)
    · rw [if_neg hz] at k4
      refine .inr (.inl ⟨k1, hz, k4, ?_⟩)
      have key2 : ∀ (f i : Nat) (acc : List Tk), 0 ≤ (lxF t f i acc).2.1 := by
        intro f
        induction f with
        | zero => intro i acc; exact Int.le_refl _
        | succ f ih =>
          intro i acc
          rw [lxF]
          split
          · split
            · exact Int.natCast_nonneg _
            · split
              · exact Int.natCast_nonneg _
              · exact ih _ _
          · exact Int.le_refl _
      rw [e2]
      exact key2 _ _ _
  · exact .inl ⟨k1, k2, k3, k5⟩
theorem ba_nil {y : ByteArray} (h : y.size = 0) : y = ByteArray.empty := ByteArray.ext (Array.eq_empty_of_size_eq_zero h)
theorem ext_of (s t : ByteArray) : Ext s (s ++ ⟨#[10]⟩ ++ t) ∧ Sub (s.size + 1) t (s ++ ⟨#[10]⟩ ++ t) := by
  obtain ⟨x, hx⟩ : ∃ x : ByteArray, x = ⟨#[10]⟩ := ⟨_, rfl⟩
  have h1 : x.size = 1 := by rw [hx]; rfl
  have h0 : (x[0]'(by omega)).toNat = 10 := by subst hx; rfl
  rw [← hx]
  clear hx
  have hsz : (s ++ x ++ t).size = s.size + 1 + t.size := by simp [h1]
  refine ⟨⟨by omega, fun i hi => ?_, ?_, fun i j hj => ?_⟩, ⟨by omega, ?_⟩⟩
  · unfold bt
    rw [dif_pos (by omega), dif_pos hi]
    rw [ByteArray.getElem_append_left (by simp; omega), ByteArray.getElem_append_left hi]
  · unfold bt
    rw [dif_pos (by omega)]
    rw [ByteArray.getElem_append_left (by simp; omega), ByteArray.getElem_append_right (by simp)]
    simp [h0]
  · rw [ByteArray.append_assoc, ByteArray.extract_append]
    rw [show j - s.size = 0 by omega, ba_nil (y := (x ++ t).extract (i - s.size) 0) (by rw [ByteArray.size_extract]; omega)]
    simp
  · rw [ByteArray.extract_append, hsz]
    rw [ba_nil (y := (s ++ x).extract (s.size + 1) (s.size + 1 + t.size)) (by rw [ByteArray.size_extract]; simp [h1]), show (s ++ x).size = s.size + 1 by simp [h1], Nat.sub_self, Nat.add_sub_cancel_left]
    simp
end Lx
end Go.Proofs.YtppjjbpiefkjlaaDoor
