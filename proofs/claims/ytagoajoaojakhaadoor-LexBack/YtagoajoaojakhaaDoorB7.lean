/- Tokens: blanks put ahead of them: the whole list. -/
import Derived.Test.YtagoajoaojakhaaDoorB6
namespace Go.Proofs.YtagoajoaojakhaaDoor
open Go.RowKit
set_option linter.unusedVariables false
namespace Lx
/-- alike but for places -/
def Lk : List Tk → List Tk → Prop
  | [], [] => True
  | x :: l, y :: k => x.k = y.k ∧ x.x = y.x ∧ x.n = y.n ∧ Lk l k
  | _, _ => False
theorem Lk.shf (m : Nat) : ∀ {l k : List Tk}, Lk l k → Lk l (shf m k)
  | [], [], _ => trivial
  | x :: l, y :: k, h => ⟨h.1, h.2.1, h.2.2.1, Lk.shf m h.2.2.2⟩
theorem Lk.len : ∀ {l k : List Tk}, Lk l k → l.length = k.length
  | [], [], _ => rfl
  | x :: l, y :: k, h => by rw [List.length_cons, List.length_cons, Lk.len h.2.2.2]
theorem Lk.at_ : ∀ {l k : List Tk}, Lk l k → ∀ (i : Nat) (x y : Tk), l[i]? = some x → k[i]? = some y → x.k = y.k ∧ x.x = y.x ∧ x.n = y.n
  | [], [], _, i, x, y, hx, _ => by simp at hx
  | a :: l, b :: k, h, 0, x, y, hx, hy => by simp at hx hy; subst hx; subst hy; exact ⟨h.1, h.2.1, h.2.2.1⟩
  | a :: l, b :: k, h, i + 1, x, y, hx, hy => Lk.at_ h.2.2.2 i x y (by simpa using hx) (by simpa using hy)
theorem acc_le (s : ByteArray) : ∀ (f i : Nat) (acc : List Tk), (lxF s f i acc).2.2 = 0 → acc.length ≤ (lxF s f i acc).1.length
  | 0, i, acc, _ => Nat.le_refl _
  | f + 1, i, acc, h => by
    rw [lxF] at h ⊢
    split at h
    · rename_i hi
      rw [if_pos hi]
      cases ho : one s i with
      | error z => rw [ho] at h; simp only at h; rcases one_er ho with e | e <;> omega
      | ok r =>
        obtain ⟨k, x, n, e⟩ := r
        rw [ho] at h
        simp only at h ⊢
        by_cases h4 : acc.length = 4096
        · rw [if_pos h4] at h; cases h
        · rw [if_neg h4] at h ⊢
          have := acc_le s f _ _ h
          rw [List.length_append] at this
          simp at this
          omega
    · rename_i hi; rw [if_neg hi]; exact Nat.le_refl _
/-- what a part tells, the whole tells behind what came ahead -/
theorem sub_lx2 {m : Nat} {t u : ByteArray} (h : Sub m t u) : ∀ (f i : Nat) (acc l0 : List Tk), (lxF t f i acc).2.2 = 0 → l0.length + (lxF t f i acc).1.length ≤ 4096 → lxF u f (m + i) (l0 ++ shf m acc) = (l0 ++ shf m (lxF t f i acc).1, 0, 0)
  | 0, i, acc, l0, _, _ => by rw [lxF, lxF]
  | f + 1, i, acc, l0, hz, hb => by
    have hs := h.size
    rcases Nat.lt_or_ge i t.size with hl | hl
    · have e1 : lxF t (f + 1) i acc = (match one t i with
        | .error z => ([], (i : Int), z)
        | .ok (k, x, n, e) => if acc.length = 4096 then ([], (i : Int), 3) else lxF t f (sk t false e) (acc ++ [⟨k, x, n, i⟩]))   := by rw [lxF, if_pos hl]; cases one t i <;> rfl
      rw [lxF, if_pos (show m + i < u.size by omega), sub_one h hl]
      rw [e1] at hz hb ⊢
      cases ho : one t i with
      | error z => rw [ho] at hz; simp only at hz; rcases one_er ho with e | e <;> omega
      | ok r =>
        obtain ⟨k, x, n, e⟩ := r
        rw [ho] at hz hb
        simp only at hz hb ⊢
        have he := one_end hl ho
        by_cases h4 : acc.length = 4096
        · rw [if_pos h4] at hz; cases hz
        · rw [if_neg h4] at hz hb ⊢
          have hal := acc_le t f _ _ hz
          rw [List.length_append] at hal
          simp at hal
          simp only [shft]
          rw [if_neg (show ¬ (l0 ++ shf m acc).length = 4096 by rw [List.length_append, shf_len]; omega), sub_sk h false he.2]
          have := sub_lx2 h f (sk t false e) (acc ++ [⟨k, x, n, i⟩]) l0 hz hb
          rw [shf_app, ← List.append_assoc] at this
          rw [← this]
          simp [shf]
    · rw [lxF_end u _ _ _ (by omega), lxF_end t _ _ _ (by omega)]
theorem sub_self (s : ByteArray) : Sub 0 s s := ⟨Nat.zero_add _, by simp⟩
theorem shf_zero (l : List Tk) : shf 0 l = l := by
  unfold shf
  induction l with
  | nil => rfl
  | cons x l ih => rw [List.map_cons, ih]; simp
/-- a text's tokens from its beginning on, where one begins -/
def Lxs (u : ByteArray) (K : List Tk) : Prop := lxF u u.size 0 [] = (K, 0, 0)
/-- a token, and behind it what a part of the text gives -/
theorem lxs_cons {u R : ByteArray} {m e : Nat} {k : Int} {x : ByteArray} {n : Int} {K : List Tk} (h0 : 0 < u.size) (ho : one u 0 = .ok (k, x, n, e)) (hsk : sk u false e = m) (hs : Sub m R u) (hK : Lxs R K) (hl : K.length + 1 ≤ 4096) : Lxs u (⟨k, x, n, 0⟩ :: shf m K) := by
  unfold Lxs at *
  have hsz := hs.size
  have hend := one_end h0 ho
  have hge := sk_ge u false e
  obtain ⟨f, hf⟩ : ∃ f, u.size = f + 1 := ⟨u.size - 1, by omega⟩
  have e1 : lxF u u.size 0 [] = lxF u f m [⟨k, x, n, 0⟩] := by
    rw [hf, lxF, if_pos h0, ho]
    simp only
    rw [if_neg (by decide), hsk]
    rfl
  have hR : lxF R f 0 [] = (K, 0, 0) := by rw [lxF_fuel R f R.size 0 [] (by omega) (by omega)]; exact hK
  have h2 := sub_lx2 hs f 0 [] [⟨k, x, n, 0⟩] (by rw [hR]) (by rw [hR]; simp; omega)
  rw [hR] at h2
  rw [e1]
  exact h2
/-- the gap behind a token: it ends at j, where a token begins -/
theorem sk_stop2 {u : ByteArray} {i : Nat} (hi : i < u.size) (h1 : bl (bt u i) = false) (h2 : bt u i ≠ 35) : sk u false i = i := by
  have h10 : bt u i ≠ 10 := fun e => by rw [e] at h1; cases h1
  rw [sk_step u false hi, if_neg h10, if_neg (by decide), if_neg h2, h1, if_neg (by decide)]
/-- where a gap ends, a token may begin -/
theorem sk_at {s : ByteArray} : ∀ (f : Nat) (c : Bool) (i : Nat), s.size ≤ i + f → sk s c i < s.size → bl (bt s (sk s c i)) = false ∧ bt s (sk s c i) ≠ 35
  | 0, c, i, hf, hl => by rw [sk_end s c (by omega)] at hl; omega
  | f + 1, c, i, hf, hl => by
    rcases Nat.lt_or_ge i s.size with hi | hi
    · rw [sk_step s c hi] at hl ⊢
      by_cases h10 : bt s i = 10
      · rw [if_pos h10] at hl ⊢; exact sk_at f false (i + 1) (by omega) hl
      · rw [if_neg h10] at hl ⊢
        by_cases hc : c = true
        · rw [if_pos hc] at hl ⊢; exact sk_at f true (i + 1) (by omega) hl
        · rw [if_neg hc] at hl ⊢
          by_cases h35 : bt s i = 35
          · rw [if_pos h35] at hl ⊢; exact sk_at f true (i + 1) (by omega) hl
          · rw [if_neg h35] at hl ⊢
            cases hb : bl (bt s i) with
            | true => rw [hb, if_pos rfl] at hl; rw [if_pos rfl]; exact sk_at f false (i + 1) (by omega) hl
            | false => rw [if_neg (by decide)]; exact ⟨hb, h35⟩
    · rw [sk_end s c (by omega)] at hl; omega
/-- a gap of s from a to j, as it stands in another text, and goes on there -/
theorem sk_move {s u : ByteArray} {d j : Nat} (hd : d ≤ j) (hj : j < s.size) (hju : j - d ≤ u.size) (heq : ∀ a, d + a < j → bt u a = bt s (d + a)) : ∀ (f : Nat) (c : Bool) (a : Nat), d + a ≤ j → j ≤ d + a + f → sk s c (d + a) = j → sk u c a = sk u false (j - d)
  | 0, c, a, h1, h2, h3 => by
    obtain rfl : a = j - d := by omega
    cases c with
    | false => rfl
    | true =>
      exfalso
      rw [show d + (j - d) = j by omega, sk_step s true hj] at h3
      split at h3
      · have := sk_ge s false (j + 1); omega
      · rw [if_pos rfl] at h3; have := sk_ge s true (j + 1); omega
  | f + 1, c, a, h1, h2, h3 => by
    rcases Nat.lt_or_ge (d + a) j with hl | hl
    · have hb := heq a hl
      rw [sk_step s c (by omega)] at h3
      rw [sk_step u c (by omega), hb]
      have e : d + a + 1 = d + (a + 1) := rfl
      rw [e] at h3
      by_cases h10 : bt s (d + a) = 10
      · rw [if_pos h10] at h3 ⊢; exact sk_move hd hj hju heq f false (a + 1) (by omega) (by omega) h3
      · rw [if_neg h10] at h3 ⊢
        by_cases hc : c = true
        · rw [if_pos hc] at h3 ⊢; exact sk_move hd hj hju heq f true (a + 1) (by omega) (by omega) h3
        · rw [if_neg hc] at h3 ⊢
          by_cases h35 : bt s (d + a) = 35
          · rw [if_pos h35] at h3 ⊢; exact sk_move hd hj hju heq f true (a + 1) (by omega) (by omega) h3
          · rw [if_neg h35] at h3 ⊢
            cases hbl : bl (bt s (d + a)) with
            | true => rw [hbl, if_pos rfl] at h3; rw [if_pos rfl]; exact sk_move hd hj hju heq f false (a + 1) (by omega) (by omega) h3
            | false => rw [hbl, if_neg (by decide)] at h3; omega
    · obtain rfl : a = j - d := by omega
      cases c with
      | false => rfl
      | true =>
        exfalso
        rw [show d + (j - d) = j by omega, sk_step s true hj] at h3
        split at h3
        · have := sk_ge s false (j + 1); omega
        · rw [if_pos rfl] at h3; have := sk_ge s true (j + 1); omega
/-- blanks are gone by -/
theorem sk_bls {u : ByteArray} : ∀ (n i : Nat), i + n ≤ u.size → (∀ a, i ≤ a → a < i + n → bl (bt u a) = true) → sk u false i = sk u false (i + n)
  | 0, i, _, _ => rfl
  | n + 1, i, h, hb => by
    have hbi := hb i (Nat.le_refl _) (by omega)
    have e : sk u false i = sk u false (i + 1) := by
      rw [sk_step u false (by omega), if_neg (by decide : ¬ false = true)]
      split
      · rfl
      · have h35 : bt u i ≠ 35 := fun e => by rw [e] at hbi; cases hbi
        first | (rw [if_neg h35, if_pos hbi]; done) | rw [if_neg h35]
    rw [e, sk_bls n (i + 1) (by omega) (fun a h1 h2 => hb a (by omega) (by omega)), show i + (n + 1) = i + 1 + n by omega]
end Lx
end Go.Proofs.YtagoajoaojakhaaDoor
