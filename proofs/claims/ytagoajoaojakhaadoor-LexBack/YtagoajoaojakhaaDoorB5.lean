/- Tokens: blanks put ahead of them: one token, whatever stands behind it. -/
import Derived.Test.YtagoajoaojakhaaDoorB2
namespace Go.Proofs.YtagoajoaojakhaaDoor
open Go.RowKit
set_option linter.unusedVariables false
namespace Lx
/-- a text u that is, from its beginning on, the same as s from i on, up to e; behind it: its end, the same byte, or a blank -/
structure Loc (s u : ByteArray) (i e : Nat) : Prop where
  le : i ≤ e
  es : e ≤ s.size
  eu : e - i ≤ u.size
  eq_ : ∀ a, i + a < e → bt u a = bt s (i + a)
  ex : ∀ a b, i + b ≤ e → u.extract a b = s.extract (i + a) (i + b)
  beh : e - i = u.size ∨ (e < s.size ∧ bt u (e - i) = bt s e) ∨ bl (bt u (e - i)) = true
theorem bl_cases {c : Int} (h : bl c = true) : c = 9 ∨ c = 10 ∨ c = 13 ∨ c = 32 := by
  unfold bl at h
  simp only [Bool.or_eq_true, beq_iff_eq] at h
  omega
theorem pt_bl {c : Int} (h : bl c = true) : pt c = false := by
  rcases bl_cases h with rfl | rfl | rfl | rfl <;> rfl
theorem dg_bl {c : Int} (h : bl c = true) : dg c = false := by
  rcases bl_cases h with rfl | rfl | rfl | rfl <;> rfl
theorem sm_bl {c : Int} (h : bl c = true) : sm c = false := by
  rcases bl_cases h with rfl | rfl | rfl | rfl <;> rfl
section
variable {s u : ByteArray} {i e : Nat} (h : Loc s u i e)
theorem loc_en (h : Loc s u i e) (p : Int → Bool) (hb : ∀ c, bl c = true → p c = false) {f : Nat} (hf : i + f ≤ e) (he : en s p (i + f) = e) : en u p f = e - i := by
  have hle := h.le
  refine en_eq u p (by omega) h.eu (fun j hj hj' => ?_) (fun hl => ?_)
  · rw [h.eq_ j (by omega)]; exact en_all s p (i := i + f) (by omega) (by omega)
  · rcases h.beh with hb' | ⟨h1, h2⟩ | h3
    · omega
    · rw [h2, ← he]; exact en_not s p (by omega)
    · exact hb _ h3
theorem loc_vl (h : Loc s u i e) : ∀ (k f : Nat) (n : Int), i + f + k ≤ e → vlF u k f n = vlF s k (i + f) n
  | 0, _, _, _ => rfl
  | k + 1, f, n, hk => by rw [vlF, vlF, h.eq_ f (by omega), loc_vl h k (f + 1) _ (by omega), Nat.add_assoc]
theorem loc_num (h : Loc s u i e) {f : Nat} {n : Int} (hf : i + f ≤ e) (hn : num s i (i + f) = some (n, e)) : num u 0 f = some (n, e - i) := by
  have hle := h.le
  have he : en s dg (i + f) = e := by
    unfold num at hn
    obtain ⟨V, hV⟩ : ∃ V, (if i < i + f then -vlF s (en s dg (i + f) - (i + f)) (i + f) 0 else vlF s (en s dg (i + f) - (i + f)) (i + f) 0) = V := ⟨_, rfl⟩
    rw [hV] at hn
    split at hn
    · cases hn
    · split at hn
      · injection hn with hn; injection hn
      · cases hn
  have heu := loc_en h dg (fun c => dg_bl) hf he
  unfold num at hn ⊢
  rw [he] at hn
  rw [heu]
  have hvl := loc_vl h (e - (i + f)) f 0 (by omega)
  have hk : e - i - f = e - (i + f) := by omega
  rw [hk, hvl]
  by_cases hz : e = i + f
  · rw [if_pos (.inl hz)] at hn; cases hn
  · have hbt : bt u f = bt s (i + f) := h.eq_ f (by omega)
    rw [hbt]
    have hsg : (if 0 < f then -vlF s (e - (i + f)) (i + f) 0 else vlF s (e - (i + f)) (i + f) 0) = (if i < i + f then -vlF s (e - (i + f)) (i + f) 0 else vlF s (e - (i + f)) (i + f) 0) := by
      by_cases h0 : 0 < f
      · rw [if_pos h0, if_pos (by omega)]
      · rw [if_neg h0, if_neg (by omega)]
    rw [hsg]
    obtain ⟨V, hV⟩ : ∃ V, (if i < i + f then -vlF s (e - (i + f)) (i + f) 0 else vlF s (e - (i + f)) (i + f) 0) = V := ⟨_, rfl⟩
    rw [hV] at hn ⊢
    by_cases hc : e = i + f ∨ (1 < e - (i + f) ∧ bt s (i + f) = 48) ∨ 10 < e - (i + f)
    · rw [if_pos hc] at hn; cases hn
    · rw [if_neg hc] at hn
      have hc' : ¬ (e - i = f ∨ (1 < e - (i + f) ∧ bt s (i + f) = 48) ∨ 10 < e - (i + f)) := fun x => hc (by rcases x with x | x | x; exact .inl (by omega); exact .inr (.inl x); exact .inr (.inr x))
      rw [if_neg hc']
      split at hn
      · rename_i hi
        rw [if_pos hi]
        injection hn with hn
        injection hn with h1 h2
        rw [h1]
      · cases hn
end
end Lx
end Go.Proofs.YtagoajoaojakhaaDoor
