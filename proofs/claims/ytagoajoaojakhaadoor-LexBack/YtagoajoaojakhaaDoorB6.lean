/- Tokens: one token, whatever stands behind it; tokens of a text that goes on. -/
import Derived.Test.YtagoajoaojakhaaDoorB5
namespace Go.Proofs.YtagoajoaojakhaaDoor
open Go.RowKit
set_option linter.unusedVariables false
namespace Lx
theorem bytes_ext {x y : ByteArray} (hs : x.size = y.size) (hb : ∀ k, k < x.size → bt x k = bt y k) : x = y := by
  apply ByteArray.ext
  apply Array.ext
  · exact hs
  · intro k h1 h2
    have h := hb k h1
    unfold bt at h
    rw [dif_pos (show k < x.size from h1), dif_pos (show k < y.size from h2)] at h
    have h' : (x[k]'h1).toNat = (y[k]'h2).toNat := by omega
    exact UInt8.toNat.inj h'
theorem no_bl : ∀ y ∈ signs, bl (bt y 1) = false := fun y hy => by
  have h : signs.all (fun y => !bl (bt y 1)) = true := by decide
  simpa using List.all_eq_true.1 h y hy
section
variable {s u : ByteArray} {i e : Nat} (h : Loc s u i e)
theorem loc_one (h : Loc s u i e) {k : Int} {x : ByteArray} {n : Int} (hi : i < s.size) (ho : one s i = .ok (k, x, n, e)) : one u 0 = .ok (k, x, n, e - i) := by
  have hend := one_end hi ho
  have hb0 : bt u 0 = bt s i := h.eq_ 0 (by omega)
  have heu := h.eu
  unfold one at ho ⊢
  rw [hb0]
  by_cases c1 : sm (bt s i) = true ∨ cp (bt s i) = true
  · rw [if_pos c1] at ho ⊢
    split at ho
    · cases ho
    · rename_i h32
      injection ho with ho
      injection ho with e1 ho; injection ho with e2 ho; injection ho with e3 e4
      have hen := loc_en h pt (fun c => pt_bl) (f := 0) (by omega) e4
      rw [hen, h.ex 0 (e - i) (by omega), show i + (e - i) = e by omega, Nat.add_zero]
      rw [e4] at e1 e2 h32
      rw [if_neg (show ¬ 32 < e - i - 0 by omega), e1, e2, e3]
  · rw [if_neg c1] at ho ⊢
    by_cases c2 : bt s i = 39
    · rw [if_pos c2] at ho ⊢
      split at ho
      · cases ho
      · rename_i hn
        split at ho
        · cases ho
        · rename_i h32
          injection ho with ho
          injection ho with e1 ho; injection ho with e2 ho; injection ho with e3 e4
          have hsm : sm (bt s (i + 1)) = true := by cases x : sm (bt s (i + 1)); exact absurd (.inr x) hn; rfl
          have hne : i + 1 ≠ s.size := fun x => hn (.inl x)
          have hge : i + 2 ≤ e := by
            have h1 := en_ge s pt (i + 1 + 1)
            rw [← en_on s pt (by omega) (pt_sm hsm), e4] at h1
            omega
          have hb1 : bt u (0 + 1) = bt s (i + 1) := h.eq_ 1 (by omega)
          have hen := loc_en h pt (fun c => pt_bl) (f := 1) (by omega) e4
          have n1 : ¬ (0 + 1 = u.size ∨ sm (bt u (0 + 1)) = false) := by rw [hb1, hsm]; rintro (x | x); omega; cases x
          rw [if_neg n1, Nat.zero_add, hen, h.ex 1 (e - i) (by omega), show i + (e - i) = e by omega]
          rw [e4] at e2 h32
          rw [if_neg (show ¬ 32 < e - i - 1 by omega), e2, e3, ← e1]
    · rw [if_neg c2] at ho ⊢
      by_cases c3 : bt s i = 126 ∨ dg (bt s i) = true
      · rw [if_pos c3] at ho ⊢
        obtain ⟨f, hf⟩ : ∃ f, (if bt s i = 126 then 0 + 1 else 0) = f := ⟨_, rfl⟩
        have hf1 : (if bt s i = 126 then i + 1 else i) = i + f := by rw [← hf]; split <;> omega
        rw [hf]
        rw [hf1] at ho
        cases hnum : num s i (i + f) with
        | none => rw [hnum] at ho; cases ho
        | some r =>
          obtain ⟨n', e'⟩ := r
          rw [hnum] at ho
          injection ho with ho
          injection ho with e1 ho; injection ho with e2 ho; injection ho with e3 e4
          subst e4
          have hfe : i + f ≤ e' := by have := (num_end (s := s) (a := i) (f := i + f) (by rw [← hf]; split <;> omega) hnum).1; omega
          rw [loc_num h hfe hnum, ← e1, ← e2, ← e3]
      · rw [if_neg c3] at ho ⊢
        by_cases c4 : i + 2 ≤ s.size ∧ amg (s.extract i (i + 2)) signs = true
        · rw [if_pos c4] at ho
          injection ho with ho
          injection ho with e1 ho; injection ho with e2 ho; injection ho with e3 e4
          have hx := h.ex 0 2 (by omega)
          rw [Nat.add_zero] at hx
          have c5 : 0 + 2 ≤ u.size ∧ amg (u.extract 0 (0 + 2)) signs = true := ⟨by omega, by rw [Nat.zero_add, hx]; exact c4.2⟩
          rw [if_pos c5, Nat.zero_add, hx, e2, ← e1, ← e3, show e - i = 2 by omega]
        · rw [if_neg c4] at ho
          split at ho
          · rename_i c5
            injection ho with ho
            injection ho with e1 ho; injection ho with e2 ho; injection ho with e3 e4
            have hx := h.ex 0 1 (by omega)
            rw [Nat.add_zero] at hx
            have n5 : ¬ (0 + 2 ≤ u.size ∧ amg (u.extract 0 (0 + 2)) signs = true) := fun y => by
              have hm := amg_mem _ _ y.2
              have hy1 : 2 ≤ u.size := y.1
              have hb1 : bt (u.extract 0 (0 + 2)) 1 = bt u 1 := by rw [bt_ext u 0 (0 + 2) 1 (by omega) y.1, Nat.zero_add]
              rcases h.beh with hb | ⟨h1, h2⟩ | h3
              · omega
              · rw [show e - i = 1 by omega] at h2
                refine c4 ⟨by omega, ?_⟩
                have he2 : u.extract 0 (0 + 2) = s.extract i (i + 2) := by
                  refine bytes_ext (by rw [ByteArray.size_extract, ByteArray.size_extract]; omega) fun k hk => ?_
                  rw [ByteArray.size_extract] at hk
                  rw [bt_ext u 0 (0 + 2) k (by omega) y.1, bt_ext s i (i + 2) k (by omega) (by omega), Nat.zero_add]
                  rcases (show k = 0 ∨ k = 1 by omega) with rfl | rfl
                  · rw [hb0]; rfl
                  · rw [h2, ← e4]
                rw [← he2]; exact y.2
              · rw [show e - i = 1 by omega, ← hb1, no_bl _ hm] at h3
                cases h3
            have c6 : 0 + 1 ≤ u.size ∧ amg (u.extract 0 (0 + 1)) signs = true := ⟨by omega, by rw [Nat.zero_add, hx]; exact c5.2⟩
            rw [if_neg n5, if_pos c6, Nat.zero_add, hx, e2, ← e1, ← e3, show e - i = 1 by omega]
          · cases ho
end
end Lx
end Go.Proofs.YtagoajoaojakhaaDoor
