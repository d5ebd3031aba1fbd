/- Tokens: two texts with a line's end between. -/
import Derived.Test.YtppjjbpiefkjlaaDoorA1
namespace Go.Proofs.YtppjjbpiefkjlaaDoor
open Go.RowKit
set_option linter.unusedVariables false
namespace Lx
theorem amg_mem (y : ByteArray) : ∀ l : List ByteArray, amg y l = true → y ∈ l
  | [], x => by cases x
  | z :: l, x => by
    rw [amg] at x
    split at x
    · rename_i e; rw [e]; exact List.mem_cons_self ..
    · exact List.mem_cons_of_mem _ (amg_mem y l x)
theorem no10 : ∀ y ∈ signs, bt y 1 ≠ 10 := fun y hy => by
  have h : signs.all (fun y => bt y 1 != 10) = true := by decide
  simpa using List.all_eq_true.1 h y hy
theorem bt_ext (u : ByteArray) (i j k : Nat) (h1 : i + k < j) (h2 : j ≤ u.size) : bt (u.extract i j) k = bt u (i + k) := by
  unfold bt
  rw [dif_pos (by rw [ByteArray.size_extract]; omega), dif_pos (by omega)]
  simp [ByteArray.getElem_extract]
/-- a text that goes on as another, up to where that ends, with a line's end there -/
structure Ext (s u : ByteArray) : Prop where
  lt : s.size < u.size
  eq_ : ∀ i, i < s.size → bt u i = bt s i
  nl : bt u s.size = 10
  ex : ∀ i j, j ≤ s.size → u.extract i j = s.extract i j
section
variable {s u : ByteArray} (h : Ext s u)
theorem xEn (h : Ext s u) (p : Int → Bool) (hp : p 10 = false) {i : Nat} (hi : i ≤ s.size) : en u p i = en s p i := by
  have h0 := en_ge s p i
  have h1 := en_le s p hi
  refine en_eq u p h0 (by have := h.lt; omega) (fun j hj hj' => ?_) (fun hl => ?_)
  · rw [h.eq_ j (by omega)]; exact en_all s p hj hj'
  · rcases Nat.lt_or_ge (en s p i) s.size with hl2 | hl2
    · rw [h.eq_ _ hl2]; exact en_not s p hl2
    · rw [show en s p i = s.size by omega, h.nl]; exact hp
theorem xVl (h : Ext s u) : ∀ (k i : Nat) (n : Int), i + k ≤ s.size → vlF u k i n = vlF s k i n
  | 0, _, _, _ => rfl
  | k + 1, i, n, hk => by rw [vlF, vlF, h.eq_ i (by omega), xVl h k (i + 1) _ (by omega)]
theorem xNum (h : Ext s u) {a f : Nat} (hf : f ≤ s.size) : num u a f = num s a f := by
  have he := xEn h dg rfl hf
  have h0 := en_ge s dg f
  have h1 := en_le s dg hf
  unfold num
  rw [he]
  by_cases hz : en s dg f = f
  · rw [if_pos (.inl hz), if_pos (.inl hz)]
  · rw [h.eq_ f (by omega), xVl h _ f 0 (by omega)]
theorem xOne (h : Ext s u) {i : Nat} (hi : i < s.size) : one u i = one s i := by
  have he := xEn h pt rfl (Nat.le_of_lt hi)
  have hl := en_le s pt (Nat.le_of_lt hi)
  have hl1 := en_le s pt (show i + 1 ≤ s.size by omega)
  have he1 := xEn h pt rfl (show i + 1 ≤ s.size by omega)
  have hb := h.eq_ i hi
  have hlt := h.lt
  unfold one
  rw [hb, he, he1, h.ex i _ hl, h.ex (i + 1) _ hl1]
  by_cases c1 : sm (bt s i) = true ∨ cp (bt s i) = true
  · rw [if_pos c1, if_pos c1]
  · rw [if_neg c1, if_neg c1]
    by_cases c2 : bt s i = 39
    · rw [if_pos c2, if_pos c2]
      by_cases c3 : i + 1 = s.size
      · have c4 : sm (bt u (i + 1)) = false := by rw [c3, h.nl]; rfl
        rw [if_pos (.inr c4), if_pos (.inl c3)]
      · rw [h.eq_ (i + 1) (by omega)]
        by_cases c4 : sm (bt s (i + 1)) = false
        · rw [if_pos (.inr c4), if_pos (.inr c4)]
        · have n1 : ¬ (i + 1 = u.size ∨ sm (bt s (i + 1)) = false) := by rintro (x | x); omega; exact c4 x
          have n2 : ¬ (i + 1 = s.size ∨ sm (bt s (i + 1)) = false) := by rintro (x | x); omega; exact c4 x
          rw [if_neg n1, if_neg n2]
    · rw [if_neg c2, if_neg c2]
      by_cases c3 : bt s i = 126 ∨ dg (bt s i) = true
      · rw [if_pos c3, if_pos c3]
        rw [xNum h (show (if bt s i = 126 then i + 1 else i) ≤ s.size by split <;> omega)]
      · rw [if_neg c3, if_neg c3]
        have e1 := h.ex i (i + 1) (by omega)
        by_cases c4 : i + 2 ≤ s.size
        · rw [h.ex i (i + 2) c4, e1]
          have a1 : (i + 2 ≤ u.size) = True := eq_true (by omega)
          have a2 : (i + 2 ≤ s.size) = True := eq_true c4
          have a3 : (i + 1 ≤ u.size) = True := eq_true (by omega)
          have a4 : (i + 1 ≤ s.size) = True := eq_true (by omega)
          simp only [a1, a2, a3, a4, true_and]
        · have a3 : (i + 1 ≤ u.size) = True := eq_true (by omega)
          have a4 : (i + 1 ≤ s.size) = True := eq_true (by omega)
          have no : ¬ (i + 2 ≤ u.size ∧ amg (u.extract i (i + 2)) signs = true) := fun x => by
            have hb : bt (u.extract i (i + 2)) 1 = 10 := by
              rw [bt_ext u i (i + 2) 1 (by omega) x.1, show i + 1 = s.size by omega, h.nl]
            exact no10 _ (amg_mem _ _ x.2) hb
          have n2 : ¬ (i + 2 ≤ s.size ∧ amg (s.extract i (i + 2)) signs = true) := fun x => c4 x.1
          rw [if_neg no, if_neg n2, e1]
          simp only [a3, a4, true_and]
theorem xSk (h : Ext s u) : ∀ (f : Nat) (c : Bool) (i : Nat), i ≤ s.size → s.size ≤ i + f → sk u c i = if sk s c i < s.size then sk s c i else sk u false (s.size + 1)
  | 0, c, i, hi, hf => by
    obtain rfl : i = s.size := by omega
    rw [sk_end s c (Nat.lt_irrefl _), if_neg (Nat.lt_irrefl _), sk_step u c h.lt, if_pos h.nl]
  | f + 1, c, i, hi, hf => by
    rcases Nat.lt_or_ge i s.size with hl | hl
    · have h1 := fun c => xSk h f c (i + 1) (by omega) (by omega)
      rw [sk_step u c (by have := h.lt; omega), h.eq_ i hl, sk_step s c hl]
      split
      · exact h1 false
      · split
        · exact h1 true
        · split
          · exact h1 true
          · split
            · exact h1 false
            · first | rfl | rw [if_pos hl]
    · obtain rfl : i = s.size := by omega
      rw [sk_end s c (Nat.lt_irrefl _), if_neg (Nat.lt_irrefl _), sk_step u c h.lt, if_pos h.nl]
end
end Lx
end Go.Proofs.YtppjjbpiefkjlaaDoor
