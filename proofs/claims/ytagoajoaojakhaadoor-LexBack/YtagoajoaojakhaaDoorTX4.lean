/- Tokens as a text: the program's Text. -/
import Derived.Test.YtagoajoaojakhaaDoorTX3
namespace Go.Proofs.YtagoajoaojakhaaDoor
open Go.RowKit Lx
set_option linter.unusedVariables false
theorem IsB.on {B b : Nat} {l : List UInt8} {w w' : World} (h : IsB B b l w) (hb : Below w.heap.size w w') : IsB B b l w' := by
  have key : ∀ {p : Value}, Lib.BuilderAt 39 5 B b p (Lib.byteCells l) w → Lib.BuilderAt 39 5 B b p (Lib.byteCells l) w' := by
    rintro p ⟨hB, v, hbk, hown, hne⟩
    refine ⟨hB, v, by rw [hb.block b (Array.getElem?_eq_some_iff.1 hbk).1]; exact hbk, ⟨hown.1, ?_⟩, hne⟩
    rcases hown.2 with h2 | ⟨g, cap, cur, h1, h2, hg, h3⟩
    · exact .inl h2
    · exact .inr ⟨g, cap, cur, h1, h2, by rw [hb.block g (Array.getElem?_eq_some_iff.1 hg).1]; exact hg, h3⟩
  exact h.elim (fun x => .inl (key x)) (fun x => .inr (key x))
namespace Lx
def gdK (t : Tk) : Bool := gdT t.k t.x t.n
def spK (t : Tk) : ByteArray := spl t.k t.x t.n
/-- tokens' words with a blank between two -/
def jnL : List Tk → List UInt8
  | [] => []
  | t :: l => (spK t).data.toList ++ l.flatMap fun u => 32 :: (spK u).data.toList
theorem jn_snoc (t : Tk) : ∀ (l : List Tk), jnL (l ++ [t]) = if l.length = 0 then (spK t).data.toList else jnL l ++ [32] ++ (spK t).data.toList
  | [] => by simp [jnL]
  | u :: l => by
    rw [if_neg (by simp), List.cons_append, jnL, jnL, List.flatMap_append]
    simp
theorem wd_size {s : ByteArray} {b : Bool} (h : wd s b = true) : s.size ≤ 32 := (wd_true.1 h).2.1
theorem itx_size {n : Int} (h : isIn n = true) : (itx n).size ≤ 33 := by
  unfold isIn at h
  rw [Bool.and_eq_true, decide_eq_true_eq, decide_eq_true_eq] at h
  unfold itx
  rw [size_list]
  by_cases hn : n < 0
  · rw [itx_neg hn, List.length_cons]
    have := dd_len 9 n.natAbs (by omega)
    omega
  · rw [itx_pos hn]
    have := dd_len 9 n.toNat (by omega)
    omega
theorem amg_le {s : ByteArray} {m : Nat} : ∀ {l : List ByteArray}, (∀ x ∈ l, x.size ≤ m) → amg s l = true → s.size ≤ m := fun hl h => hl s (amg_mm h)
theorem key_size {s : ByteArray} (h : amg s keys = true) : s.size ≤ 33 := amg_le (by intro x hx; simp only [keys, List.mem_cons, List.not_mem_nil, or_false] at hx; rcases hx with rfl | rfl | rfl | rfl | rfl | rfl | rfl | rfl | rfl | rfl | rfl | rfl <;> decide) h
theorem sign_size {s : ByteArray} (h : amg s signs = true) : s.size ≤ 33 := amg_le (by intro x hx; simp only [signs, sgn2, sgn1, List.cons_append, List.nil_append, List.mem_cons, List.not_mem_nil, or_false] at hx; rcases hx with rfl | rfl | rfl | rfl | rfl | rfl | rfl | rfl | rfl | rfl | rfl | rfl | rfl | rfl <;> decide) h
theorem spl_size {k : Int} {x : ByteArray} {n : Int} (h : gdT k x n = true) : (spl k x n).size ≤ 33 := by
  unfold gdT at h
  unfold spl
  split at h
  · cases h
  · split at h
    · rename_i hk; subst hk
      rw [Bool.and_eq_true] at h
      have := wd_size h.1
      rw [if_neg (by decide), if_neg (by decide)]; omega
    · split at h
      · rename_i hk; subst hk
        have := wd_size h
        rw [if_neg (by decide), if_neg (by decide)]; omega
      · split at h
        · rename_i hk; subst hk
          have := wd_size h
          rw [if_pos rfl, size_quote]; omega
        · split at h
          · rename_i hk; subst hk
            rw [Bool.and_eq_true] at h
            rw [if_neg (by decide), if_pos rfl]; exact itx_size h.2
          · split at h
            · rename_i hk; subst hk
              rw [if_neg (by decide), if_neg (by decide)]; exact key_size h
            · split at h
              · rename_i hk; subst hk
                rw [if_neg (by decide), if_neg (by decide)]; exact sign_size h
              · cases h
theorem ls_size (s : ByteArray) : s.data.toList.length = s.size := by rw [Array.length_toList]; rfl
theorem fm_len : ∀ (l : List Tk), (∀ t ∈ l, gdK t = true) → (l.flatMap fun u => 32 :: (spK u).data.toList).length ≤ 34 * l.length
  | [], _ => by simp
  | t :: l, h => by
    rw [List.flatMap_cons, List.length_append, List.length_cons, List.length_cons, ls_size]
    have h1 : (spK t).size ≤ 33 := spl_size (h t (List.mem_cons_self ..))
    have h2 := fm_len l fun u hu => h u (List.mem_cons_of_mem _ hu)
    omega
theorem jn_len (l : List Tk) (h : ∀ t ∈ l, gdK t = true) : (jnL l).length ≤ 34 * l.length := by
  cases l with
  | nil => simp [jnL]
  | cons t l =>
    rw [jnL, List.length_append, ls_size, List.length_cons]
    have h1 : (spK t).size ≤ 33 := spl_size (h t (List.mem_cons_self ..))
    have h2 := fm_len l fun u hu => h u (List.mem_cons_of_mem _ hu)
    omega
def txt (l : List Tk) : ByteArray × Int :=
  if 4096 < l.length then (⟨#[]⟩, 3) else if l.all gdK = false then (⟨#[]⟩, 1) else if 8192 < (jnL l).length then (⟨#[]⟩, 2) else (⟨(jnL l).toArray⟩, 0)
theorem txt_bad {l : List Tk} (h4 : ¬ 4096 < l.length) {i : Nat} {t : Tk} (h : l[i]? = some t) (hb : gdK t = false) : txt l = (⟨#[]⟩, 1) := by
  unfold txt
  rw [if_neg h4, if_pos]
  rw [List.all_eq_false]
  exact ⟨t, List.mem_of_getElem? h, by rw [hb]; simp⟩
theorem txt_ok {l : List Tk} (h4 : ¬ 4096 < l.length) (h : ∀ t ∈ l, gdK t = true) : txt l = if 8192 < (jnL l).length then (⟨#[]⟩, 2) else (⟨(jnL l).toArray⟩, 0) := by
  unfold txt
  rw [if_neg h4, if_neg]
  intro e
  rw [List.all_eq_true.2 h] at e; cases e
def TxO (w : World) (R : ByteArray × Int) (e : Ending) (w' : World) : Prop := e = .returned (.tuple #[.string R.1, .int .i64 R.2]) ∧ Below w.heap.size w w'
theorem taken {l : List Tk} {k : Nat} (h : ∀ t ∈ l.take k, gdK t = true) {t : Tk} (ht : l[k]? = some t) (hg : gdK t = true) : ∀ u ∈ l.take (k + 1), gdK u = true := by
  rw [List.take_add_one, ht]
  intro u hu
  rcases List.mem_append.1 hu with hu | hu
  · exact h u hu
  · simp at hu; subst hu; exact hg
theorem jn_take {l : List Tk} {k : Nat} {t : Tk} (ht : l[k]? = some t) : jnL (l.take (k + 1)) = if k = 0 then (spK t).data.toList else jnL (l.take k) ++ [32] ++ (spK t).data.toList := by
  rw [List.take_add_one, ht]
  have hk : k < l.length := (List.getElem?_eq_some_iff.1 ht).1
  have : (l.take k ++ (some t).toList) = l.take k ++ [t] := rfl
  rw [this, jn_snoc, List.length_take, Nat.min_eq_left (by omega)]
end Lx
end Go.Proofs.YtagoajoaojakhaaDoor
