/- Tokens: lists of them, as they lie; the document's Lex. -/
import Derived.Test.YtagoajoaojakhaaDoorA9
import Derived.Laws.AppendOwn
import Derived.OwnWalk
namespace Go.Proofs.YtagoajoaojakhaaDoor
open Go.RowKit Lx
set_option linter.unusedVariables false
namespace Lx
def cs4 (t : Tk) : List Value := [.int .i64 t.k, .string t.x, .int .i64 t.n, .int .i64 t.a]
def flat : List Tk → List Value
  | [] => []
  | t :: l => cs4 t ++ flat l
theorem flat_app : ∀ (l m : List Tk), flat (l ++ m) = flat l ++ flat m
  | [], m => rfl
  | t :: l, m => by rw [List.cons_append, flat, flat, flat_app l m, List.append_assoc]
theorem flat_len : ∀ (l : List Tk), (flat l).length = l.length * 4
  | [] => rfl
  | t :: l => by rw [flat, List.length_append, flat_len l, List.length_cons]; show 4 + _ = _; omega
theorem flat_at : ∀ (l : List Tk) (i : Nat) (t : Tk), l[i]? = some t → ∀ j, j < 4 → (flat l)[i * 4 + j]? = (cs4 t)[j]?
  | [], i, t, h, _, _ => by simp at h
  | x :: l, 0, t, h, j, hj => by
    simp at h
    subst h
    rw [flat, Nat.zero_mul, Nat.zero_add, List.getElem?_append_left (show j < (cs4 x).length from hj)]
  | x :: l, i + 1, t, h, j, hj => by
    have h' : l[i]? = some t := by simpa using h
    rw [flat, List.getElem?_append_right (show (cs4 x).length ≤ (i + 1) * 4 + j by show 4 ≤ _; omega), show (i + 1) * 4 + j - (cs4 x).length = i * 4 + j by show (i + 1) * 4 + j - 4 = _; omega]
    exact flat_at l i t h' j hj
/-- tokens as they lie -/
def TkAt (w : World) (v : Value) (l : List Tk) : Prop :=
  (v = .slice none 0 0 ∧ l = []) ∨ ∃ g c, v = .slice (some ⟨g, 0, none⟩) l.length c ∧ ∀ i t, l[i]? = some t → ∀ j u, (cs4 t)[j]? = some u → w.cell? ⟨g, i * 4 + j, none⟩ = some u
theorem TkAt.nil (w : World) : TkAt w (.slice none 0 0) [] := .inl ⟨rfl, rfl⟩
theorem TkAt.on {w w' : World} {v : Value} {l : List Tk} (h : TkAt w v l) (hb : Below w.heap.size w w') : TkAt w' v l := by
  rcases h with h | ⟨g, c, h1, h2⟩
  · exact .inl h
  · refine .inr ⟨g, c, h1, fun i t hi j u hj => ?_⟩
    have hc := h2 i t hi j u hj
    have hlt : g < w.heap.size := by
      unfold World.cell? at hc
      rcases Nat.lt_or_ge g w.heap.size with hl | hl
      · exact hl
      · rw [Array.getElem?_eq_none hl] at hc; cases hc
    unfold World.cell? at hc ⊢
    rw [hb.block g hlt]
    exact hc
theorem tkAt_own {w : World} {B : Nat} {e : TypeId} {v : Value} {l : List Tk} (h : w.ownsRow B e 4 v l.length (flat l)) : TkAt w v l := by
  rcases h.2 with ⟨h1, h2⟩ | ⟨g, cap, cur, rfl, _, hg, _, _, hs, ht⟩
  · exact .inl ⟨h1, List.eq_nil_of_length_eq_zero h2⟩
  · refine .inr ⟨g, cap, rfl, fun i t hi j u hj => ?_⟩
    have h4 : j < 4 := (List.getElem?_eq_some_iff.1 hj).1
    have hf := (flat_at l i t hi j h4).trans hj
    have hc := h.cells (g := g) rfl _ _ hf
    rw [Addr.add_mid, Nat.zero_add] at hc
    exact hc
theorem own_on {w w' : World} {B : Nat} {e : TypeId} {n : Nat} {v : Value} {xs : List Value} (h : w.ownsRow B e 4 v n xs) (hb : Below w.heap.size w w') : w'.ownsRow B e 4 v n xs := by
  refine ⟨h.1, ?_⟩
  rcases h.2 with h2 | ⟨g, cap, cur, h1, h2, hg, h3⟩
  · exact .inl h2
  · exact .inr ⟨g, cap, cur, h1, h2, by rw [hb.block g (Array.getElem?_eq_some_iff.1 hg).1]; exact hg, h3⟩
theorem infoTk : (Tryd.prog.info? 25).map (fun i => (i.zero, i.size, i.bytes)) = some (some (.agg #[.int .i64 0, .string ⟨#[]⟩, .int .i64 0, .int .i64 0]), 4, 40) := by kernel_rfl
theorem one_err {s : ByteArray} {i : Nat} {z : Int} (h : one s i = .error z) : z = 2 ∨ z = 110 := by
  unfold one at h
  repeat' split at h
  all_goals first | (injection h with h; omega) | cases h
theorem new4 (w : World) (a0 a1 a2 a3 : Value) (t : TypeId) : ∀ j u, [a0, a1, a2, a3][j]? = some u → (w.alloc (.cells #[a0, a1, a2, a3] t)).cell? ((⟨w.heap.size, 0, none⟩ : Addr).add j) = some u := fun j u h => by
  rw [Addr.add_mid, Nat.zero_add, World.cell?_alloc_at _ t _ _ rfl]
  simpa using h
theorem new4' (w : World) (g : Nat) (hg : g = w.heap.size) (a0 a1 a2 a3 : Value) (t : TypeId) : ∀ j u, [a0, a1, a2, a3][j]? = some u → (w.alloc (.cells #[a0, a1, a2, a3] t)).cell? ((⟨g, 0, none⟩ : Addr).add j) = some u := by
  subst hg; exact new4 w a0 a1 a2 a3 t
theorem one4 (k : Int) (x : ByteArray) (n i : Int) : ∀ u ∈ [Value.int .i64 k, .string x, .int .i64 n, .int .i64 i], u.oneCell' = true := by simp [Value.oneCell']
theorem own_snoc {w : World} {B : Nat} {e : TypeId} {v : Value} {acc : List Tk} {k : Int} {x : ByteArray} {n i : Int} (h : w.ownsRow B e 4 v (acc.length + 1) (flat acc ++ [.int .i64 k, .string x, .int .i64 n, .int .i64 i])) : w.ownsRow B e 4 v (acc ++ [Tk.mk k x n i]).length (flat (acc ++ [Tk.mk k x n i])) := by
  rw [flat_app, List.length_append]
  exact h
theorem bel_two {w u w' : World} {v : Value} {e : TypeId} {m : Nat} {xs : List Value} (hb : Below w.heap.size w u) (ho : u.ownsRow w.heap.size e 4 v m xs) (o1 o2 : Obj) (hg : ((u.alloc o1).alloc o2).grownBy w' v.ownBlock) : Below w.heap.size w w' := by
  have h1 : Below w.heap.size w (u.alloc o1) := hb.alloc hb.size _
  have h2 : Below w.heap.size w ((u.alloc o1).alloc o2) := h1.alloc h1.size _
  exact h2.grown hg h2.size fun k hk => (ho.lt k hk).1
theorem aP (n : Nat) (h : n + 1 ≤ 4096) : n + 1 ≤ maxLen ∧ (n + 1) * 40 ≤ 140737488355328 := by unfold maxLen; omega
theorem aQ {w u : World} (h : Below w.heap.size w u) (o1 o2 : Obj) : w.heap.size ≤ ((u.alloc o1).alloc o2).heap.size := by have := h.size; simp; omega
/-- what Lex tells -/
def LexR (w : World) (R : List Tk × Int × Int) (e : Ending) (w' : World) : Prop :=
  ∃ v, e = .returned (.tuple #[v, .int .i64 R.2.1, .int .i64 R.2.2]) ∧ TkAt w' v R.1 ∧ Below w.heap.size w w'
theorem lexR_nil {w w' : World} {a z : Int} {R : List Tk × Int × Int} (hR : R = ([], a, z)) (hb : Below w.heap.size w w') : LexR w R (.returned (.tuple #[.slice none 0 0, .int .i64 a, .int .i64 z])) w' := by
  subst hR; exact ⟨_, rfl, TkAt.nil _, hb⟩
theorem lexR_own {w w' : World} {v : Value} {l : List Tk} {e : TypeId} {R : List Tk × Int × Int} (hR : R = (l, 0, 0)) (hb : Below w.heap.size w w') (ho : w'.ownsRow w.heap.size e 4 v l.length (flat l)) : LexR w R (.returned (.tuple #[v, .int .i64 0, .int .i64 0])) w' := by
  subst hR; exact ⟨_, rfl, tkAt_own ho, hb⟩
theorem aJ (n k : Nat) (h : k < n) (hn : n ≤ 8192) : decide ((k : Int) < (n : Int)) = true := decide_eq_true (by omega)
theorem aK (n k : Nat) (h : ¬ k < n) : decide ((k : Int) < (n : Int)) = false := decide_eq_false (by omega)
theorem aL {n : Nat} (h : n = 4096) : ((n : Int) == 4096) = true := beq_iff_eq.2 (by omega)
theorem aM {n : Nat} (h : ¬ n = 4096) : ((n : Int) == 4096) = false := beq_eq_false_iff_ne.2 (by omega)
theorem aN {z : Int} (h : z = 2 ∨ z = 110) : (z == 0) = false ∧ (z != 0) = true := by rcases h with rfl | rfl <;> exact ⟨rfl, rfl⟩
end Lx
end Go.Proofs.YtagoajoaojakhaaDoor
