/- Tokens: the document's one token. -/
import Derived.Test.YtagoajoaojakhaaDoorA6
import Derived.Test.YtagoajoaojakhaaDoorA8
namespace Go.Proofs.YtagoajoaojakhaaDoor
open Go.RowKit Lx
set_option linter.unusedVariables false
namespace Lx
/-- what one token is told as -/
def oOut (a : Int) : Except Int (Int × ByteArray × Int × Nat) → Value
  | .ok (k, x, n, e) => .tuple #[.agg #[.int .i64 k, .string x, .int .i64 n, .int .i64 a], .int .i64 e, .int .i64 0]
  | .error z => .tuple #[.agg #[.int .i64 0, .string ⟨#[]⟩, .int .i64 0, .int .i64 0], .int .i64 0, .int .i64 z]
theorem smcp {c : Int} (h : sm c = true) : cp c = false := by
  unfold sm at h; unfold cp
  rw [Bool.and_eq_true, decide_eq_true_eq, decide_eq_true_eq] at h
  rw [decide_eq_false (by omega : ¬ c ≤ 90), Bool.and_false]
/-- a token in a block of its own -/
structure Tb (b : Nat) (a0 a1 a2 a3 : Value) (u : World) : Prop where
  blk : u.heap[b]? = some (.cells #[a0, a1, a2, a3] 25 (0, 0))
section
variable {b : Nat} {a0 a1 a2 a3 : Value} {u u' w : World}
theorem Tb.cell (h : Tb b a0 a1 a2 a3 u) (j : Nat) (v : Value) (hv : #[a0, a1, a2, a3][j]? = some v) : u.cell? ⟨b, j, none⟩ = some v := by
  unfold World.cell?; rw [h.blk]; exact hv
theorem Tb.frz (h : Tb b a0 a1 a2 a3 u) (j : Nat) : u.frozen? ⟨b, j, none⟩ = false := by unfold World.frozen?; rw [h.blk]; simp
theorem Tb.on (h : Tb b a0 a1 a2 a3 u) (hb : Below u.heap.size u u') : Tb b a0 a1 a2 a3 u' :=
  ⟨by rw [hb.block _ (Array.getElem?_eq_some_iff.1 h.blk).1]; exact h.blk⟩
theorem Tb.set0 (h : Tb b a0 a1 a2 a3 u) (v : Value) : Tb b v a1 a2 a3 (u.setCell ⟨b, 0, none⟩ v) := ⟨heap_setCell_same u b 0 _ _ _ h.blk⟩
theorem Tb.set3 (h : Tb b a0 a1 a2 a3 u) (v : Value) : Tb b a0 a1 a2 v (u.setCell ⟨b, 3, none⟩ v) := ⟨heap_setCell_same u b 3 _ _ _ h.blk⟩
theorem Tb.range (h : Tb b a0 a1 a2 a3 u) : u.rangeAt b 0 [a0, a1, a2, a3] := fun j v hv => by
  rw [Nat.zero_add]
  exact h.cell j v (by rw [← hv]; simp)
theorem Tb.new (w : World) (hb : b = w.heap.size) : Tb b a0 a1 a2 a3 (w.alloc (.cells #[a0, a1, a2, a3] 25)) := ⟨by subst hb; exact heap_alloc_new w _⟩
theorem An.set (h : An w u) (hb : w.heap.size < b) (j : Nat) (v : Value) : An w (u.setCell ⟨b, j, none⟩ v) :=
  ⟨by rw [Below.heap_setCell _ _ _ _ (by show w.heap.size ≠ b; omega)]; exact h.blk, h.bel.setCell (show w.heap.size ≤ b by omega) _⟩
theorem An.new (h : An w u) (o : Obj) : An w (u.alloc o) := h.on ((Below.refl _ u).alloc (Nat.le_refl _) _)
end
theorem underTk : ∃ d, Tryd.prog.underlying 25 = some d ∧ d.isRow = true := ⟨_, Tryd.underlying25, rfl⟩
end Lx
end Go.Proofs.YtagoajoaojakhaaDoor
