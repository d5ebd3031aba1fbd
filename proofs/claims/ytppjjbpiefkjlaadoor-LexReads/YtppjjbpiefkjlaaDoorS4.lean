/- A token's four cells: written as a whole into the answer's place. -/
import Derived.Test.YtppjjbpiefkjlaaDoorA5
import Derived.Deep.MidRow
namespace Go.Proofs.YtppjjbpiefkjlaaDoor
open Go.RowKit Lx
set_option linter.unusedVariables false
namespace Lx
theorem cells_heap (g : Nat) (t : TypeId) : ∀ (vs : List Value) (o : Nat) (w : World) (cur : Array Value), w.heap[g]? = some (.cells cur t (0, 0)) → o + vs.length ≤ cur.size →
    (w.setCells g o vs).heap[g]? = some (.cells (cur.toList.take o ++ vs ++ cur.toList.drop (o + vs.length)).toArray t (0, 0))
  | [], o, w, cur, h, _ => by simpa [World.setCells] using h
  | v :: r, o, w, cur, h, hl => by
    simp only [List.length_cons] at hl
    have h1 := cells_heap g t r (o + 1) (w.setCell ⟨g, o, none⟩ v) (cur.setIfInBounds o v) (heap_setCell_same w g o cur t v h) (by rw [Array.size_setIfInBounds]; omega)
    rw [World.setCells, h1, Array.toList_setIfInBounds]
    have hs : o < cur.toList.length := by rw [Array.length_toList]; omega
    have e1 : (cur.toList.set o v).take (o + 1) = cur.toList.take o ++ [v] := by
      rw [List.take_add_one, List.take_set_of_le (Nat.le_refl o), List.getElem?_set_self hs]; rfl
    have e2 : (cur.toList.set o v).drop (o + 1 + r.length) = cur.toList.drop (o + 1 + r.length) := List.drop_set_of_lt (by omega)
    rw [e1, e2]
    simp only [List.length_cons, List.append_assoc, List.cons_append, List.nil_append]
    rw [show o + 1 + r.length = o + (r.length + 1) by omega]
theorem cells_below (B g : Nat) (hg : B ≤ g) : ∀ (vs : List Value) (o : Nat) (w u : World), Below B w u → Below B w (u.setCells g o vs)
  | [], _, w, u, h => h
  | v :: r, o, w, u, h => cells_below B g hg r (o + 1) w _ (h.setCell hg _)
theorem four_heap {w : World} {b : Nat} {t : TypeId} {cs vs : Array Value} (h : w.heap[b]? = some (.cells cs t (0, 0))) (hc : cs.size = 4) (hv : vs.size = 4) : (w.setCells b 0 vs.toList).heap[b]? = some (.cells vs t (0, 0)) := by
  rw [cells_heap b t vs.toList 0 w cs h (by simp; omega)]
  have hd : List.drop 4 cs.toList = [] := List.drop_eq_nil_of_le (by simp [hc])
  simp [hv, hd]
theorem there_of {w : World} {b : Nat} {t : TypeId} {cs : Array Value} (h : w.heap[b]? = some (.cells cs t (0, 0))) (hc : cs.size = 4) : w.there b 0 4 := fun j hj => by
  refine ⟨?_, ?_⟩
  · unfold World.cell?; rw [h, Nat.zero_add]
    show (cs[j]?).isSome = true
    rw [Array.getElem?_eq_getElem (by omega)]; rfl
  · unfold World.frozen?; rw [h]; simp
theorem sizeTk : (Tryd.prog.info? 32).map (·.size) = some 4 := by kernel_rfl
/-- the answer's place, as it begins -/
def wA (w : World) : World := w.alloc (.cells #[.int .i64 0, .string ⟨#[]⟩, .int .i64 0, .int .i64 0] 32)
theorem wA_size (w : World) : (wA w).heap.size = w.heap.size + 1 := by unfold wA; simp
theorem wA_blk (w : World) : (wA w).heap[w.heap.size]? = some (.cells #[.int .i64 0, .string ⟨#[]⟩, .int .i64 0, .int .i64 0] 32 (0, 0)) := heap_alloc_new w _
theorem wA_below (w : World) : Below w.heap.size w (wA w) := (Below.refl _ w).alloc (Nat.le_refl _) _
/-- the answer's place is there, and all that was there ahead stands -/
structure An (w u : World) : Prop where
  blk : u.heap[w.heap.size]? = some (.cells #[.int .i64 0, .string ⟨#[]⟩, .int .i64 0, .int .i64 0] 32 (0, 0))
  bel : Below w.heap.size w u
theorem An.start (w : World) : An w (wA w) := ⟨wA_blk w, wA_below w⟩
theorem An.on {w u u' : World} (h : An w u) (hb : Below u.heap.size u u') : An w u' :=
  ⟨by rw [hb.block _ (Array.getElem?_eq_some_iff.1 h.blk).1]; exact h.blk, below_go h.bel hb⟩
/-- what lies there behind the store -/
theorem An.put {w u : World} (h : An w u) (a0 a1 a2 a3 : Value) : ∃ W2, u.setCells w.heap.size 0 (#[a0, a1, a2, a3] : Array Value).toList = W2 ∧ u.there w.heap.size 0 4 ∧ W2.cell? ⟨w.heap.size, 0, none⟩ = some a0 ∧ W2.cell? ⟨w.heap.size, 1, none⟩ = some a1
    ∧ W2.cell? ⟨w.heap.size, 2, none⟩ = some a2 ∧ W2.cell? ⟨w.heap.size, 3, none⟩ = some a3 ∧ Below w.heap.size w W2 := by
  have hh := four_heap h.blk rfl (vs := #[a0, a1, a2, a3]) rfl
  refine ⟨_, rfl, there_of h.blk rfl, ?_, ?_, ?_, ?_, cells_below _ _ (Nat.le_refl _) _ 0 w u h.bel⟩
  all_goals (unfold World.cell?; rw [hh]; rfl)
end Lx
end Go.Proofs.YtppjjbpiefkjlaaDoor
