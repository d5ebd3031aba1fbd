/- Tokens: LexMost: behind as many tokens as there may be. -/
import Derived.Test.YtagoajoaojakhaaDoorA14
import Derived.Laws.BytesArg
namespace Go.Proofs.YtagoajoaojakhaaDoor
open Go.RowKit Lx
set_option linter.unusedVariables false
namespace Lx
theorem linfo8 : (Tryd.prog.info? 5).map (fun i => (i.zero, i.size, i.bytes)) = some (some (.int .u8 0), 1, 1) := by kernel_rfl
theorem own_str {w : World} {base : Nat} {v : Value} {n : Nat} {xs : List Int} (h : w.ownsRow base 5 1 v n (xs.map (Value.int .u8))) : ∃ S, (convert 37 9 v).run Tryd.prog w = .ok (.string S) w ∧ S.size = n := by
  have hl := h.1
  simp only [List.length_map, Nat.mul_one] at hl
  rcases h.2 with ⟨hv, h0⟩ | ⟨g, cap, cur, hv, _⟩
  · subst hv
    exact ⟨_, run_convert_bytes_nil w 37 5 Tryd.underlying37 Tryd.underlying5 0 0 9 Tryd.underlying9, by rw [h0]; rfl⟩
  · subst hv
    refine ⟨_, run_convert_bytes_arg w 37 5 Tryd.underlying37 Tryd.underlying5 g 0 n cap xs hl (fun i hi => ?_) 9 Tryd.underlying9, by rw [strOfNums_size, hl]⟩
    have := h.cellAt i (by omega)
    rw [Nat.zero_add, this]
    have hi' : i < xs.length := by omega
    simp [List.getElem?_eq_getElem hi', List.getD]
theorem one_new (w : World) (x : Value) (t : TypeId) : ∀ (j : Nat) (u : Value), [x][j]? = some u → (w.alloc (.cells #[x] t)).cell? ((⟨w.heap.size, 0, none⟩ : Addr).add j) = some u := by
  intro j u hj
  match j, hj with
  | 0, hj => simp at hj; subst hj; simp [Addr.add]
theorem own_slice {w : World} {base : Nat} {e : TypeId} {c n : Nat} {v : Value} {xs : List Value} (h : w.ownsRow base e c v n xs) : ∃ o d, v = .slice o n d := by
  rcases h.2 with ⟨h1, h2⟩ | ⟨g, cap, cur, h1, _⟩
  · exact ⟨none, 0, by rw [h1, h2]⟩
  · exact ⟨_, _, h1⟩
/-- so many bytes of one's own -/
def CB (w : World) (v : Value) (k : Nat) (wr : World) : Prop := ∃ bs : List Int, bs.length = k ∧ wr.ownsRow w.heap.size 5 1 v bs.length (bs.map (Value.int .u8)) ∧ Below w.heap.size w wr
theorem CB.app {w wr w1 : World} {v v' : Value} {bs : List Int} {x : Int} {o : Obj} (hown : wr.ownsRow w.heap.size 5 1 v bs.length (bs.map (Value.int .u8)))
    (hown' : w1.ownsRow w.heap.size 5 1 v' (bs.length + 1) (bs.map (Value.int .u8) ++ [.int .u8 x])) (hgrow : (wr.alloc o).grownBy w1 v.ownBlock) (hbel : Below w.heap.size w wr) : CB w v' (bs.length + 1) w1 :=
  ⟨bs ++ [x], by simp, by simpa using hown', (hbel.alloc hbel.size o).grown hgrow (by have := hbel.size; simp; omega) (fun j hj => (hown.lt j hj).1)⟩
theorem aW {n k : Nat} (h : k < n) (hn : n ≤ 4100) : decide ((k : Int) < (n : Int)) = true ∧ wrap64 ((k : Int) + 1) = ((k + 1 : Nat) : Int) := by
  refine ⟨decide_eq_true (by omega), ?_⟩
  unfold wrap64; omega
theorem aX {n m : Nat} (hn : n ≤ 4100) (hm : m ≤ 3000) : wrap64 ((n : Int) + (m : Int)) = ((n + m : Nat) : Int) := by unfold wrap64; omega
theorem aM7 {m : Nat} (h : m ≤ 7100) : wrap64 (m : Int) = (m : Int) := by unfold wrap64; omega
theorem aY {n : Nat} (hn : n ≤ 4100) : n + 1 ≤ maxLen ∧ (n + 1) * 1 ≤ 140737488355328 := by unfold maxLen; omega
theorem aZ2 {n : Nat} (hn : n ≤ 7100) : 1 * n ≤ 281474976710656 ∧ n ≤ maxLen := by unfold maxLen; omega
end Lx
end Go.Proofs.YtagoajoaojakhaaDoor
