/- What the document's own small looks at numbers and lists of numbers tell: the plain functions; nothing is touched. -/
import Derived.Test.YtlpnoelolkbmmaaDoorRep
namespace Go.Proofs.YtlpnoelolkbmmaaDoor
open Go.RowKit Rep
set_option linter.unusedVariables false

namespace Rep
theorem hideM {p : Prop} (h : p) : Hid p := h
def idx (n : Int) : Bool := decide (0 ≤ n ∧ n ≤ 4294967295)
def typ (n : Int) : Bool := decide (n = 126 ∨ n = 127)
theorem all_end {α : Type} {p : α → Bool} {l : List α} {k : Nat} {r : Bool} (hk : ¬ k < l.length) (h : r = (l.drop k).all p) : r = true := by
  rw [h, List.drop_of_length_le (by omega)]; rfl
theorem all_on {α : Type} {p : α → Bool} {l : List α} {k : Nat} {r : Bool} {x : α} (hx : l[k]? = some x) (h : r = (l.drop k).all p) : r = (p x && (l.drop (k + 1)).all p) := by
  have hl : k < l.length := (List.getElem?_eq_some_iff.1 hx).1
  have he : l[k] = x := (List.getElem?_eq_some_iff.1 hx).2
  rw [h, List.drop_eq_getElem_cons hl, he, List.all_cons]
theorem retB {a b : Bool} (h : a = b) : Ending.returned (.bool a) = .returned (.bool b) := by rw [h]
end Rep

end Go.Proofs.YtlpnoelolkbmmaaDoor
