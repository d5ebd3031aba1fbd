/- What the document's own function tells as an instruction's form: the plain function; nothing is touched. -/
import Derived.Test.YtlpnoelolkbmmaaDoorRefSig
import Derived.Test.YtlpnoelolkbmmaaDoorSmall
namespace Go.Proofs.YtlpnoelolkbmmaaDoor
open Go.RowKit Rep
set_option linter.unusedVariables false

namespace Rep
def form (op : Int) : Int :=
  if op ≤ -1 then 0 else
  if op ≤ 0 then 1 else
  if op ≤ 1 then 1 else
  if op ≤ 2 then 2 else
  if op ≤ 3 then 2 else
  if op ≤ 4 then 3 else
  if op ≤ 11 then 0 else
  if op ≤ 12 then 4 else
  if op ≤ 13 then 4 else
  if op ≤ 14 then 5 else
  if op ≤ 15 then 1 else
  if op ≤ 16 then 6 else
  if op ≤ 17 then 7 else
  if op ≤ 25 then 0 else
  if op ≤ 26 then 1 else
  if op ≤ 27 then 1 else
  if op ≤ 31 then 0 else
  if op ≤ 36 then 6 else
  if op ≤ 39 then 0 else
  if op ≤ 40 then 8 else
  if op ≤ 41 then 8 else
  if op ≤ 42 then 10 else
  if op ≤ 43 then 10 else
  if op ≤ 55 then 8 else
  if op ≤ 56 then 10 else
  if op ≤ 57 then 10 else
  if op ≤ 62 then 8 else
  if op ≤ 63 then 1 else
  if op ≤ 64 then 1 else
  if op ≤ 65 then 9 else
  if op ≤ 66 then 9 else
  if op ≤ 67 then 10 else
  if op ≤ 68 then 10 else
  if op ≤ 90 then 1 else
  if op ≤ 102 then 10 else
  if op ≤ 138 then 1 else
  if op ≤ 166 then 10 else
  if op ≤ 167 then 1 else
  if op ≤ 171 then 10 else
  if op ≤ 173 then 1 else
  if op ≤ 191 then 10 else
  0
theorem sig_pos (op : Int) : (0 < (Nums.sig op).1) ↔ ((69 ≤ op ∧ op ≤ 90) ∨ (103 ≤ op ∧ op ≤ 138) ∨ op = 167 ∨ op = 172 ∨ op = 173) := by
  unfold Nums.sig
  repeat' split
  all_goals first | (constructor <;> intro h <;> first | omega | decide) | skip
  all_goals (constructor; · intro h; exfalso; revert h; decide
             · intro h; exfalso; omega)
end Rep

end Go.Proofs.YtlpnoelolkbmmaaDoor
