/- QJBase: several texts in one. -/
import Derived.Test.YtmedpblpcfobdaaDoorRows
import Derived.Test.YtmedpblpcfobdaaDoorQMath
import Derived.WalkKit
import Derived.WalkSpells
import Derived.WalkSmall
import Derived.BigQuiet
import Derived.Deep.QuietTactic
import Derived.Test.YtmedpblpcfobdaaDoorQJRep
/- Small steps of the walks: what is hidden from them, results that are equal. -/
namespace Go.Proofs.YtmedpblpcfobdaaDoor
open Go.RowKit

theorem hide {p : Prop} (h : p) : Hid p := h
theorem unhide {p : Prop} (h : Hid p) : p := h
theorem ret_bool {a b : Bool} (h : a = b) : Ending.returned (.bool a) = .returned (.bool b) := by rw [h]
theorem ret_int {k : IntKind} {a b : Int} (h : a = b) : Ending.returned (.int k a) = .returned (.int k b) := by rw [h]
theorem three_ret {a b c a' b' c' : Int} (h : (a, b, c) = (a', b', c')) : Ending.returned (.tuple #[.int .i64 a, .int .i64 b, .int .i64 c]) = .returned (.tuple #[.int .i64 a', .int .i64 b', .int .i64 c']) := by
  simp only [Prod.mk.injEq] at h
  rw [h.1, h.2.1, h.2.2]
theorem uib_ret {a b a' b' : Int} {c c' : Bool} (h : (a, b, c) = (a', b', c')) : Ending.returned (.tuple #[.int .u64 a, .int .i64 b, .bool c]) = .returned (.tuple #[.int .u64 a', .int .i64 b', .bool c']) := by
  simp only [Prod.mk.injEq] at h
  rw [h.1, h.2.1, h.2.2]
theorem ub_ret {a a' : Int} {c c' : Bool} (h : (a, c) = (a', c')) : Ending.returned (.tuple #[.int .u64 a, .bool c]) = .returned (.tuple #[.int .u64 a', .bool c']) := by
  simp only [Prod.mk.injEq] at h
  rw [h.1, h.2]
theorem ui_ret {a a' b b' : Int} (h : (a, b) = (a', b')) : Ending.returned (.tuple #[.int .u64 a, .int .i64 b]) = .returned (.tuple #[.int .u64 a', .int .i64 b']) := by
  simp only [Prod.mk.injEq] at h
  rw [h.1, h.2]
theorem bel_on {w w1 w2 : World} (h1 : Below w.heap.size w w1) (h2 : Below w1.heap.size w1 w2) : Below w.heap.size w w2 := h1.trans (h2.mono h1.size)
theorem below_drewN {B : Nat} {a w : World} (h : Below B a w) (n : Nat) : Below B a (w.drewN n) := ⟨h.os, h.tape, h.output, h.size, h.block⟩
end Go.Proofs.YtmedpblpcfobdaaDoor

/- What the document's own function answers that tells what an instruction takes and tells: the plain function; nothing is changed. -/
namespace Go.Proofs.YtmedpblpcfobdaaDoor
open Go.RowKit

set_option maxHeartbeats 1000000 in
theorem refSig (op : Int) (w : World) :
    Calls Tryd.prog 23 #[.int .i64 op] w fun e w' => e = .returned (.tuple #[.int .i64 (Nums.sig op).1, .int .i64 (Nums.sig op).2.1, .int .i64 (Nums.sig op).2.2]) ∧ w' = w := by
  go_enter Tryd.func23, Tryd.ntmps23
  go_wp2
  all_goals go_ret3
  all_goals refine ⟨three_ret ?_, rfl⟩
  all_goals (try simp only [beq_iff_eq, beq_eq_false_iff_ne, ne_eq] at *)
  all_goals show _ = Nums.sig op
  all_goals unfold Nums.sig
  all_goals first | (exfalso; omega) | (repeat first | rw [if_neg (by omega)] | rw [if_pos (by omega)])
end Go.Proofs.YtmedpblpcfobdaaDoor

/- What the document's own function tells as an instruction's form: the plain function; nothing is touched. -/
namespace Go.Proofs.YtmedpblpcfobdaaDoor
open Go.RowKit Rep
set_option linter.unusedVariables false

namespace Rep
def form (op : Int) : Int :=
  if op ≤ -1 then 0 else
  if op ≤ 0 then 1 else
  if op ≤ 1 then 1 else
  if op ≤ 2 then 2 else
  if op ≤ 3 then 2 else
  if op ≤ 4 then 3 else
  if op ≤ 11 then 0 else
  if op ≤ 12 then 4 else
  if op ≤ 13 then 4 else
  if op ≤ 14 then 5 else
  if op ≤ 15 then 1 else
  if op ≤ 16 then 6 else
  if op ≤ 17 then 7 else
  if op ≤ 25 then 0 else
  if op ≤ 26 then 1 else
  if op ≤ 27 then 1 else
  if op ≤ 31 then 0 else
  if op ≤ 36 then 6 else
  if op ≤ 39 then 0 else
  if op ≤ 40 then 8 else
  if op ≤ 41 then 8 else
  if op ≤ 42 then 10 else
  if op ≤ 43 then 10 else
  if op ≤ 55 then 8 else
  if op ≤ 56 then 10 else
  if op ≤ 57 then 10 else
  if op ≤ 62 then 8 else
  if op ≤ 63 then 1 else
  if op ≤ 64 then 1 else
  if op ≤ 65 then 9 else
  if op ≤ 66 then 9 else
  if op ≤ 67 then 10 else
  if op ≤ 68 then 10 else
  if op ≤ 90 then 1 else
  if op ≤ 102 then 10 else
  if op ≤ 138 then 1 else
  if op ≤ 166 then 10 else
  if op ≤ 167 then 1 else
  if op ≤ 171 then 10 else
  if op ≤ 173 then 1 else
  if op ≤ 191 then 10 else
  0
theorem sig_pos (op : Int) : (0 < (Nums.sig op).1) ↔ ((69 ≤ op ∧ op ≤ 90) ∨ (103 ≤ op ∧ op ≤ 138) ∨ op = 167 ∨ op = 172 ∨ op = 173) := by
  unfold Nums.sig
  repeat' split
  all_goals first | (constructor <;> intro h <;> first | omega | decide) | skip
  all_goals (constructor; · intro h; exfalso; revert h; decide
             · intro h; exfalso; omega)
end Rep

end Go.Proofs.YtmedpblpcfobdaaDoor
