/- What the document's own function answers that tells what an instruction takes and tells: the plain function; nothing is changed. -/
import Derived.Test.YtloelineidlenaaGreatDoorBase
namespace Go.Proofs.YtloelineidlenaaGreatDoor
open Go.RowKit

set_option maxHeartbeats 1000000 in
theorem refSig (op : Int) (w : World) :
    Calls Tryz.prog 132 #[.int .i64 op] w fun e w' => e = .returned (.tuple #[.int .i64 (Nums.sig op).1, .int .i64 (Nums.sig op).2.1, .int .i64 (Nums.sig op).2.2]) ∧ w' = w := by
  go_enter Tryz.func132, Tryz.ntmps132
  go_wp2
  all_goals go_ret3
  all_goals refine ⟨three_ret ?_, rfl⟩
  all_goals (try simp only [beq_iff_eq, beq_eq_false_iff_ne, ne_eq] at *)
  all_goals show _ = Nums.sig op
  all_goals unfold Nums.sig
  all_goals first | (exfalso; omega) | (repeat first | rw [if_neg (by omega)] | rw [if_pos (by omega)])
end Go.Proofs.YtloelineidlenaaGreatDoor
