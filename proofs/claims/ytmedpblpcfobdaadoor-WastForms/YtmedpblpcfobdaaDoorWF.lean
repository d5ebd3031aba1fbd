/- The law of forms and names: both sides answer the same. -/
import Derived.Test.YtmedpblpcfobdaaDoorWK
import Derived.Test.YtmedpblpcfobdaaDoorUR
import Derived.Test.YtmedpblpcfobdaaDoorForm4
namespace Go.Proofs.YtmedpblpcfobdaaDoor
open Go.RowKit Rep
set_option linter.unusedVariables false

set_option maxHeartbeats 1000000 in
theorem formsC {I : World → Prop} (C : WastC I) (op : Int) (s : ByteArray) (w : World) (hI : I w) :
    Calls Tryd.prog 3 #[.int .i64 op, .string s] w fun e w' => e = .returned (.bool true) ∧ Below w.heap.size w w' := by
  have HI := hideM hI
  clear hI
  by_cases h0 : s.size ≤ 5000
  · have HS : Hid (s.size ≤ 9223372036854775807) := hideM (by omega)
    go_enter Tryd.func3, Tryd.ntmps3
    go_wp2_with fail
    refine (C.form _ _ HI.out).mono ?_
    rintro e u1 ⟨rfl, hb⟩
    have HI := hideM (C.keep hb HI.out)
    have HB := hideM hb
    clear hb
    go_wp2_with fail
    refine (refForm _ _).mono ?_
    rintro e u2 ⟨rfl, rfl⟩
    generalize form op = f at *
    go_wp2_with fail
    refine (C.name _ _ HI.out HS.out).mono ?_
    rintro e u3 ⟨rfl, hb⟩
    have HI := hideM (C.keep hb HI.out)
    have HB := hideM (below_go HB.out hb)
    clear hb
    go_wp2_with fail
    refine (refName _ _ HS.out).mono ?_
    rintro e u4 ⟨rfl, rfl⟩
    rw [show nmD s = nm s from rfl]
    generalize nm s = b at *
    go_wp2_with fail
    refine (pWakes C _ HI.out).mono ?_
    rintro e u5 ⟨rfl, hb⟩
    have HB := hideM (below_go HB.out hb)
    clear hb
    go_wp2
    go_ret
    exact ⟨rfl, HB.out⟩
  · go_enter Tryd.func3, Tryd.ntmps3
    go_wp2_with fail
    refine (pWakes C _ HI.out).mono ?_
    rintro e u5 ⟨rfl, hb⟩
    have HB := hideM hb
    clear hb
    go_wp2
    go_ret
    exact ⟨rfl, HB.out⟩
end Go.Proofs.YtmedpblpcfobdaaDoor
