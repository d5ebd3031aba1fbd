/- The program's way to give up, and its small looks at numbers: either they come back and nothing has happened, or they give up with the error. -/
import Derived.Test.YtloelineidlenaaGreatDoorSmall
import Derived.Deep.RegionWith
namespace Go.Proofs.YtloelineidlenaaGreatDoor
open Go.RowKit Rep
set_option linter.unusedVariables false

/-- what is given up with -/
def gave (k : Int) : List PanicEntry := [{ v := .iface 36 (.int .i64 k), recovered := false }]
/-- an ending that comes back, or gives up with that error -/
def Needs (ok : Bool) (k : Int) (e : Ending) : Prop := (ok = true ∧ e = .returned (.tuple #[])) ∨ (ok = false ∧ e = .panicked (gave k))

set_option maxHeartbeats 400000 in
theorem pNeed (c : Bool) (k : Int) (w : World) : Calls Tryz.prog 37 #[.bool c, .int .i64 k] w fun e w' => Needs c k e ∧ w' = w := by
  cases c
  · go_enter Tryz.func37, Tryz.ntmps37
    go_wp2
    exact ⟨rfl, .inr ⟨rfl, rfl⟩, rfl⟩
  · go_enter Tryz.func37, Tryz.ntmps37
    go_wp2
    go_end0
    exact ⟨.inl ⟨rfl, rfl⟩, rfl⟩
end Go.Proofs.YtloelineidlenaaGreatDoor
