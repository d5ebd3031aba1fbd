/- Giving up. -/
import Derived.Test.YtlpnoelolkbmmaaDoorSmall
import Derived.Deep.RegionWith
namespace Go.Proofs.YtlpnoelolkbmmaaDoor
open Go.RowKit Rep
set_option linter.unusedVariables false
/-- what is given up with -/
def gave (k : Int) : List PanicEntry := [{ v := .iface 41 (.int .i64 k), recovered := false }]
/-- an ending that comes back, or gives up with that error -/
def Needs (ok : Bool) (k : Int) (e : Ending) : Prop := (ok = true ∧ e = .returned (.tuple #[])) ∨ (ok = false ∧ e = .panicked (gave k))

theorem Needs.yes {k : Int} {e : Ending} (h : Needs true k e) : e = .returned (.tuple #[]) := by rcases h with ⟨_, h⟩ | ⟨h, _⟩; exact h; cases h
theorem Needs.no {k : Int} {e : Ending} (h : Needs false k e) : e = .panicked (gave k) := by rcases h with ⟨h, _⟩ | ⟨_, h⟩; cases h; exact h
end Go.Proofs.YtlpnoelolkbmmaaDoor
