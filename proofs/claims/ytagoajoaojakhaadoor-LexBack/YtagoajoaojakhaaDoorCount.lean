/- How many instructions the document's own count finds in instructions that lie in memory: the plain count; nothing but the tape is touched. -/
import Derived.Test.YtagoajoaojakhaaDoorRep
import Derived.Deep.RegionWith
namespace Go.Proofs.YtagoajoaojakhaaDoor
open Go.RowKit Rep
set_option linter.unusedVariables false

theorem hideR {p : Prop} (h : p) : Hid p := h
/-- a contract at a world some draws on, as a region that draws wants it -/
theorem quiet_at {P : Program} {f : FuncId} {args : Array Value} {w : World} {m j : Nat} {v : Value} (h : Calls P f args (w.drewN (m + j)) fun e w' => e = .returned v ∧ ∃ n, w' = (w.drewN (m + j)).drewN n) :
    Calls P f args (w.drewN (m + j)) fun e w' => e = .returned v ∧ ∃ n, w' = w.drewN (m + n) :=
  h.mono fun _ _ ⟨he, n, hn⟩ => ⟨he, j + n, by rw [hn, World.drewN_drewN, Nat.add_assoc]⟩
theorem cntL_end {α : Type} {f : α → Nat → Nat} {l : List (Ins α)} {k c r : Nat} (hk : ¬ (k < l.length ∧ c ≤ 65536)) (h : r = cntL f (l.drop k) c) : r = c := by
  rw [h]
  by_cases hl : k < l.length
  · have hc : ¬ c ≤ 65536 := fun hc => hk ⟨hl, hc⟩
    rw [List.drop_eq_getElem_cons hl]
    unfold cntL
    rw [if_neg hc]
  · rw [List.drop_of_length_le (by omega)]; rfl
theorem cntL_on {α : Type} {f : α → Nat → Nat} {l : List (Ins α)} {k c r : Nat} {x : Ins α} (hx : l[k]? = some x) (hc : c ≤ 65536) (h : r = cntL f (l.drop k) c) : r = cntL f (l.drop (k + 1)) (f x.els (f x.body (c + 1))) := by
  have hl : k < l.length := (List.getElem?_eq_some_iff.1 hx).1
  have he : l[k] = x := (List.getElem?_eq_some_iff.1 hx).2
  rw [h, List.drop_eq_getElem_cons hl, he]
  conv => lhs; unfold cntL
  rw [if_pos hc]

end Go.Proofs.YtagoajoaojakhaaDoor
