/- Tokens: the law wakes; LexReads. -/
import Derived.Test.YtagoajoaojakhaaDoorA12
import Derived.Test.YtagoajoaojakhaaDoorA13
namespace Go.Proofs.YtagoajoaojakhaaDoor
open Go.RowKit Lx
set_option linter.unusedVariables false
namespace Lx
theorem lxF_len (s : ByteArray) : ∀ (f i : Nat) (acc : List Tk), acc.length ≤ 4096 → (lxF s f i acc).1.length ≤ 4096
  | 0, i, acc, h => h
  | f + 1, i, acc, h => by
    rw [lxF]
    split
    · split
      · exact Nat.zero_le _
      · split
        · exact Nat.zero_le _
        · exact lxF_len s f _ _ (by rw [List.length_append]; simp; omega)
    · exact h
theorem lx_len (s : ByteArray) : (lx s).1.length ≤ 4096 := by
  unfold lx
  split
  · exact Nat.zero_le _
  · exact lxF_len s _ _ _ (by simp)
def wk1 : ByteArray := ⟨#[108, 101, 116, 32, 120, 61, 126, 53, 32, 105, 110, 32, 120, 45, 62, 49, 32, 35, 32, 99]⟩
def wk2 : ByteArray := ⟨#[97, 32, 48, 48, 55]⟩
def wkL : List Tk := [⟨5, ⟨#[108, 101, 116]⟩, 0, 0⟩, ⟨1, ⟨#[120]⟩, 0, 4⟩, ⟨6, ⟨#[61]⟩, 0, 5⟩, ⟨4, ⟨#[]⟩, -5, 6⟩, ⟨5, ⟨#[105, 110]⟩, 0, 9⟩, ⟨1, ⟨#[120]⟩, 0, 12⟩, ⟨6, ⟨#[45, 62]⟩, 0, 13⟩, ⟨4, ⟨#[]⟩, 1, 15⟩]
theorem lx_wk1 : lx wk1 = (wkL, 0, 0) := by kernel_rfl
theorem lx_wk2 : lx wk2 = ([], 2, 110) := by kernel_rfl
end Lx
set_option maxRecDepth 100000 in
set_option maxHeartbeats 4000000 in
theorem lWakes (w : World) (hWL : WL w) : Calls Tryd.prog 6 #[] w fun e w' => e = .returned (.bool true) ∧ Below w.heap.size w w' := by
  have H1 := hideR (pLex wk1 w hWL)
  rw [lx_wk1] at H1
  have H2 := fun (u : World) (hb : Below w.heap.size w u) => hideR (pLex wk2 u (hWL.on hb))
  rw [lx_wk2] at H2
  clear hWL
  go_enter Tryd.func6, Tryd.ntmps6
  go_wp2_with fail
  refine Calls.mono (show Calls _ _ _ _ _ from H1.out) ?_
  rintro e u ⟨v, rfl, hT, hb⟩
  rcases hT with ⟨_, h⟩ | ⟨g, c, rfl, hc⟩
  · cases h
  have HC := hideR hc
  have HB := hideR hb
  have HP := hideR (H2 u hb)
  clear H1 H2 hc hb
  have hlen : wkL.length = 8 := rfl
  simp only [hlen]
  go_wp2_with fail
  refine Calls.mono (show Calls _ _ _ _ _ from HP.out.out) ?_
  rintro e u2 ⟨v2, rfl, _, hb2⟩
  have hcc := cells_on HC.out hb2
  have m1 : u2.cell? ⟨g, 14, none⟩ = some (.int .i64 (-5)) := hcc 3 _ rfl 2 _ rfl
  have m2 : u2.cell? ⟨g, 25, none⟩ = some (.string ⟨#[45, 62]⟩) := hcc 6 _ rfl 1 _ rfl
  have HB2 := hideR (below_go HB.out hb2)
  clear hcc hb2 HB HC HP
  go_wp2
  go_ret
  exact ⟨rfl, HB2.out⟩
end Go.Proofs.YtagoajoaojakhaaDoor
