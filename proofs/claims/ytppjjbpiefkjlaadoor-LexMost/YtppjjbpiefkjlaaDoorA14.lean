/- Tokens: the law wakes; LexReads. -/
import Derived.Test.YtppjjbpiefkjlaaDoorA12
import Derived.Test.YtppjjbpiefkjlaaDoorA13
namespace Go.Proofs.YtppjjbpiefkjlaaDoor
open Go.RowKit Lx
set_option linter.unusedVariables false
namespace Lx
theorem lxF_len (s : ByteArray) : ∀ (f i : Nat) (acc : List Tk), acc.length ≤ 4096 → (lxF s f i acc).1.length ≤ 4096
  | 0, i, acc, h => h
  | f + 1, i, acc, h => by
    rw [lxF]
    split
    · split
      · exact Nat.zero_le _
      · split
        · exact Nat.zero_le _
        · exact lxF_len s f _ _ (by rw [List.length_append]; simp; omega)
    · exact h
theorem lx_len (s : ByteArray) : (lx s).1.length ≤ 4096 := by
  unfold lx
  split
  · exact Nat.zero_le _
  · exact lxF_len s _ _ _ (by simp)
def wk1 : ByteArray := ⟨#[108, 101, 116, 32, 120, 61, 126, 53, 32, 105, 110, 32, 120, 45, 62, 49, 32, 35, 32, 99]⟩
def wk2 : ByteArray := ⟨#[97, 32, 48, 48, 55]⟩
def wkL : List Tk := [⟨5, ⟨#[108, 101, 116]⟩, 0, 0⟩, ⟨1, ⟨#[120]⟩, 0, 4⟩, ⟨6, ⟨#[61]⟩, 0, 5⟩, ⟨4, ⟨#[]⟩, -5, 6⟩, ⟨5, ⟨#[105, 110]⟩, 0, 9⟩, ⟨1, ⟨#[120]⟩, 0, 12⟩, ⟨6, ⟨#[45, 62]⟩, 0, 13⟩, ⟨4, ⟨#[]⟩, 1, 15⟩]
theorem lx_wk1 : lx wk1 = (wkL, 0, 0) := by kernel_rfl
theorem lx_wk2 : lx wk2 = ([], 2, 110) := by kernel_rfl
end Lx
set_option maxRecDepth 100000 in
set_option maxHeartbeats 4000000 in
theorem lWakes (w : World) (hWL : WL w) : Calls Tryd.prog 6 #[] w fun e w' => e = .returned (.bool true) ∧ Below w.heap.size w w' := by
  have H1 := hideR (pLex wk1 w hWL)
  rw [lx_wk1] at H1
  have H2 := fun (u : World) (hb : Below w.heap.size w u) => hideR (pLex wk2 u (hWL.on hb))
  rw [lx_wk2] at H2
  clear hWL
  go_enter Tryd.func6, Tryd.ntmps6
  go_wp2_with fail
  refine Calls.mono (show Calls _ _ _ _ _ from H1.out) ?_
  rintro e u ⟨v, rfl, hT, hb⟩
  rcases hT with ⟨_, h⟩ | ⟨g, c, rfl, hc⟩
  · cases h
  have HC := hideR hc
  have HB := hideR hb
  have HP := hideR (H2 u hb)
  clear H1 H2 hc hb
  have hlen : wkL.length = 8 := rfl
  simp only [hlen]
  go_wp2_with fail
  refine Calls.mono (show Calls _ _ _ _ _ from HP.out.out) ?_
  rintro e u2 ⟨v2, rfl, _, hb2⟩
  have hcc := cells_on HC.out hb2
  have m1 : u2.cell? ⟨g, 14, none⟩ = some (.int .i64 (-5)) := hcc 3 _ rfl 2 _ rfl
  have m2 : u2.cell? ⟨g, 25, none⟩ = some (.string ⟨#[45, 62]⟩) := hcc 6 _ rfl 1 _ rfl
  have HB2 := hideR (below_go HB.out hb2)
  clear hcc hb2 HB HC HP
  go_wp2
  go_ret
  exact ⟨rfl, HB2.out⟩
set_option maxRecDepth 100000 in
set_option maxHeartbeats 4000000 in
theorem readsC (s : ByteArray) (w : World) (hWL : WL w) : Calls Tryd.prog 3 #[.string s] w fun e w' => e = .returned (.bool true) ∧ Below w.heap.size w w' := by
  by_cases hbig : 20000 < s.size
  · have q0 : decide ((s.size : Int) > 20000) = true := decide_eq_true (by omega)
    have HW := hideR (lWakes w hWL)
    clear hWL
    go_enter Tryd.func3, Tryd.ntmps3
    go_wp2_with fail
    refine HW.out.mono ?_
    rintro e u ⟨rfl, hb⟩
    have HB := hideR hb
    clear hb
    go_wp2
    go_ret
    exact ⟨rfl, HB.out⟩
  · have q0 : decide ((s.size : Int) > 20000) = false := decide_eq_false (by omega)
    have H1 := hideR (pLex s w hWL)
    have H2 := fun (u : World) => hideR (rLex s u)
    have HLn := hideR (lx_len s)
    have HWk := fun (u : World) (hb : Below w.heap.size w u) => hideR (lWakes u (hWL.on hb))
    generalize lx s = R at *
    obtain ⟨L, pl, er⟩ := R
    have k1 : (er == er) = true := by simp
    have k2 : (pl == pl) = true := by simp
    clear hWL
    go_enter Tryd.func3, Tryd.ntmps3
    go_wp2_with fail
    refine H1.out.mono ?_
    rintro e u1 ⟨v1, rfl, hT1, hb1⟩
    have HT1 := hideR hT1
    have HB1 := hideR hb1
    clear hT1 hb1 H1
    go_wp2_with fail
    refine (H2 _).out.mono ?_
    rintro e u2 ⟨v2, rfl, hT2, hb2⟩
    have HS := hideR (rSame v1 v2 L L true u2 (HT1.out.on hb2) hT2 rfl HLn.out fun i t u h1 h2 => by
      obtain rfl : t = u := by rw [h1] at h2; exact Option.some.inj h2
      exact ⟨rfl, rfl, rfl, fun _ => rfl⟩)
    have HB2 := hideR (below_go HB1.out hb2)
    clear hT2 hb2 HT1 HB1 H2
    go_wp2_with fail
    refine HS.out.mono ?_
    rintro e u3 ⟨rfl, hb3⟩
    have HB3 := hideR (below_go HB2.out hb3)
    clear hb3 HB2 HS
    go_wp2_with fail
    refine (HWk _ HB3.out).out.mono ?_
    rintro e u4 ⟨rfl, hb4⟩
    have HB4 := hideR (below_go HB3.out hb4)
    clear hb4 HB3 HWk
    go_wp2
    go_ret
    exact ⟨rfl, HB4.out⟩
end Go.Proofs.YtppjjbpiefkjlaaDoor
