/- A body that is being typed: how it lies; its smallest steps. -/
import Derived.Test.YtlpnoelolkbmmaaDoorV0
import Derived.Test.YtlpnoelolkbmmaaDoorGV
import Derived.Test.YtlpnoelolkbmmaaDoorK11g
import Derived.Deep.RegionLaw
import Derived.Laws.EntriesVeiled
import Derived.Laws.OwnMore
namespace Go.Proofs.YtlpnoelolkbmmaaDoor
open Go.RowKit Rep
set_option linter.unusedVariables false
namespace Val
/-- a frame -/
structure PF where
  types : List Int
  ends : List Int
  height : Nat
  dead : Bool
/-- a frame, with the values of its two lists -/
abbrev Fv := PF × Value × Value
def f4 (f : Fv) : List Value := [f.2.1, f.2.2, .int .i64 f.1.height, .bool f.1.dead]
def flat4 (fs : List Fv) : List Value := fs.flatMap f4
theorem flat4_len (fs : List Fv) : (flat4 fs).length = fs.length * 4 := by
  induction fs with
  | nil => rfl
  | cons x r ih => unfold flat4 at *; rw [List.flatMap_cons, List.length_append, ih, List.length_cons]; show 4 + _ = _; omega
theorem flat4_app (a b : List Fv) : flat4 (a ++ b) = flat4 a ++ flat4 b := by unfold flat4; exact List.flatMap_append
/-- blocks that nothing of a typing writes -/
def Kp (p : Nat) (vs vf : Value) (w : World) (k : Nat) : Prop := k < w.heap.size ∧ k ≠ p ∧ some k ≠ vs.ownBlock ∧ some k ≠ vf.ownBlock
structure Gr (p : Nat) (vs vf : Value) (w : World) (vs' vf' : Value) (w' : World) : Prop where
  size : w.heap.size ≤ w'.heap.size
  keep : ∀ k, Kp p vs vf w k → Kp p vs' vf' w' k ∧ w'.heap[k]? = w.heap[k]?
theorem Gr.refl (p : Nat) (vs vf : Value) (w : World) : Gr p vs vf w vs vf w := ⟨Nat.le_refl _, fun k h => ⟨h, rfl⟩⟩
theorem Gr.trans {p : Nat} {vs vf vs1 vf1 vs2 vf2 : Value} {w w1 w2 : World} (h : Gr p vs vf w vs1 vf1 w1) (h' : Gr p vs1 vf1 w1 vs2 vf2 w2) : Gr p vs vf w vs2 vf2 w2 :=
  ⟨Nat.le_trans h.size h'.size, fun k hk => ⟨(h'.keep k (h.keep k hk).1).1, (h'.keep k (h.keep k hk).1).2.trans (h.keep k hk).2⟩⟩
structure TS (w0 : World) (p : Nat) (c : Nat → Value) (loc : Value) (st : List Int) (fs : List Fv) (vs vf : Value) (w : World) : Prop where
  below : Below w0.heap.size w0 w
  base : w0.heap.size ≤ p
  blk : w.heap[p]? = some (.cells #[c 0, c 1, c 2, c 3, c 4, c 5, c 6, c 7, c 8, c 9, loc, vs, vf] 57 (0, 0))
  hs : w.ownsRow (p + 1) 3 1 vs st.length (st.map fun z => Value.int .i64 z)
  hf : w.ownsRow (p + 1) 62 4 vf fs.length (flat4 fs)
  ints : ∀ f ∈ fs, IntsS w (Kp p vs vf w) f.2.1 f.1.types ∧ IntsS w (Kp p vs vf w) f.2.2 f.1.ends
section
variable {w0 w w' : World} {p : Nat} {c : Nat → Value} {loc : Value} {st : List Int} {fs : List Fv} {vs vf : Value}
theorem TS.cell (h : TS w0 p c loc st fs vs vf w) (j : Nat) (v : Value) (hv : #[c 0, c 1, c 2, c 3, c 4, c 5, c 6, c 7, c 8, c 9, loc, vs, vf][j]? = some v) : w.cell? ⟨p, j, none⟩ = some v := by
  unfold World.cell?; rw [h.blk]; exact hv
theorem TS.frz (h : TS w0 p c loc st fs vs vf w) (j : Nat) : w.frozen? ⟨p, j, none⟩ = false := by unfold World.frozen?; rw [h.blk]; simp
theorem TS.lt (h : TS w0 p c loc st fs vs vf w) : p < w.heap.size := (Array.getElem?_eq_some_iff.1 h.blk).1
theorem TS.ne (h : TS w0 p c loc st fs vs vf w) : ∀ q, vs.ownBlock = some q → vf.ownBlock ≠ some q := fun q h1 h2 => by
  rcases h.hs.2 with ⟨e, _⟩ | ⟨g, cap, cur, e, _, hg, _⟩
  · rw [e] at h1; cases h1
  rcases h.hf.2 with ⟨e2, _⟩ | ⟨g2, cap2, cur2, e2, _, hg2, _⟩
  · rw [e2] at h2; cases h2
  rw [e] at h1; rw [e2] at h2
  have h1 : g = q := by simpa [Value.ownBlock] using h1
  have h2 : g2 = q := by simpa [Value.ownBlock] using h2
  subst h1; subst h2
  rw [hg] at hg2
  injection hg2 with hg2
  injection hg2 with _ ht
  exact absurd ht (by decide)
/-- another world, in which nothing of it was touched -/
theorem TS.on (h : TS w0 p c loc st fs vs vf w) (hb : Below w.heap.size w w') : TS w0 p c loc st fs vs vf w' ∧ Gr p vs vf w vs vf w' := by
  have hg : Gr p vs vf w vs vf w' := ⟨hb.size, fun k hk => ⟨⟨Nat.lt_of_lt_of_le hk.1 hb.size, hk.2⟩, hb.block k hk.1⟩⟩
  have grown : w.grownBy w' none := ⟨hb.os, hb.tape, hb.output, hb.size, fun k hk _ => hb.block k hk⟩
  exact ⟨⟨h.below.trans (hb.mono h.below.size), h.base, by rw [hb.block p h.lt]; exact h.blk, h.hs.kept grown (by cases hq : vs.ownBlock; exact .inl rfl; exact .inr (by simp)), h.hf.kept grown (by cases hq : vf.ownBlock; exact .inl rfl; exact .inr (by simp)), fun f hf => ⟨(h.ints f hf).1.keep hg.keep, (h.ints f hf).2.keep hg.keep⟩⟩, hg⟩
end
/-- the row's first ones -/
theorem own_take {w : World} {B : Nat} {e : TypeId} {g n cap : Nat} {xs : List Value} (h : w.ownsRow B e 1 (.slice (some ⟨g, 0, none⟩) n cap) n xs) (k : Nat) (hk : k ≤ n) : w.ownsRow B e 1 (.slice (some ⟨g, 0, none⟩) k cap) k (xs.take k) := by
  rcases h with ⟨hl, ⟨h1, _⟩ | ⟨g', cap', cur, h1, h2, h3, h4, h5, h6, h7⟩⟩
  · cases h1
  · injection h1 with a1 a2 a3
    injection a1 with a1
    injection a1 with a1 _ _
    subst a1; subst a3
    refine ⟨by rw [List.length_take]; omega, .inr ⟨g, cap, cur, rfl, h2, h3, by omega, h5, h6, ?_⟩⟩
    rw [← h7, List.take_take, Nat.mul_one, Nat.mul_one]
    congr 1
    omega
/-- a frame's answer at a pop -/
def fit (a b : Int) : Bool := a == b || (a == 0 || b == 0)
def tk (st : List Int) (f : PF) (want : Int) : Except Int (Int × List Int) :=
  if st.length = f.height then (if f.dead = true then .ok (0, st) else .error 60)
  else if fit (st.getLastD 0) want = true then .ok (st.getLastD 0, st.dropLast) else .error 60
end Val
open Val
set_option maxHeartbeats 400000 in
theorem vNeed (c : Bool) (k : Int) (w : World) : Calls Tryd.prog 13 #[.bool c, .int .i64 k] w fun e w' => Needs c k e ∧ w' = w := by
  cases c
  · go_enter Tryd.func13, Tryd.ntmps13
    go_wp2
    exact ⟨rfl, .inr ⟨rfl, rfl⟩, rfl⟩
  · go_enter Tryd.func13, Tryd.ntmps13
    go_wp2
    go_end0
    exact ⟨.inl ⟨rfl, rfl⟩, rfl⟩
theorem vNeedY (k : Int) (w : World) : Calls Tryd.prog 13 #[.bool true, .int .i64 k] w fun e w' => e = .returned (.tuple #[]) ∧ w' = w :=
  (vNeed true k w).mono fun e w' h => ⟨h.1.yes, h.2⟩
theorem vNeedN (k : Int) (w : World) : Calls Tryd.prog 13 #[.bool false, .int .i64 k] w fun e w' => e = .panicked (gave k) ∧ w' = w :=
  (vNeed false k w).mono fun e w' h => ⟨h.1.no, h.2⟩
set_option maxHeartbeats 400000 in
theorem vFits (a b : Int) (w : World) : Calls Tryd.prog 78 #[.int .i64 a, .int .i64 b] w fun e w' => e = .returned (.bool (fit a b)) ∧ w' = w := by
  unfold fit
  cases h1 : (a == b) <;> cases h2 : (a == 0) <;> cases h3 : (b == 0)
  all_goals
    go_enter Tryd.func78, Tryd.ntmps78
    go_wp2
    go_ret
    exact ⟨rfl, rfl⟩
section
variable (w0 : World) (p : Nat) (c : Nat → Value) (loc : Value) (st : List Int) (fs : List Fv) (f : Fv) (vs vf : Value) (w : World) (h : TS w0 p c loc st (fs ++ [f]) vs vf w)
include h
theorem inner_at : ∃ g cap, vf = .slice (some ⟨g, 0, none⟩) (fs.length + 1) cap ∧ (∀ j v, (f4 f)[j]? = some v → w.cell? ⟨g, fs.length * 4 + j, none⟩ = some v) ∧ (∀ j, w.frozen? ⟨g, j, none⟩ = false) ∧ p < g := by
  have hl : (fs ++ [f]).length = fs.length + 1 := by simp
  have hF := h.hf
  rw [hl] at hF
  rcases hF.2 with ⟨_, h0⟩ | ⟨g, cap, cur, e, hb, hg, h4, h5, h6, h7⟩
  · omega
  refine ⟨g, cap, e, fun j v hv => ?_, fun j => by unfold World.frozen?; rw [hg]; simp, by omega⟩
  have hj : j < 4 := by have := (List.getElem?_eq_some_iff.1 hv).1; exact this
  rw [e] at hF
  rw [World.ownsRow.cellAt hF (fs.length * 4 + j) (by omega), flat4_app, List.getElem?_append_right (by rw [flat4_len]; omega), flat4_len, Nat.add_sub_cancel_left]
  show (flat4 [f])[j]? = _
  unfold flat4
  simpa using hv
set_option maxRecDepth 100000 in
set_option maxHeartbeats 4000000 in
theorem vInner (hb : fs.length ≤ 1000000) : Calls Tryd.prog 77 #[.pointer (some ⟨p, 0, none⟩)] w fun e w' => (∃ g cap, vf = .slice (some ⟨g, 0, none⟩) (fs.length + 1) cap ∧ e = .returned (.pointer (some ⟨g, fs.length * 4, none⟩))) ∧ TS w0 p c loc st (fs ++ [f]) vs vf w' ∧ Gr p vs vf w vs vf w' ∧ Below w.heap.size w w' := by
  obtain ⟨g, cap, e, _, _, _⟩ := inner_at w0 p c loc st fs f vs vf w h
  subst e
  have c12 := h.cell 12 _ rfl
  have H := hideR h
  generalize hn : fs.length = n at *
  clear h
  go_enter Tryd.func77, Tryd.ntmps77
  go_wp2_with fail
  go_quiet (fail)
  go_wp2
  go_ret
  exact ⟨⟨g, cap, rfl, rfl⟩, (H.out.on (below_drewN' w nq)).1, (H.out.on (below_drewN' w nq)).2, below_drewN' w nq⟩
end
end Go.Proofs.YtlpnoelolkbmmaaDoor
