/- pop whole. -/
import Derived.Test.YtlpnoelolkbmmaaDoorV4
namespace Go.Proofs.YtlpnoelolkbmmaaDoor
open Go.RowKit Rep Val
set_option linter.unusedVariables false
set_option maxHeartbeats 1000000 in
theorem vBackward (o : Option Addr) (n k : Nat) (w : World) : Calls Tryd.prog 58 #[.slice o n k] w fun e w' => e = .returned (.func (.func 76) #[] #[.pointer (some ⟨w.heap.size, 0, none⟩)]) ∧ w' = w.alloc (.cells #[.slice o n k] 23) := by
  have hmf : ∀ (fn : Fn) (first cap : Array Value) (w : World), (Instr.makeFunc fn first cap).run Tryd.prog w = .ok (.func fn first cap) w := fun _ _ _ _ => rfl
  go_enter Tryd.func58, Tryd.ntmps58
  go_wp2
  go_ret
  exact ⟨rfl, rfl⟩
namespace Val
def PopSays (w0 : World) (p : Nat) (c : Nat → Value) (loc : Value) (fs : List Fv) (vs vf : Value) (w : World) (X : Except Int (List Int)) (e : Ending) (w' : World) : Prop :=
  match X with
  | .ok st' => e = .returned (.tuple #[]) ∧ ∃ vs', TS w0 p c loc st' fs vs' vf w' ∧ Gr p vs vf w vs' vf w'
  | .error z => e = .panicked (gave z) ∧ Below w0.heap.size w0 w'
/-- what lies behind what was laid since -/
theorem Kp.up {p : Nat} {vs vf : Value} {w w' : World} {k : Nat} (h : Kp p vs vf w k) (hs : w.heap.size ≤ w'.heap.size) : Kp p vs vf w' k := ⟨Nat.lt_of_lt_of_le h.1 hs, h.2⟩
theorem TS.fresh {w0 w : World} {p : Nat} {c : Nat → Value} {loc : Value} {st : List Int} {fs : List Fv} {vs vf : Value} (h : TS w0 p c loc st fs vs vf w) {w' : World} {k : Nat} (hk : w.heap.size ≤ k) (hk2 : k < w'.heap.size) : Kp p vs vf w' k := by
  refine ⟨hk2, by have := h.lt; omega, fun e => ?_, fun e => ?_⟩
  · have := (h.hs.lt k e.symm).2; omega
  · have := (h.hf.lt k e.symm).2; omega
theorem alloc_of {w : World} {o o' : Obj} {k : Nat} (h : w.heap[k]? = some o) : (w.alloc o').heap[k]? = some o := (Below.heap_alloc w o' k (Array.getElem?_eq_some_iff.1 h).1).trans h
/-- the world as the loop begins -/
def pw1 (p : Nat) (tv : Value) (w : World) : World := (w.alloc (.cells #[.pointer (some ⟨p, 0, none⟩)] 53)).alloc (.cells #[tv] 23)
def pw2 (p : Nat) (tv : Value) (w : World) : World := ((pw1 p tv w).alloc (.deferred (some []))).alloc (.loop (popRec p tv w.heap.size (w.heap.size + 1) (w.heap.size + 2) .ready))
theorem pw1_size (p : Nat) (tv : Value) (w : World) : (pw1 p tv w).heap.size = w.heap.size + 2 := by simp [pw1]
theorem pw2_size (p : Nat) (tv : Value) (w : World) : (pw2 p tv w).heap.size = w.heap.size + 4 := by simp [pw2, pw1]
theorem pw2_on (p : Nat) (tv : Value) (w : World) : Below w.heap.size w (pw2 p tv w) := below_go' (below_go' (below_go' (new_on' _ _) (new_on' _ _)) (new_on' _ _)) (new_on' _ _)
theorem pw2_at (p : Nat) (tv : Value) (w : World) : (pw2 p tv w).heap[w.heap.size]? = some (.cells #[.pointer (some ⟨p, 0, none⟩)] 53 (0, 0)) ∧ (pw2 p tv w).heap[w.heap.size + 1]? = some (.cells #[tv] 23 (0, 0)) ∧ (pw2 p tv w).heap[w.heap.size + 2]? = some (.deferred (some [])) ∧ (pw2 p tv w).heap[w.heap.size + 3]? = some (.loop (popRec p tv w.heap.size (w.heap.size + 1) (w.heap.size + 2) .ready)) := by
  have a1 : (w.alloc (.cells #[.pointer (some ⟨p, 0, none⟩)] 53)).heap[w.heap.size]? = some (.cells #[.pointer (some ⟨p, 0, none⟩)] 53 (0, 0)) := World.alloc_heap_new _ _
  have a2 : (pw1 p tv w).heap[w.heap.size + 1]? = some (.cells #[tv] 23 (0, 0)) := by
    have := World.alloc_heap_new (w.alloc (.cells #[.pointer (some ⟨p, 0, none⟩)] 53)) (.cells #[tv] 23)
    rw [World.size_alloc] at this; exact this
  have a3 : ((pw1 p tv w).alloc (.deferred (some []))).heap[w.heap.size + 2]? = some (.deferred (some [])) := by
    have := World.alloc_heap_new (pw1 p tv w) (.deferred (some []))
    rw [pw1_size] at this; exact this
  have a4 : (pw2 p tv w).heap[w.heap.size + 3]? = some (.loop (popRec p tv w.heap.size (w.heap.size + 1) (w.heap.size + 2) .ready)) := by
    have := World.alloc_heap_new ((pw1 p tv w).alloc (.deferred (some []))) (.loop (popRec p tv w.heap.size (w.heap.size + 1) (w.heap.size + 2) .ready))
    rw [World.size_alloc, pw1_size] at this; exact this
  exact ⟨alloc_of (alloc_of (alloc_of a1)), alloc_of (alloc_of a2), alloc_of a3, a4⟩
end Val
set_option maxRecDepth 100000 in
set_option maxHeartbeats 8000000 in
theorem vPop (w0 : World) (p : Nat) (c : Nat → Value) (loc : Value) (st : List Int) (fs : List Fv) (f : Fv) (vs vf : Value) (w : World) (h : TS w0 p c loc st (fs ++ [f]) vs vf w) (tv : Value) (ts : List Int) (ht : IntsS w (Kp p vs vf w) tv ts) (htl : ts.length ≤ 100000) (hb : fs.length ≤ 1000000) (hh : f.1.height ≤ st.length) (hl : st.length ≤ 1000000000) :
    Calls Tryd.prog 40 #[.pointer (some ⟨p, 0, none⟩), tv] w (PopSays w0 p c loc (fs ++ [f]) vs vf w (pp f.1 ts.reverse st)) := by
  obtain ⟨X, hX⟩ : ∃ X, X = pp f.1 ts.reverse st := ⟨_, rfl⟩
  rw [← hX]
  have hrow : Row 1 (fun b o (z : Int) => Kp p vs vf w b ∧ w.cell? ⟨b, o, none⟩ = .some (.int .i64 z)) tv ts := ht
  obtain ⟨o, cap, hv⟩ := Row.len hrow
  have hel : 0 < ts.length → ∃ b off, o = some ⟨b, off, none⟩ ∧ Kp p vs vf w b ∧ ∀ j, j < ts.length → w.cell? ⟨b, off + j, none⟩ = some (.int .i64 (ts.getD j 0)) := fun h0 => by
    obtain ⟨b, off, cap', e, hc⟩ := Row.some hrow h0
    rw [hv] at e
    injection e with e1 _ _
    refine ⟨b, off, e1, (hc 0 (ts[0]'h0) (List.getElem?_eq_getElem h0)).1, fun j hj => ?_⟩
    have := (hc j (ts[j]'hj) (List.getElem?_eq_getElem hj)).2
    rw [Nat.mul_one] at this
    rw [this, List.getD_eq_getElem?_getD, List.getElem?_eq_getElem hj]
    rfl
  subst hv
  have hs2 := pw2_size p (.slice o ts.length cap) w
  obtain ⟨p1, p2, p3, p4⟩ := pw2_at p (.slice o ts.length cap) w
  obtain ⟨hts2, hgr2⟩ := h.on (pw2_on p (.slice o ts.length cap) w)
  have hr0 : w0.heap.size ≤ w.heap.size + 3 := by have := h.below.size; omega
  have hK : ∀ k, w.heap.size ≤ k → k < w.heap.size + 4 → Kp p vs vf (pw2 p (.slice o ts.length cap) w) k := fun k h1 h2 => h.fresh h1 (by omega)
  have hPM0 : PM w0 p c loc fs f vs vf (.slice o ts.length cap) w.heap.size (w.heap.size + 1) (w.heap.size + 2) (w.heap.size + 3) (pw2 p (.slice o ts.length cap) w) st.length X (ts.reverse.drop 0) (pw2 p (.slice o ts.length cap) w) :=
    ⟨⟨st, vs, hts2, by rw [hX]; rfl, hh, Nat.le_refl _, fun q hq _ => ⟨hq, rfl⟩⟩, Nat.le_refl _, p4⟩
  refine callsIn_wide.1 (callsRange (n := 1) (F := Fence.wide) (fun a w' => a = { tmps := #[.pointer (some ⟨p, 0, none⟩), .slice o ts.length cap, .pointer (some ⟨w.heap.size, 0, none⟩), undef, undef, undef, .slice o ts.length cap, .func (.func 76) #[] #[.pointer (some ⟨w.heap.size + 1, 0, none⟩)], undef, undef, undef, undef, undef], defers := [] } ∧ w' = pw1 p (.slice o ts.length cap) w) Tryd.func40 rfl trivial rfl ?_ ?_)
  · simp only [Tryd.ntmps40, List.size_toArray, List.length_cons, List.length_nil, Nat.reduceAdd, Nat.reduceSub, Array.replicate_succ, Array.replicate_zero, List.push_toArray, List.append_toArray, List.nil_append, List.cons_append]
    gi_wp2
    show Code.wpIn _ _ _ _ _ _ _
    gi_wp2
    refine ⟨trivial, callsIn_wide.2 ((vBackward _ _ _ _).mono ?_)⟩
    rintro e u ⟨rfl, rfl⟩
    gi_wp2
    exact ⟨by simp, rfl⟩
  · rintro a w' ⟨rfl, rfl⟩
    refine ⟨rfl, w.heap.size + 3, [{ target := .collected (w.heap.size + 2), args := #[] }], pw2 p (.slice o ts.length cap) w, { target := .fn (.func 76) #[.pointer (some ⟨w.heap.size + 1, 0, none⟩)], args := #[.func (.yield (w.heap.size + 3)) #[] #[]] }, pw2 p (.slice o ts.length cap) w, 76, #[.func (.yield (w.heap.size + 3)) #[] #[], .pointer (some ⟨w.heap.size + 1, 0, none⟩)], pw2 p (.slice o ts.length cap) w, ?_, ?_, fun f' _ => trivial, ?_, (by intro h; cases h), ?_⟩
    · have e := run_enterLoop_outer (P := Tryd.prog) (w := pw1 p (.slice o ts.length cap) w) 40 #[.pointer (some ⟨p, 0, none⟩), .slice o ts.length cap, .pointer (some ⟨w.heap.size, 0, none⟩), undef, undef, undef, .slice o ts.length cap, .func (.func 76) #[] #[.pointer (some ⟨w.heap.size + 1, 0, none⟩)], undef, undef, undef, undef, undef] #[8, 9] popAssign popBody
      rw [pw1_size] at e
      exact e
    · simp [resolve, go_sem]
    · simp [invoke, go_sem]
    · have hb9 : ∀ k W, PM w0 p c loc fs f vs vf (.slice o ts.length cap) w.heap.size (w.heap.size + 1) (w.heap.size + 2) (w.heap.size + 3) (pw2 p (.slice o ts.length cap) w) st.length X (ts.reverse.drop k) W → ∀ q, Kp p vs vf (pw2 p (.slice o ts.length cap) w) q → q ≠ w.heap.size + 3 → W.heap[q]? = (pw2 p (.slice o ts.length cap) w).heap[q]? := fun k W hPM q hq hne => by
        obtain ⟨_, _, _, _, _, _, hk⟩ := hPM.ts
        exact (hk q hq hne).2
      obtain ⟨b, off, hbo⟩ : ∃ b off, 0 < ts.length → o = some ⟨b, off, none⟩ ∧ Kp p vs vf w b ∧ ∀ j, j < ts.length → w.cell? ⟨b, off + j, none⟩ = some (.int .i64 (ts.getD j 0)) := by
        by_cases h0 : 0 < ts.length
        · obtain ⟨b, off, x⟩ := hel h0; exact ⟨b, off, fun _ => x⟩
        · exact ⟨0, 0, fun h => absurd h h0⟩
      refine (vBack1 0 (w.heap.size + 3) (w.heap.size + 1) ts.length cap o b off ts htl (fun h0 => (hbo h0).1) (fun k W => PM w0 p c loc fs f vs vf (.slice o ts.length cap) w.heap.size (w.heap.size + 1) (w.heap.size + 2) (w.heap.size + 3) (pw2 p (.slice o ts.length cap) w) st.length X (ts.reverse.drop k) W)
        (fun z W' => X = .error z ∧ Below w0.heap.size w0 W' ∧ (pw2 p (.slice o ts.length cap) w).heap.size ≤ W'.heap.size ∧ ∀ q, Kp p vs vf (pw2 p (.slice o ts.length cap) w) q → q ≠ w.heap.size + 3 → W'.heap[q]? = (pw2 p (.slice o ts.length cap) w).heap[q]?) ?_ ?_ _ hPM0).mono ?_
      · intro k W hPM
        refine ⟨(World.cell?_of_block (hb9 k W hPM (w.heap.size + 1) (hK _ (by omega) (by omega)) (by omega))).trans (by unfold World.cell?; rw [p2]; rfl), fun j hj => ?_⟩
        obtain ⟨_, hkb, hcj⟩ := hbo (by omega)
        have e1 := hgr2.keep b hkb
        exact (World.cell?_of_block (hb9 k W hPM b e1.1 (by have := hkb.1; omega))).trans ((World.cell?_of_block e1.2).trans (hcj j hj))
      · intro k W hk hPM
        have hdr : ts.reverse.drop k = ts.getD (ts.length - 1 - k) 0 :: ts.reverse.drop (k + 1) := by
          have hk2 : k < ts.reverse.length := by simpa using hk
          rw [List.drop_eq_getElem_cons hk2, List.getElem_reverse, List.getD_eq_getElem?_getD, List.getElem?_eq_getElem (by omega)]
          rfl
        rw [hdr] at hPM
        refine ⟨_, _, _, _, ?_, popRound 0 w0 p c loc fs f vs vf (.slice o ts.length cap) w.heap.size (w.heap.size + 1) (w.heap.size + 2) (w.heap.size + 3) _ st.length X _ ((ts.length : Int) - 1 - k) _ W hPM hb hl (hK _ (by omega) (by omega)) (by omega) (by unfold World.cell?; rw [p1]; rfl) hr0⟩
        simpa [popRec] using run_yield (P := Tryd.prog) (args := #[.int .i64 ((ts.length : Int) - 1 - k), .int .i64 (ts.getD (ts.length - 1 - k) 0)]) hPM.rec_ rfl
      · rintro e W3 (⟨⟨v, rfl⟩, hPM⟩ | ⟨z, rfl, hXz, hbz, hsz, hkz⟩)
        · have hD3 : W3.heap[w.heap.size + 2]? = some (.deferred (some [])) := (hb9 _ W3 hPM (w.heap.size + 2) (hK _ (by omega) (by omega)) (by omega)).trans p3
          have hend := run_endLoop (P := Tryd.prog) hPM.rec_ (by simp [popRec])
          refine ⟨_, hend, by simp, .inl ⟨_, _, rfl, run_takeDeferred (by rw [World.putObj_heap_other (by omega)]; exact hD3), ?_⟩⟩
          refine ⟨.tuple #[], results_none rfl _ _ _, ?_⟩
          obtain ⟨st', vs', hts, hpp, _, _, hkk⟩ := hPM.ts
          rw [List.drop_of_length_le (by simp)] at hpp
          have hpp : Except.ok st' = X := hpp
          rw [← hpp]
          have t1 := hts.put (.loop { popRec p (.slice o ts.length cap) w.heap.size (w.heap.size + 1) (w.heap.size + 2) .ready with state := .exhausted }) hPM.rec_ rfl hr0
          have t2 := t1.put (.deferred none) (r := w.heap.size + 2) (o := .deferred (some [])) (by rw [World.putObj_heap_other (by omega)]; exact hD3) rfl (by have := h.below.size; omega)
          refine ⟨rfl, vs', t2, ?_, fun q hq => ?_⟩
          · have := hPM.size; simp only [World.putObj_size]; omega
          · have hq1 := hq.1
            obtain ⟨c1, c2⟩ := hgr2.keep q hq
            obtain ⟨d1, d2⟩ := hkk q c1 (by omega)
            exact ⟨⟨by simpa using d1.1, d1.2⟩, (World.putObj_heap_other (by omega)).trans ((World.putObj_heap_other (by omega)).trans (d2.trans c2))⟩
        · have hD3 : W3.heap[w.heap.size + 2]? = some (.deferred (some [])) := (hkz _ (hK _ (by omega) (by omega)) (by omega)).trans p3
          refine ⟨by simp, .inl ⟨_, _, rfl, run_takeDeferred hD3, ?_⟩⟩
          rw [hXz]
          exact ⟨rfl, hbz.grown (grownBy_putObj' W3 _ _) hbz.size (fun q e => by cases e; have := h.below.size; omega)⟩
end Go.Proofs.YtlpnoelolkbmmaaDoor
