/- A body that is being typed: a type is popped. -/
import Derived.Test.YtlpnoelolkbmmaaDoorV1
namespace Go.Proofs.YtlpnoelolkbmmaaDoor
open Go.RowKit Rep Val
set_option linter.unusedVariables false
namespace Val
theorem TS.set11 {w0 w : World} {p : Nat} {c : Nat → Value} {loc : Value} {st st' : List Int} {fs : List Fv} {vs vs' vf : Value} (h : TS w0 p c loc st fs vs vf w) (ho : w.ownsRow (p + 1) 3 1 vs' st'.length (st'.map fun z => Value.int .i64 z)) (hv : vs'.ownBlock = vs.ownBlock) :
    TS w0 p c loc st' fs vs' vf (w.setCell ⟨p, 11, none⟩ vs') ∧ Gr p vs vf w vs' vf (w.setCell ⟨p, 11, none⟩ vs') := by
  have hb : ∀ k, k ≠ p → (w.setCell ⟨p, 11, none⟩ vs').heap[k]? = w.heap[k]? := fun k hk => Below.heap_setCell _ _ _ _ hk
  have hg : Gr p vs vf w vs' vf (w.setCell ⟨p, 11, none⟩ vs') := ⟨by simp, fun k hk => ⟨⟨by simpa using hk.1, hk.2.1, by rw [hv]; exact hk.2.2.1, hk.2.2.2⟩, hb k hk.2.1⟩⟩
  have grown : w.grownBy (w.setCell ⟨p, 11, none⟩ vs') (some p) := ⟨rfl, rfl, rfl, by simp, fun k _ hk => hb k (fun e => hk (by rw [e]))⟩
  have hne : ∀ (v : Value) (e : TypeId) (n m : Nat) (xs : List Value), w.ownsRow (p + 1) e n v m xs → v.ownBlock = none ∨ v.ownBlock ≠ some p := fun v e n m xs h => by
    cases hq : v.ownBlock with
    | none => exact .inl rfl
    | some q => have := (h.lt q hq).1; exact .inr (by simp; omega)
  exact ⟨⟨h.below.setCell h.base _, h.base, heap_setCell_same w p 11 _ _ _ h.blk, ho.kept grown (hne _ _ _ _ _ ho), h.hf.kept grown (hne _ _ _ _ _ h.hf), fun f hf => ⟨(h.ints f hf).1.keep hg.keep, (h.ints f hf).2.keep hg.keep⟩⟩, hg⟩
def TkSays (w0 : World) (p : Nat) (c : Nat → Value) (loc : Value) (fs : List Fv) (vs vf : Value) (w : World) (X : Except Int (Int × List Int)) (e : Ending) (w' : World) : Prop :=
  match X with
  | .ok (got, st') => e = .returned (.int .i64 got) ∧ ∃ vs', TS w0 p c loc st' fs vs' vf w' ∧ Gr p vs vf w vs' vf w'
  | .error z => e = .panicked (gave z) ∧ Below w0.heap.size w0 w' ∧ ∃ vs', Gr p vs vf w vs' vf w'
end Val
set_option maxRecDepth 100000 in
set_option maxHeartbeats 8000000 in
theorem vTake (w0 : World) (p : Nat) (c : Nat → Value) (loc : Value) (st : List Int) (fs : List Fv) (f : Fv) (vs vf : Value) (w : World) (h : TS w0 p c loc st (fs ++ [f]) vs vf w) (want : Int) (hb : fs.length ≤ 1000000) (hh : f.1.height ≤ st.length) (hl : st.length ≤ 1000000000) :
    Calls Tryd.prog 59 #[.pointer (some ⟨p, 0, none⟩), .int .i64 want] w (TkSays w0 p c loc (fs ++ [f]) vs vf w (tk st f.1 want)) := by
  have HI := hideR (vInner w0 p c loc st fs f vs vf w h hb)
  obtain ⟨o0, c0, rfl⟩ := own_slice h.hs
  by_cases he : st.length = f.1.height
  · have qe : (((st.length : Nat) : Int) == ((f.1.height : Nat) : Int)) = true := by rw [he]; simp
    cases hd : f.1.dead with
    | true =>
      have e1 : tk st f.1 want = .ok (0, st) := by unfold tk; rw [if_pos he, if_pos hd]
      rw [e1]
      clear e1 h
      generalize st.length = n at *
      generalize hm : f.1.height = m at *
      go_enter Tryd.func59, Tryd.ntmps59
      go_wp2_with fail
      refine HI.out.mono ?_
      rintro e u ⟨⟨g, cap, rfl, rfl⟩, h1, h2, _⟩
      obtain ⟨g', cap', e', hc, _, _⟩ := inner_at w0 p c loc st fs f _ _ u h1
      injection e' with a1 a2 a3
      injection a1 with a1
      injection a1 with a1 _ _
      subst a1
      have c11 := h1.cell 11 _ rfl
      have k2 := hc 2 _ rfl
      have k3 := hc 3 _ rfl
      rw [hm] at k2
      rw [hd] at k3
      have H1 := hideR h1
      have H2 := hideR h2
      clear h1 h2 hc a2 a3 HI
      generalize fs.length * 4 = q at *
      go_wp2_with fail
      go_quiet (fail)
      have H3 := hideR (H1.out.on (below_drewN' u nq))
      go_wp2_with fail
      refine (vNeedY _ _).mono ?_
      rintro e u2 ⟨rfl, rfl⟩
      go_wp2
      go_ret
      exact ⟨rfl, _, H3.out.1, H2.out.trans H3.out.2⟩
    | false =>
      have e1 : tk st f.1 want = .error 60 := by unfold tk; rw [if_pos he, if_neg (by simp [hd])]
      rw [e1]
      clear e1 h he
      generalize st.length = n at *
      generalize hm : f.1.height = m at *
      go_enter Tryd.func59, Tryd.ntmps59
      go_wp2_with fail
      refine HI.out.mono ?_
      rintro e u ⟨⟨g, cap, rfl, rfl⟩, h1, h2, _⟩
      obtain ⟨g', cap', e', hc, _, _⟩ := inner_at w0 p c loc st fs f _ _ u h1
      injection e' with a1 a2 a3
      injection a1 with a1
      injection a1 with a1 _ _
      subst a1
      have c11 := h1.cell 11 _ rfl
      have k2 := hc 2 _ rfl
      have k3 := hc 3 _ rfl
      rw [hm] at k2
      rw [hd] at k3
      have H1 := hideR h1
      have H2 := hideR h2
      clear h1 h2 hc a2 a3 HI
      generalize fs.length * 4 = q at *
      go_wp2_with fail
      go_quiet (fail)
      have H3 := hideR (H1.out.on (below_drewN' u nq))
      go_wp2_with fail
      refine (vNeedN _ _).mono ?_
      rintro e u2 ⟨rfl, rfl⟩
      exact ⟨rfl, rfl, H3.out.1.below, _, H2.out.trans H3.out.2⟩
  · rcases List.eq_nil_or_concat st with rfl | ⟨st', got, rfl⟩
    · exact absurd hh (by simp at he ⊢; omega)
    have e1 : tk (st'.concat got) f.1 want = if fit got want = true then .ok (got, st') else .error 60 := by
      unfold tk
      rw [if_neg he]
      simp
    rw [e1]
    have hln : (st'.concat got).length = st'.length + 1 := by simp
    have qe : ((((st'.concat got).length : Nat) : Int) == ((f.1.height : Nat) : Int)) = false := by rw [beq_eq_false_iff_ne]; omega
    rw [hln] at qe hl
    have HF := hideR (fun u => vFits got want u)
    rw [hln] at HI h ⊢
    clear e1 he hh
    have ho := h.hs
    rw [hln] at ho
    rcases ho.2 with ⟨_, h0⟩ | ⟨gs, cap0, cur, e0, hbs, hgs, h4, h5, h6, h7⟩
    · omega
    injection e0 with b1 b2 b3
    subst b1; subst b3
    have HG : Hid (∀ u, TS w0 p c loc (st'.concat got) (fs ++ [f]) (.slice (some ⟨gs, 0, none⟩) (st'.length + 1) c0) vf u → u.cell? ⟨gs, st'.length, none⟩ = some (.int .i64 got) ∧ (TS w0 p c loc st' (fs ++ [f]) (.slice (some ⟨gs, 0, none⟩) st'.length c0) vf (u.setCell ⟨p, 11, none⟩ (.slice (some ⟨gs, 0, none⟩) st'.length c0)) ∧ Gr p (.slice (some ⟨gs, 0, none⟩) (st'.length + 1) c0) vf u (.slice (some ⟨gs, 0, none⟩) st'.length c0) vf (u.setCell ⟨p, 11, none⟩ (.slice (some ⟨gs, 0, none⟩) st'.length c0)))) := hideR (fun u hu => by
      have hs := hu.hs
      rw [hln] at hs
      refine ⟨?_, hu.set11 ?_ rfl⟩
      · rw [World.ownsRow.cellAt hs st'.length (by omega)]
        simp
      · have := own_take hs st'.length (by omega)
        rw [show ((st'.concat got).map fun z => Value.int .i64 z).take st'.length = st'.map fun z => Value.int .i64 z by simp] at this
        exact this)
    have hcap : st'.length + 1 ≤ c0 := h4
    clear ho b2 hbs hgs h4 h5 h6 h7 hln h
    generalize hL : st'.length = L at *
    cases hfit : fit got want with
    | true =>
      rw [if_pos rfl]
      rw [hfit] at HF
      generalize hm : f.1.height = m at *
      go_enter Tryd.func59, Tryd.ntmps59
      go_wp2_with fail
      refine HI.out.mono ?_
      rintro e u ⟨⟨g, cap, rfl, rfl⟩, h1, h2, _⟩
      obtain ⟨g', cap', e', hc, _, _⟩ := inner_at w0 p c loc _ fs f _ _ u h1
      injection e' with a1 a2 a3
      injection a1 with a1
      injection a1 with a1 _ _
      subst a1
      have c11 := h1.cell 11 _ rfl
      have k2 := hc 2 _ rfl
      rw [hm] at k2
      have H1 := hideR h1
      have H2 := hideR h2
      clear h1 h2 hc a2 a3 HI
      generalize fs.length * 4 = q at *
      go_wp2_with fail
      go_quiet (fail)
      have H3 := hideR (H1.out.on (below_drewN' u nq))
      have HB := hideR (H2.out.trans H3.out.2)
      obtain ⟨hcell, hset⟩ := HG.out _ H3.out.1
      have c11 := H3.out.1.cell 11 _ rfl
      have f11 := H3.out.1.frz 11
      have HSET := hideR hset
      clear hset H1 H2 H3 k2 HG
      generalize u.drewN nq = u1 at *
      go_wp2_with fail
      refine (HF.out _).mono ?_
      rintro e u2 ⟨rfl, rfl⟩
      go_wp2_with fail
      refine (vNeedY _ _).mono ?_
      rintro e u3 ⟨rfl, rfl⟩
      go_wp2
      go_ret
      exact ⟨rfl, _, HSET.out.1, HB.out.trans HSET.out.2⟩
    | false =>
      rw [if_neg (by simp)]
      rw [hfit] at HF
      generalize hm : f.1.height = m at *
      go_enter Tryd.func59, Tryd.ntmps59
      go_wp2_with fail
      refine HI.out.mono ?_
      rintro e u ⟨⟨g, cap, rfl, rfl⟩, h1, h2, _⟩
      obtain ⟨g', cap', e', hc, _, _⟩ := inner_at w0 p c loc _ fs f _ _ u h1
      injection e' with a1 a2 a3
      injection a1 with a1
      injection a1 with a1 _ _
      subst a1
      have c11 := h1.cell 11 _ rfl
      have k2 := hc 2 _ rfl
      rw [hm] at k2
      have H1 := hideR h1
      have H2 := hideR h2
      clear h1 h2 hc a2 a3 HI
      generalize fs.length * 4 = q at *
      go_wp2_with fail
      go_quiet (fail)
      have H3 := hideR (H1.out.on (below_drewN' u nq))
      have HB := hideR (H2.out.trans H3.out.2)
      obtain ⟨hcell, hset⟩ := HG.out _ H3.out.1
      have c11 := H3.out.1.cell 11 _ rfl
      have f11 := H3.out.1.frz 11
      have HSET := hideR hset
      clear hset H1 H2 H3 k2 HG
      generalize u.drewN nq = u1 at *
      go_wp2_with fail
      refine (HF.out _).mono ?_
      rintro e u2 ⟨rfl, rfl⟩
      go_wp2_with fail
      refine (vNeedN _ _).mono ?_
      rintro e u3 ⟨rfl, rfl⟩
      exact ⟨rfl, rfl, HSET.out.1.below, _, HB.out.trans HSET.out.2⟩
end Go.Proofs.YtlpnoelolkbmmaaDoor
