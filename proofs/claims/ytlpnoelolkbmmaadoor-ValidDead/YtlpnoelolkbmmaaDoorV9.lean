/- Instructions in a frame of their own: within. -/
import Derived.Test.YtlpnoelolkbmmaaDoorV8
namespace Go.Proofs.YtlpnoelolkbmmaaDoor
open Go.RowKit Rep Val
set_option linter.unusedVariables false
namespace Val
section
variable {α : Type}
abbrev Stp (α : Type) := Ins α → List Int → PF → Except Int (List Int × PF)
def runI (stp : Stp α) : List (Ins α) → List Int → PF → Except Int (List Int × PF)
  | [], st, f => .ok (st, f)
  | x :: r, st, f => match stp x st f with
    | .ok (st', f') => runI stp r st' f'
    | .error z => .error z
def wnP (stp : Stp α) (l : List (Ins α)) (st : List Int) (pf : PF) : Except Int (List Int) :=
  match runI stp l st pf with
  | .error z => .error z
  | .ok (st1, f1) => match pp f1 pf.ends.reverse st1 with
    | .error z => .error z
    | .ok st2 => if st2.length = pf.height then .ok st2 else .error 60
/-- what a step keeps -/
def StpOk (stp : Stp α) (x : Ins α) : Prop := ∀ st f st' f', stp x st f = .ok (st', f') → f.height ≤ st.length → f'.height = f.height ∧ f'.types = f.types ∧ f'.ends = f.ends ∧ f.height ≤ st'.length ∧ st'.length ≤ st.length + 1
end
/-- an instruction as a value -/
def insV {α : Type} (x : Ins α) (v4 v5 v6 : Value) : Value := .agg #[.int .i64 x.op, .int .i64 x.a, .int .i64 x.b, .int .i64 x.n, v4, v5, v6]
def ISays (w0 : World) (p : Nat) (c : Nat → Value) (loc : Value) (fs : List Fv) (f : Fv) (vs vf : Value) (w : World) (X : Except Int (List Int × PF)) (e : Ending) (w' : World) : Prop :=
  match X with
  | .ok (st', f') => e = .returned (.tuple #[]) ∧ ∃ vs' vf', TS w0 p c loc st' (fs ++ [(f', f.2)]) vs' vf' w' ∧ Gr p vs vf w vs' vf' w'
  | .error z => e = .panicked (gave z) ∧ Below w0.heap.size w0 w'
def InsC {d : Nat} (stp : Stp (IL d)) (fs : List Fv) (x : Ins (IL d)) : Prop := ∀ (w0 : World) (p : Nat) (c : Nat → Value) (loc : Value) (st : List Int) (f : Fv) (vs vf v4 v5 v6 : Value) (w : World),
  TS w0 p c loc st (fs ++ [f]) vs vf w → IntsS w (Kp p vs vf w) v4 x.labels → AtS w (Kp p vs vf w) d v5 x.body → AtS w (Kp p vs vf w) d v6 x.els → f.1.height ≤ st.length → st.length ≤ 500000000 →
  Calls Tryd.prog 39 #[.pointer (some ⟨p, 0, none⟩), insV x v4 v5 v6] w (ISays w0 p c loc fs f vs vf w (stp x st f.1))
def WSays (w0 : World) (p : Nat) (c : Nat → Value) (loc : Value) (fs : List Fv) (vs vf : Value) (w : World) (X : Except Int (List Int)) (e : Ending) (w' : World) : Prop :=
  match X with
  | .ok st' => e = .returned (.tuple #[]) ∧ ∃ vs' vf', TS w0 p c loc st' fs vs' vf' w' ∧ Gr p vs vf w vs' vf' w'
  | .error z => e = .panicked (gave z) ∧ Below w0.heap.size w0 w'
theorem own_take4 {w : World} {B : Nat} {e : TypeId} {g n cap : Nat} {xs : List Value} (h : w.ownsRow B e 4 (.slice (some ⟨g, 0, none⟩) n cap) n xs) (k : Nat) (hk : k ≤ n) : w.ownsRow B e 4 (.slice (some ⟨g, 0, none⟩) k cap) k (xs.take (k * 4)) := by
  rcases h with ⟨hl, ⟨h1, _⟩ | ⟨g', cap', cur, h1, h2, h3, h4, h5, h6, h7⟩⟩
  · cases h1
  · injection h1 with a1 a2 a3
    injection a1 with a1
    injection a1 with a1 _ _
    subst a1; subst a3
    refine ⟨by rw [List.length_take]; omega, .inr ⟨g, cap, cur, rfl, h2, h3, by omega, h5, h6, ?_⟩⟩
    rw [← h7, List.take_take]
    congr 1
    omega
theorem TS.popF {w0 w : World} {p : Nat} {c : Nat → Value} {loc : Value} {st : List Int} {fs : List Fv} {f : Fv} {vs : Value} {g cap : Nat} (h : TS w0 p c loc st (fs ++ [f]) vs (.slice (some ⟨g, 0, none⟩) (fs.length + 1) cap) w) :
    TS w0 p c loc st fs vs (.slice (some ⟨g, 0, none⟩) fs.length cap) (w.setCell ⟨p, 12, none⟩ (.slice (some ⟨g, 0, none⟩) fs.length cap)) ∧ Gr p vs (.slice (some ⟨g, 0, none⟩) (fs.length + 1) cap) w vs (.slice (some ⟨g, 0, none⟩) fs.length cap) (w.setCell ⟨p, 12, none⟩ (.slice (some ⟨g, 0, none⟩) fs.length cap)) := by
  have hb : ∀ k, k ≠ p → (w.setCell ⟨p, 12, none⟩ (.slice (some ⟨g, 0, none⟩) fs.length cap)).heap[k]? = w.heap[k]? := fun k hk => Below.heap_setCell _ _ _ _ hk
  have hg : Gr p vs (.slice (some ⟨g, 0, none⟩) (fs.length + 1) cap) w vs (.slice (some ⟨g, 0, none⟩) fs.length cap) (w.setCell ⟨p, 12, none⟩ (.slice (some ⟨g, 0, none⟩) fs.length cap)) := ⟨by simp, fun k hk => ⟨⟨by simpa using hk.1, hk.2.1, hk.2.2.1, hk.2.2.2⟩, hb k hk.2.1⟩⟩
  have grown : w.grownBy (w.setCell ⟨p, 12, none⟩ (.slice (some ⟨g, 0, none⟩) fs.length cap)) (some p) := ⟨rfl, rfl, rfl, by simp, fun k _ hk => hb k (fun e => hk (by rw [e]))⟩
  have hne : ∀ (v : Value) (e : TypeId) (n m : Nat) (xs : List Value), w.ownsRow (p + 1) e n v m xs → v.ownBlock = none ∨ v.ownBlock ≠ some p := fun v e n m xs h => by
    cases hq : v.ownBlock with
    | none => exact .inl rfl
    | some q => have := (h.lt q hq).1; exact .inr (by simp; omega)
  have hF := h.hf
  rw [show (fs ++ [f]).length = fs.length + 1 by simp] at hF
  have ht := own_take4 hF fs.length (by omega)
  rw [flat4_app, ← flat4_len, List.take_left] at ht
  exact ⟨⟨h.below.setCell h.base _, h.base, heap_setCell_same w p 12 _ _ _ h.blk, h.hs.kept grown (hne _ _ _ _ _ h.hs), ht.kept grown (hne _ _ _ _ _ ht), fun x hx => ⟨(h.ints x (List.mem_append_left _ hx)).1.keep hg.keep, (h.ints x (List.mem_append_left _ hx)).2.keep hg.keep⟩⟩, hg⟩
theorem at_slice {w : World} {S : Nat → Prop} {d : Nat} {v : Value} {l : IL d} (h : AtS w S d v l) : ∃ o n k, v = .slice o n k := by
  obtain ⟨o, k, e⟩ := At.len d _ _ (AtS.at d _ _ h)
  exact ⟨o, _, k, e⟩
def eG (p : Nat) (vf vf' : Value) (n : Nat) : Nat → Value
  | 3 => .pointer (some ⟨p, 12, none⟩)
  | 4 => vf
  | 7 => .pointer (some ⟨p, 12, none⟩)
  | 8 => vf
  | 9 => .int .i64 ((n : Int) + 1)
  | 10 => .int .i64 n
  | 11 => vf'
  | 13 => .pointer (some ⟨p, 12, none⟩)
  | _ => .pointer (some ⟨p, 0, none⟩)
def nG9 (p bx : Nat) (vs : Value) (n2 n1 : Nat) : Nat → Value
  | 2 => .pointer (some ⟨p, 11, none⟩)
  | 3 => vs
  | 4 => .int .i64 n2
  | 5 => .pointer (some ⟨bx, 2, none⟩)
  | 6 => .int .i64 n1
  | 7 => .bool false
  | _ => .pointer (some ⟨p, 0, none⟩)
theorem runI_on {α : Type} {stp : Stp α} {l : List (Ins α)} {k : Nat} {x : Ins α} {st : List Int} {f : PF} (hx : l[k]? = some x) : runI stp (l.drop k) st f = match stp x st f with | .ok (st', f') => runI stp (l.drop (k + 1)) st' f' | .error z => .error z := by
  obtain ⟨hk, rfl⟩ := List.getElem?_eq_some_iff.1 hx
  rw [List.drop_eq_getElem_cons hk]
  rfl
theorem wG_stab {p : Nat} {vf tv ev : Value} {ht : Nat} {d : Bool} {w : World} {n : Nat} {xs : List Value} (hvf : ∀ q, vf.ownBlock = some q → q < w.heap.size) {i k : Nat} {v : Value} {u u' : World} (hik : i ≠ k) (h : wG p vf tv ev ht d w n xs i v u) (hg : u.grownBy u' (wfp vf k)) : wG p vf tv ev ht d w n xs i v u' := by
  have h6 : ∀ b o, w.heap.size ≤ b → u.heap[b]? = some o → u'.heap[b]? = some o := fun b o hb ho => by
    rw [hg.block b (Array.getElem?_eq_some_iff.1 ho).1 (fun e => by
      unfold wfp at e
      split at e
      · have := hvf b e.symm; omega
      · cases e)]
    exact ho
  have h7 : k ≠ 7 → ∀ v n xs, u.ownsRow (p + 1) 62 4 v n xs → u'.ownsRow (p + 1) 62 4 v n xs := fun hk v n xs ho => by
    have e : wfp vf k = none := if_neg hk
    rw [e] at hg
    exact ho.kept hg (by cases hq : v.ownBlock; exact .inl rfl; exact .inr (by simp))
  match i, h, hik with
  | 0, h, _ => exact h
  | 1, h, _ => exact h
  | 2, h, _ => exact h
  | 3, h, _ => exact h
  | 4, h, _ => exact h
  | 5, h, _ => exact h
  | 6, ⟨b, h1, h2, h3⟩, _ => exact ⟨b, h1, h2, h6 b _ h2 h3⟩
  | 7, ⟨h1, h2⟩, hik => exact ⟨h7 (fun e => hik e.symm) _ _ _ h1, h2⟩
  | 8, h, _ => exact h
  | 9, h, _ => exact h
  | n + 10, h, _ => exact h
end Val
set_option maxRecDepth 100000 in
set_option maxHeartbeats 16000000 in
theorem vWithin {d : Nat} (stp : Stp (IL d)) (w0 : World) (p : Nat) (c : Nat → Value) (loc : Value) (st : List Int) (fs : List Fv) (vs vf : Value) (w : World) (h : TS w0 p c loc st fs vs vf w) (tv ev lv : Value) (pf : PF) (h0 : Int) (l : List (Ins (IL d))) (hph : pf.height = st.length)
    (ht : IntsS w (Kp p vs vf w) tv pf.types) (he : IntsS w (Kp p vs vf w) ev pf.ends) (hA : AtS w (Kp p vs vf w) (d + 1) lv l) (hic : ∀ x ∈ l, InsC stp fs x) (hok : ∀ x ∈ l, StpOk stp x) (hb : fs.length ≤ 100000) (hl : st.length + l.length ≤ 500000000) (hel : pf.ends.length ≤ 100000) :
    Calls Tryd.prog 22 #[.pointer (some ⟨p, 0, none⟩), .agg #[tv, ev, .int .i64 h0, .bool pf.dead], lv] w (WSays w0 p c loc fs vs vf w (wnP stp l st pf)) := by
  obtain ⟨oT, cT, rfl⟩ := Row.len (show Row 1 (fun b o (z : Int) => Kp p vs vf w b ∧ w.cell? ⟨b, o, none⟩ = .some (.int .i64 z)) tv pf.types from ht)
  obtain ⟨oE, cE, rfl⟩ := Row.len (show Row 1 (fun b o (z : Int) => Kp p vs vf w b ∧ w.cell? ⟨b, o, none⟩ = .some (.int .i64 z)) ev pf.ends from he)
  obtain ⟨oS, cS, rfl⟩ := own_slice h.hs
  obtain ⟨oL, cL, rfl⟩ := Row.len hA
  obtain ⟨X, hX⟩ : ∃ X, X = wnP stp l st pf := ⟨_, rfl⟩
  rw [← hX]
  -- the frame's box, its height set
  obtain ⟨w2, hw2⟩ : ∃ w2, w2 = w.alloc (.cells #[.slice oT pf.types.length cT, .slice oE pf.ends.length cE, .int .i64 (st.length : Int), .bool pf.dead] 62) := ⟨_, rfl⟩
  have hb2 : Below w.heap.size w w2 := by rw [hw2]; exact new_on' w _
  obtain ⟨ts2, gr2⟩ := h.on hb2
  have bx2 : w2.heap[w.heap.size]? = some (.cells #[.slice oT pf.types.length cT, .slice oE pf.ends.length cE, .int .i64 (st.length : Int), .bool pf.dead] 62 (0, 0)) := by
    rw [hw2]; exact World.alloc_heap_new w _
  have kq2 : Kp p (.slice oS st.length cS) vf w2 w.heap.size := h.fresh (Nat.le_refl _) (Array.getElem?_eq_some_iff.1 bx2).1
  have c11 := cell_on (new_on' w (.cells #[.slice oT pf.types.length cT, .slice oE pf.ends.length cE, .int .i64 h0, .bool pf.dead] 62)) (h.cell 11 _ rfl)
  have d12 := ts2.cell 12 _ rfl
  have z12 := ts2.frz 12
  obtain ⟨oF, cF, hvf⟩ := own_slice ts2.hf
  have HW2 := hideR hw2
  have HTS2 := hideR ts2
  have HGR2 := hideR gr2
  have HBX2 := hideR bx2
  have HKQ := hideR kq2
  have ht2 := ht.keep gr2.keep
  have he2 := he.keep gr2.keep
  have hA2 := AtS.keep gr2.keep _ _ _ hA
  have HT2 := hideR ht2
  have HE2 := hideR he2
  have HA2 := hideR hA2
  have HX := hideR hX
  have HIC := hideR hic
  have HOK := hideR hok
  clear hic hok hw2 ts2 gr2 bx2 kq2 ht he hA ht2 he2 hA2 hX
  go_enter Tryd.func22, Tryd.ntmps22
  go_upto_region 2 with fail
  rw [← HW2.out]
  clear HW2 c11
  subst hvf
  have hvl : ∀ q, (Value.slice oF fs.length cF).ownBlock = some q → q < w2.heap.size := fun q hq => (HTS2.out.hf.lt q hq).2
  have HVL := hideR hvl
  have HOF := hideR HTS2.out.hf
  clear hvl
  refine Reg.wp_region_eff 10 (fun i => 14 + i) (wfp (.slice oF fs.length cF)) (fun u => w2.grownBy u (Value.slice oF fs.length cF).ownBlock) (fun i u => i = 7 → u.ownsRow (p + 1) 62 4 (.slice oF fs.length cF) fs.length (flat4 fs)) (wG p (.slice oF fs.length cF) (.slice oT pf.types.length cT) (.slice oE pf.ends.length cE) st.length pf.dead w2 fs.length (flat4 fs)) (by kernel_rfl) (by kernel_rfl) (fun i j h1 h2 h => by have h' : 14 + i = 14 + j := h; omega) (Reg.dst_ok (size := 61) (by kernel_rfl)) (fun i k v u u' _ _ hik _ hG hg => wG_stab HVL.out hik hG hg) (fun i k u u' _ _ hik hR hg hi => by
    have e : wfp (.slice oF fs.length cF) k = none := if_neg (fun e => hik (by omega))
    rw [e] at hg
    exact (hR hi).kept hg (by cases hq : (Value.slice oF fs.length cF).ownBlock; exact .inl rfl; exact .inr (by simp))) (fun k u u' _ hK hg => grown_tr hK hg (by unfold wfp; split; exact .inr rfl; exact .inl rfl)) ?hstep ?htail ⟨rfl, rfl, rfl, Nat.le_refl _, fun _ _ _ => rfl⟩ (fun i _ _ => HOF.out)
  case hstep =>
    intro i o a u hi ho hF hKu hRi hd
    have f0 : a.tmps[0]?.getD undef = .pointer (some ⟨p, 0, none⟩) := Reg.ev_get (hF.eval 0 (fun i hi => by show 14 + i ≠ 0; omega))
    have f4' : a.tmps[4]?.getD undef = .pointer (some ⟨w.heap.size, 0, none⟩) := Reg.ev_get (hF.eval 4 (fun i hi => by show 14 + i ≠ 4; omega))
    have hpu : u.heap[p]? = w2.heap[p]? := hKu.block p HTS2.out.lt (fun e => by have := (HTS2.out.hf.lt p e.symm).1; omega)
    have e12 := (World.cell?_of_block (a := ⟨p, 12, none⟩) hpu).trans d12
    have hbu : u.heap[w.heap.size]? = _ := (hKu.block w.heap.size HKQ.out.1 HKQ.out.2.2.2).trans HBX2.out
    have hcase : i = 0 ∨ i = 1 ∨ i = 2 ∨ i = 3 ∨ i = 4 ∨ i = 5 ∨ i = 6 ∨ i = 7 ∨ i = 8 ∨ i = 9 := by omega
    clear hi d12 z12
    rcases hcase with rfl | rfl | rfl | rfl | rfl | rfl | rfl | rfl | rfl | rfl
    all_goals (simp only [List.getElem?_toArray, List.getElem?_cons_succ, List.getElem?_cons_zero, Option.some.injEq] at ho; subst ho)
    · refine Reg.step_k fun K hK => ?_
      go_simp
      exact hK _ _ ⟨_, rfl, grown_id _ _, rfl⟩
    · refine Reg.step_k fun K hK => ?_
      go_simp
      exact hK _ _ ⟨_, rfl, grown_id _ _, rfl⟩
    · have q : a.tmps[15]?.getD undef = .pointer (some ⟨p, 0, none⟩) := Reg.ev_get (hd 1 (by decide))
      refine Reg.step_k fun K hK => ?_
      go_simp
      exact hK _ _ ⟨_, rfl, grown_id _ _, rfl⟩
    · have q : a.tmps[16]?.getD undef = .pointer (some ⟨p, 0, none⟩) := Reg.ev_get (hd 2 (by decide))
      refine Reg.step_k fun K hK => ?_
      go_simp
      exact hK _ _ ⟨_, rfl, grown_id _ _, rfl⟩
    · have q : a.tmps[17]?.getD undef = .pointer (some ⟨p, 12, none⟩) := Reg.ev_get (hd 3 (by decide))
      refine Reg.step_k fun K hK => ?_
      go_simp
      exact hK _ _ ⟨_, rfl, grown_id _ _, rfl⟩
    · have y0 : u.cell? ⟨w.heap.size, 0, none⟩ = some (.slice oT pf.types.length cT) := by unfold World.cell?; rw [hbu]; rfl
      have y1 : u.cell? ⟨w.heap.size, 1, none⟩ = some (.slice oE pf.ends.length cE) := by unfold World.cell?; rw [hbu]; rfl
      have y2 : u.cell? ⟨w.heap.size, 2, none⟩ = some (.int .i64 (st.length : Int)) := by unfold World.cell?; rw [hbu]; rfl
      have y3 : u.cell? ⟨w.heap.size, 3, none⟩ = some (.bool pf.dead) := by unfold World.cell?; rw [hbu]; rfl
      refine Reg.step_k fun K hK => ?_
      go_simp
      exact hK _ _ ⟨_, rfl, grown_id _ _, rfl⟩
    · have q : a.tmps[19]?.getD undef = .agg #[.slice oT pf.types.length cT, .slice oE pf.ends.length cE, .int .i64 (st.length : Int), .bool pf.dead] := Reg.ev_get (hd 5 (by decide))
      refine Reg.step_k fun K hK => ?_
      go_simp
      exact hK _ _ ⟨_, rfl, World.grownBy_alloc _ _ _, ⟨_, rfl, hKu.size, World.alloc_heap_new _ _⟩⟩
    · have q0 : a.eval (.tmp 18) = .slice oF fs.length cF := hd 4 (by decide)
      obtain ⟨b, q1, q2, q3⟩ := (show ∃ b, a.eval (.tmp 20) = .slice (some ⟨b, 0, none⟩) 1 1 ∧ w2.heap.size ≤ b ∧ u.heap[b]? = some (.cells #[.slice oT pf.types.length cT, .slice oE pf.ends.length cE, .int .i64 (st.length : Int), .bool pf.dead] 62 (0, 0)) from hd 6 (by decide))
      obtain ⟨i0, hi0, hz0, hz1, hz2⟩ := info_parts frInfo
      refine op_appS _ _ 55 rfl (p + 1) 62 i0 _ 4 64 Tryd.underlying55 hi0 hz0 hz1 hz2 rfl (by decide) _ _ _ q0 (hRi rfl) (some ⟨b, 0, none⟩) 1 1 [.slice oT pf.types.length cT, .slice oE pf.ends.length cE, .int .i64 (st.length : Int), .bool pf.dead] q1 (fun h => by cases h) rfl (fun ad had j v hv => ?_) (fun v hv => ?_) (by unfold maxLen; omega) (by omega) (by have := HTS2.out.lt; have := hKu.size; omega) (fun v' w' h1 h2 h3 => ⟨v', rfl, h2, h1, h3.imp id fun h => ⟨_, h, hKu.size⟩⟩)
      · injection had with had
        subst had
        rw [add_addr, Nat.zero_add]
        unfold World.cell?
        rw [q3, ← hv]
        simp
      · simp at hv
        rcases hv with rfl | rfl | rfl | rfl <;> rfl
    · have q : a.tmps[14]?.getD undef = .pointer (some ⟨p, 0, none⟩) := Reg.ev_get (hd 0 (by decide))
      refine Reg.step_k fun K hK => ?_
      go_simp
      exact hK _ _ ⟨_, rfl, grown_id _ _, rfl⟩
    · have q : a.tmps[22]?.getD undef = .pointer (some ⟨p, 0, none⟩) := Reg.ev_get (hd 8 (by decide))
      refine Reg.step_k fun K hK => ?_
      go_simp
      exact hK _ _ ⟨_, rfl, grown_id _ _, rfl⟩
  case htail =>
    intro a u hF hKu hG
    obtain ⟨x, hxl, rfl, hev⟩ := Reg.Fr.lit (l := [.pointer (some ⟨p, 0, none⟩), .agg #[.slice oT pf.types.length cT, .slice oE pf.ends.length cE, .int .i64 h0, .bool pf.dead], .slice oL l.length cL, undef, .pointer (some ⟨w.heap.size, 0, none⟩), undef, undef, undef, .pointer (some ⟨p, 0, none⟩), .pointer (some ⟨p, 0, none⟩), .pointer (some ⟨p, 11, none⟩), .slice oS st.length cS, .int .i64 (st.length : Int), .pointer (some ⟨w.heap.size, 2, none⟩), undef, undef, undef, undef, undef, undef, undef, undef, undef, undef, undef, undef, undef, undef, undef, undef, undef, undef, undef, undef, undef, undef, undef, undef, undef, undef, undef, undef, undef, undef, undef, undef, undef, undef, undef, undef, undef, undef, undef, undef, undef, undef, undef, undef, undef, undef, undef]) hF (by simp)
    match x, hxl with
    | [x0, x1, x2, x3, x4, x5, x6, x7, x8, x9], _ =>
      obtain rfl : x9 = .pointer (some ⟨p, 12, none⟩) := (hev 9 (by decide)).symm.trans (hG 9 (by decide))
      obtain ⟨g1, g2⟩ : u.ownsRow (p + 1) 62 4 x7 (fs.length + 1) (flat4 fs ++ [.slice oT pf.types.length cT, .slice oE pf.ends.length cE, .int .i64 (st.length : Int), .bool pf.dead]) ∧ (x7.ownBlock = (Value.slice oF fs.length cF).ownBlock ∨ ∃ k, x7.ownBlock = some k ∧ w2.heap.size ≤ k) := by
        have := hG 7 (by decide)
        rw [hev 7 (by decide)] at this
        exact this
      obtain ⟨hp3, ts3, gr3⟩ := HTS2.out.pushF (pf := pf) hKu (by rw [hph]; exact g1) g2 HT2.out HE2.out
      have e12 := (World.cell?_of_block (a := ⟨p, 12, none⟩) hp3).trans d12
      have y12 := (World.frozen?_of_block (a := ⟨p, 12, none⟩) hp3).trans z12
      obtain ⟨oN, cN, rfl⟩ := own_slice g1
      obtain ⟨w3, hw3⟩ : ∃ w3, w3 = u.setCell ⟨p, 12, none⟩ (.slice oN (fs.length + 1) cN) := ⟨_, rfl⟩
      rw [← hw3] at ts3 gr3
      have HW3 := hideR hw3
      have HTS3 := hideR ts3
      have HGR3 := hideR (HGR2.out.trans gr3)
      have HK3 := hideR (gr3.keep _ HKQ.out)
      have HBX3 := hideR ((gr3.keep _ HKQ.out).2.trans HBX2.out)
      have HA3 := hideR (AtS.keep gr3.keep _ _ _ HA2.out)
      have HE3 := hideR (HE2.out.keep gr3.keep)
      clear hev hG hF hKu g1 g2 hp3 ts3 gr3 hw3 HT2 HE2 HA2 HGR2 HTS2 HKQ HBX2 HVL HOF hb2 d12 z12
      simp only [List.drop_succ_cons, List.drop_zero, List.take_succ_cons, List.take_zero, List.cons_append, List.nil_append]
      go_upto_region 3 with fail
      rw [← HW3.out]
      clear HW3 e12 y12
      go_wp2_with fail
      go_loopw [26] (fun t wr => ∃ (k : Nat) (st1 : List Int) (f1 : PF) (vs1 vf1 : Value), k ≤ l.length ∧ t = .int .i64 k ∧ f1.height = pf.height ∧ f1.types = pf.types ∧ f1.ends = pf.ends ∧ f1.height ≤ st1.length ∧ st1.length ≤ st.length + k ∧ Hid (runI stp l st pf = runI stp (l.drop k) st1 f1) ∧ Hid (TS w0 p c loc st1 (fs ++ [(f1, .slice oT pf.types.length cT, .slice oE pf.ends.length cE)]) vs1 vf1 wr) ∧ Hid (Gr p (.slice oS st.length cS) (.slice oN (fs.length + 1) cN) w3 vs1 vf1 wr)) (fun t _ => l.length - (RowKit.intOf t).toNat)
      case atStart => exact ⟨0, st, pf, _, _, Nat.zero_le _, rfl, rfl, rfl, rfl, by omega, by omega, hideR rfl, HTS3, hideR (Gr.refl _ _ _ _)⟩
      case round =>
        obtain ⟨k, st1, f1, vs1, vf1, hk, rfl, e1, e2, e3, hh1, hl1, HRUN, HTS, HGR⟩ := hrel
        by_cases hgo : k < l.length
        · obtain ⟨x, hx⟩ : ∃ x, l[k]? = some x := ⟨l[k]'hgo, List.getElem?_eq_getElem hgo⟩
          have hxm : x ∈ l := List.mem_of_getElem? hx
          have hrow := AtS.keep HGR.out.keep _ _ _ HA3.out
          obtain ⟨bL, offL, capL, eL, hcL⟩ := Row.some hrow (by omega)
          injection eL with eL1 eL2 eL3
          subst eL1
          subst eL3
          clear eL2
          obtain ⟨hSb, hIn⟩ := hcL k x hx
          obtain ⟨v4, c4, i4⟩ := hIn.labels
          obtain ⟨v5, c5, i5⟩ := hIn.body
          obtain ⟨v6, c6, i6⟩ := hIn.els
          have hop := hIn.op
          have ha := hIn.a
          have hbb := hIn.b
          have hnn := hIn.n
          obtain ⟨o4, n4, k4, rfl⟩ : ∃ o n k, v4 = .slice o n k := by obtain ⟨o, k, e⟩ := Row.len (show Row 1 _ v4 x.labels from i4); exact ⟨o, _, k, e⟩
          obtain ⟨o5, n5, k5, rfl⟩ := at_slice i5
          obtain ⟨o6, n6, k6, rfl⟩ := at_slice i6
          have hgx := fun ob => HTS.out.on (new_on' wr ob)
          have HC := fun ob => hideR (HIC.out x hxm w0 p c loc st1 (f1, .slice oT pf.types.length cT, .slice oE pf.ends.length cE) vs1 vf1 (.slice o4 n4 k4) (.slice o5 n5 k5) (.slice o6 n6 k6) (wr.alloc ob) (hgx ob).1 (i4.keep (hgx ob).2.keep) (AtS.keep (hgx ob).2.keep _ _ _ i5) (AtS.keep (hgx ob).2.keep _ _ _ i6) hh1 (by omega))
          have HGX := hideR (fun ob => (hgx ob).2)
          have HXX := hideR hx
          have HSO := hideR (HOK.out x hxm)
          clear hgx i4 i5 i6 hIn hcL hrow hx hxm hSb
          generalize hnl : l.length = nl at *
          go_wp2_with fail
          refine (HC _).out.mono ?_
          intro e w4 hsay
          cases hst : stp x st1 f1 with
          | error z =>
            rw [hst] at hsay
            obtain ⟨rfl, hbel⟩ := hsay
            have hX : X = .error z := by rw [HX.out]; unfold wnP; rw [HRUN.out, runI_on HXX.out, hst]
            exact ⟨rfl, by rw [hX]; exact ⟨rfl, hbel⟩⟩
          | ok v =>
            obtain ⟨st', f'⟩ := v
            rw [hst] at hsay
            obtain ⟨rfl, vs4, vf4, ts4, gr4⟩ := hsay
            obtain ⟨s1, s2, s3, s4, s5⟩ := HSO.out _ _ _ _ hst hh1
            have HRUN4 : Hid (runI stp l st pf = runI stp (l.drop (k + 1)) st' f') := hideR (by rw [HRUN.out, runI_on HXX.out, hst])
            have HTS4 := hideR ts4
            have HGR4 := hideR ((HGR.out.trans (HGX.out _)).trans gr4)
            clear ts4 gr4 hst HC HGX HRUN HSO HXX
            go_wp2
            go_roundw
            case rel => exact ⟨k + 1, st', f', vs4, vf4, by omega, by go_num, by omega, by rw [s2, e2], by rw [s3, e3], by omega, by omega, HRUN4, HTS4, HGR4⟩
            case measure => simp [RowKit.intOf]; omega
        · obtain rfl : k = l.length := by omega
          have hrun : runI stp l st pf = .ok (st1, f1) := by rw [HRUN.out, List.drop_length]; rfl
          have hbx : wr.heap[w.heap.size]? = _ := (HGR.out.keep _ HK3.out.1).2.trans HBX3.out
          have kbx := (HGR.out.keep _ HK3.out.1).1
          have b1 : wr.cell? ⟨w.heap.size, 1, none⟩ = some (.slice oE pf.ends.length cE) := by unfold World.cell?; rw [hbx]; rfl
          have hE := HE3.out.keep HGR.out.keep
          have HP := hideR (vPop w0 p c loc st1 fs (f1, .slice oT pf.types.length cT, .slice oE pf.ends.length cE) vs1 vf1 wr HTS.out (.slice oE pf.ends.length cE) pf.ends hE hel (by omega) hh1 (by omega))
          have HBX := hideR hbx
          have HKBX := hideR kbx
          have HRUN' := hideR hrun
          clear hbx kbx hE hrun HRUN hgo
          generalize hnl : l.length = nl at *
          go_wp2_with fail
          refine HP.out.mono ?_
          intro e w5 hsay
          cases hpp : pp f1 pf.ends.reverse st1 with
          | error z =>
            rw [show pp (f1, (Value.slice oT pf.types.length cT, Value.slice oE pf.ends.length cE)).1 pf.ends.reverse st1 = .error z from hpp] at hsay
            obtain ⟨rfl, hbel⟩ := hsay
            have hX : X = .error z := by rw [HX.out]; unfold wnP; rw [HRUN'.out]; simp only []; rw [hpp]
            exact ⟨rfl, by rw [hX]; exact ⟨rfl, hbel⟩⟩
          | ok st2 =>
            rw [show pp (f1, (Value.slice oT pf.types.length cT, Value.slice oE pf.ends.length cE)).1 pf.ends.reverse st1 = .ok st2 from hpp] at hsay
            obtain ⟨rfl, vs5, ts5, gr5⟩ := hsay
            obtain ⟨o5, c5, rfl⟩ := own_slice ts5.hs
            have hX : X = if st2.length = st.length then .ok st2 else .error 60 := by rw [HX.out]; unfold wnP; rw [HRUN'.out]; simp only []; rw [hpp]; simp only []; rw [hph]
            have c11 := ts5.cell 11 _ rfl
            have b2 : w5.cell? ⟨w.heap.size, 2, none⟩ = some (.int .i64 (st.length : Int)) := by unfold World.cell?; rw [(gr5.keep _ HKBX.out).2, HBX.out]; rfl
            have HTS5 := hideR ts5
            have HGR5 := hideR (HGR3.out.trans (HGR.out.trans gr5))
            have HXX := hideR hX
            clear hpp ts5 gr5 hX HP HBX HKBX HRUN' b1
            by_cases hlen : st2.length = st.length
            · have qe : (((st2.length : Nat) : Int) == ((st.length : Nat) : Int)) = true := by rw [hlen]; simp
              have hX2 : X = .ok st2 := by rw [HXX.out, if_pos hlen]
              obtain ⟨gF, cF1, eF, _⟩ := inner_at w0 p c loc st2 fs _ _ _ w5 HTS5.out
              subst eF
              have HX2 := hideR hX2
              clear hX2 HXX hlen
              generalize st2.length = n2 at *
              generalize st.length = n1 at *
              go_wp2_with fail
              go_quiet (first | (go_at_call 13; exact Calls.quiet_of_same (vNeedY _ _)))
              have hts6 := HTS5.out.on (below_drewN' w5 nq)
              have HTS6 := hideR hts6.1
              have HGR6 := hideR (HGR5.out.trans hts6.2)
              have c12 := hts6.1.cell 12 _ rfl
              clear hts6 c11 b2 HTS5 HGR5
              generalize w5.drewN nq = w6 at *
              have hcF : fs.length + 1 ≤ cF1 := by
                rcases HTS6.out.hf.2 with ⟨e9, _⟩ | ⟨g9, c9, cur9, e9, _, _, h9, _⟩
                · cases e9
                · injection e9 with _ e10 e11; rw [e11]; rw [← e10] at h9; exact h9
              have hwf : IntKind.i64.wrap ((fs.length : Nat) : Int) = ((fs.length : Nat) : Int) := by rw [IntKind.wrap_i64]; omega
              generalize hfl : fs.length = nf at *
              go_wp2_with fail
              refine Reg.wp_region_two 14 (fun i => 47 + i) (fun j v _ => v = eG p (.slice (some ⟨gF, 0, none⟩) (nf + 1) cF1) (.slice (some ⟨gF, 0, none⟩) nf cF1) nf j) (by kernel_rfl) (by kernel_rfl) (fun i j h1 h2 h => by have h' : 47 + i = 47 + j := h; omega) (Reg.dst_ok (size := 61) (by kernel_rfl)) (fun i v w w' _ h _ => h) ?hs10 ?ht10
              case hs10 =>
                intro j o a u1 hj ho hF hB hd
                have f0 : a.tmps[0]?.getD undef = .pointer (some ⟨p, 0, none⟩) := Reg.ev_get (hF.eval 0 (fun i hi => by show 47 + i ≠ 0; omega))
                have d1 := cell_on hB c12
                have hcase : j = 0 ∨ j = 1 ∨ j = 2 ∨ j = 3 ∨ j = 4 ∨ j = 5 ∨ j = 6 ∨ j = 7 ∨ j = 8 ∨ j = 9 ∨ j = 10 ∨ j = 11 ∨ j = 12 ∨ j = 13 := by omega
                clear hj c12
                rcases hcase with rfl | rfl | rfl | rfl | rfl | rfl | rfl | rfl | rfl | rfl | rfl | rfl | rfl | rfl
                all_goals (simp only [List.getElem?_toArray, List.getElem?_cons_succ, List.getElem?_cons_zero, Option.some.injEq] at ho; subst ho; refine Reg.step_k fun K hK => ?_)
                · go_simp
                  exact hK _ _ ⟨_, rfl, Below.refl _ _, rfl⟩
                · go_simp
                  exact hK _ _ ⟨_, rfl, Below.refl _ _, rfl⟩
                · have q48 : a.tmps[48]?.getD undef = .pointer (some ⟨p, 0, none⟩) := Reg.ev_get (hd 1 (by decide))
                  go_simp
                  exact hK _ _ ⟨_, rfl, Below.refl _ _, rfl⟩
                · have q49 : a.tmps[49]?.getD undef = .pointer (some ⟨p, 0, none⟩) := Reg.ev_get (hd 2 (by decide))
                  go_simp
                  exact hK _ _ ⟨_, rfl, Below.refl _ _, rfl⟩
                · have q50 : a.tmps[50]?.getD undef = .pointer (some ⟨p, 12, none⟩) := Reg.ev_get (hd 3 (by decide))
                  go_simp
                  exact hK _ _ ⟨_, rfl, Below.refl _ _, rfl⟩
                · go_simp
                  exact hK _ _ ⟨_, rfl, Below.refl _ _, rfl⟩
                · have q52 : a.tmps[52]?.getD undef = .pointer (some ⟨p, 0, none⟩) := Reg.ev_get (hd 5 (by decide))
                  go_simp
                  exact hK _ _ ⟨_, rfl, Below.refl _ _, rfl⟩
                · have q53 : a.tmps[53]?.getD undef = .pointer (some ⟨p, 0, none⟩) := Reg.ev_get (hd 6 (by decide))
                  go_simp
                  exact hK _ _ ⟨_, rfl, Below.refl _ _, rfl⟩
                · have q54 : a.tmps[54]?.getD undef = .pointer (some ⟨p, 12, none⟩) := Reg.ev_get (hd 7 (by decide))
                  go_simp
                  exact hK _ _ ⟨_, rfl, Below.refl _ _, rfl⟩
                · have q55 : a.tmps[55]?.getD undef = .slice (some ⟨gF, 0, none⟩) (nf + 1) cF1 := Reg.ev_get (hd 8 (by decide))
                  go_simp
                  exact hK _ _ ⟨_, rfl, Below.refl _ _, rfl⟩
                · have q56 : a.tmps[56]?.getD undef = .int .i64 ((nf : Int) + 1) := Reg.ev_get (hd 9 (by decide))
                  go_simp
                  exact hK _ _ ⟨_, rfl, Below.refl _ _, rfl⟩
                · have q51 : a.tmps[51]?.getD undef = .slice (some ⟨gF, 0, none⟩) (nf + 1) cF1 := Reg.ev_get (hd 4 (by decide))
                  have q57 : a.tmps[57]?.getD undef = .int .i64 nf := Reg.ev_get (hd 10 (by decide))
                  have hcF2 : nf ≤ cF1 := by omega
                  go_simp
                  exact hK _ _ ⟨_, rfl, Below.refl _ _, rfl⟩
                · have q47 : a.tmps[47]?.getD undef = .pointer (some ⟨p, 0, none⟩) := Reg.ev_get (hd 0 (by decide))
                  go_simp
                  exact hK _ _ ⟨_, rfl, Below.refl _ _, rfl⟩
                · have q59 : a.tmps[59]?.getD undef = .pointer (some ⟨p, 0, none⟩) := Reg.ev_get (hd 12 (by decide))
                  go_simp
                  exact hK _ _ ⟨_, rfl, Below.refl _ _, rfl⟩
              case ht10 =>
                intro a u1 hF hB hG
                have q1 : a.tmps[58]?.getD undef = .slice (some ⟨gF, 0, none⟩) nf cF1 := Reg.ev_get (hG 11 (by decide))
                have q2 : a.tmps[60]?.getD undef = .pointer (some ⟨p, 12, none⟩) := Reg.ev_get (hG 13 (by decide))
                obtain ⟨tu, gu⟩ := HTS6.out.on hB
                subst hfl
                obtain ⟨t7, g7⟩ := tu.popF
                have d12 := tu.cell 12 _ rfl
                have z12 := tu.frz 12
                have HT7 := hideR t7
                have HG7 := hideR ((HGR6.out.trans gu).trans g7)
                have hdf := hF.defers
                clear tu gu t7 g7 hG hB
                simp only [List.drop_succ_cons, List.drop_zero]
                refine wpList_plain rfl fun K hK => ?_
                go_simp
                refine hK _ _ ?_
                refine bodyPost_ret (v := .tuple #[]) (results_none rfl _ _ _) hdf ?_
                rw [HX2.out]
                exact ⟨rfl, _, _, HT7.out, HG7.out⟩
            · have qe : (((st2.length : Nat) : Int) == ((st.length : Nat) : Int)) = false := by rw [beq_eq_false_iff_ne]; omega
              have hX2 : X = .error 60 := by rw [HXX.out, if_neg hlen]
              have HX2 := hideR hX2
              clear hX2 HXX hlen
              generalize st2.length = n2 at *
              generalize st.length = n1 at *
              generalize w.heap.size = bx at *
              go_wp2_with fail
              refine Reg.wp_region_two 8 (fun i => 38 + i) (fun j v _ => v = nG9 p bx (.slice o5 n2 c5) n2 n1 j) (by kernel_rfl) (by kernel_rfl) (fun i j h1 h2 h => by have h' : 38 + i = 38 + j := h; omega) (Reg.dst_ok (size := 61) (by kernel_rfl)) (fun i v w w' _ h _ => h) ?hs9 ?ht9
              case hs9 =>
                intro j o a u1 hj ho hF hB hd
                have f0 : a.tmps[0]?.getD undef = .pointer (some ⟨p, 0, none⟩) := Reg.ev_get (hF.eval 0 (fun i hi => by show 38 + i ≠ 0; omega))
                have f4 : a.tmps[4]?.getD undef = .pointer (some ⟨bx, 0, none⟩) := Reg.ev_get (hF.eval 4 (fun i hi => by show 38 + i ≠ 4; omega))
                have d1 := cell_on hB c11
                have d2 := cell_on hB b2
                have hcase : j = 0 ∨ j = 1 ∨ j = 2 ∨ j = 3 ∨ j = 4 ∨ j = 5 ∨ j = 6 ∨ j = 7 := by omega
                clear hj c11 b2
                rcases hcase with rfl | rfl | rfl | rfl | rfl | rfl | rfl | rfl
                all_goals (simp only [List.getElem?_toArray, List.getElem?_cons_succ, List.getElem?_cons_zero, Option.some.injEq] at ho; subst ho; refine Reg.step_k fun K hK => ?_)
                · go_simp
                  exact hK _ _ ⟨_, rfl, Below.refl _ _, rfl⟩
                · have q38 : a.tmps[38]?.getD undef = .pointer (some ⟨p, 0, none⟩) := Reg.ev_get (hd 0 (by decide))
                  go_simp
                  exact hK _ _ ⟨_, rfl, Below.refl _ _, rfl⟩
                · have q39 : a.tmps[39]?.getD undef = .pointer (some ⟨p, 0, none⟩) := Reg.ev_get (hd 1 (by decide))
                  go_simp
                  exact hK _ _ ⟨_, rfl, Below.refl _ _, rfl⟩
                · have q40 : a.tmps[40]?.getD undef = .pointer (some ⟨p, 11, none⟩) := Reg.ev_get (hd 2 (by decide))
                  go_simp
                  exact hK _ _ ⟨_, rfl, Below.refl _ _, rfl⟩
                · have q41 : a.tmps[41]?.getD undef = .slice o5 n2 c5 := Reg.ev_get (hd 3 (by decide))
                  go_simp
                  exact hK _ _ ⟨_, rfl, Below.refl _ _, rfl⟩
                · go_simp
                  exact hK _ _ ⟨_, rfl, Below.refl _ _, rfl⟩
                · have q43 : a.tmps[43]?.getD undef = .pointer (some ⟨bx, 2, none⟩) := Reg.ev_get (hd 5 (by decide))
                  go_simp
                  exact hK _ _ ⟨_, rfl, Below.refl _ _, rfl⟩
                · have q42 : a.tmps[42]?.getD undef = .int .i64 n2 := Reg.ev_get (hd 4 (by decide))
                  have q44 : a.tmps[44]?.getD undef = .int .i64 n1 := Reg.ev_get (hd 6 (by decide))
                  go_simp
                  exact hK _ _ ⟨_, rfl, Below.refl _ _, rfl⟩
              case ht9 =>
                intro a u1 hF hB hG
                have q1 : a.tmps[45]?.getD undef = .bool false := Reg.ev_get (hG 7 (by decide))
                have hbel := (HTS5.out.on hB).1.below
                simp only [List.drop_succ_cons, List.drop_zero]
                refine wpList_plain rfl fun K hK => ?_
                go_simp
                refine (vNeedN _ _).mono ?_
                rintro e u2 ⟨rfl, rfl⟩
                exact ⟨hF.defers, by rw [HX2.out]; exact ⟨rfl, hbel⟩⟩
end Go.Proofs.YtlpnoelolkbmmaaDoor
