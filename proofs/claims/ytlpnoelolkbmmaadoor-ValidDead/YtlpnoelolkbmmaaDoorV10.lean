/- Instructions one by one: unreachable, drop, constants; a branch to a frame that is not there. -/
import Derived.Test.YtlpnoelolkbmmaaDoorV9
import Derived.Test.YtlpnoelolkbmmaaDoorPF4
import Derived.Test.YtlpnoelolkbmmaaDoorRK0
namespace Go.Proofs.YtlpnoelolkbmmaaDoor
open Go.RowKit Rep Val
set_option linter.unusedVariables false
theorem vForm (op : Int) (w : World) : Calls Tryd.prog 48 #[.int .i64 op] w fun e w' => e = .returned (.int .i64 (form op)) ∧ Below w.heap.size w w' := pForm reckT op w trivial
namespace Val
def stpS {α : Type} : Stp α := fun x st f =>
  if x.op = 0 then .ok (st.take f.height, { f with dead := true })
  else if x.op = 26 then (match tk st f 0 with | .ok (_, st') => .ok (st', f) | .error z => .error z)
  else if x.op = 65 then .ok (st ++ [127], f)
  else if x.op = 66 then .ok (st ++ [126], f)
  else .error 61
def SmI {α : Type} (nf : Nat) (x : Ins α) : Prop := x.op = 0 ∨ x.op = 26 ∨ x.op = 65 ∨ x.op = 66 ∨ (x.op = 12 ∧ (nf : Int) ≤ x.a)
theorem stpS_ok {α : Type} (x : Ins α) : StpOk stpS x := fun st f st' f' h hh => by
  unfold stpS at h
  split at h
  · injection h with h; injection h with h1 h2; subst h1; subst h2; exact ⟨rfl, rfl, rfl, by rw [List.length_take]; omega, by rw [List.length_take]; omega⟩
  split at h
  · cases ht : tk st f 0 with
    | error z => rw [ht] at h; cases h
    | ok v =>
      obtain ⟨g, s⟩ := v
      rw [ht] at h
      injection h with h; injection h with h1 h2; subst h1; subst h2
      have := tk_h hh ht
      exact ⟨rfl, rfl, rfl, this.1, by omega⟩
  split at h
  · injection h with h; injection h with h1 h2; subst h1; subst h2; exact ⟨rfl, rfl, rfl, by rw [List.length_append]; omega, by simp⟩
  split at h
  · injection h with h; injection h with h1 h2; subst h1; subst h2; exact ⟨rfl, rfl, rfl, by rw [List.length_append]; omega, by simp⟩
  · cases h
theorem ints_one (u : World) (t : Int) {S : Nat → Prop} (hS : S u.heap.size) : IntsS (u.alloc (.cells #[.int .i64 t] 3)) S (.slice (some ⟨u.heap.size, 0, none⟩) 1 1) [t] :=
  ⟨by simp, .inr ⟨u.heap.size, 0, 1, rfl, fun i x hx => by
    match i, hx with
    | 0, hx =>
      have : t = x := by simpa using hx
      subst this
      refine ⟨hS, ?_⟩
      show (u.alloc _).cell? ⟨u.heap.size, 0, none⟩ = _
      unfold World.cell?
      rw [World.alloc_heap_new]
      rfl
    | n + 1, hx => simp at hx⟩⟩
end Val
section
variable (w0 : World) (p : Nat) (c : Nat → Value) (loc : Value) (st : List Int) (fs : List Fv) (f : Fv) (vs vf : Value) (w : World) (h : TS w0 p c loc st (fs ++ [f]) vs vf w) (hb : fs.length ≤ 100000) (hh : f.1.height ≤ st.length) (hl : st.length ≤ 500000000)
include h hb hh hl
set_option maxRecDepth 100000 in
set_option maxHeartbeats 4000000 in
theorem vPlain0 : Calls Tryd.prog 57 #[.pointer (some ⟨p, 0, none⟩), .int .i64 0] w fun e w' => e = .returned (.tuple #[]) ∧ ∃ vs', TS w0 p c loc (st.take f.1.height) (fs ++ [kill f]) vs' vf w' ∧ Gr p vs vf w vs' vf w' := by
  have HD := hideR (vDie w0 p c loc st fs f vs vf w h (by omega) hh (by omega))
  clear h
  go_enter Tryd.func57, Tryd.ntmps57
  go_wp2_with fail
  refine HD.out.mono ?_
  rintro e u ⟨rfl, vs', h1, h2⟩
  have H1 := hideR h1
  have H2 := hideR h2
  clear h1 h2 HD
  go_wp2
  go_end0
  exact ⟨rfl, vs', H1.out, H2.out⟩
set_option maxRecDepth 100000 in
set_option maxHeartbeats 4000000 in
theorem vPlain26 : Calls Tryd.prog 57 #[.pointer (some ⟨p, 0, none⟩), .int .i64 26] w (PopSays w0 p c loc (fs ++ [f]) vs vf w (pp f.1 [0] st)) := by
  obtain ⟨ts1, gr1⟩ := h.on (new_on' w (.cells #[.int .i64 0] 3))
  have HP := hideR (vPop w0 p c loc st fs f vs vf _ ts1 (.slice (some ⟨w.heap.size, 0, none⟩) 1 1) [0] (ints_one w 0 (h.fresh (Nat.le_refl _) (by simp))) (by simp) (by omega) hh (by omega))
  have HG := hideR gr1
  clear h ts1 gr1
  rw [show ([0] : List Int).reverse = [0] from rfl] at HP
  generalize pp f.1 [0] st = X at *
  go_enter Tryd.func57, Tryd.ntmps57
  go_wp2_with fail
  refine HP.out.mono ?_
  intro e u hx
  cases X with
  | error z =>
    obtain ⟨rfl, hbel⟩ := hx
    exact ⟨rfl, rfl, hbel⟩
  | ok s =>
    obtain ⟨rfl, vs', h1, h2⟩ := hx
    have H1 := hideR h1
    have H2 := hideR (HG.out.trans h2)
    clear h1 h2 HP
    go_wp2
    go_end0
    exact ⟨rfl, vs', H1.out, H2.out⟩
end
section
variable (w0 : World) (p : Nat) (c : Nat → Value) (loc : Value) (st : List Int) (fs : List Fv) (f : Fv) (vs vf : Value) (w : World) (h : TS w0 p c loc st (fs ++ [f]) vs vf w)
include h
set_option maxRecDepth 100000 in
set_option maxHeartbeats 4000000 in
theorem vOutwardNo (a : Int) (ha : ((fs.length + 1 : Nat) : Int) ≤ a) : Calls Tryd.prog 65 #[.pointer (some ⟨p, 0, none⟩), .int .i64 a] w fun e w' => e = .panicked (gave 61) ∧ Below w0.heap.size w0 w' := by
  have hw := fun o => (h.on (new_on' w o)).1.below
  have HW := hideR hw
  obtain ⟨oF, cF, rfl⟩ := own_slice h.hf
  have c12 := fun o => cell_on (new_on' w o) (h.cell 12 _ rfl)
  have hd : decide (a < (((fs ++ [f]).length : Nat) : Int)) = false := decide_eq_false (by rw [List.length_append]; simp at ha ⊢; omega)
  have c12' := c12 (.cells #[.slice none 0 0, .slice none 0 0, .int .i64 0, .bool false] 62)
  clear h c12 hw ha
  generalize (fs ++ [f]).length = nf at *
  go_enter Tryd.func65, Tryd.ntmps65
  go_wp2_with fail
  refine (vNeedN _ _).mono ?_
  rintro e u ⟨rfl, rfl⟩
  exact ⟨rfl, rfl, HW.out _⟩
end
set_option maxRecDepth 100000 in
set_option maxHeartbeats 4000000 in
theorem vBranchNo (w0 : World) (p : Nat) (c : Nat → Value) (loc : Value) (st : List Int) (fs : List Fv) (f : Fv) (vs vf : Value) (w : World) (h : TS w0 p c loc st (fs ++ [f]) vs vf w) (op a b n : Int) (v4 v5 v6 : Value) (h4 : ∃ o n k, v4 = .slice o n k) (h5 : ∃ o n k, v5 = .slice o n k) (h6 : ∃ o n k, v6 = .slice o n k) (ha : ((fs.length + 1 : Nat) : Int) ≤ a) :
    Calls Tryd.prog 53 #[.pointer (some ⟨p, 0, none⟩), .agg #[.int .i64 op, .int .i64 a, .int .i64 b, .int .i64 n, v4, v5, v6]] w fun e w' => e = .panicked (gave 61) ∧ Below w0.heap.size w0 w' := by
  obtain ⟨o4, n4, c4, rfl⟩ := h4
  obtain ⟨o5, n5, c5, rfl⟩ := h5
  obtain ⟨o6, n6, c6, rfl⟩ := h6
  have HO := fun o => hideR (vOutwardNo w0 p c loc st fs f vs vf (w.alloc o) (h.on (new_on' w o)).1 a ha)
  clear h ha
  go_enter Tryd.func53, Tryd.ntmps53
  go_wp2_with fail
  refine (HO _).out.mono ?_
  rintro e u ⟨rfl, hb⟩
  exact ⟨rfl, rfl, hb⟩
theorem vConstT (op : Int) (w : World) : Calls Tryd.prog 51 #[.int .i64 op] w fun e w' => e = .returned (.int .i64 (if op = 65 then 127 else 126)) ∧ w' = w := by
  by_cases h : op = 65
  · rw [if_pos h]
    subst h
    go_enter Tryd.func51, Tryd.ntmps51
    go_wp2
    go_ret
    exact ⟨rfl, rfl⟩
  · rw [if_neg h]
    have q : (op == 65) = false := by rw [beq_eq_false_iff_ne]; exact h
    go_enter Tryd.func51, Tryd.ntmps51
    go_wp2
    go_ret
    exact ⟨rfl, rfl⟩
set_option maxRecDepth 100000 in
set_option maxHeartbeats 8000000 in
theorem insSmall {d : Nat} (fs : List Fv) (x : Ins (IL d)) (hx : SmI (fs.length + 1) x) (hb : fs.length ≤ 100000) : InsC stpS fs x := by
  intro w0 p c loc st f vs vf v4 v5 v6 w h i4 i5 i6 hh hl
  obtain ⟨o4, c4, rfl⟩ := Row.len (show Row 1 _ v4 x.labels from i4)
  obtain ⟨o5, n5, c5, rfl⟩ := at_slice i5
  obtain ⟨o6, n6, c6, rfl⟩ := at_slice i6
  generalize x.labels.length = n4
  obtain ⟨ob, hob⟩ : ∃ ob : Obj, ob = .cells #[.int .i64 x.op, .int .i64 x.a, .int .i64 x.b, .int .i64 x.n, .slice o4 n4 c4, .slice o5 n5 c5, .slice o6 n6 c6] 26 (0, 0) := ⟨_, rfl⟩
  have hbx : (w.alloc ob).heap[w.heap.size]? = some ob := World.alloc_heap_new w ob
  obtain ⟨ts1, gr1⟩ := h.on (new_on' w ob)
  have kx : Kp p vs vf (w.alloc ob) w.heap.size := h.fresh (Nat.le_refl _) (by simp)
  have HF := hideR (vForm x.op (w.alloc ob))
  have HTS1 := hideR ts1
  have HGR1 := hideR gr1
  have HKX := hideR kx
  have HBX := hideR hbx
  unfold insV
  clear i4 i5 i6 h ts1 gr1 kx hbx
  have hcell : ∀ u, Below (w.alloc ob).heap.size (w.alloc ob) u → u.cell? ⟨w.heap.size, 0, none⟩ = some (.int .i64 x.op) := fun u hu => by
    unfold World.cell?
    rw [hu.block _ HKX.out.1, HBX.out, hob]
    rfl
  have HCELL := hideR hcell
  clear hcell
  rcases hx with e | e | e | e | ⟨e, hxa⟩
  · have e1 : stpS x st f.1 = .ok (st.take f.1.height, { f.1 with dead := true }) := by unfold stpS; rw [if_pos e]
    rw [e1]
    rw [e] at hob HF HCELL ⊢
    rw [show form 0 = 1 from rfl] at HF
    go_enter Tryd.func39, Tryd.ntmps39
    go_wp2_with fail
    rw [← hob]
    refine HF.out.mono ?_
    rintro e' u ⟨rfl, hu⟩
    obtain ⟨ts2, gr2⟩ := HTS1.out.on hu
    have x0 := HCELL.out u hu
    have HP := hideR (vPlain0 w0 p c loc st fs f vs vf u ts2 hb hh hl)
    have HG2 := hideR (HGR1.out.trans gr2)
    clear hu ts2 gr2 HF HTS1 HGR1 HKX HBX HCELL hob
    go_wp2_with fail
    refine HP.out.mono ?_
    rintro e' u3 ⟨rfl, vs', h1, h2⟩
    have H1 := hideR h1
    have H2 := hideR (HG2.out.trans h2)
    clear h1 h2 HP
    go_wp2
    go_end0
    exact ⟨rfl, vs', vf, H1.out, H2.out⟩
  · have e1 : stpS x st f.1 = match tk st f.1 0 with | .ok (_, st') => .ok (st', f.1) | .error z => .error z := by unfold stpS; rw [if_neg (by omega), if_pos e]
    have hpp : pp f.1 [0] st = match tk st f.1 0 with | .ok (_, st') => .ok st' | .error z => .error z := rfl
    have HPL := hideR (fun u ts2 => vPlain26 w0 p c loc st fs f vs vf u ts2 hb hh hl)
    rw [hpp] at HPL
    rw [e1]
    rw [e] at hob HF HCELL ⊢
    rw [show form 26 = 1 from rfl] at HF
    clear e1 hpp
    cases ht : tk st f.1 0 with
    | error z =>
      rw [ht] at HPL
      go_enter Tryd.func39, Tryd.ntmps39
      go_wp2_with fail
      rw [← hob]
      refine HF.out.mono ?_
      rintro e' u ⟨rfl, hu⟩
      obtain ⟨ts2, gr2⟩ := HTS1.out.on hu
      have x0 := HCELL.out u hu
      have HP := hideR (HPL.out u ts2)
      clear hu ts2 gr2 HF HTS1 HGR1 HKX HBX HCELL hob HPL ht
      go_wp2_with fail
      refine HP.out.mono ?_
      rintro e' u3 ⟨rfl, hbel⟩
      exact ⟨rfl, rfl, hbel⟩
    | ok v =>
      obtain ⟨g9, st'⟩ := v
      rw [ht] at HPL
      go_enter Tryd.func39, Tryd.ntmps39
      go_wp2_with fail
      rw [← hob]
      refine HF.out.mono ?_
      rintro e' u ⟨rfl, hu⟩
      obtain ⟨ts2, gr2⟩ := HTS1.out.on hu
      have x0 := HCELL.out u hu
      have HP := hideR (HPL.out u ts2)
      have HG2 := hideR (HGR1.out.trans gr2)
      clear hu ts2 gr2 HF HTS1 HGR1 HKX HBX HCELL hob HPL ht
      go_wp2_with fail
      refine HP.out.mono ?_
      rintro e' u3 ⟨rfl, vs', h1, h2⟩
      have H1 := hideR h1
      have H2 := hideR (HG2.out.trans h2)
      clear h1 h2 HP
      go_wp2
      go_end0
      exact ⟨rfl, vs', vf, H1.out, H2.out⟩
  · have e1 : stpS x st f.1 = .ok (st ++ [127], f.1) := by unfold stpS; rw [if_neg (by omega), if_neg (by omega), if_pos e]
    rw [e1]
    rw [e] at hob HF HCELL ⊢
    rw [show form 65 = 9 from rfl] at HF
    go_enter Tryd.func39, Tryd.ntmps39
    go_wp2_with fail
    rw [← hob]
    refine HF.out.mono ?_
    rintro e' u ⟨rfl, hu⟩
    obtain ⟨ts2, gr2⟩ := HTS1.out.on hu
    have x0 := HCELL.out u hu
    have HT := hideR (vConstT 65 u)
    rw [show (if (65 : Int) = 65 then (127 : Int) else 126) = 127 from rfl] at HT
    obtain ⟨ts3, gr3⟩ := ts2.on (new_on' u (.cells #[.int .i64 127] 3))
    have HP := hideR (vPush w0 p c loc st (fs ++ [f]) vs vf _ ts3 (.slice (some ⟨u.heap.size, 0, none⟩) 1 1) [127] (ints_one u 127 (S := fun _ => True) trivial) (by simp) (by omega))
    have HG2 := hideR ((HGR1.out.trans gr2).trans gr3)
    clear hu ts2 gr2 ts3 gr3 HF HTS1 HGR1 HKX HBX HCELL hob
    go_wp2_with fail
    refine HT.out.mono ?_
    rintro e' u2 ⟨rfl, rfl⟩
    go_wp2_with fail
    refine HP.out.mono ?_
    rintro e' u3 ⟨rfl, vs', h1, h2⟩
    have H1 := hideR h1
    have H2 := hideR (HG2.out.trans h2)
    clear h1 h2 HP HT
    go_wp2
    go_end0
    exact ⟨rfl, vs', vf, H1.out, H2.out⟩
  · have e1 : stpS x st f.1 = .ok (st ++ [126], f.1) := by unfold stpS; rw [if_neg (by omega), if_neg (by omega), if_neg (by omega), if_pos e]
    rw [e1]
    rw [e] at hob HF HCELL ⊢
    rw [show form 66 = 9 from rfl] at HF
    go_enter Tryd.func39, Tryd.ntmps39
    go_wp2_with fail
    rw [← hob]
    refine HF.out.mono ?_
    rintro e' u ⟨rfl, hu⟩
    obtain ⟨ts2, gr2⟩ := HTS1.out.on hu
    have x0 := HCELL.out u hu
    have HT := hideR (vConstT 66 u)
    rw [show (if (66 : Int) = 65 then (127 : Int) else 126) = 126 from rfl] at HT
    obtain ⟨ts3, gr3⟩ := ts2.on (new_on' u (.cells #[.int .i64 126] 3))
    have HP := hideR (vPush w0 p c loc st (fs ++ [f]) vs vf _ ts3 (.slice (some ⟨u.heap.size, 0, none⟩) 1 1) [126] (ints_one u 126 (S := fun _ => True) trivial) (by simp) (by omega))
    have HG2 := hideR ((HGR1.out.trans gr2).trans gr3)
    clear hu ts2 gr2 ts3 gr3 HF HTS1 HGR1 HKX HBX HCELL hob
    go_wp2_with fail
    refine HT.out.mono ?_
    rintro e' u2 ⟨rfl, rfl⟩
    go_wp2_with fail
    refine HP.out.mono ?_
    rintro e' u3 ⟨rfl, vs', h1, h2⟩
    have H1 := hideR h1
    have H2 := hideR (HG2.out.trans h2)
    clear h1 h2 HP HT
    go_wp2
    go_end0
    exact ⟨rfl, vs', vf, H1.out, H2.out⟩
  · have e1 : stpS x st f.1 = .error 61 := by unfold stpS; rw [if_neg (by omega), if_neg (by omega), if_neg (by omega), if_neg (by omega)]
    rw [e1]
    have HBR := hideR (fun u ts => vBranchNo w0 p c loc st fs f vs vf u ts 12 x.a x.b x.n (.slice o4 n4 c4) (.slice o5 n5 c5) (.slice o6 n6 c6) ⟨_, _, _, rfl⟩ ⟨_, _, _, rfl⟩ ⟨_, _, _, rfl⟩ hxa)
    have hcs : ∀ u, Below (w.alloc ob).heap.size (w.alloc ob) u → u.heap[w.heap.size]? = some ob := fun u hu => (hu.block _ HKX.out.1).trans HBX.out
    have HCS := hideR hcs
    rw [e] at hob HF HCELL ⊢
    rw [show form 12 = 4 from rfl] at HF
    clear hcs
    go_enter Tryd.func39, Tryd.ntmps39
    go_wp2_with fail
    rw [← hob]
    refine HF.out.mono ?_
    rintro e' u ⟨rfl, hu⟩
    obtain ⟨ts2, gr2⟩ := HTS1.out.on hu
    have x0 := HCELL.out u hu
    have hbu := HCS.out u hu
    rw [hob] at hbu
    have y0 : u.cell? ⟨w.heap.size, 0, none⟩ = some (.int .i64 12) := by unfold World.cell?; rw [hbu]; rfl
    have y1 : u.cell? ⟨w.heap.size, 1, none⟩ = some (.int .i64 x.a) := by unfold World.cell?; rw [hbu]; rfl
    have y2 : u.cell? ⟨w.heap.size, 2, none⟩ = some (.int .i64 x.b) := by unfold World.cell?; rw [hbu]; rfl
    have y3 : u.cell? ⟨w.heap.size, 3, none⟩ = some (.int .i64 x.n) := by unfold World.cell?; rw [hbu]; rfl
    have y4 : u.cell? ⟨w.heap.size, 4, none⟩ = some (.slice o4 n4 c4) := by unfold World.cell?; rw [hbu]; rfl
    have y5 : u.cell? ⟨w.heap.size, 5, none⟩ = some (.slice o5 n5 c5) := by unfold World.cell?; rw [hbu]; rfl
    have y6 : u.cell? ⟨w.heap.size, 6, none⟩ = some (.slice o6 n6 c6) := by unfold World.cell?; rw [hbu]; rfl
    have HP := hideR (HBR.out u ts2)
    clear hu ts2 gr2 HF HTS1 HGR1 HKX HBX HCELL hob HCS HBR hbu
    go_wp2_with fail
    refine HP.out.mono ?_
    rintro e' u3 ⟨rfl, hbel⟩
    exact ⟨rfl, rfl, hbel⟩
end Go.Proofs.YtlpnoelolkbmmaaDoor
