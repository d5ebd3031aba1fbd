/- The program's sameInstr: printed by gen_psame.py. -/
import Derived.Test.YtmedpblpcfobdaaDoorVP0s
import Derived.Deep.RegionLaw
import Derived.Deep.CutRange
namespace Go.Proofs.YtmedpblpcfobdaaDoor
open Go.RowKit Rep
set_option linter.unusedVariables false
namespace Rep
/-- a block of cells, whole -/
def Bk (w : World) (b : Nat) (t : TypeId) (cs : Array Value) : Prop := w.heap[b]? = some (.cells cs t (0, 0))
theorem Bk.cell {w : World} {b : Nat} {t : TypeId} {cs : Array Value} (h : Bk w b t cs) (i : Nat) (v : Value) (hv : cs[i]? = some v) : w.cell? ⟨b, i, none⟩ = some v := by
  unfold World.cell?; rw [h]; exact hv
theorem Bk.on {w w' : World} {b : Nat} {t : TypeId} {cs : Array Value} (h : Bk w b t cs) (hb : Below w.heap.size w w') : Bk w' b t cs := by
  have : b < w.heap.size := (Array.getElem?_eq_some_iff.1 h).1
  unfold Bk at *; rw [hb.block b this]; exact h
theorem Bk.new {w : World} {b : Nat} {t : TypeId} {cs : Array Value} (hp : b = w.heap.size) : Bk (w.alloc (.cells cs t)) b t cs := by
  subst hp; exact heap_alloc_new w _
def EqIn (d : Nat) : Prop := ∀ (va vb : Value) (a b : IL d) (w : World), At w d va a → At w d vb b → Calls Tryd.prog 80 #[va, vb, .func (.func 81) #[] #[]] w fun e w' => e = .returned (.bool (samI d a b)) ∧ Below w.heap.size w w'
end Rep
namespace Rep
def Q81 {d : Nat} (x y : Ins (IL d)) (q4 q5 q6 r4 r5 r6 : Option Addr) (y4 z4 y5 z5 y6 z6 s4 t4 s5 t5 s6 t6 : Nat) (p1 p2 : Nat) (C1 C2 C3 C4 C5 C6 C7 e1 e2 e3 e4 e5 e6 e7 : Bool) : Nat → Stab
  | 0 => sEq (.pointer (some ⟨p1, 0, none⟩))
  | 1 => sEq (.int .i64 x.op)
  | 2 => sEq (.pointer (some ⟨p2, 0, none⟩))
  | 3 => sEq (.int .i64 y.op)
  | 4 => sEq (.bool C1)
  | 5 => sEq (.bool C1)
  | 6 => sIf C1 (.pointer (some ⟨p1, 1, none⟩))
  | 7 => sIf C1 (.int .i64 x.a)
  | 8 => sIf C1 (.pointer (some ⟨p2, 1, none⟩))
  | 9 => sIf C1 (.int .i64 y.a)
  | 10 => sIf C1 (.bool e2)
  | 11 => sEq (.bool C2)
  | 12 => sEq (.bool C2)
  | 13 => sIf C2 (.pointer (some ⟨p1, 2, none⟩))
  | 14 => sIf C2 (.int .i64 x.b)
  | 15 => sIf C2 (.pointer (some ⟨p2, 2, none⟩))
  | 16 => sIf C2 (.int .i64 y.b)
  | 17 => sIf C2 (.bool e3)
  | 18 => sEq (.bool C3)
  | 19 => sEq (.bool C3)
  | 20 => sIf C3 (.pointer (some ⟨p1, 3, none⟩))
  | 21 => sIf C3 (.int .i64 x.n)
  | 22 => sIf C3 (.pointer (some ⟨p2, 3, none⟩))
  | 23 => sIf C3 (.int .i64 y.n)
  | 24 => sIf C3 (.bool e4)
  | 25 => sEq (.bool C4)
  | 26 => sEq (.bool C4)
  | 27 => sIf C4 (.pointer (some ⟨p1, 4, none⟩))
  | 28 => sIf C4 (.slice q4 y4 z4)
  | 29 => sIf C4 (.pointer (some ⟨p2, 4, none⟩))
  | 30 => sIf C4 (.slice r4 s4 t4)
  | 31 => sIf C4 (.bool e5)
  | 32 => sEq (.bool C5)
  | 33 => sEq (.bool C5)
  | 34 => sIf C5 (.pointer (some ⟨p1, 5, none⟩))
  | 35 => sIf C5 (.slice q5 y5 z5)
  | 36 => sIf C5 (.pointer (some ⟨p2, 5, none⟩))
  | 37 => sIf C5 (.slice r5 s5 t5)
  | 38 => sIf C5 (.bool e6)
  | 39 => sEq (.bool C6)
  | 40 => sEq (.bool C6)
  | 41 => sIf C6 (.pointer (some ⟨p1, 6, none⟩))
  | 42 => sIf C6 (.slice q6 y6 z6)
  | 43 => sIf C6 (.pointer (some ⟨p2, 6, none⟩))
  | 44 => sIf C6 (.slice r6 s6 t6)
  | 45 => sIf C6 (.bool e7)
  | 46 => sEq (.bool C7)
  | 47 => sEq (.bool C7)
  | _ => sEq undef
end Rep
set_option maxRecDepth 100000 in
set_option maxHeartbeats 8000000 in
theorem pSameInstr {d : Nat} (x y : Ins (IL d)) (q4 q5 q6 r4 r5 r6 : Option Addr) (y4 z4 y5 z5 y6 z6 s4 t4 s5 t5 s6 t6 : Nat) (w : World) (IH : EqIn d) (a4 : Ints w (.slice q4 y4 z4) x.labels) (a5 : At w d (.slice q5 y5 z5) x.body) (a6 : At w d (.slice q6 y6 z6) x.els) (b4 : Ints w (.slice r4 s4 t4) y.labels) (b5 : At w d (.slice r5 s5 t5) y.body) (b6 : At w d (.slice r6 s6 t6) y.els) : Calls Tryd.prog 81 #[.agg #[.int .i64 x.op, .int .i64 x.a, .int .i64 x.b, .int .i64 x.n, .slice q4 y4 z4, .slice q5 y5 z5, .slice q6 y6 z6], .agg #[.int .i64 y.op, .int .i64 y.a, .int .i64 y.b, .int .i64 y.n, .slice r4 s4 t4, .slice r5 s5 t5, .slice r6 s6 t6]] w fun e w' => e = .returned (.bool (sam1 (samI d) x y)) ∧ Below w.heap.size w w' := by
  have AX4 := hideR a4
  have AX5 := hideR a5
  have AX6 := hideR a6
  have AY4 := hideR b4
  have AY5 := hideR b5
  have AY6 := hideR b6
  have HIH := hideR IH
  clear a4 a5 a6 b4 b5 b6 IH
  obtain ⟨e1, HE10⟩ : ∃ e, e = (x.op == y.op) := ⟨_, rfl⟩
  have HE1 := hideR HE10
  clear HE10
  obtain ⟨e2, HE20⟩ : ∃ e, e = (x.a == y.a) := ⟨_, rfl⟩
  have HE2 := hideR HE20
  clear HE20
  obtain ⟨e3, HE30⟩ : ∃ e, e = (x.b == y.b) := ⟨_, rfl⟩
  have HE3 := hideR HE30
  clear HE30
  obtain ⟨e4, HE40⟩ : ∃ e, e = (x.n == y.n) := ⟨_, rfl⟩
  have HE4 := hideR HE40
  clear HE40
  obtain ⟨e5, HE50⟩ : ∃ e, e = samB (fun (x y : Int) => x == y) x.labels y.labels := ⟨_, rfl⟩
  have HE5 := hideR HE50
  clear HE50
  obtain ⟨e6, HE60⟩ : ∃ e, e = samI d x.body y.body := ⟨_, rfl⟩
  have HE6 := hideR HE60
  clear HE60
  obtain ⟨e7, HE70⟩ : ∃ e, e = samI d x.els y.els := ⟨_, rfl⟩
  have HE7 := hideR HE70
  clear HE70
  obtain ⟨C1, HC10⟩ : ∃ c, c = e1 := ⟨_, rfl⟩
  have HC1 := hideR HC10
  clear HC10
  obtain ⟨C2, HC20⟩ : ∃ c, c = (C1 && e2) := ⟨_, rfl⟩
  have HC2 := hideR HC20
  clear HC20
  obtain ⟨C3, HC30⟩ : ∃ c, c = (C2 && e3) := ⟨_, rfl⟩
  have HC3 := hideR HC30
  clear HC30
  obtain ⟨C4, HC40⟩ : ∃ c, c = (C3 && e4) := ⟨_, rfl⟩
  have HC4 := hideR HC40
  clear HC40
  obtain ⟨C5, HC50⟩ : ∃ c, c = (C4 && e5) := ⟨_, rfl⟩
  have HC5 := hideR HC50
  clear HC50
  obtain ⟨C6, HC60⟩ : ∃ c, c = (C5 && e6) := ⟨_, rfl⟩
  have HC6 := hideR HC60
  clear HC60
  obtain ⟨C7, HC70⟩ : ∃ c, c = (C6 && e7) := ⟨_, rfl⟩
  have HC7 := hideR HC70
  clear HC70
  have hZ : sam1 (samI d) x y = C7 := by
    rw [HC7.out, HC6.out, HC5.out, HC4.out, HC3.out, HC2.out, HC1.out, HE1.out, HE2.out, HE3.out, HE4.out, HE5.out, HE6.out, HE7.out]
    unfold sam1
    rw [samB_int]
    simp only [Bool.and_assoc]
    rfl
  rw [hZ]
  clear hZ
  go_enter Tryd.func81, Tryd.ntmps81
  go_upto_region 1 with fail
  obtain ⟨u1, hu1⟩ : ∃ u1, u1 = (w.alloc (.cells #[.int .i64 x.op, .int .i64 x.a, .int .i64 x.b, .int .i64 x.n, .slice q4 y4 z4, .slice q5 y5 z5, .slice q6 y6 z6] 45)).alloc (.cells #[.int .i64 y.op, .int .i64 y.a, .int .i64 y.b, .int .i64 y.n, .slice r4 s4 t4, .slice r5 s5 t5, .slice r6 s6 t6] 45) := ⟨_, rfl⟩
  have HB1 : Hid (Bk u1 w.heap.size 45 #[.int .i64 x.op, .int .i64 x.a, .int .i64 x.b, .int .i64 x.n, .slice q4 y4 z4, .slice q5 y5 z5, .slice q6 y6 z6]) := hideR (by rw [hu1]; exact (Bk.new rfl).on (new_on' _ _))
  have HB2 : Hid (Bk u1 (w.heap.size + 1) 45 #[.int .i64 y.op, .int .i64 y.a, .int .i64 y.b, .int .i64 y.n, .slice r4 s4 t4, .slice r5 s5 t5, .slice r6 s6 t6]) := hideR (by rw [hu1]; exact Bk.new (by simp))
  have HU : Hid (Below w.heap.size w u1) := hideR (by rw [hu1]; exact below_go' (new_on' _ _) (new_on' _ _))
  rw [← hu1]
  clear hu1
  obtain ⟨p2, hp2⟩ : ∃ p2, p2 = w.heap.size + 1 := ⟨_, rfl⟩
  rw [← hp2] at HB2 ⊢
  clear hp2
  generalize hp1 : w.heap.size = p1 at HB1 ⊢
  refine Reg.wp_region_allq 48 (fun i => if i < 47 then 5 + i else 4) (fun i => (Q81 x y q4 q5 q6 r4 r5 r6 y4 z4 y5 z5 y6 z6 s4 t4 s5 t5 s6 t6 p1 p2 C1 C2 C3 C4 C5 C6 C7 e1 e2 e3 e4 e5 e6 e7 i).1) ?hn (fun i j h1 h2 h => by have h' : (if i < 47 then 5 + i else 4) = (if j < 47 then 5 + j else 4) := h; split at h' <;> split at h' <;> omega) (Reg.dst_okG (size := 52) (by kernel_rfl)) (fun i v w w' _ h hb => (Q81 x y q4 q5 q6 r4 r5 r6 y4 z4 y5 z5 y6 z6 s4 t4 s5 t5 s6 t6 p1 p2 C1 C2 C3 C4 C5 C6 C7 e1 e2 e3 e4 e5 e6 e7 i).2 v w w' h hb) ?hstep ?htail
  case hn => simp
  case hstep =>
    intro i o a w2 hi ho hF hB hd
    have hBw := below_go' HU.out hB
    have f2 : a.tmps[2]?.getD undef = .pointer (some ⟨p1, 0, none⟩) := Reg.ev_get (hF.eval 2 (fun i hi => by show (if i < 47 then 5 + i else 4) ≠ 2; split <;> omega))
    have f3 : a.tmps[3]?.getD undef = .pointer (some ⟨p2, 0, none⟩) := Reg.ev_get (hF.eval 3 (fun i hi => by show (if i < 47 then 5 + i else 4) ≠ 3; split <;> omega))
    have c0 := (HB1.out.on hB).cell 0 _ rfl
    have c1 := (HB1.out.on hB).cell 1 _ rfl
    have c2 := (HB1.out.on hB).cell 2 _ rfl
    have c3 := (HB1.out.on hB).cell 3 _ rfl
    have c4 := (HB1.out.on hB).cell 4 _ rfl
    have c5 := (HB1.out.on hB).cell 5 _ rfl
    have c6 := (HB1.out.on hB).cell 6 _ rfl
    have d0 := (HB2.out.on hB).cell 0 _ rfl
    have d1 := (HB2.out.on hB).cell 1 _ rfl
    have d2 := (HB2.out.on hB).cell 2 _ rfl
    have d3 := (HB2.out.on hB).cell 3 _ rfl
    have d4 := (HB2.out.on hB).cell 4 _ rfl
    have d5 := (HB2.out.on hB).cell 5 _ rfl
    have d6 := (HB2.out.on hB).cell 6 _ rfl
    have HBW := hideR hBw
    clear hBw
    have hcase : i = 0 ∨ i = 1 ∨ i = 2 ∨ i = 3 ∨ i = 4 ∨ i = 5 ∨ i = 6 ∨ i = 7 ∨ i = 8 ∨ i = 9 ∨ i = 10 ∨ i = 11 ∨ i = 12 ∨ i = 13 ∨ i = 14 ∨ i = 15 ∨ i = 16 ∨ i = 17 ∨ i = 18 ∨ i = 19 ∨ i = 20 ∨ i = 21 ∨ i = 22 ∨ i = 23 ∨ i = 24 ∨ i = 25 ∨ i = 26 ∨ i = 27 ∨ i = 28 ∨ i = 29 ∨ i = 30 ∨ i = 31 ∨ i = 32 ∨ i = 33 ∨ i = 34 ∨ i = 35 ∨ i = 36 ∨ i = 37 ∨ i = 38 ∨ i = 39 ∨ i = 40 ∨ i = 41 ∨ i = 42 ∨ i = 43 ∨ i = 44 ∨ i = 45 ∨ i = 46 ∨ i = 47 := by omega
    clear hi
    rcases hcase with rfl | rfl | rfl | rfl | rfl | rfl | rfl | rfl | rfl | rfl | rfl | rfl | rfl | rfl | rfl | rfl | rfl | rfl | rfl | rfl | rfl | rfl | rfl | rfl | rfl | rfl | rfl | rfl | rfl | rfl | rfl | rfl | rfl | rfl | rfl | rfl | rfl | rfl | rfl | rfl | rfl | rfl | rfl | rfl | rfl | rfl | rfl | rfl
    · simp only [List.getElem?_toArray, List.getElem?_cons_zero, Option.some.injEq] at ho
      subst ho
      refine Reg.Does.go rfl (Reg.step_k fun K hK => ?_)
      go_simp
      exact hK _ _ ⟨_, rfl, Below.refl _ _, rfl⟩
    · simp only [List.getElem?_toArray, List.getElem?_cons_succ, List.getElem?_cons_zero, Option.some.injEq] at ho
      subst ho
      have q0 : a.tmps[5]?.getD undef = .pointer (some ⟨p1, 0, none⟩) := Reg.ev_get (hd 0 (by decide))
      refine Reg.Does.go rfl (Reg.step_k fun K hK => ?_)
      go_simp
      exact hK _ _ ⟨_, rfl, Below.refl _ _, rfl⟩
    · simp only [List.getElem?_toArray, List.getElem?_cons_succ, List.getElem?_cons_zero, Option.some.injEq] at ho
      subst ho
      refine Reg.Does.go rfl (Reg.step_k fun K hK => ?_)
      go_simp
      exact hK _ _ ⟨_, rfl, Below.refl _ _, rfl⟩
    · simp only [List.getElem?_toArray, List.getElem?_cons_succ, List.getElem?_cons_zero, Option.some.injEq] at ho
      subst ho
      have q0 : a.tmps[7]?.getD undef = .pointer (some ⟨p2, 0, none⟩) := Reg.ev_get (hd 2 (by decide))
      refine Reg.Does.go rfl (Reg.step_k fun K hK => ?_)
      go_simp
      exact hK _ _ ⟨_, rfl, Below.refl _ _, rfl⟩
    · simp only [List.getElem?_toArray, List.getElem?_cons_succ, List.getElem?_cons_zero, Option.some.injEq] at ho
      subst ho
      have q0 : a.tmps[6]?.getD undef = .int .i64 x.op := Reg.ev_get (hd 1 (by decide))
      have q1 : a.tmps[8]?.getD undef = .int .i64 y.op := Reg.ev_get (hd 3 (by decide))
      refine Reg.Does.go rfl (Reg.step_k fun K hK => ?_)
      go_simp
      exact hK _ _ ⟨_, rfl, Below.refl _ _, congrArg Value.bool (HE1.out.symm.trans HC1.out.symm)⟩
    · simp only [List.getElem?_toArray, List.getElem?_cons_succ, List.getElem?_cons_zero, Option.some.injEq] at ho
      subst ho
      have q0 : a.tmps[9]?.getD undef = .bool C1 := Reg.ev_get (hd 4 (by decide))
      refine Reg.Does.go rfl (Reg.step_k fun K hK => ?_)
      go_simp
      exact hK _ _ ⟨_, rfl, Below.refl _ _, rfl⟩
    · simp only [List.getElem?_toArray, List.getElem?_cons_succ, List.getElem?_cons_zero, Option.some.injEq] at ho
      subst ho
      have qg : a.eval (.tmp 10) = .bool C1 := hd 5 (by decide)
      cases C1
      · exact Reg.Does.skip rfl rfl rfl qg rfl
      · refine Reg.Does.wanted rfl rfl rfl qg (Reg.step_k fun K hK => ?_)
        clear qg
        go_simp
        exact hK _ _ ⟨_, rfl, Below.refl _ _, rfl⟩
    · simp only [List.getElem?_toArray, List.getElem?_cons_succ, List.getElem?_cons_zero, Option.some.injEq] at ho
      subst ho
      have qg : a.eval (.tmp 10) = .bool C1 := hd 5 (by decide)
      cases C1
      · exact Reg.Does.skip rfl rfl rfl qg rfl
      · refine Reg.Does.wanted rfl rfl rfl qg (Reg.step_k fun K hK => ?_)
        clear qg
        have q0 : a.tmps[11]?.getD undef = .pointer (some ⟨p1, 1, none⟩) := Reg.ev_get (hd 6 (by decide))
        go_simp
        exact hK _ _ ⟨_, rfl, Below.refl _ _, rfl⟩
    · simp only [List.getElem?_toArray, List.getElem?_cons_succ, List.getElem?_cons_zero, Option.some.injEq] at ho
      subst ho
      have qg : a.eval (.tmp 10) = .bool C1 := hd 5 (by decide)
      cases C1
      · exact Reg.Does.skip rfl rfl rfl qg rfl
      · refine Reg.Does.wanted rfl rfl rfl qg (Reg.step_k fun K hK => ?_)
        clear qg
        go_simp
        exact hK _ _ ⟨_, rfl, Below.refl _ _, rfl⟩
    · simp only [List.getElem?_toArray, List.getElem?_cons_succ, List.getElem?_cons_zero, Option.some.injEq] at ho
      subst ho
      have qg : a.eval (.tmp 10) = .bool C1 := hd 5 (by decide)
      cases C1
      · exact Reg.Does.skip rfl rfl rfl qg rfl
      · refine Reg.Does.wanted rfl rfl rfl qg (Reg.step_k fun K hK => ?_)
        clear qg
        have q0 : a.tmps[13]?.getD undef = .pointer (some ⟨p2, 1, none⟩) := Reg.ev_get (hd 8 (by decide))
        go_simp
        exact hK _ _ ⟨_, rfl, Below.refl _ _, rfl⟩
    · simp only [List.getElem?_toArray, List.getElem?_cons_succ, List.getElem?_cons_zero, Option.some.injEq] at ho
      subst ho
      have qg : a.eval (.tmp 10) = .bool C1 := hd 5 (by decide)
      cases C1
      · exact Reg.Does.skip rfl rfl rfl qg rfl
      · refine Reg.Does.wanted rfl rfl rfl qg (Reg.step_k fun K hK => ?_)
        clear qg
        have q0 : a.tmps[12]?.getD undef = .int .i64 x.a := Reg.ev_get (hd 7 (by decide))
        have q1 : a.tmps[14]?.getD undef = .int .i64 y.a := Reg.ev_get (hd 9 (by decide))
        go_simp
        exact hK _ _ ⟨_, rfl, Below.refl _ _, congrArg Value.bool (HE2.out.symm)⟩
    · simp only [List.getElem?_toArray, List.getElem?_cons_succ, List.getElem?_cons_zero, Option.some.injEq] at ho
      subst ho
      have qc : a.tmps[10]?.getD undef = .bool C1 := Reg.ev_get (hd 5 (by decide))
      have qe : a.tmps[15]?.getD undef = if C1 then .bool e2 else undef := Reg.ev_get (hd 10 (by decide))
      refine Reg.Does.go rfl (Reg.step_k fun K hK => ?_)
      have HCN := HC2
      cases C1
      · simp only [Bool.false_eq_true, if_false] at qe
        go_simp
        exact hK _ _ ⟨_, rfl, Below.refl _ _, congrArg Value.bool HCN.out.symm⟩
      · simp only [if_true] at qe
        go_simp
        exact hK _ _ ⟨_, rfl, Below.refl _ _, congrArg Value.bool (HCN.out.trans (Bool.true_and _)).symm⟩
    · simp only [List.getElem?_toArray, List.getElem?_cons_succ, List.getElem?_cons_zero, Option.some.injEq] at ho
      subst ho
      have q0 : a.tmps[16]?.getD undef = .bool C2 := Reg.ev_get (hd 11 (by decide))
      refine Reg.Does.go rfl (Reg.step_k fun K hK => ?_)
      go_simp
      exact hK _ _ ⟨_, rfl, Below.refl _ _, rfl⟩
    · simp only [List.getElem?_toArray, List.getElem?_cons_succ, List.getElem?_cons_zero, Option.some.injEq] at ho
      subst ho
      have qg : a.eval (.tmp 17) = .bool C2 := hd 12 (by decide)
      cases C2
      · exact Reg.Does.skip rfl rfl rfl qg rfl
      · refine Reg.Does.wanted rfl rfl rfl qg (Reg.step_k fun K hK => ?_)
        clear qg
        go_simp
        exact hK _ _ ⟨_, rfl, Below.refl _ _, rfl⟩
    · simp only [List.getElem?_toArray, List.getElem?_cons_succ, List.getElem?_cons_zero, Option.some.injEq] at ho
      subst ho
      have qg : a.eval (.tmp 17) = .bool C2 := hd 12 (by decide)
      cases C2
      · exact Reg.Does.skip rfl rfl rfl qg rfl
      · refine Reg.Does.wanted rfl rfl rfl qg (Reg.step_k fun K hK => ?_)
        clear qg
        have q0 : a.tmps[18]?.getD undef = .pointer (some ⟨p1, 2, none⟩) := Reg.ev_get (hd 13 (by decide))
        go_simp
        exact hK _ _ ⟨_, rfl, Below.refl _ _, rfl⟩
    · simp only [List.getElem?_toArray, List.getElem?_cons_succ, List.getElem?_cons_zero, Option.some.injEq] at ho
      subst ho
      have qg : a.eval (.tmp 17) = .bool C2 := hd 12 (by decide)
      cases C2
      · exact Reg.Does.skip rfl rfl rfl qg rfl
      · refine Reg.Does.wanted rfl rfl rfl qg (Reg.step_k fun K hK => ?_)
        clear qg
        go_simp
        exact hK _ _ ⟨_, rfl, Below.refl _ _, rfl⟩
    · simp only [List.getElem?_toArray, List.getElem?_cons_succ, List.getElem?_cons_zero, Option.some.injEq] at ho
      subst ho
      have qg : a.eval (.tmp 17) = .bool C2 := hd 12 (by decide)
      cases C2
      · exact Reg.Does.skip rfl rfl rfl qg rfl
      · refine Reg.Does.wanted rfl rfl rfl qg (Reg.step_k fun K hK => ?_)
        clear qg
        have q0 : a.tmps[20]?.getD undef = .pointer (some ⟨p2, 2, none⟩) := Reg.ev_get (hd 15 (by decide))
        go_simp
        exact hK _ _ ⟨_, rfl, Below.refl _ _, rfl⟩
    · simp only [List.getElem?_toArray, List.getElem?_cons_succ, List.getElem?_cons_zero, Option.some.injEq] at ho
      subst ho
      have qg : a.eval (.tmp 17) = .bool C2 := hd 12 (by decide)
      cases C2
      · exact Reg.Does.skip rfl rfl rfl qg rfl
      · refine Reg.Does.wanted rfl rfl rfl qg (Reg.step_k fun K hK => ?_)
        clear qg
        have q0 : a.tmps[19]?.getD undef = .int .i64 x.b := Reg.ev_get (hd 14 (by decide))
        have q1 : a.tmps[21]?.getD undef = .int .i64 y.b := Reg.ev_get (hd 16 (by decide))
        go_simp
        exact hK _ _ ⟨_, rfl, Below.refl _ _, congrArg Value.bool (HE3.out.symm)⟩
    · simp only [List.getElem?_toArray, List.getElem?_cons_succ, List.getElem?_cons_zero, Option.some.injEq] at ho
      subst ho
      have qc : a.tmps[17]?.getD undef = .bool C2 := Reg.ev_get (hd 12 (by decide))
      have qe : a.tmps[22]?.getD undef = if C2 then .bool e3 else undef := Reg.ev_get (hd 17 (by decide))
      refine Reg.Does.go rfl (Reg.step_k fun K hK => ?_)
      have HCN := HC3
      cases C2
      · simp only [Bool.false_eq_true, if_false] at qe
        go_simp
        exact hK _ _ ⟨_, rfl, Below.refl _ _, congrArg Value.bool HCN.out.symm⟩
      · simp only [if_true] at qe
        go_simp
        exact hK _ _ ⟨_, rfl, Below.refl _ _, congrArg Value.bool (HCN.out.trans (Bool.true_and _)).symm⟩
    · simp only [List.getElem?_toArray, List.getElem?_cons_succ, List.getElem?_cons_zero, Option.some.injEq] at ho
      subst ho
      have q0 : a.tmps[23]?.getD undef = .bool C3 := Reg.ev_get (hd 18 (by decide))
      refine Reg.Does.go rfl (Reg.step_k fun K hK => ?_)
      go_simp
      exact hK _ _ ⟨_, rfl, Below.refl _ _, rfl⟩
    · simp only [List.getElem?_toArray, List.getElem?_cons_succ, List.getElem?_cons_zero, Option.some.injEq] at ho
      subst ho
      have qg : a.eval (.tmp 24) = .bool C3 := hd 19 (by decide)
      cases C3
      · exact Reg.Does.skip rfl rfl rfl qg rfl
      · refine Reg.Does.wanted rfl rfl rfl qg (Reg.step_k fun K hK => ?_)
        clear qg
        go_simp
        exact hK _ _ ⟨_, rfl, Below.refl _ _, rfl⟩
    · simp only [List.getElem?_toArray, List.getElem?_cons_succ, List.getElem?_cons_zero, Option.some.injEq] at ho
      subst ho
      have qg : a.eval (.tmp 24) = .bool C3 := hd 19 (by decide)
      cases C3
      · exact Reg.Does.skip rfl rfl rfl qg rfl
      · refine Reg.Does.wanted rfl rfl rfl qg (Reg.step_k fun K hK => ?_)
        clear qg
        have q0 : a.tmps[25]?.getD undef = .pointer (some ⟨p1, 3, none⟩) := Reg.ev_get (hd 20 (by decide))
        go_simp
        exact hK _ _ ⟨_, rfl, Below.refl _ _, rfl⟩
    · simp only [List.getElem?_toArray, List.getElem?_cons_succ, List.getElem?_cons_zero, Option.some.injEq] at ho
      subst ho
      have qg : a.eval (.tmp 24) = .bool C3 := hd 19 (by decide)
      cases C3
      · exact Reg.Does.skip rfl rfl rfl qg rfl
      · refine Reg.Does.wanted rfl rfl rfl qg (Reg.step_k fun K hK => ?_)
        clear qg
        go_simp
        exact hK _ _ ⟨_, rfl, Below.refl _ _, rfl⟩
    · simp only [List.getElem?_toArray, List.getElem?_cons_succ, List.getElem?_cons_zero, Option.some.injEq] at ho
      subst ho
      have qg : a.eval (.tmp 24) = .bool C3 := hd 19 (by decide)
      cases C3
      · exact Reg.Does.skip rfl rfl rfl qg rfl
      · refine Reg.Does.wanted rfl rfl rfl qg (Reg.step_k fun K hK => ?_)
        clear qg
        have q0 : a.tmps[27]?.getD undef = .pointer (some ⟨p2, 3, none⟩) := Reg.ev_get (hd 22 (by decide))
        go_simp
        exact hK _ _ ⟨_, rfl, Below.refl _ _, rfl⟩
    · simp only [List.getElem?_toArray, List.getElem?_cons_succ, List.getElem?_cons_zero, Option.some.injEq] at ho
      subst ho
      have qg : a.eval (.tmp 24) = .bool C3 := hd 19 (by decide)
      cases C3
      · exact Reg.Does.skip rfl rfl rfl qg rfl
      · refine Reg.Does.wanted rfl rfl rfl qg (Reg.step_k fun K hK => ?_)
        clear qg
        have q0 : a.tmps[26]?.getD undef = .int .i64 x.n := Reg.ev_get (hd 21 (by decide))
        have q1 : a.tmps[28]?.getD undef = .int .i64 y.n := Reg.ev_get (hd 23 (by decide))
        go_simp
        exact hK _ _ ⟨_, rfl, Below.refl _ _, congrArg Value.bool (HE4.out.symm)⟩
    · simp only [List.getElem?_toArray, List.getElem?_cons_succ, List.getElem?_cons_zero, Option.some.injEq] at ho
      subst ho
      have qc : a.tmps[24]?.getD undef = .bool C3 := Reg.ev_get (hd 19 (by decide))
      have qe : a.tmps[29]?.getD undef = if C3 then .bool e4 else undef := Reg.ev_get (hd 24 (by decide))
      refine Reg.Does.go rfl (Reg.step_k fun K hK => ?_)
      have HCN := HC4
      cases C3
      · simp only [Bool.false_eq_true, if_false] at qe
        go_simp
        exact hK _ _ ⟨_, rfl, Below.refl _ _, congrArg Value.bool HCN.out.symm⟩
      · simp only [if_true] at qe
        go_simp
        exact hK _ _ ⟨_, rfl, Below.refl _ _, congrArg Value.bool (HCN.out.trans (Bool.true_and _)).symm⟩
    · simp only [List.getElem?_toArray, List.getElem?_cons_succ, List.getElem?_cons_zero, Option.some.injEq] at ho
      subst ho
      have q0 : a.tmps[30]?.getD undef = .bool C4 := Reg.ev_get (hd 25 (by decide))
      refine Reg.Does.go rfl (Reg.step_k fun K hK => ?_)
      go_simp
      exact hK _ _ ⟨_, rfl, Below.refl _ _, rfl⟩
    · simp only [List.getElem?_toArray, List.getElem?_cons_succ, List.getElem?_cons_zero, Option.some.injEq] at ho
      subst ho
      have qg : a.eval (.tmp 31) = .bool C4 := hd 26 (by decide)
      cases C4
      · exact Reg.Does.skip rfl rfl rfl qg rfl
      · refine Reg.Does.wanted rfl rfl rfl qg (Reg.step_k fun K hK => ?_)
        clear qg
        go_simp
        exact hK _ _ ⟨_, rfl, Below.refl _ _, rfl⟩
    · simp only [List.getElem?_toArray, List.getElem?_cons_succ, List.getElem?_cons_zero, Option.some.injEq] at ho
      subst ho
      have qg : a.eval (.tmp 31) = .bool C4 := hd 26 (by decide)
      cases C4
      · exact Reg.Does.skip rfl rfl rfl qg rfl
      · refine Reg.Does.wanted rfl rfl rfl qg (Reg.step_k fun K hK => ?_)
        clear qg
        have q0 : a.tmps[32]?.getD undef = .pointer (some ⟨p1, 4, none⟩) := Reg.ev_get (hd 27 (by decide))
        go_simp
        exact hK _ _ ⟨_, rfl, Below.refl _ _, rfl⟩
    · simp only [List.getElem?_toArray, List.getElem?_cons_succ, List.getElem?_cons_zero, Option.some.injEq] at ho
      subst ho
      have qg : a.eval (.tmp 31) = .bool C4 := hd 26 (by decide)
      cases C4
      · exact Reg.Does.skip rfl rfl rfl qg rfl
      · refine Reg.Does.wanted rfl rfl rfl qg (Reg.step_k fun K hK => ?_)
        clear qg
        go_simp
        exact hK _ _ ⟨_, rfl, Below.refl _ _, rfl⟩
    · simp only [List.getElem?_toArray, List.getElem?_cons_succ, List.getElem?_cons_zero, Option.some.injEq] at ho
      subst ho
      have qg : a.eval (.tmp 31) = .bool C4 := hd 26 (by decide)
      cases C4
      · exact Reg.Does.skip rfl rfl rfl qg rfl
      · refine Reg.Does.wanted rfl rfl rfl qg (Reg.step_k fun K hK => ?_)
        clear qg
        have q0 : a.tmps[34]?.getD undef = .pointer (some ⟨p2, 4, none⟩) := Reg.ev_get (hd 29 (by decide))
        go_simp
        exact hK _ _ ⟨_, rfl, Below.refl _ _, rfl⟩
    · simp only [List.getElem?_toArray, List.getElem?_cons_succ, List.getElem?_cons_zero, Option.some.injEq] at ho
      subst ho
      have qg : a.eval (.tmp 31) = .bool C4 := hd 26 (by decide)
      cases C4
      · exact Reg.Does.skip rfl rfl rfl qg rfl
      · refine Reg.Does.wanted rfl rfl rfl qg (Reg.step_k fun K hK => ?_)
        clear qg
        have q0 : a.tmps[33]?.getD undef = .slice q4 y4 z4 := Reg.ev_get (hd 28 (by decide))
        have q1 : a.tmps[35]?.getD undef = .slice r4 s4 t4 := Reg.ev_get (hd 30 (by decide))
        have HKK := hideR hK
        clear hK
        go_simp
        refine (pEqInt _ _ x.labels y.labels w2 (AX4.out.on HBW.out) (AY4.out.on HBW.out)).mono ?_
        rintro e w' ⟨rfl, hw⟩
        exact HKK.out _ _ ⟨_, rfl, hw, congrArg Value.bool (HE5.out.symm)⟩
    · simp only [List.getElem?_toArray, List.getElem?_cons_succ, List.getElem?_cons_zero, Option.some.injEq] at ho
      subst ho
      have qc : a.tmps[31]?.getD undef = .bool C4 := Reg.ev_get (hd 26 (by decide))
      have qe : a.tmps[36]?.getD undef = if C4 then .bool e5 else undef := Reg.ev_get (hd 31 (by decide))
      refine Reg.Does.go rfl (Reg.step_k fun K hK => ?_)
      have HCN := HC5
      cases C4
      · simp only [Bool.false_eq_true, if_false] at qe
        go_simp
        exact hK _ _ ⟨_, rfl, Below.refl _ _, congrArg Value.bool HCN.out.symm⟩
      · simp only [if_true] at qe
        go_simp
        exact hK _ _ ⟨_, rfl, Below.refl _ _, congrArg Value.bool (HCN.out.trans (Bool.true_and _)).symm⟩
    · simp only [List.getElem?_toArray, List.getElem?_cons_succ, List.getElem?_cons_zero, Option.some.injEq] at ho
      subst ho
      have q0 : a.tmps[37]?.getD undef = .bool C5 := Reg.ev_get (hd 32 (by decide))
      refine Reg.Does.go rfl (Reg.step_k fun K hK => ?_)
      go_simp
      exact hK _ _ ⟨_, rfl, Below.refl _ _, rfl⟩
    · simp only [List.getElem?_toArray, List.getElem?_cons_succ, List.getElem?_cons_zero, Option.some.injEq] at ho
      subst ho
      have qg : a.eval (.tmp 38) = .bool C5 := hd 33 (by decide)
      cases C5
      · exact Reg.Does.skip rfl rfl rfl qg rfl
      · refine Reg.Does.wanted rfl rfl rfl qg (Reg.step_k fun K hK => ?_)
        clear qg
        go_simp
        exact hK _ _ ⟨_, rfl, Below.refl _ _, rfl⟩
    · simp only [List.getElem?_toArray, List.getElem?_cons_succ, List.getElem?_cons_zero, Option.some.injEq] at ho
      subst ho
      have qg : a.eval (.tmp 38) = .bool C5 := hd 33 (by decide)
      cases C5
      · exact Reg.Does.skip rfl rfl rfl qg rfl
      · refine Reg.Does.wanted rfl rfl rfl qg (Reg.step_k fun K hK => ?_)
        clear qg
        have q0 : a.tmps[39]?.getD undef = .pointer (some ⟨p1, 5, none⟩) := Reg.ev_get (hd 34 (by decide))
        go_simp
        exact hK _ _ ⟨_, rfl, Below.refl _ _, rfl⟩
    · simp only [List.getElem?_toArray, List.getElem?_cons_succ, List.getElem?_cons_zero, Option.some.injEq] at ho
      subst ho
      have qg : a.eval (.tmp 38) = .bool C5 := hd 33 (by decide)
      cases C5
      · exact Reg.Does.skip rfl rfl rfl qg rfl
      · refine Reg.Does.wanted rfl rfl rfl qg (Reg.step_k fun K hK => ?_)
        clear qg
        go_simp
        exact hK _ _ ⟨_, rfl, Below.refl _ _, rfl⟩
    · simp only [List.getElem?_toArray, List.getElem?_cons_succ, List.getElem?_cons_zero, Option.some.injEq] at ho
      subst ho
      have qg : a.eval (.tmp 38) = .bool C5 := hd 33 (by decide)
      cases C5
      · exact Reg.Does.skip rfl rfl rfl qg rfl
      · refine Reg.Does.wanted rfl rfl rfl qg (Reg.step_k fun K hK => ?_)
        clear qg
        have q0 : a.tmps[41]?.getD undef = .pointer (some ⟨p2, 5, none⟩) := Reg.ev_get (hd 36 (by decide))
        go_simp
        exact hK _ _ ⟨_, rfl, Below.refl _ _, rfl⟩
    · simp only [List.getElem?_toArray, List.getElem?_cons_succ, List.getElem?_cons_zero, Option.some.injEq] at ho
      subst ho
      have qg : a.eval (.tmp 38) = .bool C5 := hd 33 (by decide)
      cases C5
      · exact Reg.Does.skip rfl rfl rfl qg rfl
      · refine Reg.Does.wanted rfl rfl rfl qg (Reg.step_k fun K hK => ?_)
        clear qg
        have q0 : a.tmps[40]?.getD undef = .slice q5 y5 z5 := Reg.ev_get (hd 35 (by decide))
        have q1 : a.tmps[42]?.getD undef = .slice r5 s5 t5 := Reg.ev_get (hd 37 (by decide))
        have HKK := hideR hK
        clear hK
        go_simp
        refine (HIH.out _ _ x.body y.body w2 (At.on HBW.out d _ _ AX5.out) (At.on HBW.out d _ _ AY5.out)).mono ?_
        rintro e w' ⟨rfl, hw⟩
        exact HKK.out _ _ ⟨_, rfl, hw, congrArg Value.bool (HE6.out.symm)⟩
    · simp only [List.getElem?_toArray, List.getElem?_cons_succ, List.getElem?_cons_zero, Option.some.injEq] at ho
      subst ho
      have qc : a.tmps[38]?.getD undef = .bool C5 := Reg.ev_get (hd 33 (by decide))
      have qe : a.tmps[43]?.getD undef = if C5 then .bool e6 else undef := Reg.ev_get (hd 38 (by decide))
      refine Reg.Does.go rfl (Reg.step_k fun K hK => ?_)
      have HCN := HC6
      cases C5
      · simp only [Bool.false_eq_true, if_false] at qe
        go_simp
        exact hK _ _ ⟨_, rfl, Below.refl _ _, congrArg Value.bool HCN.out.symm⟩
      · simp only [if_true] at qe
        go_simp
        exact hK _ _ ⟨_, rfl, Below.refl _ _, congrArg Value.bool (HCN.out.trans (Bool.true_and _)).symm⟩
    · simp only [List.getElem?_toArray, List.getElem?_cons_succ, List.getElem?_cons_zero, Option.some.injEq] at ho
      subst ho
      have q0 : a.tmps[44]?.getD undef = .bool C6 := Reg.ev_get (hd 39 (by decide))
      refine Reg.Does.go rfl (Reg.step_k fun K hK => ?_)
      go_simp
      exact hK _ _ ⟨_, rfl, Below.refl _ _, rfl⟩
    · simp only [List.getElem?_toArray, List.getElem?_cons_succ, List.getElem?_cons_zero, Option.some.injEq] at ho
      subst ho
      have qg : a.eval (.tmp 45) = .bool C6 := hd 40 (by decide)
      cases C6
      · exact Reg.Does.skip rfl rfl rfl qg rfl
      · refine Reg.Does.wanted rfl rfl rfl qg (Reg.step_k fun K hK => ?_)
        clear qg
        go_simp
        exact hK _ _ ⟨_, rfl, Below.refl _ _, rfl⟩
    · simp only [List.getElem?_toArray, List.getElem?_cons_succ, List.getElem?_cons_zero, Option.some.injEq] at ho
      subst ho
      have qg : a.eval (.tmp 45) = .bool C6 := hd 40 (by decide)
      cases C6
      · exact Reg.Does.skip rfl rfl rfl qg rfl
      · refine Reg.Does.wanted rfl rfl rfl qg (Reg.step_k fun K hK => ?_)
        clear qg
        have q0 : a.tmps[46]?.getD undef = .pointer (some ⟨p1, 6, none⟩) := Reg.ev_get (hd 41 (by decide))
        go_simp
        exact hK _ _ ⟨_, rfl, Below.refl _ _, rfl⟩
    · simp only [List.getElem?_toArray, List.getElem?_cons_succ, List.getElem?_cons_zero, Option.some.injEq] at ho
      subst ho
      have qg : a.eval (.tmp 45) = .bool C6 := hd 40 (by decide)
      cases C6
      · exact Reg.Does.skip rfl rfl rfl qg rfl
      · refine Reg.Does.wanted rfl rfl rfl qg (Reg.step_k fun K hK => ?_)
        clear qg
        go_simp
        exact hK _ _ ⟨_, rfl, Below.refl _ _, rfl⟩
    · simp only [List.getElem?_toArray, List.getElem?_cons_succ, List.getElem?_cons_zero, Option.some.injEq] at ho
      subst ho
      have qg : a.eval (.tmp 45) = .bool C6 := hd 40 (by decide)
      cases C6
      · exact Reg.Does.skip rfl rfl rfl qg rfl
      · refine Reg.Does.wanted rfl rfl rfl qg (Reg.step_k fun K hK => ?_)
        clear qg
        have q0 : a.tmps[48]?.getD undef = .pointer (some ⟨p2, 6, none⟩) := Reg.ev_get (hd 43 (by decide))
        go_simp
        exact hK _ _ ⟨_, rfl, Below.refl _ _, rfl⟩
    · simp only [List.getElem?_toArray, List.getElem?_cons_succ, List.getElem?_cons_zero, Option.some.injEq] at ho
      subst ho
      have qg : a.eval (.tmp 45) = .bool C6 := hd 40 (by decide)
      cases C6
      · exact Reg.Does.skip rfl rfl rfl qg rfl
      · refine Reg.Does.wanted rfl rfl rfl qg (Reg.step_k fun K hK => ?_)
        clear qg
        have q0 : a.tmps[47]?.getD undef = .slice q6 y6 z6 := Reg.ev_get (hd 42 (by decide))
        have q1 : a.tmps[49]?.getD undef = .slice r6 s6 t6 := Reg.ev_get (hd 44 (by decide))
        have HKK := hideR hK
        clear hK
        go_simp
        refine (HIH.out _ _ x.els y.els w2 (At.on HBW.out d _ _ AX6.out) (At.on HBW.out d _ _ AY6.out)).mono ?_
        rintro e w' ⟨rfl, hw⟩
        exact HKK.out _ _ ⟨_, rfl, hw, congrArg Value.bool (HE7.out.symm)⟩
    · simp only [List.getElem?_toArray, List.getElem?_cons_succ, List.getElem?_cons_zero, Option.some.injEq] at ho
      subst ho
      have qc : a.tmps[45]?.getD undef = .bool C6 := Reg.ev_get (hd 40 (by decide))
      have qe : a.tmps[50]?.getD undef = if C6 then .bool e7 else undef := Reg.ev_get (hd 45 (by decide))
      refine Reg.Does.go rfl (Reg.step_k fun K hK => ?_)
      have HCN := HC7
      cases C6
      · simp only [Bool.false_eq_true, if_false] at qe
        go_simp
        exact hK _ _ ⟨_, rfl, Below.refl _ _, congrArg Value.bool HCN.out.symm⟩
      · simp only [if_true] at qe
        go_simp
        exact hK _ _ ⟨_, rfl, Below.refl _ _, congrArg Value.bool (HCN.out.trans (Bool.true_and _)).symm⟩
    · simp only [List.getElem?_toArray, List.getElem?_cons_succ, List.getElem?_cons_zero, Option.some.injEq] at ho
      subst ho
      have q0 : a.tmps[51]?.getD undef = .bool C7 := Reg.ev_get (hd 46 (by decide))
      refine Reg.Does.go rfl (Reg.step_k fun K hK => ?_)
      go_simp
      exact hK _ _ ⟨_, rfl, Below.refl _ _, rfl⟩
  case htail =>
    intro a w2 hF hB hG
    have gl : a.eval (.tmp 4) = .bool C7 := hG 47 (by omega)
    have HW := hideR (below_go' HU.out hB)
    rw [List.drop_eq_nil_of_le (by simp)]
    refine wpList_nil ?_
    go_wp2_with fail
    refine bodyPost_ret (v := .bool C7) ((results_tmp rfl _ _ _).trans (congrArg (fun v => Result.ok v w2) gl)) hF.defers ⟨rfl, hp1 ▸ HW.out⟩
end Go.Proofs.YtmedpblpcfobdaaDoor
