/- The program's comparisons of types, functions, globals, elements and data: printed by gen_psame.py. -/
import Derived.Test.YtmedpblpcfobdaaDoorVP2s
import Derived.Deep.RegionLaw
import Derived.Deep.CutRange
namespace Go.Proofs.YtmedpblpcfobdaaDoor
open Go.RowKit Rep
set_option linter.unusedVariables false
namespace Rep
def QFuncType (x y : FT) (q1 q2 r1 r2 : Option Addr) (y1 z1 y2 z2 s1 t1 s2 t2 : Nat) (p1 p2 : Nat) (C1 C2 e1 e2 : Bool) : Nat → Stab
  | 0 => sEq (.pointer (some ⟨p1, 0, none⟩))
  | 1 => sEq (.slice q1 y1 z1)
  | 2 => sEq (.pointer (some ⟨p2, 0, none⟩))
  | 3 => sEq (.slice r1 s1 t1)
  | 4 => sEq (.bool C1)
  | 5 => sEq (.bool C1)
  | 6 => sIf C1 (.pointer (some ⟨p1, 1, none⟩))
  | 7 => sIf C1 (.slice q2 y2 z2)
  | 8 => sIf C1 (.pointer (some ⟨p2, 1, none⟩))
  | 9 => sIf C1 (.slice r2 s2 t2)
  | 10 => sIf C1 (.bool e2)
  | 11 => sEq (.bool C2)
  | 12 => sEq (.bool C2)
  | _ => sEq undef
end Rep
set_option maxRecDepth 100000 in
set_option maxHeartbeats 8000000 in
theorem pSFuncType (x y : FT) (q1 q2 r1 r2 : Option Addr) (y1 z1 y2 z2 s1 t1 s2 t2 : Nat) (w : World) (ha1 : Ints w (.slice q1 y1 z1) x.params) (hb1 : Ints w (.slice r1 s1 t1) y.params) (ha2 : Ints w (.slice q2 y2 z2) x.results) (hb2 : Ints w (.slice r2 s2 t2) y.results) : Calls Tryd.prog 51 #[.agg #[.slice q1 y1 z1, .slice q2 y2 z2], .agg #[.slice r1 s1 t1, .slice r2 s2 t2]] w fun e w' => e = .returned (.bool (fT x y)) ∧ Below w.heap.size w w' := by
  have AX1 := hideR ha1
  clear ha1
  have AY1 := hideR hb1
  clear hb1
  have AX2 := hideR ha2
  clear ha2
  have AY2 := hideR hb2
  clear hb2
  obtain ⟨e1, HE10⟩ : ∃ e, e = samB (fun (x y : Int) => x == y) x.params y.params := ⟨_, rfl⟩
  have HE1 := hideR HE10
  clear HE10
  obtain ⟨e2, HE20⟩ : ∃ e, e = samB (fun (x y : Int) => x == y) x.results y.results := ⟨_, rfl⟩
  have HE2 := hideR HE20
  clear HE20
  obtain ⟨C1, HC10⟩ : ∃ c, c = e1 := ⟨_, rfl⟩
  have HC1 := hideR HC10
  clear HC10
  obtain ⟨C2, HC20⟩ : ∃ c, c = (C1 && e2) := ⟨_, rfl⟩
  have HC2 := hideR HC20
  clear HC20
  have hZ : fT x y = C2 := by
    rw [HC2.out, HC1.out, HE1.out, HE2.out]
    unfold fT
    rw [samB_int, samB_int]
  rw [hZ]
  clear hZ
  go_enter Tryd.func51, Tryd.ntmps51
  go_upto_region 1 with fail
  obtain ⟨u1, hu1⟩ : ∃ u1, u1 = (w.alloc (.cells #[.slice q1 y1 z1, .slice q2 y2 z2] 47)).alloc (.cells #[.slice r1 s1 t1, .slice r2 s2 t2] 47) := ⟨_, rfl⟩
  have HB1 : Hid (Bk u1 w.heap.size 47 #[.slice q1 y1 z1, .slice q2 y2 z2]) := hideR (by rw [hu1]; exact (Bk.new rfl).on (new_on' _ _))
  have HB2 : Hid (Bk u1 (w.heap.size + 1) 47 #[.slice r1 s1 t1, .slice r2 s2 t2]) := hideR (by rw [hu1]; exact Bk.new (by simp))
  have HU : Hid (Below w.heap.size w u1) := hideR (by rw [hu1]; exact below_go' (new_on' _ _) (new_on' _ _))
  rw [← hu1]
  clear hu1
  obtain ⟨p2, hp2⟩ : ∃ p2, p2 = w.heap.size + 1 := ⟨_, rfl⟩
  rw [← hp2] at HB2 ⊢
  clear hp2
  generalize hp1 : w.heap.size = p1 at HB1 ⊢
  refine Reg.wp_region_allq 13 (fun i => if i < 12 then 5 + i else 4) (fun i => (QFuncType x y q1 q2 r1 r2 y1 z1 y2 z2 s1 t1 s2 t2 p1 p2 C1 C2 e1 e2 i).1) ?hn (fun i j h1 h2 h => by have h' : (if i < 12 then 5 + i else 4) = (if j < 12 then 5 + j else 4) := h; split at h' <;> split at h' <;> omega) (Reg.dst_okG (size := 17) (by kernel_rfl)) (fun i v w w' _ h hb => (QFuncType x y q1 q2 r1 r2 y1 z1 y2 z2 s1 t1 s2 t2 p1 p2 C1 C2 e1 e2 i).2 v w w' h hb) ?hstep ?htail
  case hn => simp
  case hstep =>
    intro i o a w2 hi ho hF hB hd
    have hBw := below_go' HU.out hB
    have f2 : a.tmps[2]?.getD undef = .pointer (some ⟨p1, 0, none⟩) := Reg.ev_get (hF.eval 2 (fun i hi => by show (if i < 12 then 5 + i else 4) ≠ 2; split <;> omega))
    have f3 : a.tmps[3]?.getD undef = .pointer (some ⟨p2, 0, none⟩) := Reg.ev_get (hF.eval 3 (fun i hi => by show (if i < 12 then 5 + i else 4) ≠ 3; split <;> omega))
    have c0 := (HB1.out.on hB).cell 0 _ rfl
    have c1 := (HB1.out.on hB).cell 1 _ rfl
    have d0 := (HB2.out.on hB).cell 0 _ rfl
    have d1 := (HB2.out.on hB).cell 1 _ rfl
    have HBW := hideR hBw
    clear hBw
    have hcase : i = 0 ∨ i = 1 ∨ i = 2 ∨ i = 3 ∨ i = 4 ∨ i = 5 ∨ i = 6 ∨ i = 7 ∨ i = 8 ∨ i = 9 ∨ i = 10 ∨ i = 11 ∨ i = 12 := by omega
    clear hi
    rcases hcase with rfl | rfl | rfl | rfl | rfl | rfl | rfl | rfl | rfl | rfl | rfl | rfl | rfl
    · simp only [List.getElem?_toArray, List.getElem?_cons_zero, Option.some.injEq] at ho
      subst ho
      refine Reg.Does.go rfl (Reg.step_k fun K hK => ?_)
      go_simp
      exact hK _ _ ⟨_, rfl, Below.refl _ _, rfl⟩
    · simp only [List.getElem?_toArray, List.getElem?_cons_succ, List.getElem?_cons_zero, Option.some.injEq] at ho
      subst ho
      have q0 : a.tmps[5]?.getD undef = .pointer (some ⟨p1, 0, none⟩) := Reg.ev_get (hd 0 (by decide))
      refine Reg.Does.go rfl (Reg.step_k fun K hK => ?_)
      go_simp
      exact hK _ _ ⟨_, rfl, Below.refl _ _, rfl⟩
    · simp only [List.getElem?_toArray, List.getElem?_cons_succ, List.getElem?_cons_zero, Option.some.injEq] at ho
      subst ho
      refine Reg.Does.go rfl (Reg.step_k fun K hK => ?_)
      go_simp
      exact hK _ _ ⟨_, rfl, Below.refl _ _, rfl⟩
    · simp only [List.getElem?_toArray, List.getElem?_cons_succ, List.getElem?_cons_zero, Option.some.injEq] at ho
      subst ho
      have q0 : a.tmps[7]?.getD undef = .pointer (some ⟨p2, 0, none⟩) := Reg.ev_get (hd 2 (by decide))
      refine Reg.Does.go rfl (Reg.step_k fun K hK => ?_)
      go_simp
      exact hK _ _ ⟨_, rfl, Below.refl _ _, rfl⟩
    · simp only [List.getElem?_toArray, List.getElem?_cons_succ, List.getElem?_cons_zero, Option.some.injEq] at ho
      subst ho
      have q0 : a.tmps[6]?.getD undef = .slice q1 y1 z1 := Reg.ev_get (hd 1 (by decide))
      have q1 : a.tmps[8]?.getD undef = .slice r1 s1 t1 := Reg.ev_get (hd 3 (by decide))
      refine Reg.Does.go rfl (Reg.step_k fun K hK => ?_)
      have HKK := hideR hK
      clear hK
      go_simp
      refine (pEqInt _ _ x.params y.params w2 (AX1.out.on HBW.out) (AY1.out.on HBW.out)).mono ?_
      rintro e w' ⟨rfl, hw⟩
      exact HKK.out _ _ ⟨_, rfl, hw, congrArg Value.bool (HE1.out.symm.trans HC1.out.symm)⟩
    · simp only [List.getElem?_toArray, List.getElem?_cons_succ, List.getElem?_cons_zero, Option.some.injEq] at ho
      subst ho
      have q0 : a.tmps[9]?.getD undef = .bool C1 := Reg.ev_get (hd 4 (by decide))
      refine Reg.Does.go rfl (Reg.step_k fun K hK => ?_)
      go_simp
      exact hK _ _ ⟨_, rfl, Below.refl _ _, rfl⟩
    · simp only [List.getElem?_toArray, List.getElem?_cons_succ, List.getElem?_cons_zero, Option.some.injEq] at ho
      subst ho
      have qg : a.eval (.tmp 10) = .bool C1 := hd 5 (by decide)
      cases C1
      · exact Reg.Does.skip rfl rfl rfl qg rfl
      · refine Reg.Does.wanted rfl rfl rfl qg (Reg.step_k fun K hK => ?_)
        clear qg
        go_simp
        exact hK _ _ ⟨_, rfl, Below.refl _ _, rfl⟩
    · simp only [List.getElem?_toArray, List.getElem?_cons_succ, List.getElem?_cons_zero, Option.some.injEq] at ho
      subst ho
      have qg : a.eval (.tmp 10) = .bool C1 := hd 5 (by decide)
      cases C1
      · exact Reg.Does.skip rfl rfl rfl qg rfl
      · refine Reg.Does.wanted rfl rfl rfl qg (Reg.step_k fun K hK => ?_)
        clear qg
        have q0 : a.tmps[11]?.getD undef = .pointer (some ⟨p1, 1, none⟩) := Reg.ev_get (hd 6 (by decide))
        go_simp
        exact hK _ _ ⟨_, rfl, Below.refl _ _, rfl⟩
    · simp only [List.getElem?_toArray, List.getElem?_cons_succ, List.getElem?_cons_zero, Option.some.injEq] at ho
      subst ho
      have qg : a.eval (.tmp 10) = .bool C1 := hd 5 (by decide)
      cases C1
      · exact Reg.Does.skip rfl rfl rfl qg rfl
      · refine Reg.Does.wanted rfl rfl rfl qg (Reg.step_k fun K hK => ?_)
        clear qg
        go_simp
        exact hK _ _ ⟨_, rfl, Below.refl _ _, rfl⟩
    · simp only [List.getElem?_toArray, List.getElem?_cons_succ, List.getElem?_cons_zero, Option.some.injEq] at ho
      subst ho
      have qg : a.eval (.tmp 10) = .bool C1 := hd 5 (by decide)
      cases C1
      · exact Reg.Does.skip rfl rfl rfl qg rfl
      · refine Reg.Does.wanted rfl rfl rfl qg (Reg.step_k fun K hK => ?_)
        clear qg
        have q0 : a.tmps[13]?.getD undef = .pointer (some ⟨p2, 1, none⟩) := Reg.ev_get (hd 8 (by decide))
        go_simp
        exact hK _ _ ⟨_, rfl, Below.refl _ _, rfl⟩
    · simp only [List.getElem?_toArray, List.getElem?_cons_succ, List.getElem?_cons_zero, Option.some.injEq] at ho
      subst ho
      have qg : a.eval (.tmp 10) = .bool C1 := hd 5 (by decide)
      cases C1
      · exact Reg.Does.skip rfl rfl rfl qg rfl
      · refine Reg.Does.wanted rfl rfl rfl qg (Reg.step_k fun K hK => ?_)
        clear qg
        have q0 : a.tmps[12]?.getD undef = .slice q2 y2 z2 := Reg.ev_get (hd 7 (by decide))
        have q1 : a.tmps[14]?.getD undef = .slice r2 s2 t2 := Reg.ev_get (hd 9 (by decide))
        have HKK := hideR hK
        clear hK
        go_simp
        refine (pEqInt _ _ x.results y.results w2 (AX2.out.on HBW.out) (AY2.out.on HBW.out)).mono ?_
        rintro e w' ⟨rfl, hw⟩
        exact HKK.out _ _ ⟨_, rfl, hw, congrArg Value.bool (HE2.out.symm)⟩
    · simp only [List.getElem?_toArray, List.getElem?_cons_succ, List.getElem?_cons_zero, Option.some.injEq] at ho
      subst ho
      have qc : a.tmps[10]?.getD undef = .bool C1 := Reg.ev_get (hd 5 (by decide))
      have qe : a.tmps[15]?.getD undef = if C1 then .bool e2 else undef := Reg.ev_get (hd 10 (by decide))
      refine Reg.Does.go rfl (Reg.step_k fun K hK => ?_)
      have HCN := HC2
      cases C1
      · simp only [Bool.false_eq_true, if_false] at qe
        go_simp
        exact hK _ _ ⟨_, rfl, Below.refl _ _, congrArg Value.bool HCN.out.symm⟩
      · simp only [if_true] at qe
        go_simp
        exact hK _ _ ⟨_, rfl, Below.refl _ _, congrArg Value.bool (HCN.out.trans (Bool.true_and _)).symm⟩
    · simp only [List.getElem?_toArray, List.getElem?_cons_succ, List.getElem?_cons_zero, Option.some.injEq] at ho
      subst ho
      have q0 : a.tmps[16]?.getD undef = .bool C2 := Reg.ev_get (hd 11 (by decide))
      refine Reg.Does.go rfl (Reg.step_k fun K hK => ?_)
      go_simp
      exact hK _ _ ⟨_, rfl, Below.refl _ _, rfl⟩
  case htail =>
    intro a w2 hF hB hG
    have gl : a.eval (.tmp 4) = .bool C2 := hG 12 (by omega)
    have HW := hideR (below_go' HU.out hB)
    rw [List.drop_eq_nil_of_le (by simp)]
    refine wpList_nil ?_
    go_wp2_with fail
    refine bodyPost_ret (v := .bool C2) ((results_tmp rfl _ _ _).trans (congrArg (fun v => Result.ok v w2) gl)) hF.defers ⟨rfl, hp1 ▸ HW.out⟩
set_option maxRecDepth 100000 in
set_option maxHeartbeats 8000000 in
theorem pEqFFuncType (va vb : Value) (a b : List (FT)) (w : World) (hA : Row 2 (FTAt w) va a) (hB : Row 2 (FTAt w) vb b) : Calls Tryd.prog 50 #[va, vb, .func (.func 51) #[] #[]] w fun e w' => e = .returned (.bool (samB fT a b)) ∧ Below w.heap.size w w' := by
  obtain ⟨oa, ca, rfl⟩ := Row.len hA
  obtain ⟨ob, cb, rfl⟩ := Row.len hB
  have la := hA.1
  have lb := hB.1
  by_cases hn : b.length = a.length
  · obtain ⟨R, hR⟩ : ∃ R, R = samB fT a b := ⟨_, rfl⟩
    rw [← hR]
    have HR : Hid (R = (samB fT (a.drop 0) (b.drop 0) && true)) := hideR (by rw [hR, Bool.and_true]; rfl)
    rw [hn] at hB ⊢
    have HA := hideR hA
    have HB := hideR hB
    clear hA hB hR lb
    generalize hna : a.length = n at *
    go_enter Tryd.func50, Tryd.ntmps50
    go_wp2_with fail
    go_loopw [17] (fun i wr => ∃ j : Nat, j ≤ n ∧ i = .int .i64 j ∧ Hid (R = (samB fT (a.drop j) (b.drop j) && true)) ∧ Hid (Below w.heap.size w wr)) (fun i _ => n - (intOf i).toNat)
    case atStart => exact ⟨0, by omega, rfl, HR, hideR (Below.refl _ _)⟩
    case round =>
      clear HR
      obtain ⟨j, hj, rfl, HRJ, HW⟩ := hrel
      by_cases hgo : j < n
      · obtain ⟨b1, off1, cap1, hv1, hx1⟩ := Row.some HA.out (by omega)
        injection hv1 with ho1 e11 e12
        subst ho1
        clear e11 e12
        obtain ⟨b2, off2, cap2, hv2, hx2⟩ := Row.some HB.out (by omega)
        injection hv2 with ho2 e21 e22
        subst ho2
        clear e21 e22
        obtain ⟨x, hxk⟩ : ∃ x, a[j]? = some x := ⟨_, List.getElem?_eq_getElem (by omega)⟩
        obtain ⟨y, hyk⟩ : ∃ y, b[j]? = some y := ⟨_, List.getElem?_eq_getElem (by omega)⟩
        have HX := hideR ((fun h => FTAt.on HW.out h) (hx1 j x hxk))
        have HY := hideR ((fun h => FTAt.on HW.out h) (hx2 j y hyk))
        have HRN := hideR (samB_on hxk hyk HRJ.out)
        clear hx1 hx2 hxk hyk HRJ HA HB
        obtain ⟨⟨v1, cx0, a1⟩, ⟨v2, cx1, a2⟩⟩ := HX.out
        obtain ⟨q1, z1, rfl⟩ := Row.len a1
        have AX1 := hideR a1
        clear a1
        obtain ⟨q2, z2, rfl⟩ := Row.len a2
        have AX2 := hideR a2
        clear a2
        generalize hy1 : x.params.length = y1 at *
        generalize hy2 : x.results.length = y2 at *
        obtain ⟨⟨v1, cy0, a1⟩, ⟨v2, cy1, a2⟩⟩ := HY.out
        obtain ⟨r1, t1, rfl⟩ := Row.len a1
        have AY1 := hideR a1
        clear a1
        obtain ⟨r2, t2, rfl⟩ := Row.len a2
        have AY2 := hideR a2
        clear a2
        generalize hs1 : y.params.length = s1 at *
        generalize hs2 : y.results.length = s2 at *
        go_upto_region 6 with fail
        obtain ⟨u1, hu1⟩ : ∃ u1, u1 = wr.alloc (.cells #[.slice q1 y1 z1, .slice q2 y2 z2] 47) := ⟨_, rfl⟩
        have HK0 : Hid (Bk u1 wr.heap.size 47 #[.slice q1 y1 z1, .slice q2 y2 z2]) := hideR (by rw [hu1]; exact Bk.new rfl)
        have HB1 : Hid (Below wr.heap.size wr u1) := hideR (by rw [hu1]; exact new_on' _ _)
        rw [← hu1]
        clear hu1 cx0 cx1
        have cz0 := cell_on HB1.out cy0
        have cz1 := cell_on HB1.out cy1
        clear cy0 cy1
        generalize wr.heap.size = pp1 at HK0 ⊢
        go_upto_region 7 with fail
        obtain ⟨u2, hu2⟩ : ∃ u2, u2 = u1.alloc (.cells #[.slice r1 s1 t1, .slice r2 s2 t2] 47) := ⟨_, rfl⟩
        have HK1 : Hid (Bk u2 pp1 47 #[.slice q1 y1 z1, .slice q2 y2 z2]) := hideR (by rw [hu2]; exact HK0.out.on (new_on' _ _))
        have HK2 : Hid (Bk u2 u1.heap.size 47 #[.slice r1 s1 t1, .slice r2 s2 t2]) := hideR (by rw [hu2]; exact Bk.new rfl)
        have HB2 : Hid (Below wr.heap.size wr u2) := hideR (by rw [hu2]; exact below_go' HB1.out (new_on' _ _))
        rw [← hu2]
        clear hu2 HK0 cz0 cz1
        generalize u1.heap.size = pp2 at HK2 ⊢
        have k0 := HK1.out.cell 0 _ rfl
        have k1 := HK1.out.cell 1 _ rfl
        have l0 := HK2.out.cell 0 _ rfl
        have l1 := HK2.out.cell 1 _ rfl
        have HCALL := hideR (pSFuncType x y q1 q2 r1 r2 y1 z1 y2 z2 s1 t1 s2 t2 u2 (AX1.out.on HB2.out) (AY1.out.on HB2.out) (AX2.out.on HB2.out) (AY2.out.on HB2.out))
        obtain ⟨c, HC0⟩ : ∃ c, c = fT x y := ⟨_, rfl⟩
        rw [← HC0] at HRN HCALL
        clear HC0
        go_wp2_with fail
        refine HCALL.out.mono ?_
        rintro e u3 ⟨rfl, hb3⟩
        have HW3 := hideR (below_go' (below_go' HW.out HB2.out) hb3)
        clear hb3 HCALL HK1 HK2 HB2 k0 k1 l0 l1
        cases c
        · have HRF : Hid (R = false) := hideR HRN.out
          clear HRN
          go_wp2
          go_ret
          exact ⟨by rw [HRF.out]; rfl, HW3.out⟩
        · have HRT : Hid (R = (samB fT (a.drop (j + 1)) (b.drop (j + 1)) && true)) := hideR HRN.out
          clear HRN
          go_wp2
          go_roundw
          case rel => exact ⟨j + 1, by omega, by go_num, HRT, HW3⟩
          case measure => simp [intOf]; omega
      · obtain rfl : n = j := by omega
        have HRZ := hideR (samB_end (by omega) (by omega) HRJ.out)
        clear HRJ
        go_wp2
        go_ret
        exact ⟨by rw [HRZ.out]; rfl, HW.out⟩
  · rw [samB_len a b (fun h => hn h.symm)]
    generalize a.length = n at *
    generalize b.length = k at *
    clear hA hB
    go_enter Tryd.func50, Tryd.ntmps50
    go_wp2
    go_ret
    exact ⟨rfl, Below.refl _ _⟩
namespace Rep
def QFunc {d : Nat} (x y : Fun d) (q1 q2 r1 r2 : Option Addr) (y1 z1 y2 z2 s1 t1 s2 t2 : Nat) (p1 p2 : Nat) (C1 C2 C3 e1 e2 e3 : Bool) : Nat → Stab
  | 0 => sEq (.pointer (some ⟨p1, 0, none⟩))
  | 1 => sEq (.int .i64 x.type)
  | 2 => sEq (.pointer (some ⟨p2, 0, none⟩))
  | 3 => sEq (.int .i64 y.type)
  | 4 => sEq (.bool C1)
  | 5 => sEq (.bool C1)
  | 6 => sIf C1 (.pointer (some ⟨p1, 1, none⟩))
  | 7 => sIf C1 (.slice q1 y1 z1)
  | 8 => sIf C1 (.pointer (some ⟨p2, 1, none⟩))
  | 9 => sIf C1 (.slice r1 s1 t1)
  | 10 => sIf C1 (.bool e2)
  | 11 => sEq (.bool C2)
  | 12 => sEq (.bool C2)
  | 13 => sIf C2 (.pointer (some ⟨p1, 2, none⟩))
  | 14 => sIf C2 (.slice q2 y2 z2)
  | 15 => sIf C2 (.pointer (some ⟨p2, 2, none⟩))
  | 16 => sIf C2 (.slice r2 s2 t2)
  | 17 => sIf C2 (.bool e3)
  | 18 => sEq (.bool C3)
  | 19 => sEq (.bool C3)
  | _ => sEq undef
end Rep
set_option maxRecDepth 100000 in
set_option maxHeartbeats 8000000 in
theorem pSFunc {d : Nat} (x y : Fun d) (q1 q2 r1 r2 : Option Addr) (y1 z1 y2 z2 s1 t1 s2 t2 : Nat) (w : World) (ha1 : Ints w (.slice q1 y1 z1) x.locals) (hb1 : Ints w (.slice r1 s1 t1) y.locals) (ha2 : At w d (.slice q2 y2 z2) x.body) (hb2 : At w d (.slice r2 s2 t2) y.body) : Calls Tryd.prog 54 #[.agg #[.int .i64 x.type, .slice q1 y1 z1, .slice q2 y2 z2], .agg #[.int .i64 y.type, .slice r1 s1 t1, .slice r2 s2 t2]] w fun e w' => e = .returned (.bool (fF x y)) ∧ Below w.heap.size w w' := by
  have AX1 := hideR ha1
  clear ha1
  have AY1 := hideR hb1
  clear hb1
  have AX2 := hideR ha2
  clear ha2
  have AY2 := hideR hb2
  clear hb2
  obtain ⟨e1, HE10⟩ : ∃ e, e = (x.type == y.type) := ⟨_, rfl⟩
  have HE1 := hideR HE10
  clear HE10
  obtain ⟨e2, HE20⟩ : ∃ e, e = samB (fun (x y : Int) => x == y) x.locals y.locals := ⟨_, rfl⟩
  have HE2 := hideR HE20
  clear HE20
  obtain ⟨e3, HE30⟩ : ∃ e, e = samI d x.body y.body := ⟨_, rfl⟩
  have HE3 := hideR HE30
  clear HE30
  obtain ⟨C1, HC10⟩ : ∃ c, c = e1 := ⟨_, rfl⟩
  have HC1 := hideR HC10
  clear HC10
  obtain ⟨C2, HC20⟩ : ∃ c, c = (C1 && e2) := ⟨_, rfl⟩
  have HC2 := hideR HC20
  clear HC20
  obtain ⟨C3, HC30⟩ : ∃ c, c = (C2 && e3) := ⟨_, rfl⟩
  have HC3 := hideR HC30
  clear HC30
  have hZ : fF x y = C3 := by
    rw [HC3.out, HC2.out, HC1.out, HE1.out, HE2.out, HE3.out]
    unfold fF
    rw [samB_int]
  rw [hZ]
  clear hZ
  go_enter Tryd.func54, Tryd.ntmps54
  go_upto_region 1 with fail
  obtain ⟨u1, hu1⟩ : ∃ u1, u1 = (w.alloc (.cells #[.int .i64 x.type, .slice q1 y1 z1, .slice q2 y2 z2] 49)).alloc (.cells #[.int .i64 y.type, .slice r1 s1 t1, .slice r2 s2 t2] 49) := ⟨_, rfl⟩
  have HB1 : Hid (Bk u1 w.heap.size 49 #[.int .i64 x.type, .slice q1 y1 z1, .slice q2 y2 z2]) := hideR (by rw [hu1]; exact (Bk.new rfl).on (new_on' _ _))
  have HB2 : Hid (Bk u1 (w.heap.size + 1) 49 #[.int .i64 y.type, .slice r1 s1 t1, .slice r2 s2 t2]) := hideR (by rw [hu1]; exact Bk.new (by simp))
  have HU : Hid (Below w.heap.size w u1) := hideR (by rw [hu1]; exact below_go' (new_on' _ _) (new_on' _ _))
  rw [← hu1]
  clear hu1
  obtain ⟨p2, hp2⟩ : ∃ p2, p2 = w.heap.size + 1 := ⟨_, rfl⟩
  rw [← hp2] at HB2 ⊢
  clear hp2
  generalize hp1 : w.heap.size = p1 at HB1 ⊢
  refine Reg.wp_region_allq 20 (fun i => if i < 19 then 5 + i else 4) (fun i => (QFunc x y q1 q2 r1 r2 y1 z1 y2 z2 s1 t1 s2 t2 p1 p2 C1 C2 C3 e1 e2 e3 i).1) ?hn (fun i j h1 h2 h => by have h' : (if i < 19 then 5 + i else 4) = (if j < 19 then 5 + j else 4) := h; split at h' <;> split at h' <;> omega) (Reg.dst_okG (size := 24) (by kernel_rfl)) (fun i v w w' _ h hb => (QFunc x y q1 q2 r1 r2 y1 z1 y2 z2 s1 t1 s2 t2 p1 p2 C1 C2 C3 e1 e2 e3 i).2 v w w' h hb) ?hstep ?htail
  case hn => simp
  case hstep =>
    intro i o a w2 hi ho hF hB hd
    have hBw := below_go' HU.out hB
    have f2 : a.tmps[2]?.getD undef = .pointer (some ⟨p1, 0, none⟩) := Reg.ev_get (hF.eval 2 (fun i hi => by show (if i < 19 then 5 + i else 4) ≠ 2; split <;> omega))
    have f3 : a.tmps[3]?.getD undef = .pointer (some ⟨p2, 0, none⟩) := Reg.ev_get (hF.eval 3 (fun i hi => by show (if i < 19 then 5 + i else 4) ≠ 3; split <;> omega))
    have c0 := (HB1.out.on hB).cell 0 _ rfl
    have c1 := (HB1.out.on hB).cell 1 _ rfl
    have c2 := (HB1.out.on hB).cell 2 _ rfl
    have d0 := (HB2.out.on hB).cell 0 _ rfl
    have d1 := (HB2.out.on hB).cell 1 _ rfl
    have d2 := (HB2.out.on hB).cell 2 _ rfl
    have HBW := hideR hBw
    clear hBw
    have hcase : i = 0 ∨ i = 1 ∨ i = 2 ∨ i = 3 ∨ i = 4 ∨ i = 5 ∨ i = 6 ∨ i = 7 ∨ i = 8 ∨ i = 9 ∨ i = 10 ∨ i = 11 ∨ i = 12 ∨ i = 13 ∨ i = 14 ∨ i = 15 ∨ i = 16 ∨ i = 17 ∨ i = 18 ∨ i = 19 := by omega
    clear hi
    rcases hcase with rfl | rfl | rfl | rfl | rfl | rfl | rfl | rfl | rfl | rfl | rfl | rfl | rfl | rfl | rfl | rfl | rfl | rfl | rfl | rfl
    · simp only [List.getElem?_toArray, List.getElem?_cons_zero, Option.some.injEq] at ho
      subst ho
      refine Reg.Does.go rfl (Reg.step_k fun K hK => ?_)
      go_simp
      exact hK _ _ ⟨_, rfl, Below.refl _ _, rfl⟩
    · simp only [List.getElem?_toArray, List.getElem?_cons_succ, List.getElem?_cons_zero, Option.some.injEq] at ho
      subst ho
      have q0 : a.tmps[5]?.getD undef = .pointer (some ⟨p1, 0, none⟩) := Reg.ev_get (hd 0 (by decide))
      refine Reg.Does.go rfl (Reg.step_k fun K hK => ?_)
      go_simp
      exact hK _ _ ⟨_, rfl, Below.refl _ _, rfl⟩
    · simp only [List.getElem?_toArray, List.getElem?_cons_succ, List.getElem?_cons_zero, Option.some.injEq] at ho
      subst ho
      refine Reg.Does.go rfl (Reg.step_k fun K hK => ?_)
      go_simp
      exact hK _ _ ⟨_, rfl, Below.refl _ _, rfl⟩
    · simp only [List.getElem?_toArray, List.getElem?_cons_succ, List.getElem?_cons_zero, Option.some.injEq] at ho
      subst ho
      have q0 : a.tmps[7]?.getD undef = .pointer (some ⟨p2, 0, none⟩) := Reg.ev_get (hd 2 (by decide))
      refine Reg.Does.go rfl (Reg.step_k fun K hK => ?_)
      go_simp
      exact hK _ _ ⟨_, rfl, Below.refl _ _, rfl⟩
    · simp only [List.getElem?_toArray, List.getElem?_cons_succ, List.getElem?_cons_zero, Option.some.injEq] at ho
      subst ho
      have q0 : a.tmps[6]?.getD undef = .int .i64 x.type := Reg.ev_get (hd 1 (by decide))
      have q1 : a.tmps[8]?.getD undef = .int .i64 y.type := Reg.ev_get (hd 3 (by decide))
      refine Reg.Does.go rfl (Reg.step_k fun K hK => ?_)
      go_simp
      exact hK _ _ ⟨_, rfl, Below.refl _ _, congrArg Value.bool (HE1.out.symm.trans HC1.out.symm)⟩
    · simp only [List.getElem?_toArray, List.getElem?_cons_succ, List.getElem?_cons_zero, Option.some.injEq] at ho
      subst ho
      have q0 : a.tmps[9]?.getD undef = .bool C1 := Reg.ev_get (hd 4 (by decide))
      refine Reg.Does.go rfl (Reg.step_k fun K hK => ?_)
      go_simp
      exact hK _ _ ⟨_, rfl, Below.refl _ _, rfl⟩
    · simp only [List.getElem?_toArray, List.getElem?_cons_succ, List.getElem?_cons_zero, Option.some.injEq] at ho
      subst ho
      have qg : a.eval (.tmp 10) = .bool C1 := hd 5 (by decide)
      cases C1
      · exact Reg.Does.skip rfl rfl rfl qg rfl
      · refine Reg.Does.wanted rfl rfl rfl qg (Reg.step_k fun K hK => ?_)
        clear qg
        go_simp
        exact hK _ _ ⟨_, rfl, Below.refl _ _, rfl⟩
    · simp only [List.getElem?_toArray, List.getElem?_cons_succ, List.getElem?_cons_zero, Option.some.injEq] at ho
      subst ho
      have qg : a.eval (.tmp 10) = .bool C1 := hd 5 (by decide)
      cases C1
      · exact Reg.Does.skip rfl rfl rfl qg rfl
      · refine Reg.Does.wanted rfl rfl rfl qg (Reg.step_k fun K hK => ?_)
        clear qg
        have q0 : a.tmps[11]?.getD undef = .pointer (some ⟨p1, 1, none⟩) := Reg.ev_get (hd 6 (by decide))
        go_simp
        exact hK _ _ ⟨_, rfl, Below.refl _ _, rfl⟩
    · simp only [List.getElem?_toArray, List.getElem?_cons_succ, List.getElem?_cons_zero, Option.some.injEq] at ho
      subst ho
      have qg : a.eval (.tmp 10) = .bool C1 := hd 5 (by decide)
      cases C1
      · exact Reg.Does.skip rfl rfl rfl qg rfl
      · refine Reg.Does.wanted rfl rfl rfl qg (Reg.step_k fun K hK => ?_)
        clear qg
        go_simp
        exact hK _ _ ⟨_, rfl, Below.refl _ _, rfl⟩
    · simp only [List.getElem?_toArray, List.getElem?_cons_succ, List.getElem?_cons_zero, Option.some.injEq] at ho
      subst ho
      have qg : a.eval (.tmp 10) = .bool C1 := hd 5 (by decide)
      cases C1
      · exact Reg.Does.skip rfl rfl rfl qg rfl
      · refine Reg.Does.wanted rfl rfl rfl qg (Reg.step_k fun K hK => ?_)
        clear qg
        have q0 : a.tmps[13]?.getD undef = .pointer (some ⟨p2, 1, none⟩) := Reg.ev_get (hd 8 (by decide))
        go_simp
        exact hK _ _ ⟨_, rfl, Below.refl _ _, rfl⟩
    · simp only [List.getElem?_toArray, List.getElem?_cons_succ, List.getElem?_cons_zero, Option.some.injEq] at ho
      subst ho
      have qg : a.eval (.tmp 10) = .bool C1 := hd 5 (by decide)
      cases C1
      · exact Reg.Does.skip rfl rfl rfl qg rfl
      · refine Reg.Does.wanted rfl rfl rfl qg (Reg.step_k fun K hK => ?_)
        clear qg
        have q0 : a.tmps[12]?.getD undef = .slice q1 y1 z1 := Reg.ev_get (hd 7 (by decide))
        have q1 : a.tmps[14]?.getD undef = .slice r1 s1 t1 := Reg.ev_get (hd 9 (by decide))
        have HKK := hideR hK
        clear hK
        go_simp
        refine (pEqInt _ _ x.locals y.locals w2 (AX1.out.on HBW.out) (AY1.out.on HBW.out)).mono ?_
        rintro e w' ⟨rfl, hw⟩
        exact HKK.out _ _ ⟨_, rfl, hw, congrArg Value.bool (HE2.out.symm)⟩
    · simp only [List.getElem?_toArray, List.getElem?_cons_succ, List.getElem?_cons_zero, Option.some.injEq] at ho
      subst ho
      have qc : a.tmps[10]?.getD undef = .bool C1 := Reg.ev_get (hd 5 (by decide))
      have qe : a.tmps[15]?.getD undef = if C1 then .bool e2 else undef := Reg.ev_get (hd 10 (by decide))
      refine Reg.Does.go rfl (Reg.step_k fun K hK => ?_)
      have HCN := HC2
      cases C1
      · simp only [Bool.false_eq_true, if_false] at qe
        go_simp
        exact hK _ _ ⟨_, rfl, Below.refl _ _, congrArg Value.bool HCN.out.symm⟩
      · simp only [if_true] at qe
        go_simp
        exact hK _ _ ⟨_, rfl, Below.refl _ _, congrArg Value.bool (HCN.out.trans (Bool.true_and _)).symm⟩
    · simp only [List.getElem?_toArray, List.getElem?_cons_succ, List.getElem?_cons_zero, Option.some.injEq] at ho
      subst ho
      have q0 : a.tmps[16]?.getD undef = .bool C2 := Reg.ev_get (hd 11 (by decide))
      refine Reg.Does.go rfl (Reg.step_k fun K hK => ?_)
      go_simp
      exact hK _ _ ⟨_, rfl, Below.refl _ _, rfl⟩
    · simp only [List.getElem?_toArray, List.getElem?_cons_succ, List.getElem?_cons_zero, Option.some.injEq] at ho
      subst ho
      have qg : a.eval (.tmp 17) = .bool C2 := hd 12 (by decide)
      cases C2
      · exact Reg.Does.skip rfl rfl rfl qg rfl
      · refine Reg.Does.wanted rfl rfl rfl qg (Reg.step_k fun K hK => ?_)
        clear qg
        go_simp
        exact hK _ _ ⟨_, rfl, Below.refl _ _, rfl⟩
    · simp only [List.getElem?_toArray, List.getElem?_cons_succ, List.getElem?_cons_zero, Option.some.injEq] at ho
      subst ho
      have qg : a.eval (.tmp 17) = .bool C2 := hd 12 (by decide)
      cases C2
      · exact Reg.Does.skip rfl rfl rfl qg rfl
      · refine Reg.Does.wanted rfl rfl rfl qg (Reg.step_k fun K hK => ?_)
        clear qg
        have q0 : a.tmps[18]?.getD undef = .pointer (some ⟨p1, 2, none⟩) := Reg.ev_get (hd 13 (by decide))
        go_simp
        exact hK _ _ ⟨_, rfl, Below.refl _ _, rfl⟩
    · simp only [List.getElem?_toArray, List.getElem?_cons_succ, List.getElem?_cons_zero, Option.some.injEq] at ho
      subst ho
      have qg : a.eval (.tmp 17) = .bool C2 := hd 12 (by decide)
      cases C2
      · exact Reg.Does.skip rfl rfl rfl qg rfl
      · refine Reg.Does.wanted rfl rfl rfl qg (Reg.step_k fun K hK => ?_)
        clear qg
        go_simp
        exact hK _ _ ⟨_, rfl, Below.refl _ _, rfl⟩
    · simp only [List.getElem?_toArray, List.getElem?_cons_succ, List.getElem?_cons_zero, Option.some.injEq] at ho
      subst ho
      have qg : a.eval (.tmp 17) = .bool C2 := hd 12 (by decide)
      cases C2
      · exact Reg.Does.skip rfl rfl rfl qg rfl
      · refine Reg.Does.wanted rfl rfl rfl qg (Reg.step_k fun K hK => ?_)
        clear qg
        have q0 : a.tmps[20]?.getD undef = .pointer (some ⟨p2, 2, none⟩) := Reg.ev_get (hd 15 (by decide))
        go_simp
        exact hK _ _ ⟨_, rfl, Below.refl _ _, rfl⟩
    · simp only [List.getElem?_toArray, List.getElem?_cons_succ, List.getElem?_cons_zero, Option.some.injEq] at ho
      subst ho
      have qg : a.eval (.tmp 17) = .bool C2 := hd 12 (by decide)
      cases C2
      · exact Reg.Does.skip rfl rfl rfl qg rfl
      · refine Reg.Does.wanted rfl rfl rfl qg (Reg.step_k fun K hK => ?_)
        clear qg
        have q0 : a.tmps[19]?.getD undef = .slice q2 y2 z2 := Reg.ev_get (hd 14 (by decide))
        have q1 : a.tmps[21]?.getD undef = .slice r2 s2 t2 := Reg.ev_get (hd 16 (by decide))
        have HKK := hideR hK
        clear hK
        go_simp
        refine (eqIn d _ _ x.body y.body w2 (At.on HBW.out d _ _ AX2.out) (At.on HBW.out d _ _ AY2.out)).mono ?_
        rintro e w' ⟨rfl, hw⟩
        exact HKK.out _ _ ⟨_, rfl, hw, congrArg Value.bool (HE3.out.symm)⟩
    · simp only [List.getElem?_toArray, List.getElem?_cons_succ, List.getElem?_cons_zero, Option.some.injEq] at ho
      subst ho
      have qc : a.tmps[17]?.getD undef = .bool C2 := Reg.ev_get (hd 12 (by decide))
      have qe : a.tmps[22]?.getD undef = if C2 then .bool e3 else undef := Reg.ev_get (hd 17 (by decide))
      refine Reg.Does.go rfl (Reg.step_k fun K hK => ?_)
      have HCN := HC3
      cases C2
      · simp only [Bool.false_eq_true, if_false] at qe
        go_simp
        exact hK _ _ ⟨_, rfl, Below.refl _ _, congrArg Value.bool HCN.out.symm⟩
      · simp only [if_true] at qe
        go_simp
        exact hK _ _ ⟨_, rfl, Below.refl _ _, congrArg Value.bool (HCN.out.trans (Bool.true_and _)).symm⟩
    · simp only [List.getElem?_toArray, List.getElem?_cons_succ, List.getElem?_cons_zero, Option.some.injEq] at ho
      subst ho
      have q0 : a.tmps[23]?.getD undef = .bool C3 := Reg.ev_get (hd 18 (by decide))
      refine Reg.Does.go rfl (Reg.step_k fun K hK => ?_)
      go_simp
      exact hK _ _ ⟨_, rfl, Below.refl _ _, rfl⟩
  case htail =>
    intro a w2 hF hB hG
    have gl : a.eval (.tmp 4) = .bool C3 := hG 19 (by omega)
    have HW := hideR (below_go' HU.out hB)
    rw [List.drop_eq_nil_of_le (by simp)]
    refine wpList_nil ?_
    go_wp2_with fail
    refine bodyPost_ret (v := .bool C3) ((results_tmp rfl _ _ _).trans (congrArg (fun v => Result.ok v w2) gl)) hF.defers ⟨rfl, hp1 ▸ HW.out⟩
set_option maxRecDepth 100000 in
set_option maxHeartbeats 8000000 in
theorem pEqFFunc (d : Nat) (va vb : Value) (a b : List (Fun d)) (w : World) (hA : Row 3 (FunAt w d) va a) (hB : Row 3 (FunAt w d) vb b) : Calls Tryd.prog 53 #[va, vb, .func (.func 54) #[] #[]] w fun e w' => e = .returned (.bool (samB fF a b)) ∧ Below w.heap.size w w' := by
  obtain ⟨oa, ca, rfl⟩ := Row.len hA
  obtain ⟨ob, cb, rfl⟩ := Row.len hB
  have la := hA.1
  have lb := hB.1
  by_cases hn : b.length = a.length
  · obtain ⟨R, hR⟩ : ∃ R, R = samB fF a b := ⟨_, rfl⟩
    rw [← hR]
    have HR : Hid (R = (samB fF (a.drop 0) (b.drop 0) && true)) := hideR (by rw [hR, Bool.and_true]; rfl)
    rw [hn] at hB ⊢
    have HA := hideR hA
    have HB := hideR hB
    clear hA hB hR lb
    generalize hna : a.length = n at *
    go_enter Tryd.func53, Tryd.ntmps53
    go_wp2_with fail
    go_loopw [17] (fun i wr => ∃ j : Nat, j ≤ n ∧ i = .int .i64 j ∧ Hid (R = (samB fF (a.drop j) (b.drop j) && true)) ∧ Hid (Below w.heap.size w wr)) (fun i _ => n - (intOf i).toNat)
    case atStart => exact ⟨0, by omega, rfl, HR, hideR (Below.refl _ _)⟩
    case round =>
      clear HR
      obtain ⟨j, hj, rfl, HRJ, HW⟩ := hrel
      by_cases hgo : j < n
      · obtain ⟨b1, off1, cap1, hv1, hx1⟩ := Row.some HA.out (by omega)
        injection hv1 with ho1 e11 e12
        subst ho1
        clear e11 e12
        obtain ⟨b2, off2, cap2, hv2, hx2⟩ := Row.some HB.out (by omega)
        injection hv2 with ho2 e21 e22
        subst ho2
        clear e21 e22
        obtain ⟨x, hxk⟩ : ∃ x, a[j]? = some x := ⟨_, List.getElem?_eq_getElem (by omega)⟩
        obtain ⟨y, hyk⟩ : ∃ y, b[j]? = some y := ⟨_, List.getElem?_eq_getElem (by omega)⟩
        have HX := hideR ((fun h => FunAt.on HW.out h) (hx1 j x hxk))
        have HY := hideR ((fun h => FunAt.on HW.out h) (hx2 j y hyk))
        have HRN := hideR (samB_on hxk hyk HRJ.out)
        clear hx1 hx2 hxk hyk HRJ HA HB
        obtain ⟨cx0, ⟨v1, cx1, a1⟩, ⟨v2, cx2, a2⟩⟩ := HX.out
        obtain ⟨q1, z1, rfl⟩ := Row.len a1
        have AX1 := hideR a1
        clear a1
        obtain ⟨q2, z2, rfl⟩ := At.len d _ _ a2
        have AX2 := hideR a2
        clear a2
        generalize hy1 : x.locals.length = y1 at *
        generalize hy2 : size d x.body = y2 at *
        obtain ⟨cy0, ⟨v1, cy1, a1⟩, ⟨v2, cy2, a2⟩⟩ := HY.out
        obtain ⟨r1, t1, rfl⟩ := Row.len a1
        have AY1 := hideR a1
        clear a1
        obtain ⟨r2, t2, rfl⟩ := At.len d _ _ a2
        have AY2 := hideR a2
        clear a2
        generalize hs1 : y.locals.length = s1 at *
        generalize hs2 : size d y.body = s2 at *
        go_upto_region 6 with fail
        obtain ⟨u1, hu1⟩ : ∃ u1, u1 = wr.alloc (.cells #[.int .i64 x.type, .slice q1 y1 z1, .slice q2 y2 z2] 49) := ⟨_, rfl⟩
        have HK0 : Hid (Bk u1 wr.heap.size 49 #[.int .i64 x.type, .slice q1 y1 z1, .slice q2 y2 z2]) := hideR (by rw [hu1]; exact Bk.new rfl)
        have HB1 : Hid (Below wr.heap.size wr u1) := hideR (by rw [hu1]; exact new_on' _ _)
        rw [← hu1]
        clear hu1 cx0 cx1 cx2
        have cz0 := cell_on HB1.out cy0
        have cz1 := cell_on HB1.out cy1
        have cz2 := cell_on HB1.out cy2
        clear cy0 cy1 cy2
        generalize wr.heap.size = pp1 at HK0 ⊢
        go_upto_region 7 with fail
        obtain ⟨u2, hu2⟩ : ∃ u2, u2 = u1.alloc (.cells #[.int .i64 y.type, .slice r1 s1 t1, .slice r2 s2 t2] 49) := ⟨_, rfl⟩
        have HK1 : Hid (Bk u2 pp1 49 #[.int .i64 x.type, .slice q1 y1 z1, .slice q2 y2 z2]) := hideR (by rw [hu2]; exact HK0.out.on (new_on' _ _))
        have HK2 : Hid (Bk u2 u1.heap.size 49 #[.int .i64 y.type, .slice r1 s1 t1, .slice r2 s2 t2]) := hideR (by rw [hu2]; exact Bk.new rfl)
        have HB2 : Hid (Below wr.heap.size wr u2) := hideR (by rw [hu2]; exact below_go' HB1.out (new_on' _ _))
        rw [← hu2]
        clear hu2 HK0 cz0 cz1 cz2
        generalize u1.heap.size = pp2 at HK2 ⊢
        have k0 := HK1.out.cell 0 _ rfl
        have k1 := HK1.out.cell 1 _ rfl
        have k2 := HK1.out.cell 2 _ rfl
        have l0 := HK2.out.cell 0 _ rfl
        have l1 := HK2.out.cell 1 _ rfl
        have l2 := HK2.out.cell 2 _ rfl
        have HCALL := hideR (pSFunc x y q1 q2 r1 r2 y1 z1 y2 z2 s1 t1 s2 t2 u2 (AX1.out.on HB2.out) (AY1.out.on HB2.out) (At.on HB2.out d _ _ AX2.out) (At.on HB2.out d _ _ AY2.out))
        obtain ⟨c, HC0⟩ : ∃ c, c = fF x y := ⟨_, rfl⟩
        rw [← HC0] at HRN HCALL
        clear HC0
        go_wp2_with fail
        refine HCALL.out.mono ?_
        rintro e u3 ⟨rfl, hb3⟩
        have HW3 := hideR (below_go' (below_go' HW.out HB2.out) hb3)
        clear hb3 HCALL HK1 HK2 HB2 k0 k1 k2 l0 l1 l2
        cases c
        · have HRF : Hid (R = false) := hideR HRN.out
          clear HRN
          go_wp2
          go_ret
          exact ⟨by rw [HRF.out]; rfl, HW3.out⟩
        · have HRT : Hid (R = (samB fF (a.drop (j + 1)) (b.drop (j + 1)) && true)) := hideR HRN.out
          clear HRN
          go_wp2
          go_roundw
          case rel => exact ⟨j + 1, by omega, by go_num, HRT, HW3⟩
          case measure => simp [intOf]; omega
      · obtain rfl : n = j := by omega
        have HRZ := hideR (samB_end (by omega) (by omega) HRJ.out)
        clear HRJ
        go_wp2
        go_ret
        exact ⟨by rw [HRZ.out]; rfl, HW.out⟩
  · rw [samB_len a b (fun h => hn h.symm)]
    generalize a.length = n at *
    generalize b.length = k at *
    clear hA hB
    go_enter Tryd.func53, Tryd.ntmps53
    go_wp2
    go_ret
    exact ⟨rfl, Below.refl _ _⟩
namespace Rep
def QGlobal {d : Nat} (x y : Glo d) (q4 q5 q6 r4 r5 r6 : Option Addr) (y4 z4 y5 z5 y6 z6 s4 t4 s5 t5 s6 t6 : Nat) (p1 p2 : Nat) (C1 C2 C3 e1 e2 e3 : Bool) : Nat → Stab
  | 0 => sEq (.pointer (some ⟨p1, 0, none⟩))
  | 1 => sEq (.int .i64 x.type)
  | 2 => sEq (.pointer (some ⟨p2, 0, none⟩))
  | 3 => sEq (.int .i64 y.type)
  | 4 => sEq (.bool C1)
  | 5 => sEq (.bool C1)
  | 6 => sIf C1 (.pointer (some ⟨p1, 1, none⟩))
  | 7 => sIf C1 (.bool x.mtb)
  | 8 => sIf C1 (.pointer (some ⟨p2, 1, none⟩))
  | 9 => sIf C1 (.bool y.mtb)
  | 10 => sIf C1 (.bool e2)
  | 11 => sEq (.bool C2)
  | 12 => sEq (.bool C2)
  | 13 => sIf C2 (.pointer (some ⟨p1, 2, none⟩))
  | 14 => sIf C2 (.agg #[.int .i64 x.init.op, .int .i64 x.init.a, .int .i64 x.init.b, .int .i64 x.init.n, .slice q4 y4 z4, .slice q5 y5 z5, .slice q6 y6 z6])
  | 15 => sIf C2 (.pointer (some ⟨p2, 2, none⟩))
  | 16 => sIf C2 (.agg #[.int .i64 y.init.op, .int .i64 y.init.a, .int .i64 y.init.b, .int .i64 y.init.n, .slice r4 s4 t4, .slice r5 s5 t5, .slice r6 s6 t6])
  | 17 => sIf C2 (.bool e3)
  | 18 => sEq (.bool C3)
  | 19 => sEq (.bool C3)
  | _ => sEq undef
end Rep
set_option maxRecDepth 100000 in
set_option maxHeartbeats 8000000 in
theorem pSGlobal {d : Nat} (x y : Glo d) (q4 q5 q6 r4 r5 r6 : Option Addr) (y4 z4 y5 z5 y6 z6 s4 t4 s5 t5 s6 t6 : Nat) (w : World) (ha4 : Ints w (.slice q4 y4 z4) x.init.labels) (hb4 : Ints w (.slice r4 s4 t4) y.init.labels) (ha5 : At w d (.slice q5 y5 z5) x.init.body) (hb5 : At w d (.slice r5 s5 t5) y.init.body) (ha6 : At w d (.slice q6 y6 z6) x.init.els) (hb6 : At w d (.slice r6 s6 t6) y.init.els) : Calls Tryd.prog 57 #[.agg #[.int .i64 x.type, .bool x.mtb, .int .i64 x.init.op, .int .i64 x.init.a, .int .i64 x.init.b, .int .i64 x.init.n, .slice q4 y4 z4, .slice q5 y5 z5, .slice q6 y6 z6], .agg #[.int .i64 y.type, .bool y.mtb, .int .i64 y.init.op, .int .i64 y.init.a, .int .i64 y.init.b, .int .i64 y.init.n, .slice r4 s4 t4, .slice r5 s5 t5, .slice r6 s6 t6]] w fun e w' => e = .returned (.bool (fG x y)) ∧ Below w.heap.size w w' := by
  have AX4 := hideR ha4
  clear ha4
  have AY4 := hideR hb4
  clear hb4
  have AX5 := hideR ha5
  clear ha5
  have AY5 := hideR hb5
  clear hb5
  have AX6 := hideR ha6
  clear ha6
  have AY6 := hideR hb6
  clear hb6
  obtain ⟨e1, HE10⟩ : ∃ e, e = (x.type == y.type) := ⟨_, rfl⟩
  have HE1 := hideR HE10
  clear HE10
  obtain ⟨e2, HE20⟩ : ∃ e, e = (x.mtb == y.mtb) := ⟨_, rfl⟩
  have HE2 := hideR HE20
  clear HE20
  obtain ⟨e3, HE30⟩ : ∃ e, e = sam1 (samI d) x.init y.init := ⟨_, rfl⟩
  have HE3 := hideR HE30
  clear HE30
  obtain ⟨C1, HC10⟩ : ∃ c, c = e1 := ⟨_, rfl⟩
  have HC1 := hideR HC10
  clear HC10
  obtain ⟨C2, HC20⟩ : ∃ c, c = (C1 && e2) := ⟨_, rfl⟩
  have HC2 := hideR HC20
  clear HC20
  obtain ⟨C3, HC30⟩ : ∃ c, c = (C2 && e3) := ⟨_, rfl⟩
  have HC3 := hideR HC30
  clear HC30
  have hZ : fG x y = C3 := by
    rw [HC3.out, HC2.out, HC1.out, HE1.out, HE2.out, HE3.out]
    rfl
  rw [hZ]
  clear hZ
  go_enter Tryd.func57, Tryd.ntmps57
  go_upto_region 1 with fail
  obtain ⟨u1, hu1⟩ : ∃ u1, u1 = (w.alloc (.cells #[.int .i64 x.type, .bool x.mtb, .int .i64 x.init.op, .int .i64 x.init.a, .int .i64 x.init.b, .int .i64 x.init.n, .slice q4 y4 z4, .slice q5 y5 z5, .slice q6 y6 z6] 60)).alloc (.cells #[.int .i64 y.type, .bool y.mtb, .int .i64 y.init.op, .int .i64 y.init.a, .int .i64 y.init.b, .int .i64 y.init.n, .slice r4 s4 t4, .slice r5 s5 t5, .slice r6 s6 t6] 60) := ⟨_, rfl⟩
  have HB1 : Hid (Bk u1 w.heap.size 60 #[.int .i64 x.type, .bool x.mtb, .int .i64 x.init.op, .int .i64 x.init.a, .int .i64 x.init.b, .int .i64 x.init.n, .slice q4 y4 z4, .slice q5 y5 z5, .slice q6 y6 z6]) := hideR (by rw [hu1]; exact (Bk.new rfl).on (new_on' _ _))
  have HB2 : Hid (Bk u1 (w.heap.size + 1) 60 #[.int .i64 y.type, .bool y.mtb, .int .i64 y.init.op, .int .i64 y.init.a, .int .i64 y.init.b, .int .i64 y.init.n, .slice r4 s4 t4, .slice r5 s5 t5, .slice r6 s6 t6]) := hideR (by rw [hu1]; exact Bk.new (by simp))
  have HU : Hid (Below w.heap.size w u1) := hideR (by rw [hu1]; exact below_go' (new_on' _ _) (new_on' _ _))
  rw [← hu1]
  clear hu1
  obtain ⟨p2, hp2⟩ : ∃ p2, p2 = w.heap.size + 1 := ⟨_, rfl⟩
  rw [← hp2] at HB2 ⊢
  clear hp2
  generalize hp1 : w.heap.size = p1 at HB1 ⊢
  refine Reg.wp_region_allq 20 (fun i => if i < 19 then 5 + i else 4) (fun i => (QGlobal x y q4 q5 q6 r4 r5 r6 y4 z4 y5 z5 y6 z6 s4 t4 s5 t5 s6 t6 p1 p2 C1 C2 C3 e1 e2 e3 i).1) ?hn (fun i j h1 h2 h => by have h' : (if i < 19 then 5 + i else 4) = (if j < 19 then 5 + j else 4) := h; split at h' <;> split at h' <;> omega) (Reg.dst_okG (size := 24) (by kernel_rfl)) (fun i v w w' _ h hb => (QGlobal x y q4 q5 q6 r4 r5 r6 y4 z4 y5 z5 y6 z6 s4 t4 s5 t5 s6 t6 p1 p2 C1 C2 C3 e1 e2 e3 i).2 v w w' h hb) ?hstep ?htail
  case hn => simp
  case hstep =>
    intro i o a w2 hi ho hF hB hd
    have hBw := below_go' HU.out hB
    have f2 : a.tmps[2]?.getD undef = .pointer (some ⟨p1, 0, none⟩) := Reg.ev_get (hF.eval 2 (fun i hi => by show (if i < 19 then 5 + i else 4) ≠ 2; split <;> omega))
    have f3 : a.tmps[3]?.getD undef = .pointer (some ⟨p2, 0, none⟩) := Reg.ev_get (hF.eval 3 (fun i hi => by show (if i < 19 then 5 + i else 4) ≠ 3; split <;> omega))
    have c0 := (HB1.out.on hB).cell 0 _ rfl
    have c1 := (HB1.out.on hB).cell 1 _ rfl
    have c2 := (HB1.out.on hB).cell 2 _ rfl
    have c3 := (HB1.out.on hB).cell 3 _ rfl
    have c4 := (HB1.out.on hB).cell 4 _ rfl
    have c5 := (HB1.out.on hB).cell 5 _ rfl
    have c6 := (HB1.out.on hB).cell 6 _ rfl
    have c7 := (HB1.out.on hB).cell 7 _ rfl
    have c8 := (HB1.out.on hB).cell 8 _ rfl
    have d0 := (HB2.out.on hB).cell 0 _ rfl
    have d1 := (HB2.out.on hB).cell 1 _ rfl
    have d2 := (HB2.out.on hB).cell 2 _ rfl
    have d3 := (HB2.out.on hB).cell 3 _ rfl
    have d4 := (HB2.out.on hB).cell 4 _ rfl
    have d5 := (HB2.out.on hB).cell 5 _ rfl
    have d6 := (HB2.out.on hB).cell 6 _ rfl
    have d7 := (HB2.out.on hB).cell 7 _ rfl
    have d8 := (HB2.out.on hB).cell 8 _ rfl
    have HBW := hideR hBw
    clear hBw
    have hcase : i = 0 ∨ i = 1 ∨ i = 2 ∨ i = 3 ∨ i = 4 ∨ i = 5 ∨ i = 6 ∨ i = 7 ∨ i = 8 ∨ i = 9 ∨ i = 10 ∨ i = 11 ∨ i = 12 ∨ i = 13 ∨ i = 14 ∨ i = 15 ∨ i = 16 ∨ i = 17 ∨ i = 18 ∨ i = 19 := by omega
    clear hi
    rcases hcase with rfl | rfl | rfl | rfl | rfl | rfl | rfl | rfl | rfl | rfl | rfl | rfl | rfl | rfl | rfl | rfl | rfl | rfl | rfl | rfl
    · simp only [List.getElem?_toArray, List.getElem?_cons_zero, Option.some.injEq] at ho
      subst ho
      refine Reg.Does.go rfl (Reg.step_k fun K hK => ?_)
      go_simp
      exact hK _ _ ⟨_, rfl, Below.refl _ _, rfl⟩
    · simp only [List.getElem?_toArray, List.getElem?_cons_succ, List.getElem?_cons_zero, Option.some.injEq] at ho
      subst ho
      have q0 : a.tmps[5]?.getD undef = .pointer (some ⟨p1, 0, none⟩) := Reg.ev_get (hd 0 (by decide))
      refine Reg.Does.go rfl (Reg.step_k fun K hK => ?_)
      go_simp
      exact hK _ _ ⟨_, rfl, Below.refl _ _, rfl⟩
    · simp only [List.getElem?_toArray, List.getElem?_cons_succ, List.getElem?_cons_zero, Option.some.injEq] at ho
      subst ho
      refine Reg.Does.go rfl (Reg.step_k fun K hK => ?_)
      go_simp
      exact hK _ _ ⟨_, rfl, Below.refl _ _, rfl⟩
    · simp only [List.getElem?_toArray, List.getElem?_cons_succ, List.getElem?_cons_zero, Option.some.injEq] at ho
      subst ho
      have q0 : a.tmps[7]?.getD undef = .pointer (some ⟨p2, 0, none⟩) := Reg.ev_get (hd 2 (by decide))
      refine Reg.Does.go rfl (Reg.step_k fun K hK => ?_)
      go_simp
      exact hK _ _ ⟨_, rfl, Below.refl _ _, rfl⟩
    · simp only [List.getElem?_toArray, List.getElem?_cons_succ, List.getElem?_cons_zero, Option.some.injEq] at ho
      subst ho
      have q0 : a.tmps[6]?.getD undef = .int .i64 x.type := Reg.ev_get (hd 1 (by decide))
      have q1 : a.tmps[8]?.getD undef = .int .i64 y.type := Reg.ev_get (hd 3 (by decide))
      refine Reg.Does.go rfl (Reg.step_k fun K hK => ?_)
      go_simp
      exact hK _ _ ⟨_, rfl, Below.refl _ _, congrArg Value.bool (HE1.out.symm.trans HC1.out.symm)⟩
    · simp only [List.getElem?_toArray, List.getElem?_cons_succ, List.getElem?_cons_zero, Option.some.injEq] at ho
      subst ho
      have q0 : a.tmps[9]?.getD undef = .bool C1 := Reg.ev_get (hd 4 (by decide))
      refine Reg.Does.go rfl (Reg.step_k fun K hK => ?_)
      go_simp
      exact hK _ _ ⟨_, rfl, Below.refl _ _, rfl⟩
    · simp only [List.getElem?_toArray, List.getElem?_cons_succ, List.getElem?_cons_zero, Option.some.injEq] at ho
      subst ho
      have qg : a.eval (.tmp 10) = .bool C1 := hd 5 (by decide)
      cases C1
      · exact Reg.Does.skip rfl rfl rfl qg rfl
      · refine Reg.Does.wanted rfl rfl rfl qg (Reg.step_k fun K hK => ?_)
        clear qg
        go_simp
        exact hK _ _ ⟨_, rfl, Below.refl _ _, rfl⟩
    · simp only [List.getElem?_toArray, List.getElem?_cons_succ, List.getElem?_cons_zero, Option.some.injEq] at ho
      subst ho
      have qg : a.eval (.tmp 10) = .bool C1 := hd 5 (by decide)
      cases C1
      · exact Reg.Does.skip rfl rfl rfl qg rfl
      · refine Reg.Does.wanted rfl rfl rfl qg (Reg.step_k fun K hK => ?_)
        clear qg
        have q0 : a.tmps[11]?.getD undef = .pointer (some ⟨p1, 1, none⟩) := Reg.ev_get (hd 6 (by decide))
        go_simp
        exact hK _ _ ⟨_, rfl, Below.refl _ _, rfl⟩
    · simp only [List.getElem?_toArray, List.getElem?_cons_succ, List.getElem?_cons_zero, Option.some.injEq] at ho
      subst ho
      have qg : a.eval (.tmp 10) = .bool C1 := hd 5 (by decide)
      cases C1
      · exact Reg.Does.skip rfl rfl rfl qg rfl
      · refine Reg.Does.wanted rfl rfl rfl qg (Reg.step_k fun K hK => ?_)
        clear qg
        go_simp
        exact hK _ _ ⟨_, rfl, Below.refl _ _, rfl⟩
    · simp only [List.getElem?_toArray, List.getElem?_cons_succ, List.getElem?_cons_zero, Option.some.injEq] at ho
      subst ho
      have qg : a.eval (.tmp 10) = .bool C1 := hd 5 (by decide)
      cases C1
      · exact Reg.Does.skip rfl rfl rfl qg rfl
      · refine Reg.Does.wanted rfl rfl rfl qg (Reg.step_k fun K hK => ?_)
        clear qg
        have q0 : a.tmps[13]?.getD undef = .pointer (some ⟨p2, 1, none⟩) := Reg.ev_get (hd 8 (by decide))
        go_simp
        exact hK _ _ ⟨_, rfl, Below.refl _ _, rfl⟩
    · simp only [List.getElem?_toArray, List.getElem?_cons_succ, List.getElem?_cons_zero, Option.some.injEq] at ho
      subst ho
      have qg : a.eval (.tmp 10) = .bool C1 := hd 5 (by decide)
      cases C1
      · exact Reg.Does.skip rfl rfl rfl qg rfl
      · refine Reg.Does.wanted rfl rfl rfl qg (Reg.step_k fun K hK => ?_)
        clear qg
        have q0 : a.tmps[12]?.getD undef = .bool x.mtb := Reg.ev_get (hd 7 (by decide))
        have q1 : a.tmps[14]?.getD undef = .bool y.mtb := Reg.ev_get (hd 9 (by decide))
        go_simp
        exact hK _ _ ⟨_, rfl, Below.refl _ _, congrArg Value.bool (HE2.out.symm)⟩
    · simp only [List.getElem?_toArray, List.getElem?_cons_succ, List.getElem?_cons_zero, Option.some.injEq] at ho
      subst ho
      have qc : a.tmps[10]?.getD undef = .bool C1 := Reg.ev_get (hd 5 (by decide))
      have qe : a.tmps[15]?.getD undef = if C1 then .bool e2 else undef := Reg.ev_get (hd 10 (by decide))
      refine Reg.Does.go rfl (Reg.step_k fun K hK => ?_)
      have HCN := HC2
      cases C1
      · simp only [Bool.false_eq_true, if_false] at qe
        go_simp
        exact hK _ _ ⟨_, rfl, Below.refl _ _, congrArg Value.bool HCN.out.symm⟩
      · simp only [if_true] at qe
        go_simp
        exact hK _ _ ⟨_, rfl, Below.refl _ _, congrArg Value.bool (HCN.out.trans (Bool.true_and _)).symm⟩
    · simp only [List.getElem?_toArray, List.getElem?_cons_succ, List.getElem?_cons_zero, Option.some.injEq] at ho
      subst ho
      have q0 : a.tmps[16]?.getD undef = .bool C2 := Reg.ev_get (hd 11 (by decide))
      refine Reg.Does.go rfl (Reg.step_k fun K hK => ?_)
      go_simp
      exact hK _ _ ⟨_, rfl, Below.refl _ _, rfl⟩
    · simp only [List.getElem?_toArray, List.getElem?_cons_succ, List.getElem?_cons_zero, Option.some.injEq] at ho
      subst ho
      have qg : a.eval (.tmp 17) = .bool C2 := hd 12 (by decide)
      cases C2
      · exact Reg.Does.skip rfl rfl rfl qg rfl
      · refine Reg.Does.wanted rfl rfl rfl qg (Reg.step_k fun K hK => ?_)
        clear qg
        go_simp
        exact hK _ _ ⟨_, rfl, Below.refl _ _, rfl⟩
    · simp only [List.getElem?_toArray, List.getElem?_cons_succ, List.getElem?_cons_zero, Option.some.injEq] at ho
      subst ho
      have qg : a.eval (.tmp 17) = .bool C2 := hd 12 (by decide)
      cases C2
      · exact Reg.Does.skip rfl rfl rfl qg rfl
      · refine Reg.Does.wanted rfl rfl rfl qg (Reg.step_k fun K hK => ?_)
        clear qg
        have q0 : a.tmps[18]?.getD undef = .pointer (some ⟨p1, 2, none⟩) := Reg.ev_get (hd 13 (by decide))
        go_simp
        exact hK _ _ ⟨_, rfl, Below.refl _ _, rfl⟩
    · simp only [List.getElem?_toArray, List.getElem?_cons_succ, List.getElem?_cons_zero, Option.some.injEq] at ho
      subst ho
      have qg : a.eval (.tmp 17) = .bool C2 := hd 12 (by decide)
      cases C2
      · exact Reg.Does.skip rfl rfl rfl qg rfl
      · refine Reg.Does.wanted rfl rfl rfl qg (Reg.step_k fun K hK => ?_)
        clear qg
        go_simp
        exact hK _ _ ⟨_, rfl, Below.refl _ _, rfl⟩
    · simp only [List.getElem?_toArray, List.getElem?_cons_succ, List.getElem?_cons_zero, Option.some.injEq] at ho
      subst ho
      have qg : a.eval (.tmp 17) = .bool C2 := hd 12 (by decide)
      cases C2
      · exact Reg.Does.skip rfl rfl rfl qg rfl
      · refine Reg.Does.wanted rfl rfl rfl qg (Reg.step_k fun K hK => ?_)
        clear qg
        have q0 : a.tmps[20]?.getD undef = .pointer (some ⟨p2, 2, none⟩) := Reg.ev_get (hd 15 (by decide))
        go_simp
        exact hK _ _ ⟨_, rfl, Below.refl _ _, rfl⟩
    · simp only [List.getElem?_toArray, List.getElem?_cons_succ, List.getElem?_cons_zero, Option.some.injEq] at ho
      subst ho
      have qg : a.eval (.tmp 17) = .bool C2 := hd 12 (by decide)
      cases C2
      · exact Reg.Does.skip rfl rfl rfl qg rfl
      · refine Reg.Does.wanted rfl rfl rfl qg (Reg.step_k fun K hK => ?_)
        clear qg
        have q0 : a.tmps[19]?.getD undef = .agg #[.int .i64 x.init.op, .int .i64 x.init.a, .int .i64 x.init.b, .int .i64 x.init.n, .slice q4 y4 z4, .slice q5 y5 z5, .slice q6 y6 z6] := Reg.ev_get (hd 14 (by decide))
        have q1 : a.tmps[21]?.getD undef = .agg #[.int .i64 y.init.op, .int .i64 y.init.a, .int .i64 y.init.b, .int .i64 y.init.n, .slice r4 s4 t4, .slice r5 s5 t5, .slice r6 s6 t6] := Reg.ev_get (hd 16 (by decide))
        have HKK := hideR hK
        clear hK
        go_simp
        refine (pSameInstr x.init y.init q4 q5 q6 r4 r5 r6 y4 z4 y5 z5 y6 z6 s4 t4 s5 t5 s6 t6 w2 (eqIn d) (AX4.out.on HBW.out) (At.on HBW.out d _ _ AX5.out) (At.on HBW.out d _ _ AX6.out) (AY4.out.on HBW.out) (At.on HBW.out d _ _ AY5.out) (At.on HBW.out d _ _ AY6.out)).mono ?_
        rintro e w' ⟨rfl, hw⟩
        exact HKK.out _ _ ⟨_, rfl, hw, congrArg Value.bool (HE3.out.symm)⟩
    · simp only [List.getElem?_toArray, List.getElem?_cons_succ, List.getElem?_cons_zero, Option.some.injEq] at ho
      subst ho
      have qc : a.tmps[17]?.getD undef = .bool C2 := Reg.ev_get (hd 12 (by decide))
      have qe : a.tmps[22]?.getD undef = if C2 then .bool e3 else undef := Reg.ev_get (hd 17 (by decide))
      refine Reg.Does.go rfl (Reg.step_k fun K hK => ?_)
      have HCN := HC3
      cases C2
      · simp only [Bool.false_eq_true, if_false] at qe
        go_simp
        exact hK _ _ ⟨_, rfl, Below.refl _ _, congrArg Value.bool HCN.out.symm⟩
      · simp only [if_true] at qe
        go_simp
        exact hK _ _ ⟨_, rfl, Below.refl _ _, congrArg Value.bool (HCN.out.trans (Bool.true_and _)).symm⟩
    · simp only [List.getElem?_toArray, List.getElem?_cons_succ, List.getElem?_cons_zero, Option.some.injEq] at ho
      subst ho
      have q0 : a.tmps[23]?.getD undef = .bool C3 := Reg.ev_get (hd 18 (by decide))
      refine Reg.Does.go rfl (Reg.step_k fun K hK => ?_)
      go_simp
      exact hK _ _ ⟨_, rfl, Below.refl _ _, rfl⟩
  case htail =>
    intro a w2 hF hB hG
    have gl : a.eval (.tmp 4) = .bool C3 := hG 19 (by omega)
    have HW := hideR (below_go' HU.out hB)
    rw [List.drop_eq_nil_of_le (by simp)]
    refine wpList_nil ?_
    go_wp2_with fail
    refine bodyPost_ret (v := .bool C3) ((results_tmp rfl _ _ _).trans (congrArg (fun v => Result.ok v w2) gl)) hF.defers ⟨rfl, hp1 ▸ HW.out⟩
set_option maxRecDepth 100000 in
set_option maxHeartbeats 8000000 in
theorem pEqFGlobal (d : Nat) (va vb : Value) (a b : List (Glo d)) (w : World) (hA : Row 9 (GloAt w d) va a) (hB : Row 9 (GloAt w d) vb b) : Calls Tryd.prog 56 #[va, vb, .func (.func 57) #[] #[]] w fun e w' => e = .returned (.bool (samB fG a b)) ∧ Below w.heap.size w w' := by
  obtain ⟨oa, ca, rfl⟩ := Row.len hA
  obtain ⟨ob, cb, rfl⟩ := Row.len hB
  have la := hA.1
  have lb := hB.1
  by_cases hn : b.length = a.length
  · obtain ⟨R, hR⟩ : ∃ R, R = samB fG a b := ⟨_, rfl⟩
    rw [← hR]
    have HR : Hid (R = (samB fG (a.drop 0) (b.drop 0) && true)) := hideR (by rw [hR, Bool.and_true]; rfl)
    rw [hn] at hB ⊢
    have HA := hideR hA
    have HB := hideR hB
    clear hA hB hR lb
    generalize hna : a.length = n at *
    go_enter Tryd.func56, Tryd.ntmps56
    go_wp2_with fail
    go_loopw [17] (fun i wr => ∃ j : Nat, j ≤ n ∧ i = .int .i64 j ∧ Hid (R = (samB fG (a.drop j) (b.drop j) && true)) ∧ Hid (Below w.heap.size w wr)) (fun i _ => n - (intOf i).toNat)
    case atStart => exact ⟨0, by omega, rfl, HR, hideR (Below.refl _ _)⟩
    case round =>
      clear HR
      obtain ⟨j, hj, rfl, HRJ, HW⟩ := hrel
      by_cases hgo : j < n
      · obtain ⟨b1, off1, cap1, hv1, hx1⟩ := Row.some HA.out (by omega)
        injection hv1 with ho1 e11 e12
        subst ho1
        clear e11 e12
        obtain ⟨b2, off2, cap2, hv2, hx2⟩ := Row.some HB.out (by omega)
        injection hv2 with ho2 e21 e22
        subst ho2
        clear e21 e22
        obtain ⟨x, hxk⟩ : ∃ x, a[j]? = some x := ⟨_, List.getElem?_eq_getElem (by omega)⟩
        obtain ⟨y, hyk⟩ : ∃ y, b[j]? = some y := ⟨_, List.getElem?_eq_getElem (by omega)⟩
        have HX := hideR ((fun h => GloAt.on HW.out h) (hx1 j x hxk))
        have HY := hideR ((fun h => GloAt.on HW.out h) (hx2 j y hyk))
        have HRN := hideR (samB_on hxk hyk HRJ.out)
        clear hx1 hx2 hxk hyk HRJ HA HB
        obtain ⟨cx0, cx1, ⟨cx2, cx3, cx4, cx5, ⟨v4, cx6, a4⟩, ⟨v5, cx7, a5⟩, ⟨v6, cx8, a6⟩⟩⟩ := HX.out
        obtain ⟨q4, z4, rfl⟩ := Row.len a4
        have AX4 := hideR a4
        clear a4
        obtain ⟨q5, z5, rfl⟩ := At.len d _ _ a5
        have AX5 := hideR a5
        clear a5
        obtain ⟨q6, z6, rfl⟩ := At.len d _ _ a6
        have AX6 := hideR a6
        clear a6
        generalize hy4 : x.init.labels.length = y4 at *
        generalize hy5 : size d x.init.body = y5 at *
        generalize hy6 : size d x.init.els = y6 at *
        obtain ⟨cy0, cy1, ⟨cy2, cy3, cy4, cy5, ⟨v4, cy6, a4⟩, ⟨v5, cy7, a5⟩, ⟨v6, cy8, a6⟩⟩⟩ := HY.out
        obtain ⟨r4, t4, rfl⟩ := Row.len a4
        have AY4 := hideR a4
        clear a4
        obtain ⟨r5, t5, rfl⟩ := At.len d _ _ a5
        have AY5 := hideR a5
        clear a5
        obtain ⟨r6, t6, rfl⟩ := At.len d _ _ a6
        have AY6 := hideR a6
        clear a6
        generalize hs4 : y.init.labels.length = s4 at *
        generalize hs5 : size d y.init.body = s5 at *
        generalize hs6 : size d y.init.els = s6 at *
        go_upto_region 6 with fail
        obtain ⟨u1, hu1⟩ : ∃ u1, u1 = wr.alloc (.cells #[.int .i64 x.type, .bool x.mtb, .int .i64 x.init.op, .int .i64 x.init.a, .int .i64 x.init.b, .int .i64 x.init.n, .slice q4 y4 z4, .slice q5 y5 z5, .slice q6 y6 z6] 60) := ⟨_, rfl⟩
        have HK0 : Hid (Bk u1 wr.heap.size 60 #[.int .i64 x.type, .bool x.mtb, .int .i64 x.init.op, .int .i64 x.init.a, .int .i64 x.init.b, .int .i64 x.init.n, .slice q4 y4 z4, .slice q5 y5 z5, .slice q6 y6 z6]) := hideR (by rw [hu1]; exact Bk.new rfl)
        have HB1 : Hid (Below wr.heap.size wr u1) := hideR (by rw [hu1]; exact new_on' _ _)
        rw [← hu1]
        clear hu1 cx0 cx1 cx2 cx3 cx4 cx5 cx6 cx7 cx8
        have cz0 := cell_on HB1.out cy0
        have cz1 := cell_on HB1.out cy1
        have cz2 := cell_on HB1.out cy2
        have cz3 := cell_on HB1.out cy3
        have cz4 := cell_on HB1.out cy4
        have cz5 := cell_on HB1.out cy5
        have cz6 := cell_on HB1.out cy6
        have cz7 := cell_on HB1.out cy7
        have cz8 := cell_on HB1.out cy8
        clear cy0 cy1 cy2 cy3 cy4 cy5 cy6 cy7 cy8
        generalize wr.heap.size = pp1 at HK0 ⊢
        go_upto_region 7 with fail
        obtain ⟨u2, hu2⟩ : ∃ u2, u2 = u1.alloc (.cells #[.int .i64 y.type, .bool y.mtb, .int .i64 y.init.op, .int .i64 y.init.a, .int .i64 y.init.b, .int .i64 y.init.n, .slice r4 s4 t4, .slice r5 s5 t5, .slice r6 s6 t6] 60) := ⟨_, rfl⟩
        have HK1 : Hid (Bk u2 pp1 60 #[.int .i64 x.type, .bool x.mtb, .int .i64 x.init.op, .int .i64 x.init.a, .int .i64 x.init.b, .int .i64 x.init.n, .slice q4 y4 z4, .slice q5 y5 z5, .slice q6 y6 z6]) := hideR (by rw [hu2]; exact HK0.out.on (new_on' _ _))
        have HK2 : Hid (Bk u2 u1.heap.size 60 #[.int .i64 y.type, .bool y.mtb, .int .i64 y.init.op, .int .i64 y.init.a, .int .i64 y.init.b, .int .i64 y.init.n, .slice r4 s4 t4, .slice r5 s5 t5, .slice r6 s6 t6]) := hideR (by rw [hu2]; exact Bk.new rfl)
        have HB2 : Hid (Below wr.heap.size wr u2) := hideR (by rw [hu2]; exact below_go' HB1.out (new_on' _ _))
        rw [← hu2]
        clear hu2 HK0 cz0 cz1 cz2 cz3 cz4 cz5 cz6 cz7 cz8
        generalize u1.heap.size = pp2 at HK2 ⊢
        have k0 := HK1.out.cell 0 _ rfl
        have k1 := HK1.out.cell 1 _ rfl
        have k2 := HK1.out.cell 2 _ rfl
        have k3 := HK1.out.cell 3 _ rfl
        have k4 := HK1.out.cell 4 _ rfl
        have k5 := HK1.out.cell 5 _ rfl
        have k6 := HK1.out.cell 6 _ rfl
        have k7 := HK1.out.cell 7 _ rfl
        have k8 := HK1.out.cell 8 _ rfl
        have l0 := HK2.out.cell 0 _ rfl
        have l1 := HK2.out.cell 1 _ rfl
        have l2 := HK2.out.cell 2 _ rfl
        have l3 := HK2.out.cell 3 _ rfl
        have l4 := HK2.out.cell 4 _ rfl
        have l5 := HK2.out.cell 5 _ rfl
        have l6 := HK2.out.cell 6 _ rfl
        have l7 := HK2.out.cell 7 _ rfl
        have l8 := HK2.out.cell 8 _ rfl
        have HCALL := hideR (pSGlobal x y q4 q5 q6 r4 r5 r6 y4 z4 y5 z5 y6 z6 s4 t4 s5 t5 s6 t6 u2 (AX4.out.on HB2.out) (AY4.out.on HB2.out) (At.on HB2.out d _ _ AX5.out) (At.on HB2.out d _ _ AY5.out) (At.on HB2.out d _ _ AX6.out) (At.on HB2.out d _ _ AY6.out))
        obtain ⟨c, HC0⟩ : ∃ c, c = fG x y := ⟨_, rfl⟩
        rw [← HC0] at HRN HCALL
        clear HC0
        go_wp2_with fail
        refine HCALL.out.mono ?_
        rintro e u3 ⟨rfl, hb3⟩
        have HW3 := hideR (below_go' (below_go' HW.out HB2.out) hb3)
        clear hb3 HCALL HK1 HK2 HB2 k0 k1 k2 k3 k4 k5 k6 k7 k8 l0 l1 l2 l3 l4 l5 l6 l7 l8
        cases c
        · have HRF : Hid (R = false) := hideR HRN.out
          clear HRN
          go_wp2
          go_ret
          exact ⟨by rw [HRF.out]; rfl, HW3.out⟩
        · have HRT : Hid (R = (samB fG (a.drop (j + 1)) (b.drop (j + 1)) && true)) := hideR HRN.out
          clear HRN
          go_wp2
          go_roundw
          case rel => exact ⟨j + 1, by omega, by go_num, HRT, HW3⟩
          case measure => simp [intOf]; omega
      · obtain rfl : n = j := by omega
        have HRZ := hideR (samB_end (by omega) (by omega) HRJ.out)
        clear HRJ
        go_wp2
        go_ret
        exact ⟨by rw [HRZ.out]; rfl, HW.out⟩
  · rw [samB_len a b (fun h => hn h.symm)]
    generalize a.length = n at *
    generalize b.length = k at *
    clear hA hB
    go_enter Tryd.func56, Tryd.ntmps56
    go_wp2
    go_ret
    exact ⟨rfl, Below.refl _ _⟩
namespace Rep
def QElem {d : Nat} (x y : Elm d) (q4 q5 q6 q7 r4 r5 r6 r7 : Option Addr) (y4 z4 y5 z5 y6 z6 y7 z7 s4 t4 s5 t5 s6 t6 s7 t7 : Nat) (p1 p2 : Nat) (C1 C2 e1 e2 : Bool) : Nat → Stab
  | 0 => sEq (.pointer (some ⟨p1, 0, none⟩))
  | 1 => sEq (.agg #[.int .i64 x.offset.op, .int .i64 x.offset.a, .int .i64 x.offset.b, .int .i64 x.offset.n, .slice q4 y4 z4, .slice q5 y5 z5, .slice q6 y6 z6])
  | 2 => sEq (.pointer (some ⟨p2, 0, none⟩))
  | 3 => sEq (.agg #[.int .i64 y.offset.op, .int .i64 y.offset.a, .int .i64 y.offset.b, .int .i64 y.offset.n, .slice r4 s4 t4, .slice r5 s5 t5, .slice r6 s6 t6])
  | 4 => sEq (.bool C1)
  | 5 => sEq (.bool C1)
  | 6 => sIf C1 (.pointer (some ⟨p1, 7, none⟩))
  | 7 => sIf C1 (.slice q7 y7 z7)
  | 8 => sIf C1 (.pointer (some ⟨p2, 7, none⟩))
  | 9 => sIf C1 (.slice r7 s7 t7)
  | 10 => sIf C1 (.bool e2)
  | 11 => sEq (.bool C2)
  | 12 => sEq (.bool C2)
  | _ => sEq undef
end Rep
set_option maxRecDepth 100000 in
set_option maxHeartbeats 8000000 in
theorem pSElem {d : Nat} (x y : Elm d) (q4 q5 q6 q7 r4 r5 r6 r7 : Option Addr) (y4 z4 y5 z5 y6 z6 y7 z7 s4 t4 s5 t5 s6 t6 s7 t7 : Nat) (w : World) (ha4 : Ints w (.slice q4 y4 z4) x.offset.labels) (hb4 : Ints w (.slice r4 s4 t4) y.offset.labels) (ha5 : At w d (.slice q5 y5 z5) x.offset.body) (hb5 : At w d (.slice r5 s5 t5) y.offset.body) (ha6 : At w d (.slice q6 y6 z6) x.offset.els) (hb6 : At w d (.slice r6 s6 t6) y.offset.els) (ha7 : Ints w (.slice q7 y7 z7) x.funcs) (hb7 : Ints w (.slice r7 s7 t7) y.funcs) : Calls Tryd.prog 61 #[.agg #[.int .i64 x.offset.op, .int .i64 x.offset.a, .int .i64 x.offset.b, .int .i64 x.offset.n, .slice q4 y4 z4, .slice q5 y5 z5, .slice q6 y6 z6, .slice q7 y7 z7], .agg #[.int .i64 y.offset.op, .int .i64 y.offset.a, .int .i64 y.offset.b, .int .i64 y.offset.n, .slice r4 s4 t4, .slice r5 s5 t5, .slice r6 s6 t6, .slice r7 s7 t7]] w fun e w' => e = .returned (.bool (fE x y)) ∧ Below w.heap.size w w' := by
  have AX4 := hideR ha4
  clear ha4
  have AY4 := hideR hb4
  clear hb4
  have AX5 := hideR ha5
  clear ha5
  have AY5 := hideR hb5
  clear hb5
  have AX6 := hideR ha6
  clear ha6
  have AY6 := hideR hb6
  clear hb6
  have AX7 := hideR ha7
  clear ha7
  have AY7 := hideR hb7
  clear hb7
  obtain ⟨e1, HE10⟩ : ∃ e, e = sam1 (samI d) x.offset y.offset := ⟨_, rfl⟩
  have HE1 := hideR HE10
  clear HE10
  obtain ⟨e2, HE20⟩ : ∃ e, e = samB (fun (x y : Int) => x == y) x.funcs y.funcs := ⟨_, rfl⟩
  have HE2 := hideR HE20
  clear HE20
  obtain ⟨C1, HC10⟩ : ∃ c, c = e1 := ⟨_, rfl⟩
  have HC1 := hideR HC10
  clear HC10
  obtain ⟨C2, HC20⟩ : ∃ c, c = (C1 && e2) := ⟨_, rfl⟩
  have HC2 := hideR HC20
  clear HC20
  have hZ : fE x y = C2 := by
    rw [HC2.out, HC1.out, HE1.out, HE2.out]
    unfold fE
    rw [samB_int]
  rw [hZ]
  clear hZ
  go_enter Tryd.func61, Tryd.ntmps61
  go_upto_region 1 with fail
  obtain ⟨u1, hu1⟩ : ∃ u1, u1 = (w.alloc (.cells #[.int .i64 x.offset.op, .int .i64 x.offset.a, .int .i64 x.offset.b, .int .i64 x.offset.n, .slice q4 y4 z4, .slice q5 y5 z5, .slice q6 y6 z6, .slice q7 y7 z7] 56)).alloc (.cells #[.int .i64 y.offset.op, .int .i64 y.offset.a, .int .i64 y.offset.b, .int .i64 y.offset.n, .slice r4 s4 t4, .slice r5 s5 t5, .slice r6 s6 t6, .slice r7 s7 t7] 56) := ⟨_, rfl⟩
  have HB1 : Hid (Bk u1 w.heap.size 56 #[.int .i64 x.offset.op, .int .i64 x.offset.a, .int .i64 x.offset.b, .int .i64 x.offset.n, .slice q4 y4 z4, .slice q5 y5 z5, .slice q6 y6 z6, .slice q7 y7 z7]) := hideR (by rw [hu1]; exact (Bk.new rfl).on (new_on' _ _))
  have HB2 : Hid (Bk u1 (w.heap.size + 1) 56 #[.int .i64 y.offset.op, .int .i64 y.offset.a, .int .i64 y.offset.b, .int .i64 y.offset.n, .slice r4 s4 t4, .slice r5 s5 t5, .slice r6 s6 t6, .slice r7 s7 t7]) := hideR (by rw [hu1]; exact Bk.new (by simp))
  have HU : Hid (Below w.heap.size w u1) := hideR (by rw [hu1]; exact below_go' (new_on' _ _) (new_on' _ _))
  rw [← hu1]
  clear hu1
  obtain ⟨p2, hp2⟩ : ∃ p2, p2 = w.heap.size + 1 := ⟨_, rfl⟩
  rw [← hp2] at HB2 ⊢
  clear hp2
  generalize hp1 : w.heap.size = p1 at HB1 ⊢
  refine Reg.wp_region_allq 13 (fun i => if i < 12 then 5 + i else 4) (fun i => (QElem x y q4 q5 q6 q7 r4 r5 r6 r7 y4 z4 y5 z5 y6 z6 y7 z7 s4 t4 s5 t5 s6 t6 s7 t7 p1 p2 C1 C2 e1 e2 i).1) ?hn (fun i j h1 h2 h => by have h' : (if i < 12 then 5 + i else 4) = (if j < 12 then 5 + j else 4) := h; split at h' <;> split at h' <;> omega) (Reg.dst_okG (size := 17) (by kernel_rfl)) (fun i v w w' _ h hb => (QElem x y q4 q5 q6 q7 r4 r5 r6 r7 y4 z4 y5 z5 y6 z6 y7 z7 s4 t4 s5 t5 s6 t6 s7 t7 p1 p2 C1 C2 e1 e2 i).2 v w w' h hb) ?hstep ?htail
  case hn => simp
  case hstep =>
    intro i o a w2 hi ho hF hB hd
    have hBw := below_go' HU.out hB
    have f2 : a.tmps[2]?.getD undef = .pointer (some ⟨p1, 0, none⟩) := Reg.ev_get (hF.eval 2 (fun i hi => by show (if i < 12 then 5 + i else 4) ≠ 2; split <;> omega))
    have f3 : a.tmps[3]?.getD undef = .pointer (some ⟨p2, 0, none⟩) := Reg.ev_get (hF.eval 3 (fun i hi => by show (if i < 12 then 5 + i else 4) ≠ 3; split <;> omega))
    have c0 := (HB1.out.on hB).cell 0 _ rfl
    have c1 := (HB1.out.on hB).cell 1 _ rfl
    have c2 := (HB1.out.on hB).cell 2 _ rfl
    have c3 := (HB1.out.on hB).cell 3 _ rfl
    have c4 := (HB1.out.on hB).cell 4 _ rfl
    have c5 := (HB1.out.on hB).cell 5 _ rfl
    have c6 := (HB1.out.on hB).cell 6 _ rfl
    have c7 := (HB1.out.on hB).cell 7 _ rfl
    have d0 := (HB2.out.on hB).cell 0 _ rfl
    have d1 := (HB2.out.on hB).cell 1 _ rfl
    have d2 := (HB2.out.on hB).cell 2 _ rfl
    have d3 := (HB2.out.on hB).cell 3 _ rfl
    have d4 := (HB2.out.on hB).cell 4 _ rfl
    have d5 := (HB2.out.on hB).cell 5 _ rfl
    have d6 := (HB2.out.on hB).cell 6 _ rfl
    have d7 := (HB2.out.on hB).cell 7 _ rfl
    have HBW := hideR hBw
    clear hBw
    have hcase : i = 0 ∨ i = 1 ∨ i = 2 ∨ i = 3 ∨ i = 4 ∨ i = 5 ∨ i = 6 ∨ i = 7 ∨ i = 8 ∨ i = 9 ∨ i = 10 ∨ i = 11 ∨ i = 12 := by omega
    clear hi
    rcases hcase with rfl | rfl | rfl | rfl | rfl | rfl | rfl | rfl | rfl | rfl | rfl | rfl | rfl
    · simp only [List.getElem?_toArray, List.getElem?_cons_zero, Option.some.injEq] at ho
      subst ho
      refine Reg.Does.go rfl (Reg.step_k fun K hK => ?_)
      go_simp
      exact hK _ _ ⟨_, rfl, Below.refl _ _, rfl⟩
    · simp only [List.getElem?_toArray, List.getElem?_cons_succ, List.getElem?_cons_zero, Option.some.injEq] at ho
      subst ho
      have q0 : a.tmps[5]?.getD undef = .pointer (some ⟨p1, 0, none⟩) := Reg.ev_get (hd 0 (by decide))
      refine Reg.Does.go rfl (Reg.step_k fun K hK => ?_)
      go_simp
      exact hK _ _ ⟨_, rfl, Below.refl _ _, rfl⟩
    · simp only [List.getElem?_toArray, List.getElem?_cons_succ, List.getElem?_cons_zero, Option.some.injEq] at ho
      subst ho
      refine Reg.Does.go rfl (Reg.step_k fun K hK => ?_)
      go_simp
      exact hK _ _ ⟨_, rfl, Below.refl _ _, rfl⟩
    · simp only [List.getElem?_toArray, List.getElem?_cons_succ, List.getElem?_cons_zero, Option.some.injEq] at ho
      subst ho
      have q0 : a.tmps[7]?.getD undef = .pointer (some ⟨p2, 0, none⟩) := Reg.ev_get (hd 2 (by decide))
      refine Reg.Does.go rfl (Reg.step_k fun K hK => ?_)
      go_simp
      exact hK _ _ ⟨_, rfl, Below.refl _ _, rfl⟩
    · simp only [List.getElem?_toArray, List.getElem?_cons_succ, List.getElem?_cons_zero, Option.some.injEq] at ho
      subst ho
      have q0 : a.tmps[6]?.getD undef = .agg #[.int .i64 x.offset.op, .int .i64 x.offset.a, .int .i64 x.offset.b, .int .i64 x.offset.n, .slice q4 y4 z4, .slice q5 y5 z5, .slice q6 y6 z6] := Reg.ev_get (hd 1 (by decide))
      have q1 : a.tmps[8]?.getD undef = .agg #[.int .i64 y.offset.op, .int .i64 y.offset.a, .int .i64 y.offset.b, .int .i64 y.offset.n, .slice r4 s4 t4, .slice r5 s5 t5, .slice r6 s6 t6] := Reg.ev_get (hd 3 (by decide))
      refine Reg.Does.go rfl (Reg.step_k fun K hK => ?_)
      have HKK := hideR hK
      clear hK
      go_simp
      refine (pSameInstr x.offset y.offset q4 q5 q6 r4 r5 r6 y4 z4 y5 z5 y6 z6 s4 t4 s5 t5 s6 t6 w2 (eqIn d) (AX4.out.on HBW.out) (At.on HBW.out d _ _ AX5.out) (At.on HBW.out d _ _ AX6.out) (AY4.out.on HBW.out) (At.on HBW.out d _ _ AY5.out) (At.on HBW.out d _ _ AY6.out)).mono ?_
      rintro e w' ⟨rfl, hw⟩
      exact HKK.out _ _ ⟨_, rfl, hw, congrArg Value.bool (HE1.out.symm.trans HC1.out.symm)⟩
    · simp only [List.getElem?_toArray, List.getElem?_cons_succ, List.getElem?_cons_zero, Option.some.injEq] at ho
      subst ho
      have q0 : a.tmps[9]?.getD undef = .bool C1 := Reg.ev_get (hd 4 (by decide))
      refine Reg.Does.go rfl (Reg.step_k fun K hK => ?_)
      go_simp
      exact hK _ _ ⟨_, rfl, Below.refl _ _, rfl⟩
    · simp only [List.getElem?_toArray, List.getElem?_cons_succ, List.getElem?_cons_zero, Option.some.injEq] at ho
      subst ho
      have qg : a.eval (.tmp 10) = .bool C1 := hd 5 (by decide)
      cases C1
      · exact Reg.Does.skip rfl rfl rfl qg rfl
      · refine Reg.Does.wanted rfl rfl rfl qg (Reg.step_k fun K hK => ?_)
        clear qg
        go_simp
        exact hK _ _ ⟨_, rfl, Below.refl _ _, rfl⟩
    · simp only [List.getElem?_toArray, List.getElem?_cons_succ, List.getElem?_cons_zero, Option.some.injEq] at ho
      subst ho
      have qg : a.eval (.tmp 10) = .bool C1 := hd 5 (by decide)
      cases C1
      · exact Reg.Does.skip rfl rfl rfl qg rfl
      · refine Reg.Does.wanted rfl rfl rfl qg (Reg.step_k fun K hK => ?_)
        clear qg
        have q0 : a.tmps[11]?.getD undef = .pointer (some ⟨p1, 7, none⟩) := Reg.ev_get (hd 6 (by decide))
        go_simp
        exact hK _ _ ⟨_, rfl, Below.refl _ _, rfl⟩
    · simp only [List.getElem?_toArray, List.getElem?_cons_succ, List.getElem?_cons_zero, Option.some.injEq] at ho
      subst ho
      have qg : a.eval (.tmp 10) = .bool C1 := hd 5 (by decide)
      cases C1
      · exact Reg.Does.skip rfl rfl rfl qg rfl
      · refine Reg.Does.wanted rfl rfl rfl qg (Reg.step_k fun K hK => ?_)
        clear qg
        go_simp
        exact hK _ _ ⟨_, rfl, Below.refl _ _, rfl⟩
    · simp only [List.getElem?_toArray, List.getElem?_cons_succ, List.getElem?_cons_zero, Option.some.injEq] at ho
      subst ho
      have qg : a.eval (.tmp 10) = .bool C1 := hd 5 (by decide)
      cases C1
      · exact Reg.Does.skip rfl rfl rfl qg rfl
      · refine Reg.Does.wanted rfl rfl rfl qg (Reg.step_k fun K hK => ?_)
        clear qg
        have q0 : a.tmps[13]?.getD undef = .pointer (some ⟨p2, 7, none⟩) := Reg.ev_get (hd 8 (by decide))
        go_simp
        exact hK _ _ ⟨_, rfl, Below.refl _ _, rfl⟩
    · simp only [List.getElem?_toArray, List.getElem?_cons_succ, List.getElem?_cons_zero, Option.some.injEq] at ho
      subst ho
      have qg : a.eval (.tmp 10) = .bool C1 := hd 5 (by decide)
      cases C1
      · exact Reg.Does.skip rfl rfl rfl qg rfl
      · refine Reg.Does.wanted rfl rfl rfl qg (Reg.step_k fun K hK => ?_)
        clear qg
        have q0 : a.tmps[12]?.getD undef = .slice q7 y7 z7 := Reg.ev_get (hd 7 (by decide))
        have q1 : a.tmps[14]?.getD undef = .slice r7 s7 t7 := Reg.ev_get (hd 9 (by decide))
        have HKK := hideR hK
        clear hK
        go_simp
        refine (pEqInt _ _ x.funcs y.funcs w2 (AX7.out.on HBW.out) (AY7.out.on HBW.out)).mono ?_
        rintro e w' ⟨rfl, hw⟩
        exact HKK.out _ _ ⟨_, rfl, hw, congrArg Value.bool (HE2.out.symm)⟩
    · simp only [List.getElem?_toArray, List.getElem?_cons_succ, List.getElem?_cons_zero, Option.some.injEq] at ho
      subst ho
      have qc : a.tmps[10]?.getD undef = .bool C1 := Reg.ev_get (hd 5 (by decide))
      have qe : a.tmps[15]?.getD undef = if C1 then .bool e2 else undef := Reg.ev_get (hd 10 (by decide))
      refine Reg.Does.go rfl (Reg.step_k fun K hK => ?_)
      have HCN := HC2
      cases C1
      · simp only [Bool.false_eq_true, if_false] at qe
        go_simp
        exact hK _ _ ⟨_, rfl, Below.refl _ _, congrArg Value.bool HCN.out.symm⟩
      · simp only [if_true] at qe
        go_simp
        exact hK _ _ ⟨_, rfl, Below.refl _ _, congrArg Value.bool (HCN.out.trans (Bool.true_and _)).symm⟩
    · simp only [List.getElem?_toArray, List.getElem?_cons_succ, List.getElem?_cons_zero, Option.some.injEq] at ho
      subst ho
      have q0 : a.tmps[16]?.getD undef = .bool C2 := Reg.ev_get (hd 11 (by decide))
      refine Reg.Does.go rfl (Reg.step_k fun K hK => ?_)
      go_simp
      exact hK _ _ ⟨_, rfl, Below.refl _ _, rfl⟩
  case htail =>
    intro a w2 hF hB hG
    have gl : a.eval (.tmp 4) = .bool C2 := hG 12 (by omega)
    have HW := hideR (below_go' HU.out hB)
    rw [List.drop_eq_nil_of_le (by simp)]
    refine wpList_nil ?_
    go_wp2_with fail
    refine bodyPost_ret (v := .bool C2) ((results_tmp rfl _ _ _).trans (congrArg (fun v => Result.ok v w2) gl)) hF.defers ⟨rfl, hp1 ▸ HW.out⟩
set_option maxRecDepth 100000 in
set_option maxHeartbeats 8000000 in
theorem pEqFElem (d : Nat) (va vb : Value) (a b : List (Elm d)) (w : World) (hA : Row 8 (ElmAt w d) va a) (hB : Row 8 (ElmAt w d) vb b) : Calls Tryd.prog 60 #[va, vb, .func (.func 61) #[] #[]] w fun e w' => e = .returned (.bool (samB fE a b)) ∧ Below w.heap.size w w' := by
  obtain ⟨oa, ca, rfl⟩ := Row.len hA
  obtain ⟨ob, cb, rfl⟩ := Row.len hB
  have la := hA.1
  have lb := hB.1
  by_cases hn : b.length = a.length
  · obtain ⟨R, hR⟩ : ∃ R, R = samB fE a b := ⟨_, rfl⟩
    rw [← hR]
    have HR : Hid (R = (samB fE (a.drop 0) (b.drop 0) && true)) := hideR (by rw [hR, Bool.and_true]; rfl)
    rw [hn] at hB ⊢
    have HA := hideR hA
    have HB := hideR hB
    clear hA hB hR lb
    generalize hna : a.length = n at *
    go_enter Tryd.func60, Tryd.ntmps60
    go_wp2_with fail
    go_loopw [17] (fun i wr => ∃ j : Nat, j ≤ n ∧ i = .int .i64 j ∧ Hid (R = (samB fE (a.drop j) (b.drop j) && true)) ∧ Hid (Below w.heap.size w wr)) (fun i _ => n - (intOf i).toNat)
    case atStart => exact ⟨0, by omega, rfl, HR, hideR (Below.refl _ _)⟩
    case round =>
      clear HR
      obtain ⟨j, hj, rfl, HRJ, HW⟩ := hrel
      by_cases hgo : j < n
      · obtain ⟨b1, off1, cap1, hv1, hx1⟩ := Row.some HA.out (by omega)
        injection hv1 with ho1 e11 e12
        subst ho1
        clear e11 e12
        obtain ⟨b2, off2, cap2, hv2, hx2⟩ := Row.some HB.out (by omega)
        injection hv2 with ho2 e21 e22
        subst ho2
        clear e21 e22
        obtain ⟨x, hxk⟩ : ∃ x, a[j]? = some x := ⟨_, List.getElem?_eq_getElem (by omega)⟩
        obtain ⟨y, hyk⟩ : ∃ y, b[j]? = some y := ⟨_, List.getElem?_eq_getElem (by omega)⟩
        have HX := hideR ((fun h => ElmAt.on HW.out h) (hx1 j x hxk))
        have HY := hideR ((fun h => ElmAt.on HW.out h) (hx2 j y hyk))
        have HRN := hideR (samB_on hxk hyk HRJ.out)
        clear hx1 hx2 hxk hyk HRJ HA HB
        obtain ⟨⟨cx0, cx1, cx2, cx3, ⟨v4, cx4, a4⟩, ⟨v5, cx5, a5⟩, ⟨v6, cx6, a6⟩⟩, ⟨v7, cx7, a7⟩⟩ := HX.out
        obtain ⟨q4, z4, rfl⟩ := Row.len a4
        have AX4 := hideR a4
        clear a4
        obtain ⟨q5, z5, rfl⟩ := At.len d _ _ a5
        have AX5 := hideR a5
        clear a5
        obtain ⟨q6, z6, rfl⟩ := At.len d _ _ a6
        have AX6 := hideR a6
        clear a6
        obtain ⟨q7, z7, rfl⟩ := Row.len a7
        have AX7 := hideR a7
        clear a7
        generalize hy4 : x.offset.labels.length = y4 at *
        generalize hy5 : size d x.offset.body = y5 at *
        generalize hy6 : size d x.offset.els = y6 at *
        generalize hy7 : x.funcs.length = y7 at *
        obtain ⟨⟨cy0, cy1, cy2, cy3, ⟨v4, cy4, a4⟩, ⟨v5, cy5, a5⟩, ⟨v6, cy6, a6⟩⟩, ⟨v7, cy7, a7⟩⟩ := HY.out
        obtain ⟨r4, t4, rfl⟩ := Row.len a4
        have AY4 := hideR a4
        clear a4
        obtain ⟨r5, t5, rfl⟩ := At.len d _ _ a5
        have AY5 := hideR a5
        clear a5
        obtain ⟨r6, t6, rfl⟩ := At.len d _ _ a6
        have AY6 := hideR a6
        clear a6
        obtain ⟨r7, t7, rfl⟩ := Row.len a7
        have AY7 := hideR a7
        clear a7
        generalize hs4 : y.offset.labels.length = s4 at *
        generalize hs5 : size d y.offset.body = s5 at *
        generalize hs6 : size d y.offset.els = s6 at *
        generalize hs7 : y.funcs.length = s7 at *
        go_upto_region 6 with fail
        obtain ⟨u1, hu1⟩ : ∃ u1, u1 = wr.alloc (.cells #[.int .i64 x.offset.op, .int .i64 x.offset.a, .int .i64 x.offset.b, .int .i64 x.offset.n, .slice q4 y4 z4, .slice q5 y5 z5, .slice q6 y6 z6, .slice q7 y7 z7] 56) := ⟨_, rfl⟩
        have HK0 : Hid (Bk u1 wr.heap.size 56 #[.int .i64 x.offset.op, .int .i64 x.offset.a, .int .i64 x.offset.b, .int .i64 x.offset.n, .slice q4 y4 z4, .slice q5 y5 z5, .slice q6 y6 z6, .slice q7 y7 z7]) := hideR (by rw [hu1]; exact Bk.new rfl)
        have HB1 : Hid (Below wr.heap.size wr u1) := hideR (by rw [hu1]; exact new_on' _ _)
        rw [← hu1]
        clear hu1 cx0 cx1 cx2 cx3 cx4 cx5 cx6 cx7
        have cz0 := cell_on HB1.out cy0
        have cz1 := cell_on HB1.out cy1
        have cz2 := cell_on HB1.out cy2
        have cz3 := cell_on HB1.out cy3
        have cz4 := cell_on HB1.out cy4
        have cz5 := cell_on HB1.out cy5
        have cz6 := cell_on HB1.out cy6
        have cz7 := cell_on HB1.out cy7
        clear cy0 cy1 cy2 cy3 cy4 cy5 cy6 cy7
        generalize wr.heap.size = pp1 at HK0 ⊢
        go_upto_region 7 with fail
        obtain ⟨u2, hu2⟩ : ∃ u2, u2 = u1.alloc (.cells #[.int .i64 y.offset.op, .int .i64 y.offset.a, .int .i64 y.offset.b, .int .i64 y.offset.n, .slice r4 s4 t4, .slice r5 s5 t5, .slice r6 s6 t6, .slice r7 s7 t7] 56) := ⟨_, rfl⟩
        have HK1 : Hid (Bk u2 pp1 56 #[.int .i64 x.offset.op, .int .i64 x.offset.a, .int .i64 x.offset.b, .int .i64 x.offset.n, .slice q4 y4 z4, .slice q5 y5 z5, .slice q6 y6 z6, .slice q7 y7 z7]) := hideR (by rw [hu2]; exact HK0.out.on (new_on' _ _))
        have HK2 : Hid (Bk u2 u1.heap.size 56 #[.int .i64 y.offset.op, .int .i64 y.offset.a, .int .i64 y.offset.b, .int .i64 y.offset.n, .slice r4 s4 t4, .slice r5 s5 t5, .slice r6 s6 t6, .slice r7 s7 t7]) := hideR (by rw [hu2]; exact Bk.new rfl)
        have HB2 : Hid (Below wr.heap.size wr u2) := hideR (by rw [hu2]; exact below_go' HB1.out (new_on' _ _))
        rw [← hu2]
        clear hu2 HK0 cz0 cz1 cz2 cz3 cz4 cz5 cz6 cz7
        generalize u1.heap.size = pp2 at HK2 ⊢
        have k0 := HK1.out.cell 0 _ rfl
        have k1 := HK1.out.cell 1 _ rfl
        have k2 := HK1.out.cell 2 _ rfl
        have k3 := HK1.out.cell 3 _ rfl
        have k4 := HK1.out.cell 4 _ rfl
        have k5 := HK1.out.cell 5 _ rfl
        have k6 := HK1.out.cell 6 _ rfl
        have k7 := HK1.out.cell 7 _ rfl
        have l0 := HK2.out.cell 0 _ rfl
        have l1 := HK2.out.cell 1 _ rfl
        have l2 := HK2.out.cell 2 _ rfl
        have l3 := HK2.out.cell 3 _ rfl
        have l4 := HK2.out.cell 4 _ rfl
        have l5 := HK2.out.cell 5 _ rfl
        have l6 := HK2.out.cell 6 _ rfl
        have l7 := HK2.out.cell 7 _ rfl
        have HCALL := hideR (pSElem x y q4 q5 q6 q7 r4 r5 r6 r7 y4 z4 y5 z5 y6 z6 y7 z7 s4 t4 s5 t5 s6 t6 s7 t7 u2 (AX4.out.on HB2.out) (AY4.out.on HB2.out) (At.on HB2.out d _ _ AX5.out) (At.on HB2.out d _ _ AY5.out) (At.on HB2.out d _ _ AX6.out) (At.on HB2.out d _ _ AY6.out) (AX7.out.on HB2.out) (AY7.out.on HB2.out))
        obtain ⟨c, HC0⟩ : ∃ c, c = fE x y := ⟨_, rfl⟩
        rw [← HC0] at HRN HCALL
        clear HC0
        go_wp2_with fail
        refine HCALL.out.mono ?_
        rintro e u3 ⟨rfl, hb3⟩
        have HW3 := hideR (below_go' (below_go' HW.out HB2.out) hb3)
        clear hb3 HCALL HK1 HK2 HB2 k0 k1 k2 k3 k4 k5 k6 k7 l0 l1 l2 l3 l4 l5 l6 l7
        cases c
        · have HRF : Hid (R = false) := hideR HRN.out
          clear HRN
          go_wp2
          go_ret
          exact ⟨by rw [HRF.out]; rfl, HW3.out⟩
        · have HRT : Hid (R = (samB fE (a.drop (j + 1)) (b.drop (j + 1)) && true)) := hideR HRN.out
          clear HRN
          go_wp2
          go_roundw
          case rel => exact ⟨j + 1, by omega, by go_num, HRT, HW3⟩
          case measure => simp [intOf]; omega
      · obtain rfl : n = j := by omega
        have HRZ := hideR (samB_end (by omega) (by omega) HRJ.out)
        clear HRJ
        go_wp2
        go_ret
        exact ⟨by rw [HRZ.out]; rfl, HW.out⟩
  · rw [samB_len a b (fun h => hn h.symm)]
    generalize a.length = n at *
    generalize b.length = k at *
    clear hA hB
    go_enter Tryd.func60, Tryd.ntmps60
    go_wp2
    go_ret
    exact ⟨rfl, Below.refl _ _⟩
namespace Rep
def QData {d : Nat} (x y : Dat d) (q4 q5 q6 r4 r5 r6 : Option Addr) (y4 z4 y5 z5 y6 z6 s4 t4 s5 t5 s6 t6 : Nat) (p1 p2 : Nat) (C1 C2 e1 e2 : Bool) : Nat → Stab
  | 0 => sEq (.pointer (some ⟨p1, 0, none⟩))
  | 1 => sEq (.agg #[.int .i64 x.offset.op, .int .i64 x.offset.a, .int .i64 x.offset.b, .int .i64 x.offset.n, .slice q4 y4 z4, .slice q5 y5 z5, .slice q6 y6 z6])
  | 2 => sEq (.pointer (some ⟨p2, 0, none⟩))
  | 3 => sEq (.agg #[.int .i64 y.offset.op, .int .i64 y.offset.a, .int .i64 y.offset.b, .int .i64 y.offset.n, .slice r4 s4 t4, .slice r5 s5 t5, .slice r6 s6 t6])
  | 4 => sEq (.bool C1)
  | 5 => sEq (.bool C1)
  | 6 => sIf C1 (.pointer (some ⟨p1, 7, none⟩))
  | 7 => sIf C1 (.string x.bytes)
  | 8 => sIf C1 (.pointer (some ⟨p2, 7, none⟩))
  | 9 => sIf C1 (.string y.bytes)
  | 10 => sIf C1 (.bool e2)
  | 11 => sEq (.bool C2)
  | 12 => sEq (.bool C2)
  | _ => sEq undef
end Rep
set_option maxRecDepth 100000 in
set_option maxHeartbeats 8000000 in
theorem pSData {d : Nat} (x y : Dat d) (q4 q5 q6 r4 r5 r6 : Option Addr) (y4 z4 y5 z5 y6 z6 s4 t4 s5 t5 s6 t6 : Nat) (w : World) (ha4 : Ints w (.slice q4 y4 z4) x.offset.labels) (hb4 : Ints w (.slice r4 s4 t4) y.offset.labels) (ha5 : At w d (.slice q5 y5 z5) x.offset.body) (hb5 : At w d (.slice r5 s5 t5) y.offset.body) (ha6 : At w d (.slice q6 y6 z6) x.offset.els) (hb6 : At w d (.slice r6 s6 t6) y.offset.els) : Calls Tryd.prog 63 #[.agg #[.int .i64 x.offset.op, .int .i64 x.offset.a, .int .i64 x.offset.b, .int .i64 x.offset.n, .slice q4 y4 z4, .slice q5 y5 z5, .slice q6 y6 z6, .string x.bytes], .agg #[.int .i64 y.offset.op, .int .i64 y.offset.a, .int .i64 y.offset.b, .int .i64 y.offset.n, .slice r4 s4 t4, .slice r5 s5 t5, .slice r6 s6 t6, .string y.bytes]] w fun e w' => e = .returned (.bool (fD x y)) ∧ Below w.heap.size w w' := by
  have AX4 := hideR ha4
  clear ha4
  have AY4 := hideR hb4
  clear hb4
  have AX5 := hideR ha5
  clear ha5
  have AY5 := hideR hb5
  clear hb5
  have AX6 := hideR ha6
  clear ha6
  have AY6 := hideR hb6
  clear hb6
  obtain ⟨e1, HE10⟩ : ∃ e, e = sam1 (samI d) x.offset y.offset := ⟨_, rfl⟩
  have HE1 := hideR HE10
  clear HE10
  obtain ⟨e2, HE20⟩ : ∃ e, e = (x.bytes.toList == y.bytes.toList) := ⟨_, rfl⟩
  have HE2 := hideR HE20
  clear HE20
  obtain ⟨C1, HC10⟩ : ∃ c, c = e1 := ⟨_, rfl⟩
  have HC1 := hideR HC10
  clear HC10
  obtain ⟨C2, HC20⟩ : ∃ c, c = (C1 && e2) := ⟨_, rfl⟩
  have HC2 := hideR HC20
  clear HC20
  have hZ : fD x y = C2 := by
    rw [HC2.out, HC1.out, HE1.out, HE2.out]
    unfold fD
    rw [Bool.and_comm]
  rw [hZ]
  clear hZ
  go_enter Tryd.func63, Tryd.ntmps63
  go_upto_region 1 with fail
  obtain ⟨u1, hu1⟩ : ∃ u1, u1 = (w.alloc (.cells #[.int .i64 x.offset.op, .int .i64 x.offset.a, .int .i64 x.offset.b, .int .i64 x.offset.n, .slice q4 y4 z4, .slice q5 y5 z5, .slice q6 y6 z6, .string x.bytes] 58)).alloc (.cells #[.int .i64 y.offset.op, .int .i64 y.offset.a, .int .i64 y.offset.b, .int .i64 y.offset.n, .slice r4 s4 t4, .slice r5 s5 t5, .slice r6 s6 t6, .string y.bytes] 58) := ⟨_, rfl⟩
  have HB1 : Hid (Bk u1 w.heap.size 58 #[.int .i64 x.offset.op, .int .i64 x.offset.a, .int .i64 x.offset.b, .int .i64 x.offset.n, .slice q4 y4 z4, .slice q5 y5 z5, .slice q6 y6 z6, .string x.bytes]) := hideR (by rw [hu1]; exact (Bk.new rfl).on (new_on' _ _))
  have HB2 : Hid (Bk u1 (w.heap.size + 1) 58 #[.int .i64 y.offset.op, .int .i64 y.offset.a, .int .i64 y.offset.b, .int .i64 y.offset.n, .slice r4 s4 t4, .slice r5 s5 t5, .slice r6 s6 t6, .string y.bytes]) := hideR (by rw [hu1]; exact Bk.new (by simp))
  have HU : Hid (Below w.heap.size w u1) := hideR (by rw [hu1]; exact below_go' (new_on' _ _) (new_on' _ _))
  rw [← hu1]
  clear hu1
  obtain ⟨p2, hp2⟩ : ∃ p2, p2 = w.heap.size + 1 := ⟨_, rfl⟩
  rw [← hp2] at HB2 ⊢
  clear hp2
  generalize hp1 : w.heap.size = p1 at HB1 ⊢
  refine Reg.wp_region_allq 13 (fun i => if i < 12 then 5 + i else 4) (fun i => (QData x y q4 q5 q6 r4 r5 r6 y4 z4 y5 z5 y6 z6 s4 t4 s5 t5 s6 t6 p1 p2 C1 C2 e1 e2 i).1) ?hn (fun i j h1 h2 h => by have h' : (if i < 12 then 5 + i else 4) = (if j < 12 then 5 + j else 4) := h; split at h' <;> split at h' <;> omega) (Reg.dst_okG (size := 17) (by kernel_rfl)) (fun i v w w' _ h hb => (QData x y q4 q5 q6 r4 r5 r6 y4 z4 y5 z5 y6 z6 s4 t4 s5 t5 s6 t6 p1 p2 C1 C2 e1 e2 i).2 v w w' h hb) ?hstep ?htail
  case hn => simp
  case hstep =>
    intro i o a w2 hi ho hF hB hd
    have hBw := below_go' HU.out hB
    have f2 : a.tmps[2]?.getD undef = .pointer (some ⟨p1, 0, none⟩) := Reg.ev_get (hF.eval 2 (fun i hi => by show (if i < 12 then 5 + i else 4) ≠ 2; split <;> omega))
    have f3 : a.tmps[3]?.getD undef = .pointer (some ⟨p2, 0, none⟩) := Reg.ev_get (hF.eval 3 (fun i hi => by show (if i < 12 then 5 + i else 4) ≠ 3; split <;> omega))
    have c0 := (HB1.out.on hB).cell 0 _ rfl
    have c1 := (HB1.out.on hB).cell 1 _ rfl
    have c2 := (HB1.out.on hB).cell 2 _ rfl
    have c3 := (HB1.out.on hB).cell 3 _ rfl
    have c4 := (HB1.out.on hB).cell 4 _ rfl
    have c5 := (HB1.out.on hB).cell 5 _ rfl
    have c6 := (HB1.out.on hB).cell 6 _ rfl
    have c7 := (HB1.out.on hB).cell 7 _ rfl
    have d0 := (HB2.out.on hB).cell 0 _ rfl
    have d1 := (HB2.out.on hB).cell 1 _ rfl
    have d2 := (HB2.out.on hB).cell 2 _ rfl
    have d3 := (HB2.out.on hB).cell 3 _ rfl
    have d4 := (HB2.out.on hB).cell 4 _ rfl
    have d5 := (HB2.out.on hB).cell 5 _ rfl
    have d6 := (HB2.out.on hB).cell 6 _ rfl
    have d7 := (HB2.out.on hB).cell 7 _ rfl
    have HBW := hideR hBw
    clear hBw
    have hcase : i = 0 ∨ i = 1 ∨ i = 2 ∨ i = 3 ∨ i = 4 ∨ i = 5 ∨ i = 6 ∨ i = 7 ∨ i = 8 ∨ i = 9 ∨ i = 10 ∨ i = 11 ∨ i = 12 := by omega
    clear hi
    rcases hcase with rfl | rfl | rfl | rfl | rfl | rfl | rfl | rfl | rfl | rfl | rfl | rfl | rfl
    · simp only [List.getElem?_toArray, List.getElem?_cons_zero, Option.some.injEq] at ho
      subst ho
      refine Reg.Does.go rfl (Reg.step_k fun K hK => ?_)
      go_simp
      exact hK _ _ ⟨_, rfl, Below.refl _ _, rfl⟩
    · simp only [List.getElem?_toArray, List.getElem?_cons_succ, List.getElem?_cons_zero, Option.some.injEq] at ho
      subst ho
      have q0 : a.tmps[5]?.getD undef = .pointer (some ⟨p1, 0, none⟩) := Reg.ev_get (hd 0 (by decide))
      refine Reg.Does.go rfl (Reg.step_k fun K hK => ?_)
      go_simp
      exact hK _ _ ⟨_, rfl, Below.refl _ _, rfl⟩
    · simp only [List.getElem?_toArray, List.getElem?_cons_succ, List.getElem?_cons_zero, Option.some.injEq] at ho
      subst ho
      refine Reg.Does.go rfl (Reg.step_k fun K hK => ?_)
      go_simp
      exact hK _ _ ⟨_, rfl, Below.refl _ _, rfl⟩
    · simp only [List.getElem?_toArray, List.getElem?_cons_succ, List.getElem?_cons_zero, Option.some.injEq] at ho
      subst ho
      have q0 : a.tmps[7]?.getD undef = .pointer (some ⟨p2, 0, none⟩) := Reg.ev_get (hd 2 (by decide))
      refine Reg.Does.go rfl (Reg.step_k fun K hK => ?_)
      go_simp
      exact hK _ _ ⟨_, rfl, Below.refl _ _, rfl⟩
    · simp only [List.getElem?_toArray, List.getElem?_cons_succ, List.getElem?_cons_zero, Option.some.injEq] at ho
      subst ho
      have q0 : a.tmps[6]?.getD undef = .agg #[.int .i64 x.offset.op, .int .i64 x.offset.a, .int .i64 x.offset.b, .int .i64 x.offset.n, .slice q4 y4 z4, .slice q5 y5 z5, .slice q6 y6 z6] := Reg.ev_get (hd 1 (by decide))
      have q1 : a.tmps[8]?.getD undef = .agg #[.int .i64 y.offset.op, .int .i64 y.offset.a, .int .i64 y.offset.b, .int .i64 y.offset.n, .slice r4 s4 t4, .slice r5 s5 t5, .slice r6 s6 t6] := Reg.ev_get (hd 3 (by decide))
      refine Reg.Does.go rfl (Reg.step_k fun K hK => ?_)
      have HKK := hideR hK
      clear hK
      go_simp
      refine (pSameInstr x.offset y.offset q4 q5 q6 r4 r5 r6 y4 z4 y5 z5 y6 z6 s4 t4 s5 t5 s6 t6 w2 (eqIn d) (AX4.out.on HBW.out) (At.on HBW.out d _ _ AX5.out) (At.on HBW.out d _ _ AX6.out) (AY4.out.on HBW.out) (At.on HBW.out d _ _ AY5.out) (At.on HBW.out d _ _ AY6.out)).mono ?_
      rintro e w' ⟨rfl, hw⟩
      exact HKK.out _ _ ⟨_, rfl, hw, congrArg Value.bool (HE1.out.symm.trans HC1.out.symm)⟩
    · simp only [List.getElem?_toArray, List.getElem?_cons_succ, List.getElem?_cons_zero, Option.some.injEq] at ho
      subst ho
      have q0 : a.tmps[9]?.getD undef = .bool C1 := Reg.ev_get (hd 4 (by decide))
      refine Reg.Does.go rfl (Reg.step_k fun K hK => ?_)
      go_simp
      exact hK _ _ ⟨_, rfl, Below.refl _ _, rfl⟩
    · simp only [List.getElem?_toArray, List.getElem?_cons_succ, List.getElem?_cons_zero, Option.some.injEq] at ho
      subst ho
      have qg : a.eval (.tmp 10) = .bool C1 := hd 5 (by decide)
      cases C1
      · exact Reg.Does.skip rfl rfl rfl qg rfl
      · refine Reg.Does.wanted rfl rfl rfl qg (Reg.step_k fun K hK => ?_)
        clear qg
        go_simp
        exact hK _ _ ⟨_, rfl, Below.refl _ _, rfl⟩
    · simp only [List.getElem?_toArray, List.getElem?_cons_succ, List.getElem?_cons_zero, Option.some.injEq] at ho
      subst ho
      have qg : a.eval (.tmp 10) = .bool C1 := hd 5 (by decide)
      cases C1
      · exact Reg.Does.skip rfl rfl rfl qg rfl
      · refine Reg.Does.wanted rfl rfl rfl qg (Reg.step_k fun K hK => ?_)
        clear qg
        have q0 : a.tmps[11]?.getD undef = .pointer (some ⟨p1, 7, none⟩) := Reg.ev_get (hd 6 (by decide))
        go_simp
        exact hK _ _ ⟨_, rfl, Below.refl _ _, rfl⟩
    · simp only [List.getElem?_toArray, List.getElem?_cons_succ, List.getElem?_cons_zero, Option.some.injEq] at ho
      subst ho
      have qg : a.eval (.tmp 10) = .bool C1 := hd 5 (by decide)
      cases C1
      · exact Reg.Does.skip rfl rfl rfl qg rfl
      · refine Reg.Does.wanted rfl rfl rfl qg (Reg.step_k fun K hK => ?_)
        clear qg
        go_simp
        exact hK _ _ ⟨_, rfl, Below.refl _ _, rfl⟩
    · simp only [List.getElem?_toArray, List.getElem?_cons_succ, List.getElem?_cons_zero, Option.some.injEq] at ho
      subst ho
      have qg : a.eval (.tmp 10) = .bool C1 := hd 5 (by decide)
      cases C1
      · exact Reg.Does.skip rfl rfl rfl qg rfl
      · refine Reg.Does.wanted rfl rfl rfl qg (Reg.step_k fun K hK => ?_)
        clear qg
        have q0 : a.tmps[13]?.getD undef = .pointer (some ⟨p2, 7, none⟩) := Reg.ev_get (hd 8 (by decide))
        go_simp
        exact hK _ _ ⟨_, rfl, Below.refl _ _, rfl⟩
    · simp only [List.getElem?_toArray, List.getElem?_cons_succ, List.getElem?_cons_zero, Option.some.injEq] at ho
      subst ho
      have qg : a.eval (.tmp 10) = .bool C1 := hd 5 (by decide)
      cases C1
      · exact Reg.Does.skip rfl rfl rfl qg rfl
      · refine Reg.Does.wanted rfl rfl rfl qg (Reg.step_k fun K hK => ?_)
        clear qg
        have q0 : a.tmps[12]?.getD undef = .string x.bytes := Reg.ev_get (hd 7 (by decide))
        have q1 : a.tmps[14]?.getD undef = .string y.bytes := Reg.ev_get (hd 9 (by decide))
        go_simp
        exact hK _ _ ⟨_, rfl, Below.refl _ _, congrArg Value.bool (HE2.out.symm)⟩
    · simp only [List.getElem?_toArray, List.getElem?_cons_succ, List.getElem?_cons_zero, Option.some.injEq] at ho
      subst ho
      have qc : a.tmps[10]?.getD undef = .bool C1 := Reg.ev_get (hd 5 (by decide))
      have qe : a.tmps[15]?.getD undef = if C1 then .bool e2 else undef := Reg.ev_get (hd 10 (by decide))
      refine Reg.Does.go rfl (Reg.step_k fun K hK => ?_)
      have HCN := HC2
      cases C1
      · simp only [Bool.false_eq_true, if_false] at qe
        go_simp
        exact hK _ _ ⟨_, rfl, Below.refl _ _, congrArg Value.bool HCN.out.symm⟩
      · simp only [if_true] at qe
        go_simp
        exact hK _ _ ⟨_, rfl, Below.refl _ _, congrArg Value.bool (HCN.out.trans (Bool.true_and _)).symm⟩
    · simp only [List.getElem?_toArray, List.getElem?_cons_succ, List.getElem?_cons_zero, Option.some.injEq] at ho
      subst ho
      have q0 : a.tmps[16]?.getD undef = .bool C2 := Reg.ev_get (hd 11 (by decide))
      refine Reg.Does.go rfl (Reg.step_k fun K hK => ?_)
      go_simp
      exact hK _ _ ⟨_, rfl, Below.refl _ _, rfl⟩
  case htail =>
    intro a w2 hF hB hG
    have gl : a.eval (.tmp 4) = .bool C2 := hG 12 (by omega)
    have HW := hideR (below_go' HU.out hB)
    rw [List.drop_eq_nil_of_le (by simp)]
    refine wpList_nil ?_
    go_wp2_with fail
    refine bodyPost_ret (v := .bool C2) ((results_tmp rfl _ _ _).trans (congrArg (fun v => Result.ok v w2) gl)) hF.defers ⟨rfl, hp1 ▸ HW.out⟩
set_option maxRecDepth 100000 in
set_option maxHeartbeats 8000000 in
theorem pEqFData (d : Nat) (va vb : Value) (a b : List (Dat d)) (w : World) (hA : Row 8 (DatAt w d) va a) (hB : Row 8 (DatAt w d) vb b) : Calls Tryd.prog 62 #[va, vb, .func (.func 63) #[] #[]] w fun e w' => e = .returned (.bool (samB fD a b)) ∧ Below w.heap.size w w' := by
  obtain ⟨oa, ca, rfl⟩ := Row.len hA
  obtain ⟨ob, cb, rfl⟩ := Row.len hB
  have la := hA.1
  have lb := hB.1
  by_cases hn : b.length = a.length
  · obtain ⟨R, hR⟩ : ∃ R, R = samB fD a b := ⟨_, rfl⟩
    rw [← hR]
    have HR : Hid (R = (samB fD (a.drop 0) (b.drop 0) && true)) := hideR (by rw [hR, Bool.and_true]; rfl)
    rw [hn] at hB ⊢
    have HA := hideR hA
    have HB := hideR hB
    clear hA hB hR lb
    generalize hna : a.length = n at *
    go_enter Tryd.func62, Tryd.ntmps62
    go_wp2_with fail
    go_loopw [17] (fun i wr => ∃ j : Nat, j ≤ n ∧ i = .int .i64 j ∧ Hid (R = (samB fD (a.drop j) (b.drop j) && true)) ∧ Hid (Below w.heap.size w wr)) (fun i _ => n - (intOf i).toNat)
    case atStart => exact ⟨0, by omega, rfl, HR, hideR (Below.refl _ _)⟩
    case round =>
      clear HR
      obtain ⟨j, hj, rfl, HRJ, HW⟩ := hrel
      by_cases hgo : j < n
      · obtain ⟨b1, off1, cap1, hv1, hx1⟩ := Row.some HA.out (by omega)
        injection hv1 with ho1 e11 e12
        subst ho1
        clear e11 e12
        obtain ⟨b2, off2, cap2, hv2, hx2⟩ := Row.some HB.out (by omega)
        injection hv2 with ho2 e21 e22
        subst ho2
        clear e21 e22
        obtain ⟨x, hxk⟩ : ∃ x, a[j]? = some x := ⟨_, List.getElem?_eq_getElem (by omega)⟩
        obtain ⟨y, hyk⟩ : ∃ y, b[j]? = some y := ⟨_, List.getElem?_eq_getElem (by omega)⟩
        have HX := hideR ((fun h => DatAt.on HW.out h) (hx1 j x hxk))
        have HY := hideR ((fun h => DatAt.on HW.out h) (hx2 j y hyk))
        have HRN := hideR (samB_on hxk hyk HRJ.out)
        clear hx1 hx2 hxk hyk HRJ HA HB
        obtain ⟨⟨cx0, cx1, cx2, cx3, ⟨v4, cx4, a4⟩, ⟨v5, cx5, a5⟩, ⟨v6, cx6, a6⟩⟩, cx7⟩ := HX.out
        obtain ⟨q4, z4, rfl⟩ := Row.len a4
        have AX4 := hideR a4
        clear a4
        obtain ⟨q5, z5, rfl⟩ := At.len d _ _ a5
        have AX5 := hideR a5
        clear a5
        obtain ⟨q6, z6, rfl⟩ := At.len d _ _ a6
        have AX6 := hideR a6
        clear a6
        generalize hy4 : x.offset.labels.length = y4 at *
        generalize hy5 : size d x.offset.body = y5 at *
        generalize hy6 : size d x.offset.els = y6 at *
        obtain ⟨⟨cy0, cy1, cy2, cy3, ⟨v4, cy4, a4⟩, ⟨v5, cy5, a5⟩, ⟨v6, cy6, a6⟩⟩, cy7⟩ := HY.out
        obtain ⟨r4, t4, rfl⟩ := Row.len a4
        have AY4 := hideR a4
        clear a4
        obtain ⟨r5, t5, rfl⟩ := At.len d _ _ a5
        have AY5 := hideR a5
        clear a5
        obtain ⟨r6, t6, rfl⟩ := At.len d _ _ a6
        have AY6 := hideR a6
        clear a6
        generalize hs4 : y.offset.labels.length = s4 at *
        generalize hs5 : size d y.offset.body = s5 at *
        generalize hs6 : size d y.offset.els = s6 at *
        go_upto_region 6 with fail
        obtain ⟨u1, hu1⟩ : ∃ u1, u1 = wr.alloc (.cells #[.int .i64 x.offset.op, .int .i64 x.offset.a, .int .i64 x.offset.b, .int .i64 x.offset.n, .slice q4 y4 z4, .slice q5 y5 z5, .slice q6 y6 z6, .string x.bytes] 58) := ⟨_, rfl⟩
        have HK0 : Hid (Bk u1 wr.heap.size 58 #[.int .i64 x.offset.op, .int .i64 x.offset.a, .int .i64 x.offset.b, .int .i64 x.offset.n, .slice q4 y4 z4, .slice q5 y5 z5, .slice q6 y6 z6, .string x.bytes]) := hideR (by rw [hu1]; exact Bk.new rfl)
        have HB1 : Hid (Below wr.heap.size wr u1) := hideR (by rw [hu1]; exact new_on' _ _)
        rw [← hu1]
        clear hu1 cx0 cx1 cx2 cx3 cx4 cx5 cx6 cx7
        have cz0 := cell_on HB1.out cy0
        have cz1 := cell_on HB1.out cy1
        have cz2 := cell_on HB1.out cy2
        have cz3 := cell_on HB1.out cy3
        have cz4 := cell_on HB1.out cy4
        have cz5 := cell_on HB1.out cy5
        have cz6 := cell_on HB1.out cy6
        have cz7 := cell_on HB1.out cy7
        clear cy0 cy1 cy2 cy3 cy4 cy5 cy6 cy7
        generalize wr.heap.size = pp1 at HK0 ⊢
        go_upto_region 7 with fail
        obtain ⟨u2, hu2⟩ : ∃ u2, u2 = u1.alloc (.cells #[.int .i64 y.offset.op, .int .i64 y.offset.a, .int .i64 y.offset.b, .int .i64 y.offset.n, .slice r4 s4 t4, .slice r5 s5 t5, .slice r6 s6 t6, .string y.bytes] 58) := ⟨_, rfl⟩
        have HK1 : Hid (Bk u2 pp1 58 #[.int .i64 x.offset.op, .int .i64 x.offset.a, .int .i64 x.offset.b, .int .i64 x.offset.n, .slice q4 y4 z4, .slice q5 y5 z5, .slice q6 y6 z6, .string x.bytes]) := hideR (by rw [hu2]; exact HK0.out.on (new_on' _ _))
        have HK2 : Hid (Bk u2 u1.heap.size 58 #[.int .i64 y.offset.op, .int .i64 y.offset.a, .int .i64 y.offset.b, .int .i64 y.offset.n, .slice r4 s4 t4, .slice r5 s5 t5, .slice r6 s6 t6, .string y.bytes]) := hideR (by rw [hu2]; exact Bk.new rfl)
        have HB2 : Hid (Below wr.heap.size wr u2) := hideR (by rw [hu2]; exact below_go' HB1.out (new_on' _ _))
        rw [← hu2]
        clear hu2 HK0 cz0 cz1 cz2 cz3 cz4 cz5 cz6 cz7
        generalize u1.heap.size = pp2 at HK2 ⊢
        have k0 := HK1.out.cell 0 _ rfl
        have k1 := HK1.out.cell 1 _ rfl
        have k2 := HK1.out.cell 2 _ rfl
        have k3 := HK1.out.cell 3 _ rfl
        have k4 := HK1.out.cell 4 _ rfl
        have k5 := HK1.out.cell 5 _ rfl
        have k6 := HK1.out.cell 6 _ rfl
        have k7 := HK1.out.cell 7 _ rfl
        have l0 := HK2.out.cell 0 _ rfl
        have l1 := HK2.out.cell 1 _ rfl
        have l2 := HK2.out.cell 2 _ rfl
        have l3 := HK2.out.cell 3 _ rfl
        have l4 := HK2.out.cell 4 _ rfl
        have l5 := HK2.out.cell 5 _ rfl
        have l6 := HK2.out.cell 6 _ rfl
        have l7 := HK2.out.cell 7 _ rfl
        have HCALL := hideR (pSData x y q4 q5 q6 r4 r5 r6 y4 z4 y5 z5 y6 z6 s4 t4 s5 t5 s6 t6 u2 (AX4.out.on HB2.out) (AY4.out.on HB2.out) (At.on HB2.out d _ _ AX5.out) (At.on HB2.out d _ _ AY5.out) (At.on HB2.out d _ _ AX6.out) (At.on HB2.out d _ _ AY6.out))
        obtain ⟨c, HC0⟩ : ∃ c, c = fD x y := ⟨_, rfl⟩
        rw [← HC0] at HRN HCALL
        clear HC0
        go_wp2_with fail
        refine HCALL.out.mono ?_
        rintro e u3 ⟨rfl, hb3⟩
        have HW3 := hideR (below_go' (below_go' HW.out HB2.out) hb3)
        clear hb3 HCALL HK1 HK2 HB2 k0 k1 k2 k3 k4 k5 k6 k7 l0 l1 l2 l3 l4 l5 l6 l7
        cases c
        · have HRF : Hid (R = false) := hideR HRN.out
          clear HRN
          go_wp2
          go_ret
          exact ⟨by rw [HRF.out]; rfl, HW3.out⟩
        · have HRT : Hid (R = (samB fD (a.drop (j + 1)) (b.drop (j + 1)) && true)) := hideR HRN.out
          clear HRN
          go_wp2
          go_roundw
          case rel => exact ⟨j + 1, by omega, by go_num, HRT, HW3⟩
          case measure => simp [intOf]; omega
      · obtain rfl : n = j := by omega
        have HRZ := hideR (samB_end (by omega) (by omega) HRJ.out)
        clear HRJ
        go_wp2
        go_ret
        exact ⟨by rw [HRZ.out]; rfl, HW.out⟩
  · rw [samB_len a b (fun h => hn h.symm)]
    generalize a.length = n at *
    generalize b.length = k at *
    clear hA hB
    go_enter Tryd.func62, Tryd.ntmps62
    go_wp2
    go_ret
    exact ⟨rfl, Below.refl _ _⟩
end Go.Proofs.YtmedpblpcfobdaaDoor
