/- The library's Equal at four types: printed by gen_psame.py. -/
import Derived.Test.YtmedpblpcfobdaaDoorVG1
import Derived.Deep.RegionLaw
import Derived.Deep.CutRange
namespace Go.Proofs.YtmedpblpcfobdaaDoor
open Go.RowKit Rep
set_option linter.unusedVariables false
namespace Rep
theorem samB_len {α : Type} {f : α → α → Bool} : ∀ (l k : List α), l.length ≠ k.length → samB f l k = false
  | [], [], h => absurd rfl h
  | [], _ :: _, _ => rfl
  | _ :: _, [], _ => rfl
  | x :: r, y :: s, h => by
    show (f x y && samB f r s) = false
    rw [samB_len r s (by simpa using h), Bool.and_false]
theorem samB_int : ∀ (a b : List Int), samB (fun (x y : Int) => x == y) a b = decide (a = b)
  | [], [] => rfl
  | [], _ :: _ => rfl
  | _ :: _, [] => rfl
  | x :: r, y :: s => by
    show ((x == y) && samB (fun (x y : Int) => x == y) r s) = _
    rw [samB_int r s]
    by_cases h : x = y
    · subst h; simp
    · simp [h]
def EInt (j n b1 off1 ca b2 off2 cb : Nat) (e : Bool) (x y : Int) : Nat → Stab
  | 0 => sEq (.slice (some ⟨b1, off1, none⟩) n ca)
  | 1 => sEq (.int .i64 j)
  | 2 => sEq (.pointer (some ⟨b1, off1 + j, none⟩))
  | 3 => sEq (.int .i64 x)
  | 4 => sEq (.slice (some ⟨b2, off2, none⟩) n cb)
  | 5 => sEq (.int .i64 j)
  | 6 => sEq (.pointer (some ⟨b2, off2 + j, none⟩))
  | 7 => sEq (.int .i64 y)
  | 8 => sEq (.bool (!e))
  | _ => sEq undef
def EImp (j n b1 off1 ca b2 off2 cb : Nat) (e : Bool) (x y : Imp) : Nat → Stab
  | 0 => sEq (.slice (some ⟨b1, off1, none⟩) n ca)
  | 1 => sEq (.int .i64 j)
  | 2 => sEq (.pointer (some ⟨b1, off1 + j * 3, none⟩))
  | 3 => sEq (.agg #[.string x.mod, .string x.name, .int .i64 x.type])
  | 4 => sEq (.slice (some ⟨b2, off2, none⟩) n cb)
  | 5 => sEq (.int .i64 j)
  | 6 => sEq (.pointer (some ⟨b2, off2 + j * 3, none⟩))
  | 7 => sEq (.agg #[.string y.mod, .string y.name, .int .i64 y.type])
  | 8 => sEq (.bool (!e))
  | _ => sEq undef
def ELim (j n b1 off1 ca b2 off2 cb : Nat) (e : Bool) (x y : Lim) : Nat → Stab
  | 0 => sEq (.slice (some ⟨b1, off1, none⟩) n ca)
  | 1 => sEq (.int .i64 j)
  | 2 => sEq (.pointer (some ⟨b1, off1 + j * 3, none⟩))
  | 3 => sEq (.agg #[.int .i64 x.min, .int .i64 x.max, .bool x.has])
  | 4 => sEq (.slice (some ⟨b2, off2, none⟩) n cb)
  | 5 => sEq (.int .i64 j)
  | 6 => sEq (.pointer (some ⟨b2, off2 + j * 3, none⟩))
  | 7 => sEq (.agg #[.int .i64 y.min, .int .i64 y.max, .bool y.has])
  | 8 => sEq (.bool (!e))
  | _ => sEq undef
def EExp (j n b1 off1 ca b2 off2 cb : Nat) (e : Bool) (x y : Exp) : Nat → Stab
  | 0 => sEq (.slice (some ⟨b1, off1, none⟩) n ca)
  | 1 => sEq (.int .i64 j)
  | 2 => sEq (.pointer (some ⟨b1, off1 + j * 3, none⟩))
  | 3 => sEq (.agg #[.string x.name, .int .i64 x.kind, .int .i64 x.index])
  | 4 => sEq (.slice (some ⟨b2, off2, none⟩) n cb)
  | 5 => sEq (.int .i64 j)
  | 6 => sEq (.pointer (some ⟨b2, off2 + j * 3, none⟩))
  | 7 => sEq (.agg #[.string y.name, .int .i64 y.kind, .int .i64 y.index])
  | 8 => sEq (.bool (!e))
  | _ => sEq undef
theorem plen9 {x : List Value} (h : x.length = 9) : ∃ x0 x1 x2 x3 x4 x5 x6 x7 x8, x = [x0, x1, x2, x3, x4, x5, x6, x7, x8] := by
  match x, h with
  | [x0, x1, x2, x3, x4, x5, x6, x7, x8], _ => exact ⟨x0, x1, x2, x3, x4, x5, x6, x7, x8, rfl⟩
end Rep
set_option maxRecDepth 100000 in
set_option maxHeartbeats 4000000 in
theorem pEqInt (va vb : Value) (a b : List Int) (w : World) (hA : Row 1 ((fun (w : World) b o (z : Int) => w.cell? ⟨b, o, none⟩ = some (.int .i64 z)) w) va a) (hB : Row 1 ((fun (w : World) b o (z : Int) => w.cell? ⟨b, o, none⟩ = some (.int .i64 z)) w) vb b) : Calls Tryd.prog 59 #[va, vb] w fun e w' => e = .returned (.bool (samB (fun (x y : Int) => x == y) a b)) ∧ Below w.heap.size w w' := by
  obtain ⟨oa, ca, rfl⟩ := Row.len hA
  obtain ⟨ob, cb, rfl⟩ := Row.len hB
  have la := hA.1
  have lb := hB.1
  by_cases hn : b.length = a.length
  · obtain ⟨R, hR⟩ : ∃ R, R = samB (fun (x y : Int) => x == y) a b := ⟨_, rfl⟩
    rw [← hR]
    have HR : Hid (R = (samB (fun (x y : Int) => x == y) (a.drop 0) (b.drop 0) && true)) := hideR (by rw [hR, Bool.and_true]; rfl)
    rw [hn] at hB ⊢
    have HA := hideR hA
    have HB := hideR hB
    clear hA hB hR lb
    generalize hna : a.length = n at *
    go_enter Tryd.func59, Tryd.ntmps59
    go_wp2_with fail
    go_loopw [13] (fun i wr => ∃ j : Nat, j ≤ n ∧ i = .int .i64 j ∧ Hid (R = (samB (fun (x y : Int) => x == y) (a.drop j) (b.drop j) && true)) ∧ Hid (Below w.heap.size w wr)) (fun i _ => n - (intOf i).toNat)
    case atStart => exact ⟨0, by omega, rfl, HR, hideR (Below.refl _ _)⟩
    case round =>
      clear HR
      obtain ⟨j, hj, rfl, HRJ, HW⟩ := hrel
      by_cases hgo : j < n
      · obtain ⟨b1, off1, cap1, hv1, hx1⟩ := Row.some HA.out (by omega)
        injection hv1 with ho1 e11 e12
        subst ho1
        clear e11 e12
        obtain ⟨b2, off2, cap2, hv2, hx2⟩ := Row.some HB.out (by omega)
        injection hv2 with ho2 e21 e22
        subst ho2
        clear e21 e22
        obtain ⟨x, hxk⟩ : ∃ x, a[j]? = some x := ⟨_, List.getElem?_eq_getElem (by omega)⟩
        obtain ⟨y, hyk⟩ : ∃ y, b[j]? = some y := ⟨_, List.getElem?_eq_getElem (by omega)⟩
        have HX := hideR (cell_on HW.out (hx1 j x hxk))
        have HY := hideR (cell_on HW.out (hx2 j y hyk))
        have HRN := hideR (samB_on hxk hyk HRJ.out)
        clear hx1 hx2 hxk hyk HRJ HA HB
        obtain ⟨e, HE0⟩ : ∃ e, e = (x == y) := ⟨_, rfl⟩
        have HE := hideR HE0
        rw [← HE0] at HRN
        clear HE0
        have cx0 := HX.out
        have cy0 := HY.out
        simp only [Nat.mul_one] at cx0 cy0
        go_upto_region 6 with fail
        refine Reg.wp_region_all 9 (fun i => 16 + i) (fun i => (EInt j n b1 off1 ca b2 off2 cb e x y i).1) (by kernel_rfl) (by kernel_rfl) (fun i j h1 h2 h => by have h' : 16 + i = 16 + j := h; omega) (Reg.dst_okG (size := 26) (by kernel_rfl)) (fun i v w w' _ h hb => (EInt j n b1 off1 ca b2 off2 cb e x y i).2 v w w' h hb) ?hstep ?hend
        case hstep =>
          intro i o a w hi ho hF hB hd
          have f0 : a.tmps[0]?.getD undef = .slice (some ⟨b1, off1, none⟩) n ca := Reg.ev_get (hF.eval 0 (fun i hi => by show 16 + i ≠ 0; omega))
          have f1 : a.tmps[1]?.getD undef = .slice (some ⟨b2, off2, none⟩) n cb := Reg.ev_get (hF.eval 1 (fun i hi => by show 16 + i ≠ 1; omega))
          have f5 : a.tmps[5]?.getD undef = .int .i64 j := Reg.ev_get (hF.eval 5 (fun i hi => by show 16 + i ≠ 5; omega))
          have kx0 := cell_on hB cx0
          have ky0 := cell_on hB cy0
          have hcase : i = 0 ∨ i = 1 ∨ i = 2 ∨ i = 3 ∨ i = 4 ∨ i = 5 ∨ i = 6 ∨ i = 7 ∨ i = 8 := by omega
          clear hi
          rcases hcase with rfl | rfl | rfl | rfl | rfl | rfl | rfl | rfl | rfl
          · simp only [List.getElem?_toArray, List.getElem?_cons_zero, Option.some.injEq] at ho
            subst ho
            refine Reg.Does.go rfl (Reg.step_k fun K hK => ?_)
            go_simp
            exact hK _ _ ⟨_, rfl, Below.refl _ _, rfl⟩
          · simp only [List.getElem?_toArray, List.getElem?_cons_succ, List.getElem?_cons_zero, Option.some.injEq] at ho
            subst ho
            refine Reg.Does.go rfl (Reg.step_k fun K hK => ?_)
            go_simp
            exact hK _ _ ⟨_, rfl, Below.refl _ _, rfl⟩
          · simp only [List.getElem?_toArray, List.getElem?_cons_succ, List.getElem?_cons_zero, Option.some.injEq] at ho
            subst ho
            refine Reg.Does.go rfl (Reg.step_k fun K hK => ?_)
            have q0 : a.tmps[16]?.getD undef = .slice (some ⟨b1, off1, none⟩) n ca := Reg.ev_get (hd 0 (by decide))
            have q1 : a.tmps[17]?.getD undef = .int .i64 j := Reg.ev_get (hd 1 (by decide))
            go_simp
            exact hK _ _ ⟨_, rfl, Below.refl _ _, rfl⟩
          · simp only [List.getElem?_toArray, List.getElem?_cons_succ, List.getElem?_cons_zero, Option.some.injEq] at ho
            subst ho
            refine Reg.Does.go rfl (Reg.step_k fun K hK => ?_)
            have q0 : a.tmps[18]?.getD undef = .pointer (some ⟨b1, off1 + j, none⟩) := Reg.ev_get (hd 2 (by decide))
            go_simp
            exact hK _ _ ⟨_, rfl, Below.refl _ _, rfl⟩
          · simp only [List.getElem?_toArray, List.getElem?_cons_succ, List.getElem?_cons_zero, Option.some.injEq] at ho
            subst ho
            refine Reg.Does.go rfl (Reg.step_k fun K hK => ?_)
            go_simp
            exact hK _ _ ⟨_, rfl, Below.refl _ _, rfl⟩
          · simp only [List.getElem?_toArray, List.getElem?_cons_succ, List.getElem?_cons_zero, Option.some.injEq] at ho
            subst ho
            refine Reg.Does.go rfl (Reg.step_k fun K hK => ?_)
            go_simp
            exact hK _ _ ⟨_, rfl, Below.refl _ _, rfl⟩
          · simp only [List.getElem?_toArray, List.getElem?_cons_succ, List.getElem?_cons_zero, Option.some.injEq] at ho
            subst ho
            refine Reg.Does.go rfl (Reg.step_k fun K hK => ?_)
            have q0 : a.tmps[20]?.getD undef = .slice (some ⟨b2, off2, none⟩) n cb := Reg.ev_get (hd 4 (by decide))
            have q1 : a.tmps[21]?.getD undef = .int .i64 j := Reg.ev_get (hd 5 (by decide))
            go_simp
            exact hK _ _ ⟨_, rfl, Below.refl _ _, rfl⟩
          · simp only [List.getElem?_toArray, List.getElem?_cons_succ, List.getElem?_cons_zero, Option.some.injEq] at ho
            subst ho
            refine Reg.Does.go rfl (Reg.step_k fun K hK => ?_)
            have q0 : a.tmps[22]?.getD undef = .pointer (some ⟨b2, off2 + j, none⟩) := Reg.ev_get (hd 6 (by decide))
            go_simp
            exact hK _ _ ⟨_, rfl, Below.refl _ _, rfl⟩
          · simp only [List.getElem?_toArray, List.getElem?_cons_succ, List.getElem?_cons_zero, Option.some.injEq] at ho
            subst ho
            refine Reg.Does.go rfl (Reg.step_k fun K hK => ?_)
            have q0 : a.tmps[19]?.getD undef = .int .i64 x := Reg.ev_get (hd 3 (by decide))
            have q1 : a.tmps[23]?.getD undef = .int .i64 y := Reg.ev_get (hd 7 (by decide))
            go_simp
            exact hK _ _ ⟨_, rfl, Below.refl _ _, congrArg (fun c => Value.bool (!c)) HE.out.symm⟩
        case hend =>
          intro ac w2 hF hB hG
          have gl : ac.eval (.tmp 24) = .bool (!e) := hG 8 (by omega)
          have HW2 := hideR (below_go' HW.out hB)
          obtain ⟨xl, hxl, rfl, hev⟩ := hF.lit (by simp)
          rw [hev 8 (by omega)] at gl
          obtain ⟨x0, x1, x2, x3, x4, x5, x6, x7, x8, rfl⟩ := plen9 hxl
          obtain rfl : x8 = .bool (!e) := gl
          clear hev hxl hF hG hB HE
          simp only [List.take_succ_cons, List.take_zero, List.drop_succ_cons, List.drop_zero, List.cons_append, List.nil_append]
          cases e
          · have HRF : Hid (R = false) := hideR HRN.out
            clear HRN
            go_wp2
            go_ret
            exact ⟨by rw [HRF.out]; rfl, HW2.out⟩
          · have HRT : Hid (R = (samB (fun (x y : Int) => x == y) (a.drop (j + 1)) (b.drop (j + 1)) && true)) := hideR HRN.out
            clear HRN
            go_wp2
            go_roundw
            case rel => exact ⟨j + 1, by omega, by go_num, HRT, HW2⟩
            case measure => simp [intOf]; omega
      · obtain rfl : n = j := by omega
        have HRZ := hideR (samB_end (by omega) (by omega) HRJ.out)
        clear HRJ
        go_wp2
        go_ret
        exact ⟨by rw [HRZ.out]; rfl, HW.out⟩
  · rw [samB_len a b (fun h => hn h.symm)]
    generalize a.length = n at *
    generalize b.length = k at *
    clear hA hB
    go_enter Tryd.func59, Tryd.ntmps59
    go_wp2
    go_ret
    exact ⟨rfl, Below.refl _ _⟩
set_option maxRecDepth 100000 in
set_option maxHeartbeats 4000000 in
theorem pEqImp (va vb : Value) (a b : List Imp) (w : World) (hA : Row 3 (ImpAt w) va a) (hB : Row 3 (ImpAt w) vb b) : Calls Tryd.prog 52 #[va, vb] w fun e w' => e = .returned (.bool (samB fI a b)) ∧ Below w.heap.size w w' := by
  obtain ⟨oa, ca, rfl⟩ := Row.len hA
  obtain ⟨ob, cb, rfl⟩ := Row.len hB
  have la := hA.1
  have lb := hB.1
  by_cases hn : b.length = a.length
  · obtain ⟨R, hR⟩ : ∃ R, R = samB fI a b := ⟨_, rfl⟩
    rw [← hR]
    have HR : Hid (R = (samB fI (a.drop 0) (b.drop 0) && true)) := hideR (by rw [hR, Bool.and_true]; rfl)
    rw [hn] at hB ⊢
    have HA := hideR hA
    have HB := hideR hB
    clear hA hB hR lb
    generalize hna : a.length = n at *
    go_enter Tryd.func52, Tryd.ntmps52
    go_wp2_with fail
    go_loopw [13] (fun i wr => ∃ j : Nat, j ≤ n ∧ i = .int .i64 j ∧ Hid (R = (samB fI (a.drop j) (b.drop j) && true)) ∧ Hid (Below w.heap.size w wr)) (fun i _ => n - (intOf i).toNat)
    case atStart => exact ⟨0, by omega, rfl, HR, hideR (Below.refl _ _)⟩
    case round =>
      clear HR
      obtain ⟨j, hj, rfl, HRJ, HW⟩ := hrel
      by_cases hgo : j < n
      · obtain ⟨b1, off1, cap1, hv1, hx1⟩ := Row.some HA.out (by omega)
        injection hv1 with ho1 e11 e12
        subst ho1
        clear e11 e12
        obtain ⟨b2, off2, cap2, hv2, hx2⟩ := Row.some HB.out (by omega)
        injection hv2 with ho2 e21 e22
        subst ho2
        clear e21 e22
        obtain ⟨x, hxk⟩ : ∃ x, a[j]? = some x := ⟨_, List.getElem?_eq_getElem (by omega)⟩
        obtain ⟨y, hyk⟩ : ∃ y, b[j]? = some y := ⟨_, List.getElem?_eq_getElem (by omega)⟩
        have HX := hideR ((hx1 j x hxk).on HW.out)
        have HY := hideR ((hx2 j y hyk).on HW.out)
        have HRN := hideR (samB_on hxk hyk HRJ.out)
        clear hx1 hx2 hxk hyk HRJ HA HB
        obtain ⟨e, HE0⟩ : ∃ e, e = fI x y := ⟨_, rfl⟩
        have HE := hideR HE0
        rw [← HE0] at HRN
        clear HE0
        obtain ⟨cx0, cx1, cx2⟩ := HX.out
        obtain ⟨cy0, cy1, cy2⟩ := HY.out
        go_upto_region 6 with fail
        refine Reg.wp_region_all 9 (fun i => 16 + i) (fun i => (EImp j n b1 off1 ca b2 off2 cb e x y i).1) (by kernel_rfl) (by kernel_rfl) (fun i j h1 h2 h => by have h' : 16 + i = 16 + j := h; omega) (Reg.dst_okG (size := 26) (by kernel_rfl)) (fun i v w w' _ h hb => (EImp j n b1 off1 ca b2 off2 cb e x y i).2 v w w' h hb) ?hstep ?hend
        case hstep =>
          intro i o a w hi ho hF hB hd
          have f0 : a.tmps[0]?.getD undef = .slice (some ⟨b1, off1, none⟩) n ca := Reg.ev_get (hF.eval 0 (fun i hi => by show 16 + i ≠ 0; omega))
          have f1 : a.tmps[1]?.getD undef = .slice (some ⟨b2, off2, none⟩) n cb := Reg.ev_get (hF.eval 1 (fun i hi => by show 16 + i ≠ 1; omega))
          have f5 : a.tmps[5]?.getD undef = .int .i64 j := Reg.ev_get (hF.eval 5 (fun i hi => by show 16 + i ≠ 5; omega))
          have kx0 := cell_on hB cx0
          have kx1 := cell_on hB cx1
          have kx2 := cell_on hB cx2
          have ky0 := cell_on hB cy0
          have ky1 := cell_on hB cy1
          have ky2 := cell_on hB cy2
          have hcase : i = 0 ∨ i = 1 ∨ i = 2 ∨ i = 3 ∨ i = 4 ∨ i = 5 ∨ i = 6 ∨ i = 7 ∨ i = 8 := by omega
          clear hi
          rcases hcase with rfl | rfl | rfl | rfl | rfl | rfl | rfl | rfl | rfl
          · simp only [List.getElem?_toArray, List.getElem?_cons_zero, Option.some.injEq] at ho
            subst ho
            refine Reg.Does.go rfl (Reg.step_k fun K hK => ?_)
            go_simp
            exact hK _ _ ⟨_, rfl, Below.refl _ _, rfl⟩
          · simp only [List.getElem?_toArray, List.getElem?_cons_succ, List.getElem?_cons_zero, Option.some.injEq] at ho
            subst ho
            refine Reg.Does.go rfl (Reg.step_k fun K hK => ?_)
            go_simp
            exact hK _ _ ⟨_, rfl, Below.refl _ _, rfl⟩
          · simp only [List.getElem?_toArray, List.getElem?_cons_succ, List.getElem?_cons_zero, Option.some.injEq] at ho
            subst ho
            refine Reg.Does.go rfl (Reg.step_k fun K hK => ?_)
            have q0 : a.tmps[16]?.getD undef = .slice (some ⟨b1, off1, none⟩) n ca := Reg.ev_get (hd 0 (by decide))
            have q1 : a.tmps[17]?.getD undef = .int .i64 j := Reg.ev_get (hd 1 (by decide))
            go_simp
            exact hK _ _ ⟨_, rfl, Below.refl _ _, rfl⟩
          · simp only [List.getElem?_toArray, List.getElem?_cons_succ, List.getElem?_cons_zero, Option.some.injEq] at ho
            subst ho
            refine Reg.Does.go rfl (Reg.step_k fun K hK => ?_)
            have q0 : a.tmps[18]?.getD undef = .pointer (some ⟨b1, off1 + j * 3, none⟩) := Reg.ev_get (hd 2 (by decide))
            go_simp
            exact hK _ _ ⟨_, rfl, Below.refl _ _, rfl⟩
          · simp only [List.getElem?_toArray, List.getElem?_cons_succ, List.getElem?_cons_zero, Option.some.injEq] at ho
            subst ho
            refine Reg.Does.go rfl (Reg.step_k fun K hK => ?_)
            go_simp
            exact hK _ _ ⟨_, rfl, Below.refl _ _, rfl⟩
          · simp only [List.getElem?_toArray, List.getElem?_cons_succ, List.getElem?_cons_zero, Option.some.injEq] at ho
            subst ho
            refine Reg.Does.go rfl (Reg.step_k fun K hK => ?_)
            go_simp
            exact hK _ _ ⟨_, rfl, Below.refl _ _, rfl⟩
          · simp only [List.getElem?_toArray, List.getElem?_cons_succ, List.getElem?_cons_zero, Option.some.injEq] at ho
            subst ho
            refine Reg.Does.go rfl (Reg.step_k fun K hK => ?_)
            have q0 : a.tmps[20]?.getD undef = .slice (some ⟨b2, off2, none⟩) n cb := Reg.ev_get (hd 4 (by decide))
            have q1 : a.tmps[21]?.getD undef = .int .i64 j := Reg.ev_get (hd 5 (by decide))
            go_simp
            exact hK _ _ ⟨_, rfl, Below.refl _ _, rfl⟩
          · simp only [List.getElem?_toArray, List.getElem?_cons_succ, List.getElem?_cons_zero, Option.some.injEq] at ho
            subst ho
            refine Reg.Does.go rfl (Reg.step_k fun K hK => ?_)
            have q0 : a.tmps[22]?.getD undef = .pointer (some ⟨b2, off2 + j * 3, none⟩) := Reg.ev_get (hd 6 (by decide))
            go_simp
            exact hK _ _ ⟨_, rfl, Below.refl _ _, rfl⟩
          · simp only [List.getElem?_toArray, List.getElem?_cons_succ, List.getElem?_cons_zero, Option.some.injEq] at ho
            subst ho
            refine Reg.Does.go rfl (Reg.step_k fun K hK => ?_)
            have q0 : a.tmps[19]?.getD undef = .agg #[.string x.mod, .string x.name, .int .i64 x.type] := Reg.ev_get (hd 3 (by decide))
            have q1 : a.tmps[23]?.getD undef = .agg #[.string y.mod, .string y.name, .int .i64 y.type] := Reg.ev_get (hd 7 (by decide))
            rcases Decidable.em (x.mod.toList = y.mod.toList) with h0 | h0 <;> rcases Decidable.em (x.name.toList = y.name.toList) with h1 | h1 <;> rcases Decidable.em (x.type = y.type) with h2 | h2 <;> (go_simp; exact hK _ _ ⟨_, rfl, Below.refl _ _, by show Value.bool _ = Value.bool (!e); rw [HE.out]; simp [fI, h0, h1, h2]⟩)
        case hend =>
          intro ac w2 hF hB hG
          have gl : ac.eval (.tmp 24) = .bool (!e) := hG 8 (by omega)
          have HW2 := hideR (below_go' HW.out hB)
          obtain ⟨xl, hxl, rfl, hev⟩ := hF.lit (by simp)
          rw [hev 8 (by omega)] at gl
          obtain ⟨x0, x1, x2, x3, x4, x5, x6, x7, x8, rfl⟩ := plen9 hxl
          obtain rfl : x8 = .bool (!e) := gl
          clear hev hxl hF hG hB HE
          simp only [List.take_succ_cons, List.take_zero, List.drop_succ_cons, List.drop_zero, List.cons_append, List.nil_append]
          cases e
          · have HRF : Hid (R = false) := hideR HRN.out
            clear HRN
            go_wp2
            go_ret
            exact ⟨by rw [HRF.out]; rfl, HW2.out⟩
          · have HRT : Hid (R = (samB fI (a.drop (j + 1)) (b.drop (j + 1)) && true)) := hideR HRN.out
            clear HRN
            go_wp2
            go_roundw
            case rel => exact ⟨j + 1, by omega, by go_num, HRT, HW2⟩
            case measure => simp [intOf]; omega
      · obtain rfl : n = j := by omega
        have HRZ := hideR (samB_end (by omega) (by omega) HRJ.out)
        clear HRJ
        go_wp2
        go_ret
        exact ⟨by rw [HRZ.out]; rfl, HW.out⟩
  · rw [samB_len a b (fun h => hn h.symm)]
    generalize a.length = n at *
    generalize b.length = k at *
    clear hA hB
    go_enter Tryd.func52, Tryd.ntmps52
    go_wp2
    go_ret
    exact ⟨rfl, Below.refl _ _⟩
set_option maxRecDepth 100000 in
set_option maxHeartbeats 4000000 in
theorem pEqLim (va vb : Value) (a b : List Lim) (w : World) (hA : Row 3 (LimAt w) va a) (hB : Row 3 (LimAt w) vb b) : Calls Tryd.prog 55 #[va, vb] w fun e w' => e = .returned (.bool (samB fL a b)) ∧ Below w.heap.size w w' := by
  obtain ⟨oa, ca, rfl⟩ := Row.len hA
  obtain ⟨ob, cb, rfl⟩ := Row.len hB
  have la := hA.1
  have lb := hB.1
  by_cases hn : b.length = a.length
  · obtain ⟨R, hR⟩ : ∃ R, R = samB fL a b := ⟨_, rfl⟩
    rw [← hR]
    have HR : Hid (R = (samB fL (a.drop 0) (b.drop 0) && true)) := hideR (by rw [hR, Bool.and_true]; rfl)
    rw [hn] at hB ⊢
    have HA := hideR hA
    have HB := hideR hB
    clear hA hB hR lb
    generalize hna : a.length = n at *
    go_enter Tryd.func55, Tryd.ntmps55
    go_wp2_with fail
    go_loopw [13] (fun i wr => ∃ j : Nat, j ≤ n ∧ i = .int .i64 j ∧ Hid (R = (samB fL (a.drop j) (b.drop j) && true)) ∧ Hid (Below w.heap.size w wr)) (fun i _ => n - (intOf i).toNat)
    case atStart => exact ⟨0, by omega, rfl, HR, hideR (Below.refl _ _)⟩
    case round =>
      clear HR
      obtain ⟨j, hj, rfl, HRJ, HW⟩ := hrel
      by_cases hgo : j < n
      · obtain ⟨b1, off1, cap1, hv1, hx1⟩ := Row.some HA.out (by omega)
        injection hv1 with ho1 e11 e12
        subst ho1
        clear e11 e12
        obtain ⟨b2, off2, cap2, hv2, hx2⟩ := Row.some HB.out (by omega)
        injection hv2 with ho2 e21 e22
        subst ho2
        clear e21 e22
        obtain ⟨x, hxk⟩ : ∃ x, a[j]? = some x := ⟨_, List.getElem?_eq_getElem (by omega)⟩
        obtain ⟨y, hyk⟩ : ∃ y, b[j]? = some y := ⟨_, List.getElem?_eq_getElem (by omega)⟩
        have HX := hideR ((hx1 j x hxk).on HW.out)
        have HY := hideR ((hx2 j y hyk).on HW.out)
        have HRN := hideR (samB_on hxk hyk HRJ.out)
        clear hx1 hx2 hxk hyk HRJ HA HB
        obtain ⟨e, HE0⟩ : ∃ e, e = fL x y := ⟨_, rfl⟩
        have HE := hideR HE0
        rw [← HE0] at HRN
        clear HE0
        obtain ⟨cx0, cx1, cx2⟩ := HX.out
        obtain ⟨cy0, cy1, cy2⟩ := HY.out
        go_upto_region 6 with fail
        refine Reg.wp_region_all 9 (fun i => 16 + i) (fun i => (ELim j n b1 off1 ca b2 off2 cb e x y i).1) (by kernel_rfl) (by kernel_rfl) (fun i j h1 h2 h => by have h' : 16 + i = 16 + j := h; omega) (Reg.dst_okG (size := 26) (by kernel_rfl)) (fun i v w w' _ h hb => (ELim j n b1 off1 ca b2 off2 cb e x y i).2 v w w' h hb) ?hstep ?hend
        case hstep =>
          intro i o a w hi ho hF hB hd
          have f0 : a.tmps[0]?.getD undef = .slice (some ⟨b1, off1, none⟩) n ca := Reg.ev_get (hF.eval 0 (fun i hi => by show 16 + i ≠ 0; omega))
          have f1 : a.tmps[1]?.getD undef = .slice (some ⟨b2, off2, none⟩) n cb := Reg.ev_get (hF.eval 1 (fun i hi => by show 16 + i ≠ 1; omega))
          have f5 : a.tmps[5]?.getD undef = .int .i64 j := Reg.ev_get (hF.eval 5 (fun i hi => by show 16 + i ≠ 5; omega))
          have kx0 := cell_on hB cx0
          have kx1 := cell_on hB cx1
          have kx2 := cell_on hB cx2
          have ky0 := cell_on hB cy0
          have ky1 := cell_on hB cy1
          have ky2 := cell_on hB cy2
          have hcase : i = 0 ∨ i = 1 ∨ i = 2 ∨ i = 3 ∨ i = 4 ∨ i = 5 ∨ i = 6 ∨ i = 7 ∨ i = 8 := by omega
          clear hi
          rcases hcase with rfl | rfl | rfl | rfl | rfl | rfl | rfl | rfl | rfl
          · simp only [List.getElem?_toArray, List.getElem?_cons_zero, Option.some.injEq] at ho
            subst ho
            refine Reg.Does.go rfl (Reg.step_k fun K hK => ?_)
            go_simp
            exact hK _ _ ⟨_, rfl, Below.refl _ _, rfl⟩
          · simp only [List.getElem?_toArray, List.getElem?_cons_succ, List.getElem?_cons_zero, Option.some.injEq] at ho
            subst ho
            refine Reg.Does.go rfl (Reg.step_k fun K hK => ?_)
            go_simp
            exact hK _ _ ⟨_, rfl, Below.refl _ _, rfl⟩
          · simp only [List.getElem?_toArray, List.getElem?_cons_succ, List.getElem?_cons_zero, Option.some.injEq] at ho
            subst ho
            refine Reg.Does.go rfl (Reg.step_k fun K hK => ?_)
            have q0 : a.tmps[16]?.getD undef = .slice (some ⟨b1, off1, none⟩) n ca := Reg.ev_get (hd 0 (by decide))
            have q1 : a.tmps[17]?.getD undef = .int .i64 j := Reg.ev_get (hd 1 (by decide))
            go_simp
            exact hK _ _ ⟨_, rfl, Below.refl _ _, rfl⟩
          · simp only [List.getElem?_toArray, List.getElem?_cons_succ, List.getElem?_cons_zero, Option.some.injEq] at ho
            subst ho
            refine Reg.Does.go rfl (Reg.step_k fun K hK => ?_)
            have q0 : a.tmps[18]?.getD undef = .pointer (some ⟨b1, off1 + j * 3, none⟩) := Reg.ev_get (hd 2 (by decide))
            go_simp
            exact hK _ _ ⟨_, rfl, Below.refl _ _, rfl⟩
          · simp only [List.getElem?_toArray, List.getElem?_cons_succ, List.getElem?_cons_zero, Option.some.injEq] at ho
            subst ho
            refine Reg.Does.go rfl (Reg.step_k fun K hK => ?_)
            go_simp
            exact hK _ _ ⟨_, rfl, Below.refl _ _, rfl⟩
          · simp only [List.getElem?_toArray, List.getElem?_cons_succ, List.getElem?_cons_zero, Option.some.injEq] at ho
            subst ho
            refine Reg.Does.go rfl (Reg.step_k fun K hK => ?_)
            go_simp
            exact hK _ _ ⟨_, rfl, Below.refl _ _, rfl⟩
          · simp only [List.getElem?_toArray, List.getElem?_cons_succ, List.getElem?_cons_zero, Option.some.injEq] at ho
            subst ho
            refine Reg.Does.go rfl (Reg.step_k fun K hK => ?_)
            have q0 : a.tmps[20]?.getD undef = .slice (some ⟨b2, off2, none⟩) n cb := Reg.ev_get (hd 4 (by decide))
            have q1 : a.tmps[21]?.getD undef = .int .i64 j := Reg.ev_get (hd 5 (by decide))
            go_simp
            exact hK _ _ ⟨_, rfl, Below.refl _ _, rfl⟩
          · simp only [List.getElem?_toArray, List.getElem?_cons_succ, List.getElem?_cons_zero, Option.some.injEq] at ho
            subst ho
            refine Reg.Does.go rfl (Reg.step_k fun K hK => ?_)
            have q0 : a.tmps[22]?.getD undef = .pointer (some ⟨b2, off2 + j * 3, none⟩) := Reg.ev_get (hd 6 (by decide))
            go_simp
            exact hK _ _ ⟨_, rfl, Below.refl _ _, rfl⟩
          · simp only [List.getElem?_toArray, List.getElem?_cons_succ, List.getElem?_cons_zero, Option.some.injEq] at ho
            subst ho
            refine Reg.Does.go rfl (Reg.step_k fun K hK => ?_)
            have q0 : a.tmps[19]?.getD undef = .agg #[.int .i64 x.min, .int .i64 x.max, .bool x.has] := Reg.ev_get (hd 3 (by decide))
            have q1 : a.tmps[23]?.getD undef = .agg #[.int .i64 y.min, .int .i64 y.max, .bool y.has] := Reg.ev_get (hd 7 (by decide))
            rcases Decidable.em (x.min = y.min) with h0 | h0 <;> rcases Decidable.em (x.max = y.max) with h1 | h1 <;> rcases Decidable.em (x.has = y.has) with h2 | h2 <;> (go_simp; exact hK _ _ ⟨_, rfl, Below.refl _ _, by show Value.bool _ = Value.bool (!e); rw [HE.out]; simp [fL, h0, h1, h2]⟩)
        case hend =>
          intro ac w2 hF hB hG
          have gl : ac.eval (.tmp 24) = .bool (!e) := hG 8 (by omega)
          have HW2 := hideR (below_go' HW.out hB)
          obtain ⟨xl, hxl, rfl, hev⟩ := hF.lit (by simp)
          rw [hev 8 (by omega)] at gl
          obtain ⟨x0, x1, x2, x3, x4, x5, x6, x7, x8, rfl⟩ := plen9 hxl
          obtain rfl : x8 = .bool (!e) := gl
          clear hev hxl hF hG hB HE
          simp only [List.take_succ_cons, List.take_zero, List.drop_succ_cons, List.drop_zero, List.cons_append, List.nil_append]
          cases e
          · have HRF : Hid (R = false) := hideR HRN.out
            clear HRN
            go_wp2
            go_ret
            exact ⟨by rw [HRF.out]; rfl, HW2.out⟩
          · have HRT : Hid (R = (samB fL (a.drop (j + 1)) (b.drop (j + 1)) && true)) := hideR HRN.out
            clear HRN
            go_wp2
            go_roundw
            case rel => exact ⟨j + 1, by omega, by go_num, HRT, HW2⟩
            case measure => simp [intOf]; omega
      · obtain rfl : n = j := by omega
        have HRZ := hideR (samB_end (by omega) (by omega) HRJ.out)
        clear HRJ
        go_wp2
        go_ret
        exact ⟨by rw [HRZ.out]; rfl, HW.out⟩
  · rw [samB_len a b (fun h => hn h.symm)]
    generalize a.length = n at *
    generalize b.length = k at *
    clear hA hB
    go_enter Tryd.func55, Tryd.ntmps55
    go_wp2
    go_ret
    exact ⟨rfl, Below.refl _ _⟩
set_option maxRecDepth 100000 in
set_option maxHeartbeats 4000000 in
theorem pEqExp (va vb : Value) (a b : List Exp) (w : World) (hA : Row 3 (ExpAt w) va a) (hB : Row 3 (ExpAt w) vb b) : Calls Tryd.prog 58 #[va, vb] w fun e w' => e = .returned (.bool (samB fX a b)) ∧ Below w.heap.size w w' := by
  obtain ⟨oa, ca, rfl⟩ := Row.len hA
  obtain ⟨ob, cb, rfl⟩ := Row.len hB
  have la := hA.1
  have lb := hB.1
  by_cases hn : b.length = a.length
  · obtain ⟨R, hR⟩ : ∃ R, R = samB fX a b := ⟨_, rfl⟩
    rw [← hR]
    have HR : Hid (R = (samB fX (a.drop 0) (b.drop 0) && true)) := hideR (by rw [hR, Bool.and_true]; rfl)
    rw [hn] at hB ⊢
    have HA := hideR hA
    have HB := hideR hB
    clear hA hB hR lb
    generalize hna : a.length = n at *
    go_enter Tryd.func58, Tryd.ntmps58
    go_wp2_with fail
    go_loopw [13] (fun i wr => ∃ j : Nat, j ≤ n ∧ i = .int .i64 j ∧ Hid (R = (samB fX (a.drop j) (b.drop j) && true)) ∧ Hid (Below w.heap.size w wr)) (fun i _ => n - (intOf i).toNat)
    case atStart => exact ⟨0, by omega, rfl, HR, hideR (Below.refl _ _)⟩
    case round =>
      clear HR
      obtain ⟨j, hj, rfl, HRJ, HW⟩ := hrel
      by_cases hgo : j < n
      · obtain ⟨b1, off1, cap1, hv1, hx1⟩ := Row.some HA.out (by omega)
        injection hv1 with ho1 e11 e12
        subst ho1
        clear e11 e12
        obtain ⟨b2, off2, cap2, hv2, hx2⟩ := Row.some HB.out (by omega)
        injection hv2 with ho2 e21 e22
        subst ho2
        clear e21 e22
        obtain ⟨x, hxk⟩ : ∃ x, a[j]? = some x := ⟨_, List.getElem?_eq_getElem (by omega)⟩
        obtain ⟨y, hyk⟩ : ∃ y, b[j]? = some y := ⟨_, List.getElem?_eq_getElem (by omega)⟩
        have HX := hideR ((hx1 j x hxk).on HW.out)
        have HY := hideR ((hx2 j y hyk).on HW.out)
        have HRN := hideR (samB_on hxk hyk HRJ.out)
        clear hx1 hx2 hxk hyk HRJ HA HB
        obtain ⟨e, HE0⟩ : ∃ e, e = fX x y := ⟨_, rfl⟩
        have HE := hideR HE0
        rw [← HE0] at HRN
        clear HE0
        obtain ⟨cx0, cx1, cx2⟩ := HX.out
        obtain ⟨cy0, cy1, cy2⟩ := HY.out
        go_upto_region 6 with fail
        refine Reg.wp_region_all 9 (fun i => 16 + i) (fun i => (EExp j n b1 off1 ca b2 off2 cb e x y i).1) (by kernel_rfl) (by kernel_rfl) (fun i j h1 h2 h => by have h' : 16 + i = 16 + j := h; omega) (Reg.dst_okG (size := 26) (by kernel_rfl)) (fun i v w w' _ h hb => (EExp j n b1 off1 ca b2 off2 cb e x y i).2 v w w' h hb) ?hstep ?hend
        case hstep =>
          intro i o a w hi ho hF hB hd
          have f0 : a.tmps[0]?.getD undef = .slice (some ⟨b1, off1, none⟩) n ca := Reg.ev_get (hF.eval 0 (fun i hi => by show 16 + i ≠ 0; omega))
          have f1 : a.tmps[1]?.getD undef = .slice (some ⟨b2, off2, none⟩) n cb := Reg.ev_get (hF.eval 1 (fun i hi => by show 16 + i ≠ 1; omega))
          have f5 : a.tmps[5]?.getD undef = .int .i64 j := Reg.ev_get (hF.eval 5 (fun i hi => by show 16 + i ≠ 5; omega))
          have kx0 := cell_on hB cx0
          have kx1 := cell_on hB cx1
          have kx2 := cell_on hB cx2
          have ky0 := cell_on hB cy0
          have ky1 := cell_on hB cy1
          have ky2 := cell_on hB cy2
          have hcase : i = 0 ∨ i = 1 ∨ i = 2 ∨ i = 3 ∨ i = 4 ∨ i = 5 ∨ i = 6 ∨ i = 7 ∨ i = 8 := by omega
          clear hi
          rcases hcase with rfl | rfl | rfl | rfl | rfl | rfl | rfl | rfl | rfl
          · simp only [List.getElem?_toArray, List.getElem?_cons_zero, Option.some.injEq] at ho
            subst ho
            refine Reg.Does.go rfl (Reg.step_k fun K hK => ?_)
            go_simp
            exact hK _ _ ⟨_, rfl, Below.refl _ _, rfl⟩
          · simp only [List.getElem?_toArray, List.getElem?_cons_succ, List.getElem?_cons_zero, Option.some.injEq] at ho
            subst ho
            refine Reg.Does.go rfl (Reg.step_k fun K hK => ?_)
            go_simp
            exact hK _ _ ⟨_, rfl, Below.refl _ _, rfl⟩
          · simp only [List.getElem?_toArray, List.getElem?_cons_succ, List.getElem?_cons_zero, Option.some.injEq] at ho
            subst ho
            refine Reg.Does.go rfl (Reg.step_k fun K hK => ?_)
            have q0 : a.tmps[16]?.getD undef = .slice (some ⟨b1, off1, none⟩) n ca := Reg.ev_get (hd 0 (by decide))
            have q1 : a.tmps[17]?.getD undef = .int .i64 j := Reg.ev_get (hd 1 (by decide))
            go_simp
            exact hK _ _ ⟨_, rfl, Below.refl _ _, rfl⟩
          · simp only [List.getElem?_toArray, List.getElem?_cons_succ, List.getElem?_cons_zero, Option.some.injEq] at ho
            subst ho
            refine Reg.Does.go rfl (Reg.step_k fun K hK => ?_)
            have q0 : a.tmps[18]?.getD undef = .pointer (some ⟨b1, off1 + j * 3, none⟩) := Reg.ev_get (hd 2 (by decide))
            go_simp
            exact hK _ _ ⟨_, rfl, Below.refl _ _, rfl⟩
          · simp only [List.getElem?_toArray, List.getElem?_cons_succ, List.getElem?_cons_zero, Option.some.injEq] at ho
            subst ho
            refine Reg.Does.go rfl (Reg.step_k fun K hK => ?_)
            go_simp
            exact hK _ _ ⟨_, rfl, Below.refl _ _, rfl⟩
          · simp only [List.getElem?_toArray, List.getElem?_cons_succ, List.getElem?_cons_zero, Option.some.injEq] at ho
            subst ho
            refine Reg.Does.go rfl (Reg.step_k fun K hK => ?_)
            go_simp
            exact hK _ _ ⟨_, rfl, Below.refl _ _, rfl⟩
          · simp only [List.getElem?_toArray, List.getElem?_cons_succ, List.getElem?_cons_zero, Option.some.injEq] at ho
            subst ho
            refine Reg.Does.go rfl (Reg.step_k fun K hK => ?_)
            have q0 : a.tmps[20]?.getD undef = .slice (some ⟨b2, off2, none⟩) n cb := Reg.ev_get (hd 4 (by decide))
            have q1 : a.tmps[21]?.getD undef = .int .i64 j := Reg.ev_get (hd 5 (by decide))
            go_simp
            exact hK _ _ ⟨_, rfl, Below.refl _ _, rfl⟩
          · simp only [List.getElem?_toArray, List.getElem?_cons_succ, List.getElem?_cons_zero, Option.some.injEq] at ho
            subst ho
            refine Reg.Does.go rfl (Reg.step_k fun K hK => ?_)
            have q0 : a.tmps[22]?.getD undef = .pointer (some ⟨b2, off2 + j * 3, none⟩) := Reg.ev_get (hd 6 (by decide))
            go_simp
            exact hK _ _ ⟨_, rfl, Below.refl _ _, rfl⟩
          · simp only [List.getElem?_toArray, List.getElem?_cons_succ, List.getElem?_cons_zero, Option.some.injEq] at ho
            subst ho
            refine Reg.Does.go rfl (Reg.step_k fun K hK => ?_)
            have q0 : a.tmps[19]?.getD undef = .agg #[.string x.name, .int .i64 x.kind, .int .i64 x.index] := Reg.ev_get (hd 3 (by decide))
            have q1 : a.tmps[23]?.getD undef = .agg #[.string y.name, .int .i64 y.kind, .int .i64 y.index] := Reg.ev_get (hd 7 (by decide))
            rcases Decidable.em (x.name.toList = y.name.toList) with h0 | h0 <;> rcases Decidable.em (x.kind = y.kind) with h1 | h1 <;> rcases Decidable.em (x.index = y.index) with h2 | h2 <;> (go_simp; exact hK _ _ ⟨_, rfl, Below.refl _ _, by show Value.bool _ = Value.bool (!e); rw [HE.out]; simp [fX, h0, h1, h2]⟩)
        case hend =>
          intro ac w2 hF hB hG
          have gl : ac.eval (.tmp 24) = .bool (!e) := hG 8 (by omega)
          have HW2 := hideR (below_go' HW.out hB)
          obtain ⟨xl, hxl, rfl, hev⟩ := hF.lit (by simp)
          rw [hev 8 (by omega)] at gl
          obtain ⟨x0, x1, x2, x3, x4, x5, x6, x7, x8, rfl⟩ := plen9 hxl
          obtain rfl : x8 = .bool (!e) := gl
          clear hev hxl hF hG hB HE
          simp only [List.take_succ_cons, List.take_zero, List.drop_succ_cons, List.drop_zero, List.cons_append, List.nil_append]
          cases e
          · have HRF : Hid (R = false) := hideR HRN.out
            clear HRN
            go_wp2
            go_ret
            exact ⟨by rw [HRF.out]; rfl, HW2.out⟩
          · have HRT : Hid (R = (samB fX (a.drop (j + 1)) (b.drop (j + 1)) && true)) := hideR HRN.out
            clear HRN
            go_wp2
            go_roundw
            case rel => exact ⟨j + 1, by omega, by go_num, HRT, HW2⟩
            case measure => simp [intOf]; omega
      · obtain rfl : n = j := by omega
        have HRZ := hideR (samB_end (by omega) (by omega) HRJ.out)
        clear HRJ
        go_wp2
        go_ret
        exact ⟨by rw [HRZ.out]; rfl, HW.out⟩
  · rw [samB_len a b (fun h => hn h.symm)]
    generalize a.length = n at *
    generalize b.length = k at *
    clear hA hB
    go_enter Tryd.func58, Tryd.ntmps58
    go_wp2
    go_ret
    exact ⟨rfl, Below.refl _ _⟩
end Go.Proofs.YtmedpblpcfobdaaDoor
