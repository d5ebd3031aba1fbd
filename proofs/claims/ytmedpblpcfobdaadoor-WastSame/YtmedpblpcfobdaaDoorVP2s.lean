/- The library's EqualFunc of instructions: printed by gen_psame.py. -/
import Derived.Test.YtmedpblpcfobdaaDoorVP1s
import Derived.Deep.RegionLaw
import Derived.Deep.CutRange
namespace Go.Proofs.YtmedpblpcfobdaaDoor
open Go.RowKit Rep
set_option linter.unusedVariables false
namespace Rep
theorem samL_samB {α : Type} {f : α → α → Bool} : ∀ (l k : List (Ins α)), samL f l k = samB (sam1 f) l k
  | [], [] => rfl
  | [], _ :: _ => rfl
  | _ :: _, [] => rfl
  | x :: r, y :: s => by
    show (sam1 f x y && samL f r s) = (sam1 f x y && samB (sam1 f) r s)
    rw [samL_samB r s]
end Rep
set_option maxRecDepth 100000 in
set_option maxHeartbeats 8000000 in
theorem pEqFIns (d : Nat) (IH : EqIn d) (va vb : Value) (a b : List (Ins (IL d))) (w : World) (hA : Row 7 (InsAt w (At w d)) va a) (hB : Row 7 (InsAt w (At w d)) vb b) : Calls Tryd.prog 80 #[va, vb, .func (.func 81) #[] #[]] w fun e w' => e = .returned (.bool (samB (sam1 (samI d)) a b)) ∧ Below w.heap.size w w' := by
  obtain ⟨oa, ca, rfl⟩ := Row.len hA
  obtain ⟨ob, cb, rfl⟩ := Row.len hB
  have la := hA.1
  have lb := hB.1
  have HIH := hideR IH
  clear IH
  by_cases hn : b.length = a.length
  · obtain ⟨R, hR⟩ : ∃ R, R = samB (sam1 (samI d)) a b := ⟨_, rfl⟩
    rw [← hR]
    have HR : Hid (R = (samB (sam1 (samI d)) (a.drop 0) (b.drop 0) && true)) := hideR (by rw [hR, Bool.and_true]; rfl)
    rw [hn] at hB ⊢
    have HA := hideR hA
    have HB := hideR hB
    clear hA hB hR lb
    generalize hna : a.length = n at *
    go_enter Tryd.func80, Tryd.ntmps80
    go_wp2_with fail
    go_loopw [17] (fun i wr => ∃ j : Nat, j ≤ n ∧ i = .int .i64 j ∧ Hid (R = (samB (sam1 (samI d)) (a.drop j) (b.drop j) && true)) ∧ Hid (Below w.heap.size w wr)) (fun i _ => n - (intOf i).toNat)
    case atStart => exact ⟨0, by omega, rfl, HR, hideR (Below.refl _ _)⟩
    case round =>
      clear HR
      obtain ⟨j, hj, rfl, HRJ, HW⟩ := hrel
      by_cases hgo : j < n
      · obtain ⟨b1, off1, cap1, hv1, hx1⟩ := Row.some HA.out (by omega)
        injection hv1 with ho1 e11 e12
        subst ho1
        clear e11 e12
        obtain ⟨b2, off2, cap2, hv2, hx2⟩ := Row.some HB.out (by omega)
        injection hv2 with ho2 e21 e22
        subst ho2
        clear e21 e22
        obtain ⟨x, hxk⟩ : ∃ x, a[j]? = some x := ⟨_, List.getElem?_eq_getElem (by omega)⟩
        obtain ⟨y, hyk⟩ : ∃ y, b[j]? = some y := ⟨_, List.getElem?_eq_getElem (by omega)⟩
        have HX := hideR ((fun h => InsAt.on HW.out (At.on HW.out d) h) (hx1 j x hxk))
        have HY := hideR ((fun h => InsAt.on HW.out (At.on HW.out d) h) (hx2 j y hyk))
        have HRN := hideR (samB_on hxk hyk HRJ.out)
        clear hx1 hx2 hxk hyk HRJ HA HB
        obtain ⟨cx0, cx1, cx2, cx3, ⟨v4, cx4, a4⟩, ⟨v5, cx5, a5⟩, ⟨v6, cx6, a6⟩⟩ := HX.out
        obtain ⟨q4, z4, rfl⟩ := Row.len a4
        have AX4 := hideR a4
        clear a4
        obtain ⟨q5, z5, rfl⟩ := At.len d _ _ a5
        have AX5 := hideR a5
        clear a5
        obtain ⟨q6, z6, rfl⟩ := At.len d _ _ a6
        have AX6 := hideR a6
        clear a6
        generalize hy4 : x.labels.length = y4 at *
        generalize hy5 : size d x.body = y5 at *
        generalize hy6 : size d x.els = y6 at *
        obtain ⟨cy0, cy1, cy2, cy3, ⟨v4, cy4, a4⟩, ⟨v5, cy5, a5⟩, ⟨v6, cy6, a6⟩⟩ := HY.out
        obtain ⟨r4, t4, rfl⟩ := Row.len a4
        have AY4 := hideR a4
        clear a4
        obtain ⟨r5, t5, rfl⟩ := At.len d _ _ a5
        have AY5 := hideR a5
        clear a5
        obtain ⟨r6, t6, rfl⟩ := At.len d _ _ a6
        have AY6 := hideR a6
        clear a6
        generalize hs4 : y.labels.length = s4 at *
        generalize hs5 : size d y.body = s5 at *
        generalize hs6 : size d y.els = s6 at *
        go_upto_region 6 with fail
        obtain ⟨u1, hu1⟩ : ∃ u1, u1 = wr.alloc (.cells #[.int .i64 x.op, .int .i64 x.a, .int .i64 x.b, .int .i64 x.n, .slice q4 y4 z4, .slice q5 y5 z5, .slice q6 y6 z6] 45) := ⟨_, rfl⟩
        have HK0 : Hid (Bk u1 wr.heap.size 45 #[.int .i64 x.op, .int .i64 x.a, .int .i64 x.b, .int .i64 x.n, .slice q4 y4 z4, .slice q5 y5 z5, .slice q6 y6 z6]) := hideR (by rw [hu1]; exact Bk.new rfl)
        have HB1 : Hid (Below wr.heap.size wr u1) := hideR (by rw [hu1]; exact new_on' _ _)
        rw [← hu1]
        clear hu1 cx0 cx1 cx2 cx3 cx4 cx5 cx6
        have cz0 := cell_on HB1.out cy0
        have cz1 := cell_on HB1.out cy1
        have cz2 := cell_on HB1.out cy2
        have cz3 := cell_on HB1.out cy3
        have cz4 := cell_on HB1.out cy4
        have cz5 := cell_on HB1.out cy5
        have cz6 := cell_on HB1.out cy6
        clear cy0 cy1 cy2 cy3 cy4 cy5 cy6
        generalize wr.heap.size = pp1 at HK0 ⊢
        go_upto_region 7 with fail
        obtain ⟨u2, hu2⟩ : ∃ u2, u2 = u1.alloc (.cells #[.int .i64 y.op, .int .i64 y.a, .int .i64 y.b, .int .i64 y.n, .slice r4 s4 t4, .slice r5 s5 t5, .slice r6 s6 t6] 45) := ⟨_, rfl⟩
        have HK1 : Hid (Bk u2 pp1 45 #[.int .i64 x.op, .int .i64 x.a, .int .i64 x.b, .int .i64 x.n, .slice q4 y4 z4, .slice q5 y5 z5, .slice q6 y6 z6]) := hideR (by rw [hu2]; exact HK0.out.on (new_on' _ _))
        have HK2 : Hid (Bk u2 u1.heap.size 45 #[.int .i64 y.op, .int .i64 y.a, .int .i64 y.b, .int .i64 y.n, .slice r4 s4 t4, .slice r5 s5 t5, .slice r6 s6 t6]) := hideR (by rw [hu2]; exact Bk.new rfl)
        have HB2 : Hid (Below wr.heap.size wr u2) := hideR (by rw [hu2]; exact below_go' HB1.out (new_on' _ _))
        rw [← hu2]
        clear hu2 HK0 cz0 cz1 cz2 cz3 cz4 cz5 cz6
        generalize u1.heap.size = pp2 at HK2 ⊢
        have k0 := HK1.out.cell 0 _ rfl
        have k1 := HK1.out.cell 1 _ rfl
        have k2 := HK1.out.cell 2 _ rfl
        have k3 := HK1.out.cell 3 _ rfl
        have k4 := HK1.out.cell 4 _ rfl
        have k5 := HK1.out.cell 5 _ rfl
        have k6 := HK1.out.cell 6 _ rfl
        have l0 := HK2.out.cell 0 _ rfl
        have l1 := HK2.out.cell 1 _ rfl
        have l2 := HK2.out.cell 2 _ rfl
        have l3 := HK2.out.cell 3 _ rfl
        have l4 := HK2.out.cell 4 _ rfl
        have l5 := HK2.out.cell 5 _ rfl
        have l6 := HK2.out.cell 6 _ rfl
        have HCALL := hideR (pSameInstr x y q4 q5 q6 r4 r5 r6 y4 z4 y5 z5 y6 z6 s4 t4 s5 t5 s6 t6 u2 HIH.out (AX4.out.on HB2.out) (At.on HB2.out d _ _ AX5.out) (At.on HB2.out d _ _ AX6.out) (AY4.out.on HB2.out) (At.on HB2.out d _ _ AY5.out) (At.on HB2.out d _ _ AY6.out))
        obtain ⟨c, HC0⟩ : ∃ c, c = (sam1 (samI d)) x y := ⟨_, rfl⟩
        rw [← HC0] at HRN HCALL
        clear HC0
        go_wp2_with fail
        refine HCALL.out.mono ?_
        rintro e u3 ⟨rfl, hb3⟩
        have HW3 := hideR (below_go' (below_go' HW.out HB2.out) hb3)
        clear hb3 HCALL HK1 HK2 HB2 k0 k1 k2 k3 k4 k5 k6 l0 l1 l2 l3 l4 l5 l6
        cases c
        · have HRF : Hid (R = false) := hideR HRN.out
          clear HRN
          go_wp2
          go_ret
          exact ⟨by rw [HRF.out]; rfl, HW3.out⟩
        · have HRT : Hid (R = (samB (sam1 (samI d)) (a.drop (j + 1)) (b.drop (j + 1)) && true)) := hideR HRN.out
          clear HRN
          go_wp2
          go_roundw
          case rel => exact ⟨j + 1, by omega, by go_num, HRT, HW3⟩
          case measure => simp [intOf]; omega
      · obtain rfl : n = j := by omega
        have HRZ := hideR (samB_end (by omega) (by omega) HRJ.out)
        clear HRJ
        go_wp2
        go_ret
        exact ⟨by rw [HRZ.out]; rfl, HW.out⟩
  · rw [samB_len a b (fun h => hn h.symm)]
    generalize a.length = n at *
    generalize b.length = k at *
    clear hA hB
    go_enter Tryd.func80, Tryd.ntmps80
    go_wp2
    go_ret
    exact ⟨rfl, Below.refl _ _⟩
theorem pEqF0 (oa ob : Option Addr) (ca cb : Nat) (w : World) : Calls Tryd.prog 80 #[.slice oa 0 ca, .slice ob 0 cb, .func (.func 81) #[] #[]] w fun e w' => e = .returned (.bool true) ∧ w' = w := by
  go_enter Tryd.func80, Tryd.ntmps80
  go_wp2_with fail
  go_loopw [17] (fun i wr => i = .int .i64 0 ∧ wr = w) (fun _ _ => 0)
  case atStart => exact ⟨rfl, rfl⟩
  case round =>
    obtain ⟨rfl, rfl⟩ := hrel
    go_wp2
    go_ret
    exact ⟨rfl, rfl⟩
theorem eqIn : ∀ d, EqIn d
  | 0 => fun va vb a b w ⟨oa, ca, ha⟩ ⟨ob, cb, hb⟩ => by
    subst ha
    subst hb
    exact (pEqF0 oa ob ca cb w).mono fun e w' ⟨h1, h2⟩ => ⟨h1, by rw [h2]; exact Below.refl _ _⟩
  | d + 1 => fun va vb a b w hA hB => (pEqFIns d (eqIn d) va vb a b w hA hB).mono fun e w' ⟨h1, h2⟩ => ⟨h1.trans (congrArg (fun b => Ending.returned (Value.bool b)) (samL_samB (f := samI d) a b).symm), h2⟩
end Go.Proofs.YtmedpblpcfobdaaDoor
