/- Texts that the claim needs. -/
import Derived.Test.YtlcpagiljfpbpaaGreatDoorQELo38
import Derived.Test.YtlcpagiljfpbpaaGreatDoorQELo18
namespace Go.Proofs.YtlcpagiljfpbpaaGreatDoor
open Go.RowKit Rep Enc Go.Lib
set_option linter.unusedVariables false
namespace Enc
theorem len11 {α:Type} {l:List α} (h:l.length=11):∃x0 x1 x2 x3 x4 x5 x6 x7 x8 x9 x10,l = [x0,x1,x2,x3,x4,x5,x6,x7,x8,x9,x10]:=by
 match l,h with
 | [x0,x1,x2,x3,x4,x5,x6,x7,x8,x9,x10],_=>exact ⟨x0,x1,x2,x3,x4,x5,x6,x7,x8,x9,x10,rfl⟩
theorem RW.apart {w:World} {B:Nat} {v u:Value} {a b:List Int} {x y:Int} (hv:RW w B v (a++[x])) (hu:RW w B u (b++[y])) (hl:a.length=b.length) (hne:x≠y):∀k,v.ownBlock=some k->u.ownBlock≠some k:=by
 intro k hk hk'
 rcases hv.2 with ⟨rfl,h0⟩|⟨g,cap,cur,rfl,_,hg,_,_,_,ht⟩
 ·simp [Value.ownBlock] at hk
 ·rcases hu.2 with ⟨rfl,h0⟩|⟨g',cap',cur',rfl,_,hg',_,_,_,ht'⟩
  ·simp [Value.ownBlock] at hk'
  ·have e1:g=k:=by simpa [Value.ownBlock] using hk
   have e2:g'=k:=by simpa [Value.ownBlock] using hk'
   subst e1
   subst e2
   rw [hg] at hg'
   injection hg' with hg'
   injection hg' with hg' _ _
   subst hg'
   have e3:(b++[y]).length*1=(a++[x]).length*1:=by simp [hl]
   rw [e3,ht] at ht'
   have:=iC_inj ht'
   have h2:=congrArg List.getLast? this
   simp at h2
   exact hne h2
theorem idx_facts {K K0:Nat} (h:K=K0+1) (hb:K<=1000000):(K:Int)-1=(K0:Int)/\K0<K/\wrap64 (K0:Int)=(K0:Int)/\decide (0<K)=true/\0<K/\(0:Int)<(K:Int):=by
 subst h
 refine ⟨by omega,by omega,by unfold wrap64;omega,by simp,by omega,by omega⟩
theorem inc_fact2 {j n:Nat} (h:j<n) (hl:n<=1000000):wrap64 ((j:Int)+1)=(j:Int)+1:=by unfold wrap64;omega
theorem mea {j n:Nat} (h:j<n) (e:wrap64 ((j:Int)+1)=(j:Int)+1):n-(Lib.intOf (.int .i64 (wrap64 ((j:Int)+1)))).toNat<n-(Lib.intOf (.int .i64 (j:Int))).toNat:=by
 rw [e];simp [Lib.intOf];omega
theorem lt_fact {a b:Nat} (h:a<b):(a:Int)<(b:Int):=by omega
theorem inc_fact {c:Int} (h:1<=c/\c<=1000000):wrap64 (c+1)=c+1:=by unfold wrap64;omega
end Enc
set_option maxRecDepth 100000 in
set_option maxHeartbeats 8000000 in
theorem dCode (d : Nat) (x : Fun d) (lv bv : Value) (w : World) (hL : Ints w lv x.locals) (hB : At w d bv x.body) (hR : Rg d x.body) (hll : x.locals.length ≤ 1000000) (hty : ∀ y ∈ x.locals, y = 126 ∨ y = 127) :
    Calls Tryz.prog 110 #[.agg #[.int .i64 x.type, lv, bv]] w (PMade w (codB x)) := by
  obtain ⟨oL, kL, rfl⟩ := Row.len hL
  obtain ⟨oB, kB, rfl⟩ := At.len d _ _ hB
  obtain ⟨wa, hwa⟩ : ∃ wa, wa = w.alloc (.cells #[.int .i64 x.type, .slice oL x.locals.length kL, .slice oB (size d x.body) kB] 44) := ⟨_, rfl⟩
  have hba : Below w.heap.size w wa := by rw [hwa]; exact new_on' w _
  have hsa : wa.heap.size = w.heap.size + 1 := by rw [hwa]; simp
  have hxa : Bx wa w.heap.size 44 #[.int .i64 x.type, .slice oL x.locals.length kL, .slice oB (size d x.body) kB] := by rw [hwa]; exact Bx.new rfl
  obtain ⟨wb, hwb⟩ : ∃ wb, wb = wa.alloc (.cells #[.slice none 0 0, .bool false] 78) := ⟨_, rfl⟩
  have hpn := PS.new wa
  rw [← hwb] at hpn
  have hbb : Below wa.heap.size wa wb := hpn.below
  have hsb : wb.heap.size = w.heap.size + 2 := by rw [hwb]; simp [hsa]
  have HP0 := hideR (hpn.mono hba)
  rw [hsa] at HP0
  have HBX : Hid (Bx wb w.heap.size 44 #[.int .i64 x.type, .slice oL x.locals.length kL, .slice oB (size d x.body) kB]) := hideR (by unfold Bx; rw [hbb.block _ hxa.lt]; exact hxa)
  have HBW : Hid (Below w.heap.size w wb) := hideR (hba.trans (hbb.mono hba.size))
  have HL := hideR hL
  have HB := hideR hB
  have HR := hideR hR
  have HTY := hideR hty
  have HWA := hideR hwa
  have HWB := hideR hwb
  have hsb' : w.heap.size + 2 ≤ wb.heap.size := by omega
  clear hL hB hR hty hwa hwb hba hbb hsa hxa hpn hsb
  generalize hn : x.locals.length = n at *
  have HNN := hideR hn
  generalize size d x.body = nB at *
  clear hn
  go_enter Tryz.func110, Tryz.ntmps110
  go_upto_region 2 with fail
  rw [← HWA.out, ← HWB.out]
  clear HWA HWB
  generalize hbF : w.heap.size = bF at *
  have HBF := hideR hbF
  clear hbF
  go_wp2_with fail
  go_loopw [4, 5, 6] (fun c t i wr => ∃ (j : Nat) (vc vt : Value), j ≤ n ∧ vc = c ∧ vt = t ∧ i = .int .i64 j ∧ Hid (RW wr wb.heap.size vc ((rn (x.locals.take j)).map Prod.fst)) ∧ Hid (RW wr wb.heap.size vt ((rn (x.locals.take j)).map Prod.snd)) ∧ Hid (∀ k, vc.ownBlock = some k → vt.ownBlock ≠ some k) ∧ Hid (Below wb.heap.size wb wr)) (fun _ _ i _ => n - (Lib.intOf i).toNat)
  case atStart => exact ⟨0, _, _, by omega, rfl, rfl, rfl, hideR (World.ownsRow_nil _ _ _ _), hideR (World.ownsRow_nil _ _ _ _), hideR (fun k h => by simp [Value.ownBlock] at h), hideR (Below.refl _ _)⟩
  case round =>
    obtain ⟨j, vc, vt, hj, rfl, rfl, rfl, HRC, HRT, HAP, HBR⟩ := hrel
    have hbx : Bx wr bF 44 #[.int .i64 x.type, .slice oL n kL, .slice oB nB kB] := by unfold Bx; rw [HBR.out.block _ HBX.out.lt]; exact HBX.out
    have kl := hbx.cell 1 _ rfl
    by_cases hgo : j < n
    · obtain ⟨bL, off1, cap1, hv1, hx1⟩ := Row.some HL.out (by have := HNN.out; omega)
      injection hv1 with ho1 e11 e12
      subst ho1
      clear e11 e12
      obtain ⟨t, htk⟩ : ∃ t, x.locals[j]? = some t := ⟨_, List.getElem?_eq_getElem (by have := HNN.out; omega)⟩
      have hbLl : bL < wb.heap.size := by
        have := World.block_lt_of_cell? _ _ (hx1 j t htk)
        have h2 := HBW.out.size
        simp only at this
        omega
      have ct := cell_on (by rw [HBF.out]; exact HBW.out.trans (HBR.out.mono (by omega))) (hx1 j t htk)
      simp only [Nat.mul_one] at ct
      have hbFl : bF < wb.heap.size := by omega
      have HTK := hideR htk
      have htt := HTY.out t (List.mem_of_getElem? htk)
      clear hx1 htk
      obtain ⟨R, hR⟩ : ∃ R, rn (x.locals.take j) = R := ⟨_, rfl⟩
      have hKb : R.length ≤ 1000000 := by have := (rn_bound (x.locals.take j)).1; rw [hR, List.length_take] at this; omega
      have HRb : Hid (∀ y ∈ R, 1 ≤ y.1 ∧ y.1 ≤ 1000000) := hideR fun y hy => by
        have h1 := (rn_bound (x.locals.take j)).2 y (by rw [hR]; exact hy)
        have h2 := h1.2.1
        have h3 : (x.locals.take j).length ≤ n := by rw [List.length_take]; omega
        exact ⟨h1.1, by omega⟩
      have HNR : Hid (rn (x.locals.take (j + 1)) = rnStep R t) := hideR (by rw [rn_take HTK.out, hR])
      rw [hR] at HRC HRT
      clear hR
      obtain ⟨oc, kc, rfl⟩ := HRC.out.slice
      obtain ⟨ot, kt, rfl⟩ := HRT.out.slice
      simp only [List.length_map] at *
      generalize hKl : R.length = K at *
      obtain ⟨cs, hcs⟩ : ∃ cs : List Int, R.map Prod.fst = cs := ⟨_, rfl⟩
      obtain ⟨ts, hts⟩ : ∃ ts : List Int, R.map Prod.snd = ts := ⟨_, rfl⟩
      rw [hcs] at HRC
      rw [hts] at HRT
      have hcsl : cs.length = K := by rw [← hcs, List.length_map, hKl]
      have htsl : ts.length = K := by rw [← hts, List.length_map, hKl]
      rcases List.eq_nil_or_concat R with hR0 | ⟨pre, ⟨c, s⟩, hR0'⟩
      · have HNX : Hid ((rn (x.locals.take (j + 1))).map Prod.fst = cs ++ [1] ∧ (rn (x.locals.take (j + 1))).map Prod.snd = ts ++ [t]) := hideR (by rw [HNR.out, ← hcs, ← hts, hR0, rnStep_nil]; exact ⟨rfl, rfl⟩)
        have hd : decide (0 < K) = false := by rw [← hKl, hR0]; rfl
        clear hcs hts hKl hR0 HNR HRb
        have HCS : Hid (cs.length ≤ 1000000) := hideR (by rw [hcsl]; exact hKb)
        have HTS : Hid (ts.length ≤ 1000000) := hideR (by rw [htsl]; exact hKb)
        have HLC : Hid (cs.length = ts.length) := hideR (by rw [hcsl, htsl])
        have HTT : Hid ((1 : Int) ≠ t) := hideR (by omega)
        have hsz : wb.heap.size ≤ wr.heap.size := HBR.out.size
        have HVC : Hid (∀ k, (Value.slice oc K kc).ownBlock = some k → k < wr.heap.size ∧ wb.heap.size ≤ k) := hideR fun k hk => ⟨(World.ownsRow.lt HRC.out k hk).2, (World.ownsRow.lt HRC.out k hk).1⟩
        have HVT : Hid (∀ k, (Value.slice ot K kt).ownBlock = some k → k < wr.heap.size ∧ wb.heap.size ≤ k) := hideR fun k hk => ⟨(World.ownsRow.lt HRT.out k hk).2, (World.ownsRow.lt HRT.out k hk).1⟩
        have HKL := hideR (⟨kl, ct⟩ : _ ∧ _)
        have HLT := hideR (⟨hbFl, hbLl, hsz⟩ : _ ∧ _ ∧ _)
        clear hbx hbFl hbLl hsz hKb htt hcsl htsl
        go_wp2_with fail
        go_quiet (fail)
        go_upto_region 9 with fail
        refine Reg.wp_region_eff 11 (fun i => 42 + i) (fpC (.slice oc K kc) (.slice ot K kt)) (KC wb wr (.slice oc K kc) (.slice ot K kt)) (RC (.slice oc K kc) (.slice ot K kt) cs ts wb.heap.size) (GC wr (.slice oc K kc) (.slice ot K kt) cs ts bF wb.heap.size (.slice (some ⟨bL, off1, none⟩) n kL) bL off1 j t) (by kernel_rfl) (by kernel_rfl) (fun i j h1 h2 h => by have h' : 42 + i = 42 + j := h; omega) (Reg.dst_ok (size := 80) (by kernel_rfl)) (fun i k v u u' hi hk hik _ hG hg => GC_stab (fun k h => (HVC.out k h).1) (fun k h => (HVT.out k h).1) HAP.out i k v u u' hi hik hG hg) (fun i k u u' hi hk hik hR hg => RC_stab HAP.out i k u u' hik hR hg) (fun k u u' hk h hg => KC_step (fun k h => (HVC.out k h).2) (fun k h => (HVT.out k h).2) k u u' h hg) ?hstep ?htail ⟨HBR.out.trans ⟨rfl, rfl, rfl, Nat.le_refl _, fun _ _ => rfl⟩, Nat.le_refl _, fun _ _ _ _ => rfl⟩ (fun i hi => by
          unfold RC
          split
          · exact HRC.out
          · exact HRT.out
          · trivial)
        case hstep =>
          intro i o a u hi ho hF hKu hRi hd
          have f1 : a.tmps[1]?.getD undef = .pointer (some ⟨bF, 0, none⟩) := Reg.ev_get (hF.eval 1 (fun i hi => by show 42 + i ≠ 1; omega))
          have f4 : a.tmps[4]?.getD undef = .slice oc K kc := Reg.ev_get (hF.eval 4 (fun i hi => by show 42 + i ≠ 4; omega))
          have f5 : a.tmps[5]?.getD undef = .slice ot K kt := Reg.ev_get (hF.eval 5 (fun i hi => by show 42 + i ≠ 5; omega))
          have f6 : a.tmps[6]?.getD undef = .int .i64 j := Reg.ev_get (hF.eval 6 (fun i hi => by show 42 + i ≠ 6; omega))
          have kl := KC_cell hKu HLT.out.1 (fun k h => (HVC.out k h).2) (fun k h => (HVT.out k h).2) HLT.out.2.2 HKL.out.1
          have ct := KC_cell hKu HLT.out.2.1 (fun k h => (HVC.out k h).2) (fun k h => (HVT.out k h).2) HLT.out.2.2 HKL.out.2
          have hcase : i = 0 ∨ i = 1 ∨ i = 2 ∨ i = 3 ∨ i = 4 ∨ i = 5 ∨ i = 6 ∨ i = 7 ∨ i = 8 ∨ i = 9 ∨ i = 10 := by omega
          clear hi
          rcases hcase with rfl | rfl | rfl | rfl | rfl | rfl | rfl | rfl | rfl | rfl | rfl
          all_goals (simp only [List.getElem?_toArray, List.getElem?_cons_succ, List.getElem?_cons_zero, Option.some.injEq] at ho; subst ho)
          · refine Reg.step_k fun K hK => ?_
            go_simp
            exact hK _ _ ⟨_, rfl, grown_refl _ _, rfl⟩
          · refine Reg.step_k fun K hK => ?_
            go_simp
            exact hK _ _ ⟨_, rfl, World.grownBy_alloc _ _ _, ⟨_, rfl, hKu.2.1, heap_new _ _⟩⟩
          · have q0 : a.eval (.tmp 42) = .slice oc K kc := hd 0 (by decide)
            obtain ⟨b, q1, q2, q3⟩ := (show ∃ b, a.eval (.tmp 43) = .slice (some ⟨b, 0, none⟩) 1 1 ∧ wr.heap.size ≤ b ∧ u.heap[b]? = some (.cells #[.int .i64 1] 3 (0, 0)) from hd 1 (by decide))
            exact op_one _ _ rfl (show RW u wb.heap.size (.slice oc K kc) cs from hRi) q0 b q1 1 q3 HCS.out hKu.1.size fun v' w' h1 h2 h3 => ⟨v', rfl, h2, h1, h3.imp id fun h => ⟨_, h, hKu.2.1⟩⟩
          · refine Reg.step_k fun K hK => ?_
            go_simp
            exact hK _ _ ⟨_, rfl, grown_refl _ _, rfl⟩
          · refine Reg.step_k fun K hK => ?_
            go_simp
            exact hK _ _ ⟨_, rfl, grown_refl _ _, rfl⟩
          · have q0 : a.tmps[46]?.getD undef = .pointer (some ⟨bF, 1, none⟩) := Reg.ev_get (hd 4 (by decide))
            refine Reg.step_k fun K hK => ?_
            go_simp
            exact hK _ _ ⟨_, rfl, grown_refl _ _, rfl⟩
          · refine Reg.step_k fun K hK => ?_
            go_simp
            exact hK _ _ ⟨_, rfl, grown_refl _ _, rfl⟩
          · have q0 : a.tmps[47]?.getD undef = .slice (some ⟨bL, off1, none⟩) n kL := Reg.ev_get (hd 5 (by decide))
            have q1 : a.tmps[48]?.getD undef = .int .i64 j := Reg.ev_get (hd 6 (by decide))
            refine Reg.step_k fun K hK => ?_
            go_simp
            exact hK _ _ ⟨_, rfl, grown_refl _ _, rfl⟩
          · have q0 : a.tmps[49]?.getD undef = .pointer (some ⟨bL, off1 + j, none⟩) := Reg.ev_get (hd 7 (by decide))
            refine Reg.step_k fun K hK => ?_
            go_simp
            exact hK _ _ ⟨_, rfl, grown_refl _ _, rfl⟩
          · have q0 : a.tmps[50]?.getD undef = .int .i64 t := Reg.ev_get (hd 8 (by decide))
            refine Reg.step_k fun K hK => ?_
            go_simp
            exact hK _ _ ⟨_, rfl, World.grownBy_alloc _ _ _, ⟨_, rfl, hKu.2.1, heap_new _ _⟩⟩
          · have q0 : a.eval (.tmp 45) = .slice ot K kt := hd 3 (by decide)
            obtain ⟨b, q1, q2, q3⟩ := (show ∃ b, a.eval (.tmp 51) = .slice (some ⟨b, 0, none⟩) 1 1 ∧ wr.heap.size ≤ b ∧ u.heap[b]? = some (.cells #[.int .i64 t] 3 (0, 0)) from hd 9 (by decide))
            exact op_one _ _ rfl (show RW u wb.heap.size (.slice ot K kt) ts from hRi) q0 b q1 t q3 HTS.out hKu.1.size fun v' w' h1 h2 h3 => ⟨v', rfl, h2, h1, h3.imp id fun h => ⟨_, h, hKu.2.1⟩⟩
        case htail =>
          intro a u hF hKu hG
          have g2 : RW u wb.heap.size (a.eval (.tmp 44)) (cs ++ [1]) := (hG 2 (by omega)).1
          have g10 : RW u wb.heap.size (a.eval (.tmp 52)) (ts ++ [t]) := (hG 10 (by omega)).1
          obtain ⟨xl, hxl, rfl, hev⟩ := hF.lit (by simp)
          obtain ⟨x0, x1, x2, x3, x4, x5, x6, x7, x8, x9, x10, rfl⟩ := len11 hxl
          have e2 := hev 2 (by omega)
          have e10 := hev 10 (by omega)
          simp only [List.getD_cons_succ, List.getD_cons_zero] at e2 e10
          rw [show (42 + 2) = 44 from rfl] at e2
          rw [show (42 + 10) = 52 from rfl] at e10
          rw [e2] at g2
          rw [e10] at g10
          have HAP2 := hideR (g2.apart g10 HLC.out HTT.out)
          have HRC2 : Hid (RW u wb.heap.size x2 ((rn (x.locals.take (j + 1))).map Prod.fst)) := hideR (by rw [HNX.out.1]; exact g2)
          have HRT2 : Hid (RW u wb.heap.size x10 ((rn (x.locals.take (j + 1))).map Prod.snd)) := hideR (by rw [HNX.out.2]; exact g10)
          have HBR2 := hideR hKu.1
          clear hev hxl hF hG g2 g10 e2 e10 hKu
          simp only [List.take_succ_cons, List.take_zero, List.drop_succ_cons, List.drop_zero, List.cons_append, List.nil_append]
          go_wp2
          go_roundw
          case rel => exact ⟨j + 1, x2, x10, by omega, rfl, rfl, by go_num, HRC2, HRT2, HAP2, HBR2⟩
          case measure => simp [Lib.intOf]; omega
      · have hR0 : R = pre ++ [(c, s)] := by rw [hR0', List.concat_eq_append]
        clear hR0'
        obtain ⟨K0, hK0⟩ : ∃ K0, pre.length = K0 := ⟨_, rfl⟩
        have hKK : K = K0 + 1 := by rw [← hKl, hR0, ← hK0]; simp
        have hcs2 : cs = pre.map Prod.fst ++ [c] := by rw [← hcs, hR0]; simp
        have hts2 : ts = pre.map Prod.snd ++ [s] := by rw [← hts, hR0]; simp
        obtain ⟨gt, capt, hvt, hgt1, hgt2, hct, _⟩ := HRT.out.cells (by omega)
        injection hvt with hvt1 hvt2 hvt3
        subst hvt1
        clear hvt2 hvt3
        obtain ⟨gc, capc, hvc, hgc1, hgc2, hcc, hfc⟩ := HRC.out.cells (by omega)
        injection hvc with hvc1 hvc2 hvc3
        subst hvc1
        clear hvc2 hvc3
        have cS := hct K0 s (by rw [hts2, List.getElem?_append_right (by simp [hK0])]; simp [hK0])
        have cC := hcc K0 c (by rw [hcs2, List.getElem?_append_right (by simp [hK0])]; simp [hK0])
        have fC := hfc K0
        have hgg : gt ≠ gc := fun e => HAP.out gc rfl (by rw [e]; rfl)
        have hcb := HRb.out (c, s) (by rw [hR0]; simp)
        simp only at hcb
        have hw9 := inc_fact hcb
        obtain ⟨hK2, hK4, hK5, hK6, hK7, hK8⟩ := idx_facts hKK hKb
        clear hct hcc hfc
        by_cases hst : s = t
        · subst hst
          have hb2 : (s == s) = true := by simp
          have hRn : rn (x.locals.take (j + 1)) = pre ++ [(c + 1, s)] := by rw [HNR.out, hR0]; exact rnStep_same
          have hl1 : (pre.map Prod.fst).length = K0 := by simp [hK0]
          have hgr : wr.grownBy (wr.setCell ⟨gc, K0, none⟩ (.int .i64 (c + 1))) (some gc) := grown_cells gc [.int .i64 (c + 1)] K0 wr
          have HRC2 : Hid (RW (wr.setCell ⟨gc, K0, none⟩ (.int .i64 (c + 1))) wb.heap.size (.slice (some ⟨gc, 0, none⟩) K kc) ((rn (x.locals.take (j + 1))).map Prod.fst)) := hideR (by
            have h1 := HRC.out
            rw [hcs2, hKK, ← hl1] at h1
            have h2 := h1.bump (c + 1)
            rw [hl1, ← hKK] at h2
            rw [hRn]; simpa using h2)
          have HRT2 : Hid (RW (wr.setCell ⟨gc, K0, none⟩ (.int .i64 (c + 1))) wb.heap.size (.slice (some ⟨gt, 0, none⟩) K kt) ((rn (x.locals.take (j + 1))).map Prod.snd)) := hideR (by
            have h1 := HRT.out.grown hgr (ne_row fun q hq e => by injection e with e; have : gt = q := by simpa [Value.ownBlock] using hq
                                                                  omega)
            rw [hts2] at h1
            rw [hRn]; simpa using h1)
          have HBR2 := hideR (HBR.out.setCell (p := ⟨gc, K0, none⟩) hgc1 (.int .i64 (c + 1)))
          clear hcs hts hcs2 hts2 hR0 hKl hK0 hKK hcsl htsl HNR HRb HRC HRT hRn hl1 hgr hbx
          have hK9 := lt_fact hK4
          have hj9 := lt_fact hgo
          have HJ10 : Hid (wrap64 ((j : Int) + 1) = (j : Int) + 1) := hideR (inc_fact2 hgo hll)
          clear hgg hgc1 hgc2 hgt1 hgt2 hbLl hbFl hsb' hll hKb hcb htt
          go_wp2_with fail
          go_quiet (fail)
          have hj10 := HJ10.out
          go_wp2
          clear hK2 hK4 hK5 hK6 hK7 hK8 hK9 hj9 hw9 hb2
          go_roundw
          case rel => exact ⟨j + 1, _, _, by omega, rfl, rfl, by go_num, hideR HRC2.out, hideR HRT2.out, HAP, hideR ⟨HBR2.out.1, HBR2.out.2, HBR2.out.3, HBR2.out.size, HBR2.out.block⟩⟩
          case measure => exact mea hgo hj10
        · have hb2 : (s == t) = false := by simp [hst]
          have HNX : Hid ((rn (x.locals.take (j + 1))).map Prod.fst = cs ++ [1] ∧ (rn (x.locals.take (j + 1))).map Prod.snd = ts ++ [t]) := hideR (by rw [HNR.out, ← hcs, ← hts, hR0, rnStep_other hst]; simp)
          clear hcs hts hcs2 hts2 hR0 hKl hK0 hKK HNR HRb
          have HCS : Hid (cs.length ≤ 1000000) := hideR (by rw [hcsl]; exact hKb)
          have HTS : Hid (ts.length ≤ 1000000) := hideR (by rw [htsl]; exact hKb)
          have HLC : Hid (cs.length = ts.length) := hideR (by rw [hcsl, htsl])
          have HTT : Hid ((1 : Int) ≠ t) := hideR (by omega)
          have hsz : wb.heap.size ≤ wr.heap.size := HBR.out.size
          have HVC : Hid (∀ k, (Value.slice (some ⟨gc, 0, none⟩) K kc).ownBlock = some k → k < wr.heap.size ∧ wb.heap.size ≤ k) := hideR fun k hk => ⟨(World.ownsRow.lt HRC.out k hk).2, (World.ownsRow.lt HRC.out k hk).1⟩
          have HVT : Hid (∀ k, (Value.slice (some ⟨gt, 0, none⟩) K kt).ownBlock = some k → k < wr.heap.size ∧ wb.heap.size ≤ k) := hideR fun k hk => ⟨(World.ownsRow.lt HRT.out k hk).2, (World.ownsRow.lt HRT.out k hk).1⟩
          have HKL := hideR (⟨kl, ct⟩ : _ ∧ _)
          have HLT := hideR (⟨hbFl, hbLl, hsz⟩ : _ ∧ _ ∧ _)
          clear hbx hbFl hbLl hsz hKb htt hcsl htsl
          have hK9 := lt_fact hK4
          have hj9 := lt_fact hgo
          have HJ10 : Hid (wrap64 ((j : Int) + 1) = (j : Int) + 1) := hideR (inc_fact2 hgo hll)
          clear hgg hgc1 hgc2 hgt1 hgt2 hsb' hll hcb hw9 fC cC
          go_wp2_with fail
          go_quiet (fail)
          go_upto_region 9 with fail
          refine Reg.wp_region_eff 11 (fun i => 42 + i) (fpC (.slice (some ⟨gc, 0, none⟩) K kc) (.slice (some ⟨gt, 0, none⟩) K kt)) (KC wb wr (.slice (some ⟨gc, 0, none⟩) K kc) (.slice (some ⟨gt, 0, none⟩) K kt)) (RC (.slice (some ⟨gc, 0, none⟩) K kc) (.slice (some ⟨gt, 0, none⟩) K kt) cs ts wb.heap.size) (GC wr (.slice (some ⟨gc, 0, none⟩) K kc) (.slice (some ⟨gt, 0, none⟩) K kt) cs ts bF wb.heap.size (.slice (some ⟨bL, off1, none⟩) n kL) bL off1 j t) (by kernel_rfl) (by kernel_rfl) (fun i j h1 h2 h => by have h' : 42 + i = 42 + j := h; omega) (Reg.dst_ok (size := 80) (by kernel_rfl)) (fun i k v u u' hi hk hik _ hG hg => GC_stab (fun k h => (HVC.out k h).1) (fun k h => (HVT.out k h).1) HAP.out i k v u u' hi hik hG hg) (fun i k u u' hi hk hik hR hg => RC_stab HAP.out i k u u' hik hR hg) (fun k u u' hk h hg => KC_step (fun k h => (HVC.out k h).2) (fun k h => (HVT.out k h).2) k u u' h hg) ?hstep ?htail ⟨HBR.out.trans ⟨rfl, rfl, rfl, Nat.le_refl _, fun _ _ => rfl⟩, Nat.le_refl _, fun _ _ _ _ => rfl⟩ (fun i hi => by
            unfold RC
            split
            · exact HRC.out
            · exact HRT.out
            · trivial)
          case hstep =>
            intro i o a u hi ho hF hKu hRi hd
            have f1 : a.tmps[1]?.getD undef = .pointer (some ⟨bF, 0, none⟩) := Reg.ev_get (hF.eval 1 (fun i hi => by show 42 + i ≠ 1; omega))
            have f4 : a.tmps[4]?.getD undef = .slice (some ⟨gc, 0, none⟩) K kc := Reg.ev_get (hF.eval 4 (fun i hi => by show 42 + i ≠ 4; omega))
            have f5 : a.tmps[5]?.getD undef = .slice (some ⟨gt, 0, none⟩) K kt := Reg.ev_get (hF.eval 5 (fun i hi => by show 42 + i ≠ 5; omega))
            have f6 : a.tmps[6]?.getD undef = .int .i64 j := Reg.ev_get (hF.eval 6 (fun i hi => by show 42 + i ≠ 6; omega))
            have kl := KC_cell hKu HLT.out.1 (fun k h => (HVC.out k h).2) (fun k h => (HVT.out k h).2) HLT.out.2.2 HKL.out.1
            have ct := KC_cell hKu HLT.out.2.1 (fun k h => (HVC.out k h).2) (fun k h => (HVT.out k h).2) HLT.out.2.2 HKL.out.2
            have hcase : i = 0 ∨ i = 1 ∨ i = 2 ∨ i = 3 ∨ i = 4 ∨ i = 5 ∨ i = 6 ∨ i = 7 ∨ i = 8 ∨ i = 9 ∨ i = 10 := by omega
            clear hi
            rcases hcase with rfl | rfl | rfl | rfl | rfl | rfl | rfl | rfl | rfl | rfl | rfl
            all_goals (simp only [List.getElem?_toArray, List.getElem?_cons_succ, List.getElem?_cons_zero, Option.some.injEq] at ho; subst ho)
            · refine Reg.step_k fun K hK => ?_
              go_simp
              exact hK _ _ ⟨_, rfl, grown_refl _ _, rfl⟩
            · refine Reg.step_k fun K hK => ?_
              go_simp
              exact hK _ _ ⟨_, rfl, World.grownBy_alloc _ _ _, ⟨_, rfl, hKu.2.1, heap_new _ _⟩⟩
            · have q0 : a.eval (.tmp 42) = .slice (some ⟨gc, 0, none⟩) K kc := hd 0 (by decide)
              obtain ⟨b, q1, q2, q3⟩ := (show ∃ b, a.eval (.tmp 43) = .slice (some ⟨b, 0, none⟩) 1 1 ∧ wr.heap.size ≤ b ∧ u.heap[b]? = some (.cells #[.int .i64 1] 3 (0, 0)) from hd 1 (by decide))
              exact op_one _ _ rfl (show RW u wb.heap.size (.slice (some ⟨gc, 0, none⟩) K kc) cs from hRi) q0 b q1 1 q3 HCS.out hKu.1.size fun v' w' h1 h2 h3 => ⟨v', rfl, h2, h1, h3.imp id fun h => ⟨_, h, hKu.2.1⟩⟩
            · refine Reg.step_k fun K hK => ?_
              go_simp
              exact hK _ _ ⟨_, rfl, grown_refl _ _, rfl⟩
            · refine Reg.step_k fun K hK => ?_
              go_simp
              exact hK _ _ ⟨_, rfl, grown_refl _ _, rfl⟩
            · have q0 : a.tmps[46]?.getD undef = .pointer (some ⟨bF, 1, none⟩) := Reg.ev_get (hd 4 (by decide))
              refine Reg.step_k fun K hK => ?_
              go_simp
              exact hK _ _ ⟨_, rfl, grown_refl _ _, rfl⟩
            · refine Reg.step_k fun K hK => ?_
              go_simp
              exact hK _ _ ⟨_, rfl, grown_refl _ _, rfl⟩
            · have q0 : a.tmps[47]?.getD undef = .slice (some ⟨bL, off1, none⟩) n kL := Reg.ev_get (hd 5 (by decide))
              have q1 : a.tmps[48]?.getD undef = .int .i64 j := Reg.ev_get (hd 6 (by decide))
              refine Reg.step_k fun K hK => ?_
              go_simp
              exact hK _ _ ⟨_, rfl, grown_refl _ _, rfl⟩
            · have q0 : a.tmps[49]?.getD undef = .pointer (some ⟨bL, off1 + j, none⟩) := Reg.ev_get (hd 7 (by decide))
              refine Reg.step_k fun K hK => ?_
              go_simp
              exact hK _ _ ⟨_, rfl, grown_refl _ _, rfl⟩
            · have q0 : a.tmps[50]?.getD undef = .int .i64 t := Reg.ev_get (hd 8 (by decide))
              refine Reg.step_k fun K hK => ?_
              go_simp
              exact hK _ _ ⟨_, rfl, World.grownBy_alloc _ _ _, ⟨_, rfl, hKu.2.1, heap_new _ _⟩⟩
            · have q0 : a.eval (.tmp 45) = .slice (some ⟨gt, 0, none⟩) K kt := hd 3 (by decide)
              obtain ⟨b, q1, q2, q3⟩ := (show ∃ b, a.eval (.tmp 51) = .slice (some ⟨b, 0, none⟩) 1 1 ∧ wr.heap.size ≤ b ∧ u.heap[b]? = some (.cells #[.int .i64 t] 3 (0, 0)) from hd 9 (by decide))
              exact op_one _ _ rfl (show RW u wb.heap.size (.slice (some ⟨gt, 0, none⟩) K kt) ts from hRi) q0 b q1 t q3 HTS.out hKu.1.size fun v' w' h1 h2 h3 => ⟨v', rfl, h2, h1, h3.imp id fun h => ⟨_, h, hKu.2.1⟩⟩
          case htail =>
            intro a u hF hKu hG
            have g2 : RW u wb.heap.size (a.eval (.tmp 44)) (cs ++ [1]) := (hG 2 (by omega)).1
            have g10 : RW u wb.heap.size (a.eval (.tmp 52)) (ts ++ [t]) := (hG 10 (by omega)).1
            obtain ⟨xl, hxl, rfl, hev⟩ := hF.lit (by simp)
            obtain ⟨x0, x1, x2, x3, x4, x5, x6, x7, x8, x9, x10, rfl⟩ := len11 hxl
            have e2 := hev 2 (by omega)
            have e10 := hev 10 (by omega)
            simp only [List.getD_cons_succ, List.getD_cons_zero] at e2 e10
            rw [show (42 + 2) = 44 from rfl] at e2
            rw [show (42 + 10) = 52 from rfl] at e10
            rw [e2] at g2
            rw [e10] at g10
            have HAP2 := hideR (g2.apart g10 HLC.out HTT.out)
            have HRC2 : Hid (RW u wb.heap.size x2 ((rn (x.locals.take (j + 1))).map Prod.fst)) := hideR (by rw [HNX.out.1]; exact g2)
            have HRT2 : Hid (RW u wb.heap.size x10 ((rn (x.locals.take (j + 1))).map Prod.snd)) := hideR (by rw [HNX.out.2]; exact g10)
            have HBR2 := hideR hKu.1
            clear hev hxl hF hG g2 g10 e2 e10 hKu
            simp only [List.take_succ_cons, List.take_zero, List.drop_succ_cons, List.drop_zero, List.cons_append, List.nil_append]
            have hj10 := HJ10.out
            clear hK2 hK4 hK5 hK6 hK7 hK8 hK9 hj9 hb2 hst
            go_wp2
            go_roundw
            case rel => exact ⟨j + 1, x2, x10, by omega, rfl, rfl, by go_num, HRC2, HRT2, HAP2, HBR2⟩
            case measure => exact mea hgo hj10
    · obtain rfl : n = j := by omega
      have hP := HP0.out.on HBR.out
      have HKB : Hid (bF ≠ bF + 1 ∧ bF < wr.heap.size) := hideR ⟨by omega, by have := HBR.out.size; omega⟩
      have HBX2 := hideR hbx
      clear hbx
      obtain ⟨R, hR⟩ : ∃ R, rn x.locals = R := ⟨_, rfl⟩
      rw [List.take_of_length_le (by have := HNN.out; omega), hR] at HRC HRT
      have hKb : R.length ≤ 1000000 := by have := (rn_bound x.locals).1; rw [hR] at this; have := HNN.out; omega
      have HRb : Hid (∀ y ∈ R, 1 ≤ y.1 ∧ y.1 ≤ 1000000) := hideR fun y hy => by
        have h1 := (rn_bound x.locals).2 y (by rw [hR]; exact hy)
        have h2 := h1.2.1
        have h3 := HNN.out
        exact ⟨h1.1, by omega⟩
      obtain ⟨oc, kc, rfl⟩ := HRC.out.slice
      obtain ⟨ot, kt, rfl⟩ := HRT.out.slice
      have hfst : ∀ (i : Nat) (y : Int × Int), R[i]? = some y → (R.map Prod.fst)[i]? = some y.1 := fun i y h => by rw [List.getElem?_map, h]; rfl
      have hsnd : ∀ (i : Nat) (y : Int × Int), R[i]? = some y → (R.map Prod.snd)[i]? = some y.2 := fun i y h => by rw [List.getElem?_map, h]; rfl
      have HRO : Hid (0 < R.length → ∃ gc gt, oc = some ⟨gc, 0, none⟩ ∧ ot = some ⟨gt, 0, none⟩ ∧ bF + 1 < gc ∧ bF + 1 < gt ∧ gc < wr.heap.size ∧ gt < wr.heap.size ∧ ∀ (i : Nat) (y : Int × Int), R[i]? = some y → wr.cell? ⟨gc, i, none⟩ = some (.int .i64 y.1) ∧ wr.cell? ⟨gt, i, none⟩ = some (.int .i64 y.2)) := hideR fun h0 => by
        obtain ⟨gt, capt, hvt, hgt1, hgt2, hct, _⟩ := HRT.out.cells (by simpa using h0)
        obtain ⟨gc, capc, hvc, hgc1, hgc2, hcc, _⟩ := HRC.out.cells (by simpa using h0)
        injection hvt with hvt _ _
        injection hvc with hvc _ _
        exact ⟨gc, gt, hvc, hvt, by omega, by omega, hgc2, hgt2, fun i y h => ⟨hcc i _ (hfst i y h), hct i _ (hsnd i y h)⟩⟩
      simp only [List.length_map] at *
      have HCOD : Hid (codB x = Leb.uB (R.length : Int) ++ (R.flatMap fun y => Leb.uB y.1 ++ [y.2 % 256]) ++ (bytesI d x.body ++ [11])) := hideR (by unfold codB locB; rw [hR])
      have HC := hideR (dU w (bF + 1) false (.slice none 0 0) [] [] (R.length : Int) wr hP St.nil (by omega) (by omega))
      rw [List.nil_append] at HC
      clear HP0 HRC HRT HAP hfst hsnd hP hR HBX HL HTY
      generalize hKl : R.length = K at *
      have HKL := hideR hKl
      clear hKl
      obtain ⟨u0, hu0⟩ : ∃ u0, Leb.uB (K : Int) = u0 := ⟨_, rfl⟩
      rw [hu0] at HC HCOD
      clear hu0
      go_wp2_with fail
      refine HC.out.mono ?_
      rintro e w1 ⟨ov1, v1, b1, rfl, h1, s1, k1⟩
      have HPS1 := hideR h1
      have HST1 := hideR s1
      have HK1 := hideR k1
      clear h1 s1 k1 HC
      go_wp2_with fail
      go_loopw [8] (fun i w2 => ∃ (j2 : Nat) (ov3 : Bool) (v3 : Value) (b3 : List Int), j2 ≤ K ∧ i = .int .i64 j2 ∧ Hid (PS w (bF + 1) ov3 v3 b3 w2) ∧ Hid (St (u0 ++ (R.take j2).flatMap fun y : Int × Int => Leb.uB y.1 ++ [y.2 % 256]) ov3 b3) ∧ Hid (Kept (bF + 1) (.slice none 0 0) wr v3 w2)) (fun i _ => K - (Lib.intOf i).toNat)
      case atStart => exact ⟨0, ov1, v1, b1, by omega, rfl, HPS1, hideR (by simpa using HST1.out), HK1⟩
      case round =>
        clear HPS1 HST1 HK1
        obtain ⟨j2, ov3, v3, b3, hj2, rfl, HPS, HST, HKW⟩ := hrel
        by_cases hgo2 : j2 < K
        · obtain ⟨gc, gt, rfl, rfl, g1, g2, g3, g4, hcell⟩ := HRO.out (by have := HKL.out; omega)
          obtain ⟨y, hyk⟩ : ∃ y, R[j2]? = some y := ⟨_, List.getElem?_eq_getElem (by have := HKL.out; omega)⟩
          obtain ⟨cy0, cy1⟩ := hcell j2 y hyk
          have hyb := HRb.out y (List.mem_of_getElem? hyk)
          have HTK : Hid ((R.take (j2 + 1)).flatMap (fun y : Int × Int => Leb.uB y.1 ++ [y.2 % 256]) = (R.take j2).flatMap (fun y : Int × Int => Leb.uB y.1 ++ [y.2 % 256]) ++ (Leb.uB y.1 ++ [y.2 % 256])) := hideR (fm_take hyk)
          have HG := hideR (⟨g1, g2, g3, g4, cy0, cy1⟩ : _ ∧ _ ∧ _ ∧ _ ∧ _ ∧ _)
          have hbc := HKW.out.block gc g3 (by omega) (by simp [Value.ownBlock])
          have cz0 := (World.cell?_of_block (a := ⟨gc, j2, none⟩) hbc).trans cy0
          obtain ⟨y0, y1⟩ := y
          simp only at cz0 hyb
          clear hcell hyk hbc cy0 cy1 g1 g2 g3 g4
          have HC := hideR (dU w (bF + 1) ov3 v3 b3 _ y0 _ HPS.out HST.out (by omega) (by omega))
          go_wp2_with fail
          refine HC.out.mono ?_
          rintro e w4 ⟨ov4, v4, b4, rfl, h4, s4, k4⟩
          have HPS4 := hideR h4
          have HST4 := hideR s4
          have HK4 := hideR (HKW.out.trans k4)
          clear h4 s4 k4 HC cz0
          have hbt := HK4.out.block gt HG.out.2.2.2.1 (by have := HG.out.2.1; omega) (by simp [Value.ownBlock])
          have cz1 := (World.cell?_of_block (a := ⟨gt, j2, none⟩) hbt).trans HG.out.2.2.2.2.2
          clear hbt
          have HC := hideR (dByte w (bF + 1) ov4 v4 b4 _ y1 w4 HPS4.out HST4.out)
          go_wp2_with fail
          refine HC.out.mono ?_
          rintro e w5 ⟨ov5, v5, b5, rfl, h5, s5, k5⟩
          have HPS5 := hideR h5
          have HST5 : Hid (St (u0 ++ (R.take (j2 + 1)).flatMap fun y : Int × Int => Leb.uB y.1 ++ [y.2 % 256]) ov5 b5) := hideR (by rw [HTK.out]; simpa [List.append_assoc] using s5)
          have HK5 := hideR (HK4.out.trans k5)
          clear h5 s5 k5 HC cz1
          go_wp2
          go_roundw
          case rel => exact ⟨j2 + 1, ov5, v5, b5, by omega, by go_num, HPS5, HST5, HK5⟩
          case measure => simp [Lib.intOf]; omega
        · obtain rfl : K = j2 := by omega
          have hbf := HKW.out.block bF HKB.out.2 HKB.out.1 (by simp [Value.ownBlock])
          have kb := (World.cell?_of_block (a := ⟨bF, 2, none⟩) hbf).trans (HBX2.out.cell 2 _ rfl)
          clear hbf
          have HST2 : Hid (St (u0 ++ R.flatMap fun y : Int × Int => Leb.uB y.1 ++ [y.2 % 256]) ov3 b3) := hideR (by have h1 := HST.out; rw [List.take_of_length_le (by have := HKL.out; omega)] at h1; exact h1)
          have HC := hideR (dExpr w (bF + 1) d _ x.body ov3 v3 b3 _ _ HPS.out HST2.out HB.out HR.out)
          go_wp2_with fail
          refine HC.out.mono ?_
          rintro e w5 ⟨ov5, v5, b5, rfl, h5, s5, k5⟩
          have HF := hideR (⟨h5, by rw [HCOD.out]; exact s5⟩ : PS w (bF + 1) ov5 v5 b5 w5 ∧ St (codB x) ov5 b5)
          clear h5 s5 k5 HC kb
          go_wp2
          go_ret
          exact ⟨_, _, _, _, rfl, HF.out.1, HF.out.2⟩
end Go.Proofs.YtlcpagiljfpbpaaGreatDoor

