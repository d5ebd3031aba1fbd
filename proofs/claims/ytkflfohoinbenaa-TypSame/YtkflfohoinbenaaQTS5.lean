/- Texts that the claim needs. -/
import Derived.Test.YtkflfohoinbenaaQTS4
import Derived.Deep.QuietTactic
import Derived.BigQuiet
import Derived.Test.YtkflfohoinbenaaQTS0
namespace Go.Proofs.Ytkflfohoinbenaa
open Go.RowKit Lx Pz Rep Ty
set_option linter.unusedVariables false
set_option maxRecDepth 100000
set_option maxHeartbeats 8000000
theorem t_end {f:Bool} {S:Nat->Prop} {B p n:Nat} {h:Nat->Value} {vs:Value} {w:World} (hS:SO S B n h p vs w) {b o:Nat} {t:Value} (hT:TyE f S w n b o t):Calls Try.prog 42 #[.pointer (some ⟨p,0,none⟩),.pointer (some ⟨b,o,none⟩)] w fun e w'=>∃b' o',e=.returned (.pointer (some ⟨b',o',none⟩))/\TyE f S w' n b' o' (endT h t)/\endT h (endT h t)=endT h t/\SO S B n h p vs w'/\Kv vs w w':=by
 rcases hT.cases with ⟨j,hj,rfl,k0,k2⟩|⟨k,hk,k0,hkk,hnv⟩
 ·obtain ⟨hSS,ls,rk,hV,hK⟩:=hS
  have HSS:=hideR hSS
  clear hSS
  have hln:=hK.len
  obtain ⟨g,cap,hvs,hBg⟩:∃g cap,vs=.slice (some ⟨g,0,none⟩) n cap/\B<=g:=by
   obtain ⟨g,cap,h1,h2⟩:=hV.form (by omega)
   exact ⟨g,cap,by rw [h1,hln],h2⟩
  have HV:=hideR hV
  have HK:=hideR hK
  have HT0:=hideR hT
  have HVar0:=hideR (by have hh:=hV;subst hvs;subst hln;exact t_variable hh b o j hj k0 k2)
  have HGO:Hid (∀u,Below w.heap.size w u->∀b1 o1 i,i<n->TyE f S w n b1 o1 (vr i)->Calls Try.prog 59 #[.pointer (some ⟨p,0,none⟩),.pointer (some ⟨b1,o1,none⟩)] u fun e w'=>e=.returned (.pointer (some ⟨g,i*2,none⟩))/\Below u.heap.size u w'):=hideR (fun u hu b1 o1 i hi ht=>by
   have hh:=hV.on hu
   obtain ⟨_,c0,c2⟩:=(ht.bel hu).cell
   subst hvs;subst hln
   exact t_variable hh b1 o1 i hi c0 c2)
  have HCL:Hid (∀u,Below w.heap.size w u->∀i l,ls[i]?=some l->u.cell? ⟨g,i*2,none⟩=some l):=hideR (fun u hu i l hl=>by
   have hh:=hV.on hu
   subst hvs;subst hln
   exact (hh.cell hl).1)
  have HVS:=hideR hvs
  clear hT hV hK k0 k2 hvs
  go_enter Try.func42,Try.ntmps42
  go_wp2_with fail
  refine Calls.mono (show Calls _ _ _ _ _ from HVar0.out) ?_
  rintro e w1 ⟨rfl,hb1⟩
  have HB1:=hideR hb1
  clear hb1 HVar0
  go_wp2_with fail
  go_loopw [5,6] (fun a v wr=>∃b1 o1 t1 R,a=.pointer (some ⟨b1,o1,none⟩)/\Hid (TyE f S w n b1 o1 t1)/\Hid (endT h t1=h j)/\((∃j1,t1=vr j1/\j1<n/\v=.pointer (some ⟨g,j1*2,none⟩))\/(kindV t1≠2/\v=.pointer none))/\Hid (Below w.heap.size w wr)/\Hid (∀i,t1=vr i->rk i<R)/\Hid (∀zb zo E m,Pth S w n rk ls zb zo E R m b1 o1->∃m',Pth S w n rk ls zb zo E (rk j+1) m' b o)/\Hid ((b1=b/\o1=o)\/TyE true S w n b1 o1 t1)) (fun _ v _=>match v with | .pointer (some ad)=>rk (ad.off / 2)+1|_=>0)
  case atStart=>exact ⟨b,o,_,rk j+1,rfl,HT0,hideR (endT_vr h j),.inl ⟨j,rfl,hj,rfl⟩,HB1,hideR (fun i hi=>by rw [vr_inj hi];omega),hideR (fun zb zo E m hp=>⟨m,hp⟩),hideR (.inl ⟨rfl,rfl⟩)⟩
  case round =>
   obtain ⟨b1,o1,t1,R,rfl,HZ,HEJ,hv,HB,HR,HC,HD⟩:=hrel
   have HJ:Hid (t1=t1):=hideR rfl
   rcases hv with ⟨j1,rfl,hj1,rfl⟩|⟨hk1,rfl⟩
   ·obtain ⟨l,hl⟩:∃l,ls[j1]?=some l:=⟨_,List.getElem?_eq_getElem (by omega)⟩
    have y0:=HCL.out _ HB.out j1 l hl
    rcases HK.out.ok j1 l hl with ⟨rfl,hh⟩|⟨b2,o2,t2,rfl,ht2,he2,hr2,hn2⟩
    ·obtain ⟨E,hE⟩:∃E,E=vr j1:=⟨_,rfl⟩
     have HBD:=hideR (fun u=>t_bound u none)
     clear HJ
     have HJ:Hid (E=endT h (vr j)):=hideR (by rw [endT_vr,<- HEJ.out,endT_vr,hh,hE])
     have HE:Hid (endT h E=E):=hideR (by rw [hE,endT_vr,hh])
     have HEh:Hid (endT h (vr j)=E):=hideR HJ.out.symm
     have HU:Hid (∀i,E=vr i->ls[i]?=some (.pointer none)):=hideR (fun i hi=>by rw [hE] at hi;rw [<- vr_inj hi];exact hl)
     have HZ':=hideR (show TyE f S w n b1 o1 E by rw [hE];exact HZ.out)
     have HP:Hid (∃m,Pth S w n rk ls b1 o1 E (rk j+1) m b o/\(m=0\/TyE true S w n b1 o1 E)):=hideR (by
      obtain ⟨m,hm⟩:=HC.out b1 o1 E 0 ⟨rfl,rfl,fun i hi=>HR.out i (hE.symm.trans hi)⟩
      rcases HD.out with ⟨e1,e2⟩|h1
      ·subst e1 e2;exact ⟨0,⟨rfl,rfl,hm.rank⟩,.inl rfl⟩
      ·exact ⟨m,hm,.inr (by rw [hE];exact h1)⟩)
     clear HZ HR HC HD HEJ hh hE hl HCL HGO
     have HZ:=HZ'
     clear HZ'
     go_wp2_with fail
     refine Calls.mono (HBD.out _) ?_
     rintro e u1 ⟨rfl,hb⟩
     have HBx:=hideR (below_go HB.out hb)
     clear HB hb HBD y0
     have HB:=HBx
     clear HBx
     go_wp2_with fail
     go_loopw [1] (fun a u=>∃b2 o2 t2 ls2 m R,a=.pointer (some ⟨b2,o2,none⟩)/\Hid (TyE false S w n b2 o2 t2/\endT h t2=E)/\Hid (Pth S w n rk ls2 b1 o1 E R m b2 o2/\(m=0\/TyE true S w n b1 o1 E))/\Hid (SV B p ls2 vs u/\LK S w n h rk ls2/\∀i,E=vr i->ls2[i]?=some (.pointer none))/\Hid (Kv vs w u)) (fun a _=>rkA w rk a)
     case atStart =>
      obtain ⟨m,hm⟩:=HP.out
      exact ⟨b,o,_,ls,m,_,rfl,hideR ⟨HT0.out.drop,HEh.out⟩,hideR hm,hideR ⟨HV.out.on HB.out,HK.out,HU.out⟩,hideR (Kv.of HB.out)⟩
     case round =>
      obtain ⟨b2,o2,t2,ls2,m,R,rfl,HT2,HP2,HS2,HK2⟩:=hrel
      cases m with
      | zero =>
       obtain ⟨⟨rfl,rfl,_⟩,_⟩:=HP2.out
       have q1:=ptr_same wr ⟨b2,o2,none⟩
       clear HP HB HU
       go_wp2
       go_ret
       exact ⟨_,_,rfl,HJ.out ▸ HZ.out.kv HK2.out HSS.out.2,HJ.out ▸ HE.out,⟨HSS.out,ls2,rk,HS2.out.1,HS2.out.2.1.on (HK2.out.x HSS.out.2) fun _ _ h=>h⟩,HK2.out⟩
      | succ m =>
       obtain ⟨⟨j2,b3,o3,ht2,hr2,hl2,hp2⟩,hst⟩:=HP2.out
       have hst:TyE true S w n b1 o1 E:=hst.resolve_left (by omega)
       have HST:=hideR hst
       obtain rfl:=ht2.same HT2.out.1
       have hvs:=HVS.out
       have hne:¬ (b2=b1/\o2=o1):=fun ⟨e1,e2⟩=>by
        subst e1 e2
        have h1:=HS2.out.2.2 j2 (ht2.same HZ.out)
        rw [hl2] at h1
        injection h1 with h1;cases h1
       have hj2:=ht2.cell.1
       have hln2:=HS2.out.2.1.len
       obtain ⟨_,c0,c2⟩:=(ht2.kv HK2.out HSS.out.2).cell
       have HVar:=hideR (by have hh:=HS2.out.1;subst hvs;subst hln2;exact t_variable hh b2 o2 j2 hj2 c0 c2)
       have HR:=hideR (And.intro ht2 (And.intro hl2 (And.intro hp2 hr2)))
       have HN:=hideR hne
       have q1:(binOp BinOp.neq 67 (.pointer (some ⟨b2,o2,none⟩)) (.pointer (some ⟨b1,o1,none⟩))).run Try.prog wr=.ok (.bool true) wr:=by
        obtain ⟨v1,hv1⟩:=(hst.kv HK2.out HSS.out.2).any
        exact ptr_other (fun e=>hne (by injection e with e1 e2;exact ⟨e1,e2⟩)) c0 hv1 (hst.kv HK2.out HSS.out.2).uf
       clear ht2 hl2 hp2 hr2 hne hst c0 c2 hvs HP HB HU
       go_wp2_with fail
       refine Calls.mono (show Calls _ _ _ _ _ from HVar.out) ?_
       rintro e u1 ⟨rfl,hb⟩
       obtain ⟨ht2,hl2,hp2,hr2⟩:=HR.out
       have hvs:=HVS.out
       have hsv:=HS2.out.1.on hb
       obtain ⟨hfz,hsv2⟩:=(hvs ▸ hsv:SV B p ls2 (.slice (some ⟨g,0,none⟩) n cap) u1).put hln2 hj2 (.pointer (some ⟨b1,o1,none⟩))
       have y0:=((by subst hvs;subst hln2;exact hsv.cell hl2:u1.cell? ⟨g,j2*2,none⟩=some (.pointer (some ⟨b3,o3,none⟩))/\_)).1
       obtain ⟨W,hW⟩:∃W,W=u1.setCell ⟨g,j2*2,none⟩ (.pointer (some ⟨b1,o1,none⟩)):=⟨_,rfl⟩
       have HK3:=hideR (show Kv vs w W by rw [hW];exact (HK2.out.trans (Kv.of hb)).set (by rw [hvs];rfl) _ _)
       have HSV:=hideR (show SV B p (ls2.set j2 (.pointer (some ⟨b1,o1,none⟩))) vs W by rw [hW,hvs];exact hsv2)
       have hhj:h j2=E:=(endT_vr h j2).symm.trans HT2.out.2
       have HLK:=hideR (HS2.out.2.1.put hl2 HST.out (HE.out.trans hhj.symm) (hp2.rank))
       have HPP:=hideR (And.intro (hp2.put (x:=.pointer (some ⟨b1,o1,none⟩)) (j:=j2) _ _ _ _ (Nat.le_refl _)) (Or.inr (a:=m=0) HST.out))
       have HUU:Hid (∀i,E=vr i->(ls2.set j2 (.pointer (some ⟨b1,o1,none⟩)))[i]?=some (.pointer none)):=hideR (fun i hi=>by
        have h1:=HS2.out.2.2 i hi
        rw [List.getElem?_set,if_neg (fun e=>by subst e;rw [hl2] at h1;injection h1 with h1;cases h1)]
        exact h1)
       have hlo:=HS2.out.2.1.ok j2 _ hl2
       have HNX:Hid (∃t3,TyE false S w n b3 o3 t3/\endT h t3=E/\∀i,t3=vr i->rk i<rk j2):=hideR (by
        rcases hlo with ⟨h1,_⟩|⟨b4,o4,t3,h1,h2,h3,h4,_⟩
        ·injection h1 with h1;cases h1
        ·injection h1 with h1;injection h1 with h1;injection h1 with e1 e2
         subst e1 e2
         exact ⟨t3,h2.drop,h3.trans hhj,h4⟩)
       have HMS:=hideR (rkA_var (rk:=rk) ht2)
       clear ht2 hl2 hp2 hr2 hsv hsv2 hlo hhj hb hvs HVar
       go_wp2_with fail
       first|rw [<- hW]|skip
       go_roundw
       case rel =>
        obtain ⟨t3,h1,h2,h3⟩:=HNX.out
        exact ⟨b3,o3,t3,_,m,_,rfl,hideR ⟨h1,h2⟩,HPP,hideR ⟨HSV.out,HLK.out,HUU.out⟩,HK3⟩
       case measure =>
        obtain ⟨t3,h1,h2,h3⟩:=HNX.out
        rw [HMS.out]
        exact rkA_lt h1 h3
    ·have HBD:=hideR (fun u=>t_bound u (some ⟨b2,o2,none⟩))
     have HT2:=hideR (ht2.weak (f:=f))
     have HE2:=hideR (show endT h t2=h j from he2.trans ((endT_vr h j1).symm.trans HEJ.out))
     have HR2:=hideR hr2
     have HC2:Hid (∀zb zo E m,Pth S w n rk ls zb zo E (rk j1) m b2 o2->∃m',Pth S w n rk ls zb zo E (rk j+1) m' b o):=hideR (fun zb zo E m hp=>HC.out zb zo E (m+1) ⟨j1,b2,o2,HZ.out.drop,HR.out j1 rfl,hl,hp⟩)
     have HD2:Hid ((b2=b/\o2=o)\/TyE true S w n b2 o2 t2):=hideR (.inr ht2)
     clear HZ HEJ HR HC HD ht2 he2 hr2 hn2 hl HJ
     go_wp2_with fail
     refine Calls.mono (HBD.out _) ?_
     rintro e u1 ⟨rfl,hb⟩
     have HBx:=hideR (below_go HB.out hb)
     have y1:=cell_on hb y0
     clear HB hb HBD y0
     go_wp2_with fail
     rcases HT2.out.cases with ⟨i2,hi2,rfl,m0,m2⟩|⟨k2,hk2,m0,hkk2,hnv2⟩
     ·clear m0 m2
      refine Calls.mono (HGO.out _ HBx.out b2 o2 i2 hi2 HT2.out) ?_
      rintro e u2 ⟨rfl,hb⟩
      have HBy:=hideR (below_go HBx.out hb)
      have hlt:=hideR (HR2.out i2 rfl)
      clear hb HBx y1
      go_wp2_with fail
      go_roundw
      case rel=>exact ⟨b2,o2,_,rk j1,rfl,HT2,HE2,.inl ⟨i2,rfl,hi2,rfl⟩,HBy,HR2,HC2,HD2⟩
      case measure =>
       have:=hlt.out
       show rk (i2*2 / 2)+1<rk (j1*2 / 2)+1
       rw [Nat.mul_div_cancel _ (by decide),Nat.mul_div_cancel _ (by decide)]
       omega
     ·refine Calls.mono (t_novar _ _ b2 o2 k2 (cell_on HBx.out m0) hk2) ?_
      rintro e u2 ⟨rfl,hb⟩
      have HBy:=hideR (below_go HBx.out hb)
      clear hb HBx y1 m0 hnv2
      go_wp2_with fail
      go_roundw
      case rel=>exact ⟨b2,o2,_,rk j1,rfl,HT2,HE2,.inr ⟨by rw [hkk2];exact hk2,rfl⟩,HBy,HR2,HC2,HD2⟩
      case measure=>show 0<rk _+1;omega
   ·obtain ⟨E,hE⟩:∃E,E=t1:=⟨_,rfl⟩
    have hne:∀h,endT h t1=t1:=fun h=>by unfold endT;rw [if_neg hk1]
    clear HJ
    have HJ:Hid (E=endT h (vr j)):=hideR (by rw [endT_vr,<- HEJ.out,hne,hE])
    have HE:Hid (endT h E=E):=hideR (by rw [hE,hne])
    have HEh:Hid (endT h (vr j)=E):=hideR HJ.out.symm
    have HU:Hid (∀i,E=vr i->ls[i]?=some (.pointer none)):=hideR (fun i hi=>absurd (by rw [<- hE,hi];exact kind_vr i) hk1)
    have HZ':=hideR (show TyE f S w n b1 o1 E by rw [hE];exact HZ.out)
    have HP:Hid (∃m,Pth S w n rk ls b1 o1 E (rk j+1) m b o/\(m=0\/TyE true S w n b1 o1 E)):=hideR (by
     obtain ⟨m,hm⟩:=HC.out b1 o1 E 0 ⟨rfl,rfl,fun i hi=>HR.out i (hE.symm.trans hi)⟩
     rcases HD.out with ⟨e1,e2⟩|h1
     ·subst e1 e2;exact ⟨0,⟨rfl,rfl,hm.rank⟩,.inl rfl⟩
     ·exact ⟨m,hm,.inr (by rw [hE];exact h1)⟩)
    clear HZ HR HC HD HEJ hE HCL HGO hne hk1
    have HZ:=HZ'
    clear HZ'
    go_wp2_with fail
    go_loopw [1] (fun a u=>∃b2 o2 t2 ls2 m R,a=.pointer (some ⟨b2,o2,none⟩)/\Hid (TyE false S w n b2 o2 t2/\endT h t2=E)/\Hid (Pth S w n rk ls2 b1 o1 E R m b2 o2/\(m=0\/TyE true S w n b1 o1 E))/\Hid (SV B p ls2 vs u/\LK S w n h rk ls2/\∀i,E=vr i->ls2[i]?=some (.pointer none))/\Hid (Kv vs w u)) (fun a _=>rkA w rk a)
    case atStart =>
     obtain ⟨m,hm⟩:=HP.out
     exact ⟨b,o,_,ls,m,_,rfl,hideR ⟨HT0.out.drop,HEh.out⟩,hideR hm,hideR ⟨HV.out.on HB.out,HK.out,HU.out⟩,hideR (Kv.of HB.out)⟩
    case round =>
     obtain ⟨b2,o2,t2,ls2,m,R,rfl,HT2,HP2,HS2,HK2⟩:=hrel
     cases m with
     | zero =>
      obtain ⟨⟨rfl,rfl,_⟩,_⟩:=HP2.out
      have q1:=ptr_same wr ⟨b2,o2,none⟩
      clear HP HB HU
      go_wp2
      go_ret
      exact ⟨_,_,rfl,HJ.out ▸ HZ.out.kv HK2.out HSS.out.2,HJ.out ▸ HE.out,⟨HSS.out,ls2,rk,HS2.out.1,HS2.out.2.1.on (HK2.out.x HSS.out.2) fun _ _ h=>h⟩,HK2.out⟩
     | succ m =>
      obtain ⟨⟨j2,b3,o3,ht2,hr2,hl2,hp2⟩,hst⟩:=HP2.out
      have hst:TyE true S w n b1 o1 E:=hst.resolve_left (by omega)
      have HST:=hideR hst
      obtain rfl:=ht2.same HT2.out.1
      have hvs:=HVS.out
      have hne:¬ (b2=b1/\o2=o1):=fun ⟨e1,e2⟩=>by
       subst e1 e2
       have h1:=HS2.out.2.2 j2 (ht2.same HZ.out)
       rw [hl2] at h1
       injection h1 with h1;cases h1
      have hj2:=ht2.cell.1
      have hln2:=HS2.out.2.1.len
      obtain ⟨_,c0,c2⟩:=(ht2.kv HK2.out HSS.out.2).cell
      have HVar:=hideR (by have hh:=HS2.out.1;subst hvs;subst hln2;exact t_variable hh b2 o2 j2 hj2 c0 c2)
      have HR:=hideR (And.intro ht2 (And.intro hl2 (And.intro hp2 hr2)))
      have HN:=hideR hne
      have q1:(binOp BinOp.neq 67 (.pointer (some ⟨b2,o2,none⟩)) (.pointer (some ⟨b1,o1,none⟩))).run Try.prog wr=.ok (.bool true) wr:=by
       obtain ⟨v1,hv1⟩:=(hst.kv HK2.out HSS.out.2).any
       exact ptr_other (fun e=>hne (by injection e with e1 e2;exact ⟨e1,e2⟩)) c0 hv1 (hst.kv HK2.out HSS.out.2).uf
      clear ht2 hl2 hp2 hr2 hne hst c0 c2 hvs HP HB HU
      go_wp2_with fail
      refine Calls.mono (show Calls _ _ _ _ _ from HVar.out) ?_
      rintro e u1 ⟨rfl,hb⟩
      obtain ⟨ht2,hl2,hp2,hr2⟩:=HR.out
      have hvs:=HVS.out
      have hsv:=HS2.out.1.on hb
      obtain ⟨hfz,hsv2⟩:=(hvs ▸ hsv:SV B p ls2 (.slice (some ⟨g,0,none⟩) n cap) u1).put hln2 hj2 (.pointer (some ⟨b1,o1,none⟩))
      have y0:=((by subst hvs;subst hln2;exact hsv.cell hl2:u1.cell? ⟨g,j2*2,none⟩=some (.pointer (some ⟨b3,o3,none⟩))/\_)).1
      obtain ⟨W,hW⟩:∃W,W=u1.setCell ⟨g,j2*2,none⟩ (.pointer (some ⟨b1,o1,none⟩)):=⟨_,rfl⟩
      have HK3:=hideR (show Kv vs w W by rw [hW];exact (HK2.out.trans (Kv.of hb)).set (by rw [hvs];rfl) _ _)
      have HSV:=hideR (show SV B p (ls2.set j2 (.pointer (some ⟨b1,o1,none⟩))) vs W by rw [hW,hvs];exact hsv2)
      have hhj:h j2=E:=(endT_vr h j2).symm.trans HT2.out.2
      have HLK:=hideR (HS2.out.2.1.put hl2 HST.out (HE.out.trans hhj.symm) (hp2.rank))
      have HPP:=hideR (And.intro (hp2.put (x:=.pointer (some ⟨b1,o1,none⟩)) (j:=j2) _ _ _ _ (Nat.le_refl _)) (Or.inr (a:=m=0) HST.out))
      have HUU:Hid (∀i,E=vr i->(ls2.set j2 (.pointer (some ⟨b1,o1,none⟩)))[i]?=some (.pointer none)):=hideR (fun i hi=>by
       have h1:=HS2.out.2.2 i hi
       rw [List.getElem?_set,if_neg (fun e=>by subst e;rw [hl2] at h1;injection h1 with h1;cases h1)]
       exact h1)
      have hlo:=HS2.out.2.1.ok j2 _ hl2
      have HNX:Hid (∃t3,TyE false S w n b3 o3 t3/\endT h t3=E/\∀i,t3=vr i->rk i<rk j2):=hideR (by
       rcases hlo with ⟨h1,_⟩|⟨b4,o4,t3,h1,h2,h3,h4,_⟩
       ·injection h1 with h1;cases h1
       ·injection h1 with h1;injection h1 with h1;injection h1 with e1 e2
        subst e1 e2
        exact ⟨t3,h2.drop,h3.trans hhj,h4⟩)
      have HMS:=hideR (rkA_var (rk:=rk) ht2)
      clear ht2 hl2 hp2 hr2 hsv hsv2 hlo hhj hb hvs HVar
      go_wp2_with fail
      first|rw [<- hW]|skip
      go_roundw
      case rel =>
       obtain ⟨t3,h1,h2,h3⟩:=HNX.out
       exact ⟨b3,o3,t3,_,m,_,rfl,hideR ⟨h1,h2⟩,HPP,hideR ⟨HSV.out,HLK.out,HUU.out⟩,HK3⟩
      case measure =>
       obtain ⟨t3,h1,h2,h3⟩:=HNX.out
       rw [HMS.out]
       exact rkA_lt h1 h3
 ·have HN:=hideR (t_novar w (.pointer (some ⟨p,0,none⟩)) b o k k0 hk)
  have HT0:=hideR hT
  have HS0:=hideR hS
  have HNV:=hideR (hnv h)
  clear hT hS hnv k0
  go_enter Try.func42,Try.ntmps42
  go_wp2_with fail
  refine Calls.mono (show Calls _ _ _ _ _ from HN.out) ?_
  rintro e w1 ⟨rfl,hb1⟩
  have HB1:=hideR hb1
  clear hb1 HN
  go_wp2_with fail
  go_loopw [5,6] (fun a v wr=>a=.pointer (some ⟨b,o,none⟩)/\v=.pointer none/\wr=w1) (fun _ _ _=>0)
  case atStart=>exact ⟨rfl,rfl,rfl⟩
  case round =>
   obtain ⟨rfl,rfl,rfl⟩:=hrel
   go_wp2_with fail
   go_loopw [1] (fun a u=>a=.pointer (some ⟨b,o,none⟩)/\u=wr) (fun _ _=>0)
   case atStart=>exact ⟨rfl,rfl⟩
   case round =>
    obtain ⟨rfl,rfl⟩:=hrel
    have q1:=ptr_same wr ⟨b,o,none⟩
    go_wp2
    go_ret
    exact ⟨b,o,rfl,HNV.out.symm ▸ HT0.out.bel HB1.out,by rw [HNV.out,HNV.out],HS0.out.bel HB1.out,Kv.of HB1.out⟩
namespace Ty
def lkL (f:Nat->Value->Int × Nat):Nat->List Value->Int × Nat
 | c,[]=>(0,c)
 | c,t :: l=>if (f c t).1=0 then lkL f (f c t).2 l else f c t
def lkT (h:Nat->Value) (v:Int):Nat->Nat->Value->Int × Nat
 | 0,c,_=>(3,c+1)
 | f+1,c,t=>if 1024<c+1 then (3,c+1) else if kindV (endT h t)=2/\numT (endT h t)=v then (151,c+1) else lkL (lkT h v f) (c+1) (argsV (endT h t))
theorem lkL_ok {f:Nat->Value->Int × Nat} (hf:∀c t,c<=1024->(f c t).1=0->c<=(f c t).2/\(f c t).2<=1024):∀(l:List Value) (c:Nat),c<=1024->(lkL f c l).1=0->c<=(lkL f c l).2/\(lkL f c l).2<=1024
 | [],c,hc,_=>⟨Nat.le_refl _,hc⟩
 | t :: l,c,hc,h=>by
  unfold lkL at h ⊢
  by_cases h0:(f c t).1=0
  ·rw [if_pos h0] at h ⊢
   have h1:=hf c t hc h0
   have h2:=lkL_ok hf l _ h1.2 h
   exact ⟨by omega,h2.2⟩
  ·rw [if_neg h0] at h;exact absurd h h0
theorem lkT_ok {h:Nat->Value} {v:Int}:∀(m c:Nat) (t:Value),(lkT h v m c t).1=0->c<(lkT h v m c t).2/\(lkT h v m c t).2<=1024
 | 0,c,t,h0=>by unfold lkT at h0;cases h0
 | m+1,c,t,h0=>by
  unfold lkT at h0 ⊢
  by_cases h1:1024<c+1
  ·rw [if_pos h1] at h0;cases h0
  ·rw [if_neg h1] at h0 ⊢
   by_cases h2:kindV (endT h t)=2/\numT (endT h t)=v
   ·rw [if_pos h2] at h0;cases h0
   ·rw [if_neg h2] at h0 ⊢
    have h3:=lkL_ok (f:=lkT h v m) (fun c t hc h=>⟨Nat.le_of_lt (lkT_ok m c t h).1,(lkT_ok m c t h).2⟩) (argsV (endT h t)) (c+1) (by omega) h0
    exact ⟨by omega,h3.2⟩
theorem lkL_step {f:Nat->Value->Int × Nat} {l:List Value} {i c:Nat} {t:Value} (hx:l[i]?=some t):lkL f c (l.drop i)=if (f c t).1=0 then lkL f (f c t).2 (l.drop (i+1)) else f c t:=by
 have hi:=(List.getElem?_eq_some_iff.1 hx).1
 rw [List.drop_eq_getElem_cons hi,(List.getElem?_eq_some_iff.1 hx).2]
 rfl
theorem TyE.ptr {f:Bool} {S:Nat->Prop} {w:World} {n b o:Nat} {t:Value} (h:TyE f S w n b o t):∃k x m es oR cR,t=nd k x e0 m es [] 0/\w.cell? ⟨b,o,none⟩=some (.int .i64 k)/\w.cell? ⟨b,o+1,none⟩=some (.string x)/\w.cell? ⟨b,o+2,none⟩=some (.int .i64 m)/\w.cell? ⟨b,o+3,none⟩=some (.slice oR es.length cR)/\es.length<=200010/\∀i t1,es[i]?=some t1->∃b1 off,oR=some ⟨b1,off,none⟩/\TyE f S w n b1 (off+i*4) t1:=by
 obtain ⟨d,h1,h2⟩:=h
 obtain ⟨d0,k,x,m,es,oR,cR,hd,rfl,g0,g1,g2,g3,hlen,hel⟩:=tyX_ptr h1
 obtain rfl:d=d0:=by omega
 refine ⟨k,x,m,es,oR,cR,rfl,g0,g1,g2,g3,h2.len,fun i t1 ht=>?_⟩
 obtain ⟨b1,off,ho,hx⟩:=hel i t1 ht
 obtain ⟨d1,hd1,hg⟩:=h2.part ht
 subst hd1
 exact ⟨b1,off,ho,d1,hx,hg⟩
theorem TyE.keep {f:Bool} {S:Nat->Prop} {w u:World} {n b o:Nat} {t:Value} (h:TyE f S w n b o t) (hb:∀k,¬ S k->k<w.heap.size->u.heap[k]?=w.heap[k]?) {j:Nat} {v:Value} (hc:w.cell? ⟨b,j,none⟩=some v):u.cell? ⟨b,j,none⟩=some v:=by
 obtain ⟨d,h1,_⟩:=h
 exact cell_same (hb b h1.1.1) hc
theorem TyE.ndv {f:Bool} {S:Nat->Prop} {w:World} {n b o:Nat} {k m:Int} {x:ByteArray} {es:List Value} (h:TyE f S w n b o (nd k x e0 m es [] 0)) (hk:k=2):∃j,j<n/\nd k x e0 m es [] 0=vr j:=by
 obtain ⟨d,_,h2⟩:=h
 subst hk
 exact h2.var
theorem SO.vars {S:Nat->Prop} {B n p j:Nat} {h:Nat->Value} {vs:Value} {w:World} (H:SO S B n h p vs w) (hj:j<n):∃g,vs.ownBlock=some g/\(∀(b o:Nat) u,Below w.heap.size w u->u.cell? ⟨b,o,none⟩=some (.int .i64 2)->u.cell? ⟨b,o+2,none⟩=some (.int .i64 ((j:Int)+1))->Calls Try.prog 59 #[.pointer (some ⟨p,0,none⟩),.pointer (some ⟨b,o,none⟩)] u fun e w'=>e=.returned (.pointer (some ⟨g,j*2,none⟩))/\Below u.heap.size u w')/\∀u,Below w.heap.size w u->u.cell? ⟨g,j*2+1,none⟩=some (.int .i64 ((j:Int)+1)):=by
 obtain ⟨h0,ls,rk,h1,h2⟩:=H
 have hl:=h2.len
 obtain ⟨g,cap,hv,_⟩:=h1.form (by omega)
 subst hv
 refine ⟨g,rfl,fun b o u hu c0 c2=>t_variable (h1.on hu) b o j (by omega) c0 c2,fun u hu=>?_⟩
 exact ((h1.on hu).cell (List.getElem?_eq_getElem (by omega:j<ls.length))).2
end Ty
set_option maxRecDepth 100000 in
set_option maxHeartbeats 8000000 in
theorem t_look {f : Bool} {S : Nat → Prop} {B p n K : Nat} {h : Nat → Value} {vs : Value} {v : Int} (hK : S K ∧ K ≠ p ∧ vs.ownBlock ≠ some K) : ∀ (m : Nat) (w : World) (c b o : Nat) (t : Value), SO S B n h p vs w → TyE f S w n b o t → w.heap[K]? = some (.cells #[.pointer (some ⟨p, 0, none⟩), .int .i64 v, .int .i64 (c : Int)] 113 (0, 0)) → 1025 ≤ c + m → c ≤ 1024 → Calls Try.prog 62 #[.pointer (some ⟨K, 0, none⟩), .pointer (some ⟨b, o, none⟩)] w fun e w' => e = .returned (.int .i64 (lkT h v m c t).1) ∧ w'.heap[K]? = some (.cells #[.pointer (some ⟨p, 0, none⟩), .int .i64 v, .int .i64 ((lkT h v m c t).2 : Int)] 113 (0, 0)) ∧ SO S B n h p vs w' ∧ Kp K vs.ownBlock w w' := by
  intro m
  induction m with
  | zero => intro w c b o t _ _ _ h1 h2; omega
  | succ m ih =>
    intro w c b o t hS hT hX hm hc
    have HK := hideR hK
    obtain ⟨R, hR⟩ : ∃ R, R = lkT h v (m + 1) c t := ⟨_, rfl⟩
    rw [← hR]
    have hR' : R = if 1024 < c + 1 then (3, c + 1) else if kindV (endT h t) = 2 ∧ numT (endT h t) = v then (151, c + 1) else lkL (lkT h v m) (c + 1) (argsV (endT h t)) := hR
    have c0 := put_cell hX 0 _ rfl
    have c1 := put_cell hX 1 _ rfl
    have c2 := put_cell hX 2 _ rfl
    have f2 : w.frozen? ⟨K, 2, none⟩ = false := by unfold World.frozen?; rw [hX]; simp
    have hwc : wrap64 ((c : Int) + 1) = (c : Int) + 1 := by unfold wrap64; omega
    obtain ⟨W, hW⟩ : ∃ W, W = w.setCell ⟨K, 2, none⟩ (.int .i64 ((c : Int) + 1)) := ⟨_, rfl⟩
    have hX1 : W.heap[K]? = some (.cells #[.pointer (some ⟨p, 0, none⟩), .int .i64 v, .int .i64 ((c : Int) + 1)] 113 (0, 0)) := by rw [hW]; exact heap_setCell_same w K 2 _ _ _ hX
    have hS1 : SO S B n h p vs W := by rw [hW]; exact hS.set hK.1 hK.2.1 hK.2.2 _ _
    have hk1 : Kp K vs.ownBlock w W := by rw [hW]; exact (Kp.refl _ _ w).set _ _
    have hT1 : TyE f S W n b o t := hT.kp hk1 hK.1 hS.1.2
    have HS0 := hideR hS.1.2
    have HX1 := hideR hX1
    have HS1 := hideR hS1
    have HK1 := hideR hk1
    have HW := hideR hW
    have m0 := put_cell hX1 0 _ rfl
    have m1 := put_cell hX1 1 _ rfl
    have m2 := put_cell hX1 2 _ rfl
    by_cases hf : 1024 < c + 1
    · have q2 : decide ((c : Int) + 1 > 1024) = true := decide_eq_true (by omega)
      have q3 : decide ((1024 : Int) < (c : Int) + 1) = true := decide_eq_true (by omega)
      have HRR := hideR (show R = (3, c + 1) by rw [hR', if_pos hf])
      clear hR hR' ih hS hT hT1 hS1 hk1 hX1 hX hm hc hf hK
      go_enter Try.func62, Try.ntmps62
      go_wp2_with (first | rw [← hW] | fail)
      go_wp2
      go_ret
      rw [HRR.out]
      exact ⟨rfl, HX1.out, HS1.out, HK1.out⟩
    · have q2 : decide ((c : Int) + 1 > 1024) = false := decide_eq_false (by omega)
      have q3 : decide ((1024 : Int) < (c : Int) + 1) = false := decide_eq_false (by omega)
      rw [if_neg hf] at hR'
      have HR := hideR hR'
      have HE := hideR (t_end hS1 hT1)
      have HIH := hideR ih
      have HC := hideR (And.intro hm hf)
      clear hR hR' ih hS hT hT1 hS1 hk1 hX1 hX hm hc hf hK
      go_enter Try.func62, Try.ntmps62
      go_wp2_with (first | rw [← hW] | fail)
      clear hW HW f2
      refine Calls.mono (show Calls _ _ _ _ _ from HE.out) ?_
      rintro e w2 ⟨b', o', rfl, hT2, hid, hS2, hk2⟩
      have hX2 : w2.heap[K]? = some (.cells #[.pointer (some ⟨p, 0, none⟩), .int .i64 v, .int .i64 ((c : Int) + 1)] 113 (0, 0)) := (hk2.block K (Array.getElem?_eq_some_iff.1 HX1.out).1 HK.out.2.2).trans HX1.out
      obtain ⟨k, x, l, es, oR, cR, hE, g0, g1, g2, g3, hle, hel⟩ := hT2.ptr
      generalize endT h t = E at *
      subst hE
      have hd := hT2.ndv
      have z0 := put_cell hX2 0 _ rfl
      have z1 := put_cell hX2 1 _ rfl
      have HX2 := hideR hX2
      have HS2 := hideR hS2
      have HT2 := hideR hT2
      have HK2 := hideR (HK1.out.trans (hk2.kp K))
      clear hid hk2 HE HX1 HS1 HK1 c0 c1 c2 m0 m1 m2
      by_cases hk : k = 2
      · obtain ⟨j, hj, hjv⟩ := hd hk
        subst hk
        have hes : es = [] := by have h1 : argsV (nd 2 x e0 l es [] 0) = argsV (vr j) := by rw [hjv]
                                 exact h1
        have hlj : l = (j : Int) + 1 := by have h1 : numT (nd 2 x e0 l es [] 0) = numT (vr j) := by rw [hjv]
                                           exact h1
        subst hes hlj
        obtain ⟨g, hg, hvar, hcl⟩ := hS2.vars hj
        have HVar := hideR (hvar b' o' w2 (Below.refl _ _) g0 g2)
        have HCL := hideR hcl
        clear hd hel hjv hvar hcl hS2 hT2 hX2
        cases hq : decide ((j : Int) + 1 = v) with
        | true =>
          have hqv := of_decide_eq_true hq
          have HRR := hideR (show R = (151, c + 1) by rw [HR.out, if_pos ⟨rfl, hqv⟩])
          have q4 : ((j : Int) + 1 == v) = true := beq_iff_eq.2 hqv
          clear HR hqv HIH
          go_wp2_with fail
          refine Calls.mono (show Calls _ _ _ _ _ from HVar.out) ?_
          rintro e w3 ⟨rfl, hb⟩
          have y0 := HCL.out w3 hb
          have z0 := cell_on hb z0
          have z1 := cell_on hb z1
          have HX3 := hideR ((hb.block K (Array.getElem?_eq_some_iff.1 HX2.out).1).trans HX2.out)
          have HS3 := hideR (HS2.out.bel hb)
          have HK3 := hideR (HK2.out.of hb HK2.out.size)
          clear hb HVar HCL HX2 HS2 HK2 g0 g1 g2 g3
          go_wp2_with fail
          go_quiet (fail)
          have hbd := below_drewN' w3 nq
          have HX4 := hideR ((hbd.block K (Array.getElem?_eq_some_iff.1 HX3.out).1).trans HX3.out)
          have HS4 := hideR (HS3.out.bel hbd)
          have HK4 := hideR (HK3.out.of hbd HK3.out.size)
          clear HX3 HS3 HK3
          have HX3 := HX4; have HS3 := HS4; have HK3 := HK4
          clear HX4 HS4 HK4 y0 z0 z1
          clear hbd
          generalize w3.drewN nq = u3 at *
          go_wp2
          go_ret
          rw [HRR.out]
          exact ⟨rfl, HX3.out, HS3.out, HK3.out⟩
        | false =>
          have hqv := of_decide_eq_false hq
          have HRR := hideR (show R = (0, c + 1) by rw [HR.out, if_neg (fun h => hqv h.2)]; rfl)
          have q4 : ((j : Int) + 1 == v) = false := by simpa using hqv
          clear HR hqv HIH
          go_wp2_with fail
          refine Calls.mono (show Calls _ _ _ _ _ from HVar.out) ?_
          rintro e w3 ⟨rfl, hb⟩
          have y0 := HCL.out w3 hb
          have z0 := cell_on hb z0
          have z1 := cell_on hb z1
          have g3 := cell_on hb g3
          have HX3 := hideR ((hb.block K (Array.getElem?_eq_some_iff.1 HX2.out).1).trans HX2.out)
          have HS3 := hideR (HS2.out.bel hb)
          have HK3 := hideR (HK2.out.of hb HK2.out.size)
          clear hb HVar HCL HX2 HS2 HK2 g0 g1 g2
          go_wp2_with fail
          go_quiet (fail)
          have hbd := below_drewN' w3 nq
          have HX4 := hideR ((hbd.block K (Array.getElem?_eq_some_iff.1 HX3.out).1).trans HX3.out)
          have HS4 := hideR (HS3.out.bel hbd)
          have HK4 := hideR (HK3.out.of hbd HK3.out.size)
          clear HX3 HS3 HK3
          have HX3 := HX4; have HS3 := HS4; have HK3 := HK4
          clear HX4 HS4 HK4 y0 z0 z1
          have g4 := cell_on hbd g3
          clear hbd g3
          generalize w3.drewN nq = u3 at *
          go_wp2_with fail
          go_loopw [50] (fun a u => a = .int .i64 0 ∧ u = u3) (fun _ _ => 0)
          case atStart => exact ⟨rfl, rfl⟩
          case round =>
            obtain ⟨rfl, rfl⟩ := hrel
            go_wp2
            go_ret
            rw [HRR.out]
            exact ⟨rfl, HX3.out, HS3.out, HK3.out⟩
      · have HN := hideR (t_novar w2 (.pointer (some ⟨p, 0, none⟩)) b' o' k g0 hk)
        have HST : Hid (lkL (lkT h v m) (c + 1) (es.drop 0) = R) := hideR (by rw [HR.out, if_neg (fun h => hk h.1)]; rfl)
        have HEL := hideR hel
        have HL := hideR hle
        clear hd hel hle hS2 hT2 hX2 HR
        go_wp2_with fail
        refine Calls.mono (show Calls _ _ _ _ _ from HN.out) ?_
        rintro e w3 ⟨rfl, hb⟩
        have HB3 := hideR hb
        have z0 := cell_on hb z0
        have z1 := cell_on hb z1
        clear hb
        go_wp2_with fail
        go_quiet (fail)
        have hb := below_go HB3.out (below_drewN' w3 nq)
        have g3 := cell_on hb g3
        generalize w3.drewN nq = u3 at *
        have G3 := hideR g3
        have HX3 : Hid (u3.heap[K]? = some (.cells #[.pointer (some ⟨p, 0, none⟩), .int .i64 v, .int .i64 ((c + 1 : Nat) : Int)] 113 (0, 0))) := hideR ((hb.block K (Array.getElem?_eq_some_iff.1 HX2.out).1).trans HX2.out)
        have HS3 := hideR (HS2.out.bel hb)
        have HK3 := hideR (HK2.out.of hb HK2.out.size)
        have HT3 := hideR (HT2.out.bel hb)
        have HC3 : Hid (1025 ≤ (c + 1) + m ∧ c + 1 ≤ 1024) := hideR (by have := HC.out; omega)
        have HEL3 : Hid (∀ (u : World), Kp K vs.ownBlock u3 u → ∀ i t1, es[i]? = some t1 → ∃ b1 off, oR = some ⟨b1, off, none⟩ ∧ TyE f S u n b1 (off + i * 4) t1) := hideR (fun u hu i t1 ht => by
          obtain ⟨b1, off, ho, h1⟩ := HEL.out i t1 ht
          exact ⟨b1, off, ho, (h1.bel hb).kp hu HK.out.1 HS0.out⟩)
        have HG3 : Hid (∀ (u : World), Kp K vs.ownBlock u3 u → u.cell? ⟨b', o' + 3, none⟩ = some (.slice oR es.length cR)) := hideR (fun u hu => HT3.out.keep (hu.x HK.out.1 HS0.out) G3.out)
        clear hb HB3 HN HX2 HS2 HK2 HEL g0 g1 g2 z0 z1
        go_wp2_with fail
        go_loopw [50] (fun a u => ∃ i c1 : Nat, a = .int .i64 i ∧ i ≤ es.length ∧ Hid (lkL (lkT h v m) c1 (es.drop i) = R) ∧ Hid (u.heap[K]? = some (.cells #[.pointer (some ⟨p, 0, none⟩), .int .i64 v, .int .i64 (c1 : Int)] 113 (0, 0))) ∧ Hid (SO S B n h p vs u) ∧ Hid (Kp K vs.ownBlock u3 u) ∧ Hid (1025 ≤ c1 + m ∧ c1 ≤ 1024)) (fun a _ => match a with | .int _ i => es.length - i.toNat | _ => 0)
        case atStart => exact ⟨0, c + 1, rfl, Nat.zero_le _, HST, HX3, HS3, hideR (Kp.refl _ _ _), HC3⟩
        case round =>
          obtain ⟨i, c1, rfl, hi, HN, HXr, HSr, HKr, HCr⟩ := hrel
          clear HST HX3 HS3 HC3 g3
          have g3 := HG3.out wr HKr.out
          by_cases hp : i < es.length
          · have q1 : decide ((i : Int) < (es.length : Int)) = true := decide_eq_true (by omega)
            obtain ⟨t1, ht1⟩ : ∃ t1, es[i]? = some t1 := ⟨_, List.getElem?_eq_getElem hp⟩
            obtain ⟨b1, off, hoR, hC⟩ := HEL3.out wr HKr.out i t1 ht1
            subst hoR
            have hw1 : IntKind.i64.wrap ((i : Int) + 1) = (i : Int) + 1 := by have := HL.out; rw [IntKind.wrap_i64]; omega
            have hw2 : wrap64 ((i : Int) + 1) = ((i + 1 : Nat) : Int) := by have := HL.out; unfold wrap64; omega
            have HIB := hideR (HIH.out wr c1 b1 (off + i * 4) t1 HSr.out hC HXr.out HCr.out.1 HCr.out.2)
            have hst := HN.out
            rw [lkL_step ht1] at hst
            have HOK := hideR (lkT_ok (h := h) (v := v) m c1 t1)
            obtain ⟨r, c2, hrc⟩ : ∃ r c2, lkT h v m c1 t1 = (r, c2) := ⟨_, _, rfl⟩
            rw [hrc] at HIB HOK hst
            have HST := hideR hst
            clear hC ht1 HN hst hrc
            by_cases hr : r = 0
            · subst hr
              have HS9 : Hid (lkL (lkT h v m) c2 (es.drop (i + 1)) = R) := hideR (by rw [← HST.out]; rfl)
              have HC9 : Hid (1025 ≤ c2 + m ∧ c2 ≤ 1024) := hideR (by have h9 : c1 < c2 ∧ c2 ≤ 1024 := HOK.out rfl; have := HCr.out; omega)
              clear HST HOK
              go_wp2_with fail
              refine Calls.mono (show Calls _ _ _ _ _ from HIB.out) ?_
              rintro e w4 ⟨rfl, hx, hs, hk⟩
              have HX4 := hideR hx
              have HS4 := hideR hs
              have HK4 := hideR (HKr.out.trans hk)
              clear HIB hx hs hk g3 HXr HSr HKr HCr
              go_wp2
              go_roundw
              case rel => exact ⟨i + 1, c2, by first | rfl | (congr 1), hp, HS9, HX4, HS4, HK4, HC9⟩
              case measure => simp; omega
            · have q5 : (r != 0) = true := bne_iff_ne.2 hr
              have HS9 : Hid ((r, c2) = R) := hideR (by rw [← HST.out, if_neg hr])
              clear HST HOK
              go_wp2_with fail
              refine Calls.mono (show Calls _ _ _ _ _ from HIB.out) ?_
              rintro e w4 ⟨rfl, hx, hs, hk⟩
              have HX4 := hideR hx
              have HS4 := hideR hs
              have HK4 := hideR (HK3.out.trans (HKr.out.trans hk))
              clear HIB hx hs hk g3 HXr HSr HKr HCr
              go_wp2
              go_ret
              rw [← HS9.out]
              exact ⟨rfl, HX4.out, HS4.out, HK4.out⟩
          · have q1 : decide ((i : Int) < (es.length : Int)) = false := decide_eq_false (by omega)
            have HS9 : Hid ((0, c1) = R) := hideR (by rw [← HN.out, List.drop_eq_nil_of_le (by omega)]; rfl)
            have HK4 := hideR (HK3.out.trans HKr.out)
            clear HN hi HKr
            go_wp2
            go_ret
            rw [← HS9.out]
            exact ⟨rfl, HXr.out, HSr.out, HK4.out⟩
namespace Ty
theorem SO.grow {S S':Nat->Prop} {B n p:Nat} {h:Nat->Value} {vs:Value} {w w':World} (H:SO S B n h p vs w) (hb:Below w.heap.size w w') (h1:∀k,S k->S' k) (h2:∀k,k<w.heap.size->S' k->S k):SO S' B n h p vs w':=by
 obtain ⟨h0,ls,rk,hv,hk⟩:=H
 exact ⟨⟨h1 p h0.1,fun k e=>h1 k (h0.2 k e)⟩,ls,rk,hv.on hb,hk.on (fun k _ hl=>hb.block k hl) h2⟩
theorem SO.back {S S':Nat->Prop} {B n p:Nat} {h:Nat->Value} {vs:Value} {w:World} (H:SO S' B n h p vs w) (h0:S p/\∀k,vs.ownBlock=some k->S k) (h1:∀k,S k->S' k):SO S B n h p vs w:=by
 obtain ⟨_,ls,rk,hv,hk⟩:=H
 exact ⟨h0,ls,rk,hv,hk.on (fun k _ _=>rfl) fun k _ hs=>h1 k hs⟩
theorem TyE.grow {f:Bool} {S S':Nat->Prop} {w w':World} {n b o:Nat} {t:Value} (h:TyE f S w n b o t) (hb:Below w.heap.size w w') (h2:∀k,k<w.heap.size->S' k->S k):TyE f S' w' n b o t:=h.on (fun k _ hl=>hb.block k hl) h2
theorem SO.lt {S:Nat->Prop} {B n p:Nat} {h:Nat->Value} {vs:Value} {w:World} (H:SO S B n h p vs w):p<w.heap.size/\∀k,vs.ownBlock=some k->k<w.heap.size:=by
 obtain ⟨_,ls,rk,hv,_⟩:=H
 refine ⟨hv.lt,fun k hk=>?_⟩
 obtain ⟨xs,ho,_⟩:=hv.row
 exact (ho.lt k hk).2
def isV (j:Nat) (t:Value):Bool:=kindV t == 2 && numT t == (j:Int)+1
theorem isV_vr (i j:Nat):isV j (vr i)=true↔i=j:=by
 have e:isV j (vr i)=(((2:Int) == 2) && (((i:Int)+1) == (j:Int)+1)):=rfl
 rw [e]
 simp only [BEq.rfl,Bool.true_and,beq_iff_eq]
 omega
theorem isV_nv {j:Nat} {t:Value} (h:kindV t≠2):isV j t=false:=by
 unfold isV
 rw [show (kindV t == 2)=false from by simpa using h,Bool.false_and]
theorem LK.fin {S:Nat->Prop} {w:World} {n:Nat} {h:Nat->Value} {rk:Nat->Nat} {ls:List Value} (H:LK S w n h rk ls):∀(R i:Nat),rk i<R->i<n->(∃a,a<n/\h i=vr a/\h a=vr a)\/kindV (h i)≠2
 | 0,i,hr,_=>by omega
 | R+1,i,hr,hi=>by
  obtain ⟨l,hl⟩:∃l,ls[i]?=some l:=⟨_,List.getElem?_eq_getElem (by rw [H.len];exact hi)⟩
  rcases H.ok i l hl with ⟨_,h1⟩|⟨b,o,t,_,h2,h3,h4,_⟩
  ·exact .inl ⟨i,hi,h1,h1⟩
  ·rcases h2.cases with ⟨a,ha,rfl,_⟩|⟨k,hk,_,hkk,hnv⟩
   ·rw [endT_vr] at h3
    rw [<- h3]
    exact LK.fin H R a (by have:=h4 a rfl;omega) ha
   ·rw [<- h3,hnv]
    exact .inr (by rw [hkk];exact hk)
theorem LK.isv {S:Nat->Prop} {w:World} {n:Nat} {h:Nat->Value} {rk:Nat->Nat} {ls:List Value} (H:LK S w n h rk ls) (j:Nat) {i:Nat} (hi:i<n):isV j (h i)=true↔h i=vr j:=by
 rcases H.fin (rk i+1) i (Nat.lt_succ_self _) hi with ⟨a,_,h1,_⟩|h1
 ·rw [h1,isV_vr]
  exact ⟨fun e=>by rw [e],vr_inj⟩
 ·rw [isV_nv h1]
  exact ⟨fun e=>(by cases e),fun e=>absurd (by rw [e];exact kind_vr j) h1⟩
def bdH (h:Nat->Value) (j:Nat) (t:Value):Nat->Value:=fun i=>if isV j (h i)=true then t else h i
theorem LK.bind {S:Nat->Prop} {w:World} {n:Nat} {h:Nat->Value} {rk:Nat->Nat} {ls:List Value} (H:LK S w n h rk ls) {j b o:Nat} {t:Value} (hj:j<n) (hu:h j=vr j) (hz:TyE true S w n b o t) (ht:endT h t=t) (hne:t≠vr j):∃rk',LK S w n (bdH h j t) rk' (ls.set j (.pointer (some ⟨b,o,none⟩))):=by
 have hb1:∀i,i<n->h i=vr j->bdH h j t i=t:=fun i hi e=>if_pos ((H.isv j hi).2 e)
 have hb2:∀i,i<n->h i≠vr j->bdH h j t i=h i:=fun i hi e=>if_neg (fun e2=>e ((H.isv j hi).1 e2))
 have hx:∃X:Nat,∀i,t=vr i->rk i<X:=by
  rcases hz.cases with ⟨i,_,rfl,_⟩|⟨k,hk,_,hkk,_⟩
  ·exact ⟨rk i+1,fun i' e=>by rw [vr_inj e];omega⟩
  ·exact ⟨0,fun i e=>by rw [e] at hkk;exact absurd hkk.symm hk⟩
 obtain ⟨X,hX⟩:=hx
 have hti:∀i,t=vr i->h i=vr i:=fun i e=>by have h1:=ht;rw [e,endT_vr] at h1;exact h1
 refine ⟨fun i=>if isV j (h i)=true then rk i+X else rk i,by rw [List.length_set];exact H.len,fun i l hl=>?_⟩
 rw [List.getElem?_set] at hl
 by_cases hij:j=i
 ·subst hij
  rw [if_pos rfl,if_pos (by rw [H.len];exact hj)] at hl
  injection hl with hl
  subst hl
  refine .inr ⟨b,o,t,rfl,hz,?_,fun i e=>?_,?_⟩
  ·rw [hb1 j hj hu]
   rcases hz.cases with ⟨i,hi,rfl,_⟩|⟨k,hk,_,_,hnv⟩
   ·rw [endT_vr,hb2 i hi (by rw [hti i rfl];exact hne),hti i rfl]
   ·exact hnv _
  ·have hi:i<n:=by
    rcases hz.cases with ⟨i',hi',e',_⟩|⟨k,hk,_,hkk,_⟩
    ·rw [e] at e';rw [vr_inj e'];exact hi'
    ·rw [e] at hkk;exact absurd hkk.symm hk
   show (if isV j (h i)=true then rk i+X else rk i)<(if isV j (h j)=true then rk j+X else rk j)
   rw [if_neg (fun e2=>hne (by rw [e,<- hti i e];exact (H.isv j hi).1 e2)),if_pos ((H.isv j hj).2 hu)]
   have:=hX i e
   omega
  ·rw [hb1 j hj hu];exact hne
 ·rw [if_neg hij] at hl
  have hi:i<n:=by have:=(List.getElem?_eq_some_iff.1 hl).1;rw [H.len] at this;exact this
  rcases H.ok i l hl with ⟨h1,h2⟩|⟨b3,o3,t3,h1,h2,h3,h4,h5⟩
  ·refine .inl ⟨h1,?_⟩
   rw [hb2 i hi (by rw [h2];exact fun e=>hij (vr_inj e).symm),h2]
  ·have h6:∀a,t3=vr a->a<n/\h a=h i:=fun a e=>by
    subst e
    exact ⟨h2.cell.1,by rw [<- h3,endT_vr]⟩
   refine .inr ⟨b3,o3,t3,h1,h2,?_,fun a e=>?_,?_⟩
   ·rcases h2.cases with ⟨a,ha,rfl,_⟩|⟨k,hk,_,hkk,hnv⟩
    ·rw [endT_vr]
     show (if isV j (h a)=true then t else h a)=(if isV j (h i)=true then t else h i)
     rw [(h6 a rfl).2]
    ·have h7:h i=t3:=h3.symm.trans (hnv h)
     rw [hnv,hb2 i hi (fun e=>by rw [<- h7,e] at hkk;exact hk hkk.symm),h7]
   ·show (if isV j (h a)=true then rk a+X else rk a)<(if isV j (h i)=true then rk i+X else rk i)
    rw [(h6 a e).2]
    have:=h4 a e
    split<;>omega
   ·by_cases h7:h i=vr j
    ·rw [hb1 i hi h7];exact fun e=>h5 (hti i e)
    ·rw [hb2 i hi h7];exact h5
theorem SO.bind {S:Nat->Prop} {B n p g:Nat} {h:Nat->Value} {vs:Value} {w:World} (H:SO S B n h p vs w) {j b o:Nat} {t:Value} (hj:j<n) (hu:h j=vr j) (hz:TyE true S w n b o t) (ht:endT h t=t) (hne:t≠vr j) (hg:vs.ownBlock=some g):w.frozen? ⟨g,j*2,none⟩=false/\(∃x,w.cell? ⟨g,j*2,none⟩=some x)/\SO S B n (bdH h j t) p vs (w.setCell ⟨g,j*2,none⟩ (.pointer (some ⟨b,o,none⟩)))/\Kv vs w (w.setCell ⟨g,j*2,none⟩ (.pointer (some ⟨b,o,none⟩))):=by
 have hkv:=(Kv.refl vs w).set hg (j*2) (.pointer (some ⟨b,o,none⟩))
 obtain ⟨h0,ls,rk,hv,hk⟩:=H
 have hl:=hk.len
 obtain ⟨g',cap,hvs,_⟩:=hv.form (by omega)
 subst hvs
 injection hg with hg
 subst hg
 obtain ⟨hf,hp⟩:=(by rw [hl] at hv;exact hv:SV B p ls (.slice (some ⟨g',0,none⟩) n cap) w).put hl hj (.pointer (some ⟨b,o,none⟩))
 obtain ⟨rk',hk'⟩:=hk.bind hj hu hz ht hne
 refine ⟨hf,⟨_,(hv.cell (List.getElem?_eq_getElem (by omega:j<ls.length))).1⟩,⟨h0,_,rk',by rw [hl];exact hp,hk'.on (hkv.x h0.2) fun _ _ h=>h⟩,hkv⟩
end Ty
set_option maxRecDepth 100000 in
set_option maxHeartbeats 4000000 in
theorem t_forbids {f:Bool} {S:Nat->Prop} {B p n:Nat} {h:Nat->Value} {vs:Value} {v:Int} {m:Nat} (hm:1025<=m) (w:World) {b o:Nat} {t:Value} (hS:SO S B n h p vs w) (hT:TyE f S w n b o t):Calls Try.prog 41 #[.pointer (some ⟨p,0,none⟩),.int .i64 v,.pointer (some ⟨b,o,none⟩)] w fun e w'=>e=.returned (.int .i64 (lkT h v m 0 t).1)/\SO S B n h p vs w'/\Kv vs w w':=by
 obtain ⟨W,hW⟩:∃W,W=w.alloc (.cells #[.pointer none,.int .i64 0,.int .i64 0] 113):=⟨_,rfl⟩
 have hb:Below w.heap.size w W:=by rw [hW];exact new_on' _ _
 have hx:W.heap[w.heap.size]?=some (.cells #[.pointer none,.int .i64 0,.int .i64 0] 113 (0,0)):=by rw [hW];exact heap_alloc_new w _
 obtain ⟨W2,hW2⟩:∃W2,W2=W.setCells w.heap.size 0 (#[.pointer (some ⟨p,0,none⟩),.int .i64 v,.int .i64 0]:Array Value).toList:=⟨_,rfl⟩
 have hth:W.there w.heap.size 0 (#[.pointer (some ⟨p,0,none⟩),.int .i64 v,.int .i64 0]:Array Value).size:=by have h:=put_there hx;exact h
 have hx2:W2.heap[w.heap.size]?=some (.cells #[.pointer (some ⟨p,0,none⟩),.int .i64 v,.int .i64 ((0:Nat):Int)] 113 (0,0)):=by rw [hW2];exact put_heap hx rfl
 have hb2:Below w.heap.size w W2:=by rw [hW2];exact cells_below w.heap.size w.heap.size (Nat.le_refl _) _ 0 w W hb
 have hlt:=hS.lt
 have hS2:SO (fun k=>S k\/k=w.heap.size) B n h p vs W2:=hS.grow hb2 (fun k=>.inl) (fun k hk h=>h.resolve_right (by omega))
 have hT2:TyE f (fun k=>S k\/k=w.heap.size) W2 n b o t:=hT.grow hb2 (fun k hk h=>h.resolve_right (by omega))
 have HL:=hideR (t_look (f:=f) (K:=w.heap.size) (v:=v) ⟨.inr rfl,by omega,fun e=>by have:=hlt.2 _ e;omega⟩ m W2 0 b o t hS2 hT2 hx2 (by omega) (by omega))
 have HB2:=hideR hb2
 have HS:=hideR hS.1
 have HTH:=hideR hth
 have HW2:=hideR hW2
 clear hb hx hth hx2 hb2 hlt hS2 hT2 hS hT hW2 hm
 go_enter Try.func41,Try.ntmps41
 go_wp2_with (first|(rw [<- hW];refine wpList_store_mid rfl 113 (.tmp 7) (.tmp 10) rfl w.heap.size 0 #[.pointer (some ⟨p,0,none⟩),.int .i64 v,.int .i64 0] rfl rfl HTH.out (by kernel_rfl) (by simp [Value.oneCell']) ?_;rw [<- HW2.out])|fail)
 refine Calls.mono (show Calls _ _ _ _ _ from HL.out) ?_
 rintro e w3 ⟨rfl,_,hs,hk⟩
 have HS3:=hideR (hs.back HS.out fun k=>.inl)
 have HK3:Hid (Kv vs w w3):=hideR ⟨hk.os.trans HB2.out.os,hk.tape.trans HB2.out.tape,hk.output.trans HB2.out.output,Nat.le_trans HB2.out.size hk.size,fun k hk1 hk2=>(hk.block k (Nat.lt_of_lt_of_le hk1 HB2.out.size) (by omega) hk2).trans (HB2.out.block k hk1)⟩
 clear hs hk HL
 go_wp2
 go_ret
 exact ⟨rfl,HS3.out,HK3.out⟩
set_option maxRecDepth 100000 in
set_option maxHeartbeats 4000000 in
theorem t_bind {S:Nat->Prop} {B n p g:Nat} {h:Nat->Value} {vs:Value} {m:Nat} (hm:1025<=m) (w:World) {j b o:Nat} {t:Value} (hS:SO S B n h p vs w) (hj:j<n) (hu:h j=vr j) (hz:TyE true S w n b o t) (ht:endT h t=t) (hne:t≠vr j) (hg:vs.ownBlock=some g):Calls Try.prog 60 #[.pointer (some ⟨p,0,none⟩),.pointer (some ⟨g,j*2,none⟩),.pointer (some ⟨b,o,none⟩)] w fun e w'=>e=.returned (.int .i64 (lkT h ((j:Int)+1) m 0 t).1)/\SO S B n (if (lkT h ((j:Int)+1) m 0 t).1=0 then bdH h j t else h) p vs w'/\Kv vs w w':=by
 obtain ⟨g',hg',_,hcl⟩:=hS.vars hj
 obtain rfl:g'=g:=by rw [hg] at hg';injection hg' with hg';exact hg'.symm
 have y1:=hcl w (Below.refl _ _)
 have HF:=hideR (t_forbids (f:=true) (v:=(j:Int)+1) hm w hS hz)
 have HB:=hideR (fun (u:World) (hs:SO S B n h p vs u) (hk:Kv vs w u)=>hs.bind hj hu (hz.kv hk hS.1.2) ht hne hg)
 generalize lkT h ((j:Int)+1) m 0 t=r at *
 obtain ⟨r,c⟩:=r
 clear hcl hz hS
 go_enter Try.func60,Try.ntmps60
 go_wp2_with fail
 refine Calls.mono (show Calls _ _ _ _ _ from HF.out) ?_
 rintro e w1 ⟨rfl,hs,hk⟩
 obtain ⟨hfz,⟨x,hx⟩,hs2,hk2⟩:=HB.out w1 hs hk
 by_cases hr:r=0
 ·subst hr
  obtain ⟨W,hW⟩:∃W,W=w1.setCell ⟨g',j*2,none⟩ (.pointer (some ⟨b,o,none⟩)):=⟨_,rfl⟩
  rw [<- hW] at hs2 hk2
  have HS:=hideR hs2
  have HK:=hideR (hk.trans hk2)
  have HW:=hideR hW
  clear hs hk hs2 hk2 HF HB y1
  go_wp2_with (first|rw [<- hW]|fail)
  go_wp2
  go_ret
  first|rw [<- HW.out]|skip
  exact ⟨rfl,HS.out,HK.out⟩
 ·have q1:(r != 0)=true:=bne_iff_ne.2 hr
  have HS:=hideR hs
  have HK:=hideR hk
  clear hs hk hs2 hk2 HF HB y1 hfz hx
  go_wp2
  go_ret
  exact ⟨rfl,HS.out,HK.out⟩
end Go.Proofs.Ytkflfohoinbenaa
namespace Go.Proofs.Ytkflfohoinbenaa
open Go.RowKit Rep
set_option linter.unusedVariables false
namespace Reg
section
variable {P:Program} {ops:Array Oper} {Q:Exit->Act->World->Prop} {id:Nat} {a0:Act} {w0:World}
def AheadT (ops:Array Oper) (a0:Act) (n:Nat) (dst:Nat->Nat) (K:World->Prop) (R:Nat->World->Prop) (G:Nat->Value->World->Prop) (L:Array Bool) (a:Act) (w:World):Prop :=
 (∀k,n<=k->L.getD k false=false)/\Fr a0 dst n a/\K w/\(∀i,i<n->L.getD i false=false->R i w)/\∀i,i<n->L.getD i false=true->G i (a.eval (.tmp (dst i))) w
theorem wp_region_efft (n:Nat) (dst:Nat->Nat) (T:Nat->World->World->Prop) (K:World->Prop) (R:Nat->World->Prop) (G:Nat->Value->World->Prop) (hm:P.follows .mixedOrders=true) (hT:tailOk ops n=true)
  (hinj:∀i j,i<n->j<n->dst i=dst j->i=j)
  (hdst:∀i,i<n->∃o,ops[i]?=some o/\o.dst=some (dst i)/\o.guard=none/\dst i<a0.tmps.size)
  (hstab:∀i k v w w',i<n->k<n->i≠k->K w->G i v w->T k w w'->G i v w')
  (hres:∀i k w w',i<n->k<n->i≠k->R i w->T k w w'->R i w')
  (hK:∀k w w',k<n->K w->T k w w'->K w')
  (hstep:∀i o a w,i<n->ops[i]?=some o->Fr a0 dst n a->K w->R i w->(∀j ∈ deps o,G j (a.eval (.tmp (dst j))) w)->o.wp P a w (fun a' w'=>∃v,a'=a.put o.dst v/\T i w w'/\G i v w') Q)
  (htail:∀a w,Fr a0 dst n a->K w->(∀i,i<n->G i (a.eval (.tmp (dst i))) w)->wpList P ops Q (ops.toList.drop n) a w)
  (hK0:K { w0 with drawn:=w0.drawn+1 }) (hR0:∀i,i<n->R i { w0 with drawn:=w0.drawn+1 }) :
  (Code.region id ops true).wp P Q a0 w0:=by
 have hT2:=hT
 unfold tailOk at hT2
 rw [Bool.and_eq_true,List.all_eq_true,decide_eq_true_eq] at hT2
 obtain ⟨hn,hT2⟩:=hT2
 have hlow:∀i,i<ops.size->∀j ∈ depsAt ops i,j<i:=fun i hi j hj=>by
  have:=hT2 i (List.mem_range.2 hi)
  rw [Bool.and_eq_true,List.all_eq_true] at this
  exact of_decide_eq_true (this.1 j hj)
 have hbig:∀(L:Array Bool) i,n<=i->i<ops.size->Closed ops L->(∀j ∈ depsAt ops i,L.getD j false=true)->∀j,j<i->L.getD j false=true:=fun L i hi hs hc hd j hj=>by
  have:=hT2 i (List.mem_range.2 hs)
  rw [Bool.and_eq_true,Bool.or_eq_true,decide_eq_true_eq] at this
  rcases this.2 with h|h
  ·omega
  ·have hjm:j ∈ clos ops [i] i:=by simpa using (List.all_eq_true.1 h) j (List.mem_range.2 hj)
   rcases clos_mem hc hd i [i] (fun m hm=>.inl (List.mem_singleton.1 hm)) j hjm with h|h
   ·omega
   ·exact h
 refine wp_region_inv (fun L a w=>L.size=ops.size/\Closed ops L/\(AheadT ops a0 n dst K R G L a w\/Behind P ops Q n L a w)) hm ?_ ?_ ?_
 ·rintro L i a w hi ⟨hsz,hc,hph⟩
  obtain ⟨hLi,o,ho,hd⟩:=ready_deps hi
  obtain ⟨hiL,hLf⟩:=getD_false hLi
  have hd':∀j ∈ depsAt ops i,L.getD j false=true:=by rw [depsAt_some ho];exact hd
  have hsz':(L.setIfInBounds i true).size=ops.size:=by rw [Array.size_setIfInBounds,hsz]
  have hc':Closed ops (L.setIfInBounds i true):=fun m hm j hj=>by
   rw [getD_set L i _ hiL] at hm ⊢
   split
   ·rfl
   ·by_cases he:m=i
    ·subst he;exact hd' j hj
    ·rw [if_neg he] at hm;exact hc m hm j hj
  have low:∀k,n<=k->(∀j,j<k->L.getD j false=true)->(∀j,k<=j->L.getD j false=false)->n<=i->i=k:=fun k hnk hk1 hk2 hni=>by
   have h1:=hbig L i hni (by omega) hc hd'
   rcases Nat.lt_trichotomy i k with h|h|h
   ·rw [hk1 i h] at hLf;cases hLf
   ·exact h
   ·have:=h1 k h;rw [hk2 k (Nat.le_refl _)] at this;cases this
  have onBehind:∀k,k=i->n<=k->(∀j,j<k->L.getD j false=true)->(∀j,k<=j->L.getD j false=false)->wpList P ops Q (ops.toList.drop k) a w->wpOp P ops Q i (fun a w=>(L.setIfInBounds i true).size=ops.size/\Closed ops (L.setIfInBounds i true)/\(AheadT ops a0 n dst K R G (L.setIfInBounds i true) a w\/Behind P ops Q n (L.setIfInBounds i true) a w)) a w:=by
   rintro k rfl hnk hk1 hk2 hwp
   have hks:k<ops.size:=by omega
   have hcons:ops.toList.drop k=o :: ops.toList.drop (k+1):=by
    rw [List.drop_eq_getElem_cons (by simpa using hks)]
    congr 1
    have:=Array.getElem?_eq_getElem hks
    rw [ho] at this
    simpa using (Option.some.inj this).symm
   rw [hcons] at hwp
   have up:∀a w,wpList P ops Q (ops.toList.drop (k+1)) a w->(L.setIfInBounds k true).size=ops.size/\Closed ops (L.setIfInBounds k true)/\(AheadT ops a0 n dst K R G (L.setIfInBounds k true) a w\/Behind P ops Q n (L.setIfInBounds k true) a w):=fun a w h =>
    ⟨hsz',hc',.inr ⟨k+1,by omega,fun j hj=>by
     rw [getD_set L k _ hiL]
     split
     ·rfl
     ·exact hk1 j (by omega),fun j hj=>by
     rw [getD_set L k _ hiL,if_neg (by omega)]
     exact hk2 j (by omega),h⟩⟩
   unfold wpOp
   rw [ho]
   unfold wpList at hwp
   show ite _ _ _
   split
   ·rename_i hw
    rw [if_pos hw] at hwp
    exact hwp.imp (Oper.wp_mono up) (fun h=>h)
   ·rename_i hw
    rw [if_neg hw] at hwp
    exact up _ _ hwp
  rcases hph with ⟨hk,hF,hB,hR,hG⟩|⟨k,hnk,hk1,hk2,hwp⟩
  ·by_cases hin:i<n
   ·obtain ⟨o',ho',hod,hog,hos⟩:=hdst i hin
    have:o'=o:=by rw [ho] at ho';exact (Option.some.inj ho').symm
    subst this
    have hs:=hstep i o' a w hin ho hF hB (hR i hin hLf) (fun j hj=>hG j (by have:=hlow i (by omega) j (by rw [depsAt_some ho];exact hj);omega) (hd j hj))
    unfold wpOp
    rw [ho]
    show ite _ _ _
    rw [if_pos (by simp [Region.wanted,hog])]
    refine .inl (Oper.wp_mono ?_ hs)
    rintro a' w' ⟨v,rfl,hBw,hGv⟩
    have hos':dst i<a.tmps.size:=by rw [hF.size];exact hos
    refine ⟨hsz',hc',.inl ⟨fun k hnk=>?_,by rw [hod];exact hF.put hin v,?_,fun j hj hLj=>?_,fun j hj hLj=>?_⟩⟩
    ·rw [getD_set L i _ hiL,if_neg (by omega)];exact hk k hnk
    ·exact hK i w w' hin hB hBw
    ·by_cases he:j=i
     ·subst he;rw [getD_set L j _ hiL,if_pos rfl] at hLj;cases hLj
     ·rw [getD_set L i _ hiL,if_neg he] at hLj
      exact hres j i w w' hj hin he (hR j hj hLj) hBw
    ·rw [hod]
     by_cases he:j=i
     ·subst he;rw [put_eval_same v hos'];exact hGv
     ·rw [getD_set L i _ hiL,if_neg he] at hLj
      rw [put_eval_ne v (fun e=>he (hinj i j hin hj e).symm)]
      exact hstab j i _ w w' hj hin he hB (hG j hj hLj) hBw
   ·have h1:=hbig L i (by omega) (by omega) hc hd'
    have hin':n=i:=by
     rcases Nat.lt_or_ge n i with h|h
     ·have:=h1 n h;rw [hk n (Nat.le_refl _)] at this;cases this
     ·omega
    refine onBehind n hin' (Nat.le_refl _) (fun j hj=>h1 j (by omega)) hk (htail a w hF hB fun j hj=>hG j hj (h1 j (by omega)))
  ·rcases Nat.lt_or_ge i n with h|h
   ·rw [hk1 i (by omega)] at hLf;cases hLf
   ·exact onBehind k (low k hnk hk1 hk2 h).symm hnk hk1 hk2 hwp
 ·rintro L a w hr ⟨hsz,hc,⟨hk,_⟩|⟨k,hnk,hk1,hk2,hwp⟩⟩
  ·have:=not_ready hT hsz hr n hn
   rw [hk n (Nat.le_refl _)] at this;cases this
  ·have:ops.size<=k:=by
    rcases Nat.lt_or_ge k ops.size with h|h
    ·have:=not_ready hT hsz hr k h
     rw [hk2 k (Nat.le_refl _)] at this;cases this
    ·exact h
   rw [List.drop_eq_nil_of_le (by simpa using this)] at hwp
   exact hwp
 ·have hf:∀k,(Array.replicate ops.size false).getD k false=false:=fun k=>by
   simp [Array.getD]
  refine ⟨by simp,fun i hi=>?_,.inl ⟨fun k _=>hf k,⟨rfl,rfl,fun _ _=>rfl⟩,hK0,fun i hi _=>hR0 i hi,fun i _ hL=>?_⟩⟩
  ·rw [hf] at hi;cases hi
  ·rw [hf] at hL;cases hL
end
end Reg
end Go.Proofs.Ytkflfohoinbenaa
