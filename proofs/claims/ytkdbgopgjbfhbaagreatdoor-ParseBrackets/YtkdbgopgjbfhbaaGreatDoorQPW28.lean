/- Texts that the claim needs. -/
import Derived.Test.YtkdbgopgjbfhbaaGreatDoorQPW27
namespace Go.Proofs.YtkdbgopgjbfhbaaGreatDoor
open Go.RowKit Lx Pz bq
set_option linter.unusedVariables false
set_option maxRecDepth 100000
set_option maxHeartbeats 16000000
namespace Pz
def uB:Value->List Value
 | .agg c=>match (c:Array Value)[2]? with
  | some (Value.agg a)=>a.toList
  | _=>[]
 | _=>[]
def CH:Value->List Value
 | .agg c=>match (c:Array Value)[1]? with
  | some (Value.agg a)=>a.toList
  | _=>[]
 | _=>[]
def yH:Value->List Value
 | .agg c=>match (c:Array Value)[1]? with
  | some (Value.agg a)=>a.toList
  | _=>[]
 | _=>[]
def uj (m:Nat) (c:Value):Bool:=(yH c).any (mr m)
def ui (m:Nat) (d:Value):Bool:=(uB d).any (uj m)
def pq (m:Nat) (ds:List Value) (e:Value):Bool:=ds.any (ui m) || lI m e
theorem LF {B b o:Nat} {w:World} {t:Value} (h:zJ B w b o t):∃x u z a ps cs,t=pM x ps cs a/\w.cell? ⟨b,o,none⟩=some (.string x)/\w.cell? ⟨b,o+1,none⟩=some u/\w.cell? ⟨b,o+2,none⟩=some z/\w.cell? ⟨b,o+3,none⟩=some (.int .i64 a)/\u.oneCell'=true/\z.oneCell'=true/\tu B u ps w/\yJ B z cs w:=by
 obtain ⟨hB,x,ps,cs,a,u,z,h0,h1,h2,h3,h4,h5,h6⟩:=h;obtain ⟨o1,c1,e1⟩:=Row.len h5;obtain ⟨o2,c2,e2⟩:=Row.len h6;exact ⟨x,u,z,a,ps,cs,h0,h1,h2,h3,h4,by rw [e1];rfl,by rw [e2];rfl,h5,h6⟩
theorem El {B b o:Nat} {w:World} {t:Value} (h:tC B w b o t):∃x u ts,t=sZ x ts/\w.cell? ⟨b,o,none⟩=some (.string x)/\w.cell? ⟨b,o+1,none⟩=some u/\u.oneCell'=true/\mJ B u ts w:=by
 obtain ⟨hB,x,ts,u,h0,h1,h2,h3⟩:=h;obtain ⟨d,hd⟩:=id h3;obtain ⟨o1,c1,e1⟩:=Row.len hd;exact ⟨x,u,ts,h0,h1,h2,by rw [e1];rfl,h3⟩
end Pz
theorem ab3 (m:Nat) (hm:(m:Int)=256) (ds:List Value) (e v:Value) (w:World) (h:lD 0 (ds,e) v w):Calls Tryz.prog 26 #[v] w fun r w'=>r=.returned (.bool (pq m ds e))/\Below w.heap.size w w':=by
 have bW:Hid (m<=1000):=ae (by omega);have dw:=ae hm;clear hm;obtain ⟨u,mk,mx,my,mn,mu,mz,ma,rfl,hD,hM⟩:=h;obtain ⟨oD,cD,rfl,_⟩:=cF hD;obtain ⟨wA,su⟩:∃wA,wA=w.alloc (.cells #[.slice oD ds.length cD,.int .i64 mk,.string mx,.string my,.int .i64 mn,mu,mz,.int .i64 ma] 29):=⟨_,rfl⟩;have jl:Below w.heap.size w wA:=by rw [su];exact dF w _
 have LG:wA.heap[w.heap.size]?=some (.cells #[.slice oD ds.length cD,.int .i64 mk,.string mx,.string my,.int .i64 mn,mu,mz,.int .i64 ma] 29 (0,0)):=by rw [su];exact heap_alloc_new w _
 have hD':mL 0 (.slice oD ds.length cD) ds wA:=mL.on (C:=0) hD (fun kk _ hl=>jl.block kk hl) (Nat.le_refl _);have HM:=ae (hM.on (B:=0) (C:=0) (fun kk _ hl=>jl.block kk hl) (Nat.le_refl _));obtain ⟨oD',cD',hsl,hel⟩:=cF hD';injection hsl with e1 _ e2;subst e1;subst e2;have iT:=ae hel;have zS:=ae hD'.1;obtain ⟨R,hR⟩:∃R,R=pq m ds e:=⟨_,rfl⟩;rw [<- hR];have st0:Hid (((ds.drop 0).any (ui m) || lI m e)=R):=ae (by rw [hR];rfl);have Ed:=ae jl;have Ty:=ae LG;have hd0:=ak LG 0 _ rfl;clear hR hD hD' hel hM jl LG;go_enter Tryz.func26,Tryz.ntmps26;go_upto_region 1 with fail;rw [<- su];clear su;go_wp2_with fail;clear hd0;go_loopw [12] (fun a wr=>∃i:Nat,a=.int .i64 i/\i<=ds.length/\Hid (((ds.drop i).any (ui m) || lI m e)=R)/\Hid (Below wA.heap.size wA wr)) (fun a _=>match a with | .int _ i=>ds.length-i.toNat|_=>0)
 case atStart=>exact ⟨0,rfl,Nat.zero_le _,st0,ae (Below.refl _ _)⟩
 case round =>
  obtain ⟨i,rfl,hi,HN,HB2⟩:=hrel;clear st0;by_cases hp:i<ds.length
  ·obtain ⟨d1,hd1⟩:∃d1,ds[i]?=some d1:=⟨_,List.getElem?_eq_getElem hp⟩;obtain ⟨b,off,gH,hC⟩:=iT.out i d1 hd1;subst gH;obtain ⟨dx,du,dz,da,ps,cs,h0,h1,h2,h3,h4,o1,o2,hRS,nV⟩:=LF hC;obtain ⟨oC,cC,rfl,Tz⟩:=cF nV;have y0:=ai HB2.out h1;have y1:=ai HB2.out h2;have y2:=ai HB2.out h3;have y3:=ai HB2.out h4;have q1:decide ((i:Int)<(ds.length:Int))=true:=decide_eq_true (by omega);have GY:=nM hp zS.out;have hN:=HN.out;rw [sx (f:=ui m) hd1,Bool.or_assoc,show ui m d1=cs.any (uj m) by rw [h0];rfl] at hN;obtain ⟨W,hW,hth,hbk,hbw⟩:=kW wr 62 uu #[.string dx,du,.slice oC cs.length cC,.int .i64 da] rfl;have HW:=ae hW;have aC:=ae hth;have bZ:=ae (aB HB2.out hbw);have Cr:=ae Tz;have GZ:=ae nV.1;obtain ⟨RD,LH⟩:∃RD,RD=((ds.drop (i+1)).any (ui m) || lI m e):=⟨_,rfl⟩;rw [<- LH] at hN;have HRD:=ae LH;have st1:Hid (((cs.drop 0).any (uj m) || RD)=R):=ae hN;have z2:=ak hbk 2 _ rfl;clear hC h0 h1 h2 h3 h4 hW hth hbk hbw hd1 HN HB2 hRS nV Tz hN LH;go_wp2_with (refine wpList_store_mid rfl 62 (.tmp 4) (.tmp 15) rfl wr.heap.size 0 #[.string dx,du,.slice oC cs.length cC,.int .i64 da] rfl rfl aC.out BS (by simp [Value.oneCell'] at o1 o2 ⊢;exact o1) ?_;rw [HW.out]);clear z2 y0 y1 y2 y3 HW aC;generalize wr.heap.size=qD at *;go_loopw [19] (fun a wr=>∃j:Nat,a=.int .i64 j/\j<=cs.length/\Hid (((cs.drop j).any (uj m) || RD)=R)/\Hid (Below wA.heap.size wA wr)) (fun a _=>match a with | .int _ i=>cs.length-i.toNat|_=>0)
   case atStart=>exact ⟨0,rfl,Nat.zero_le _,st1,bZ⟩
   case round =>
    obtain ⟨j,rfl,hj,HN,HB2⟩:=hrel;clear st1 bZ;by_cases nW:j<cs.length
    ·obtain ⟨c1,hc1⟩:∃c1,cs[j]?=some c1:=⟨_,List.getElem?_eq_getElem nW⟩;obtain ⟨bc,aeT,Em,hC⟩:=Cr.out j c1 hc1;subst Em;obtain ⟨cx,cu,ts,h0,h1,h2,o3,hRT⟩:=El hC;obtain ⟨dd,hrt⟩:=hRT;obtain ⟨oT,cT,rfl,TC⟩:=cF hrt;have y0:=ai HB2.out h1;have y1:=ai HB2.out h2;have q2:decide ((j:Int)<(cs.length:Int))=true:=decide_eq_true (by omega);have nX:=nM nW GZ.out;have hN:=HN.out;rw [sx (f:=uj m) hc1,Bool.or_assoc,show uj m c1=ts.any (mr m) by rw [h0];rfl] at hN;obtain ⟨W,hW,hth,hbk,hbw⟩:=kW wr 76 Ie #[.string cx,.slice oT ts.length cT] rfl;have HW:=ae hW;have aC:=ae hth;have bZ:=ae (aB HB2.out hbw);have HTL:=ae TC;have mi:=ae hrt.1;obtain ⟨RC,nV⟩:∃RC,RC=((cs.drop (j+1)).any (uj m) || RD):=⟨_,rfl⟩;rw [<- nV] at hN;have Aj:=ae nV;have st2:Hid (((ts.drop 0).any (mr m) || RC)=R):=ae hN;have z1:=ak hbk 1 _ rfl;clear hC h0 h1 h2 hW hth hbk hbw hc1 HN HB2 hrt TC hN nV;go_wp2_with (refine wpList_store_mid rfl 76 (.tmp 6) (.tmp 22) rfl wr.heap.size 0 #[.string cx,.slice oT ts.length cT] rfl rfl aC.out Nf (by simp [Value.oneCell']) ?_;rw [HW.out]);clear z1 y0 y1 HW aC;generalize wr.heap.size=qC at *;go_loopw [26] (fun a wr=>∃k:Nat,a=.int .i64 k/\k<=ts.length/\Hid (((ts.drop k).any (mr m) || RC)=R)/\Hid (Below wA.heap.size wA wr)) (fun a _=>match a with | .int _ i=>ts.length-i.toNat|_=>0)
     case atStart=>exact ⟨0,rfl,Nat.zero_le _,st2,bZ⟩
     case round =>
      obtain ⟨k,rfl,hk,HN,HB2⟩:=hrel;clear st2 bZ;by_cases hpk:k<ts.length
      ·obtain ⟨t1,ht1⟩:∃t1,ts[k]?=some t1:=⟨_,List.getElem?_eq_getElem hpk⟩;obtain ⟨bt,aeU,hoT,hC⟩:=HTL.out k t1 ht1;subst hoT;obtain ⟨k1,x1,n1,u1,es1,h0,h1,h2,h3,h4,o4,hT⟩:=LI hC;have y0:=ai HB2.out h1;have y1:=ai HB2.out h2;have y2:=ai HB2.out h3;have y3:=ai HB2.out h4;have q3:decide ((k:Int)<(ts.length:Int))=true:=decide_eq_true (by omega);have hwk:=nM hpk mi.out;have hN:=HN.out;rw [sx (f:=mr m) ht1,Bool.or_assoc] at hN;obtain ⟨W,hW,hth,hbk,hbw⟩:=kW wr 79 nR #[.int .i64 k1,.string x1,.int .i64 n1,u1] rfl;have eP:=ae (TD m t1 _ W bW.out ((hT.on (B:=0) (C:=0) (fun kk _ hl=>(HB2.out.block kk hl)) (Nat.le_refl _)).on (fun kk _ hl=>hbw.block kk hl) (Nat.le_refl _)));rw [dw.out] at eP;have HW:=ae hW;have aC:=ae hth;have bZ:=ae (aB HB2.out hbw);have z0:=ak hbk 0 _ rfl;have z1:=ak hbk 1 _ rfl;have z2:=ak hbk 2 _ rfl;have z3:=ak hbk 3 _ rfl;clear hC h0 h1 h2 h3 h4 hT hW hth hbk hbw ht1 HN HB2;generalize mr m t1=Bt at *;cases Bt with
       | true =>
        rw [Bool.true_or] at hN;have HS:Hid (R=true):=ae hN.symm;clear hN;go_wp2_with (refine wpList_store_mid rfl 79 (.tmp 8) (.tmp 29) rfl wr.heap.size 0 #[.int .i64 k1,.string x1,.int .i64 n1,u1] rfl rfl aC.out jH (by simp [Value.oneCell'] at o4 ⊢;exact o4) ?_;rw [HW.out]);refine Calls.mono (show Calls _ _ _ _ _ from eP.out) ?_;rintro r w3 ⟨rfl,hb3⟩;have bb:=ae (aB Ed.out (aB bZ.out hb3));clear hb3 z0 z1 z2 z3 y0 y1 y2 y3;go_wp2;go_ret;exact ⟨bf HS.out.symm,bb.out⟩
       | false =>
        rw [Bool.false_or] at hN;have HS:=ae hN;clear hN;go_wp2_with (refine wpList_store_mid rfl 79 (.tmp 8) (.tmp 29) rfl wr.heap.size 0 #[.int .i64 k1,.string x1,.int .i64 n1,u1] rfl rfl aC.out jH (by simp [Value.oneCell'] at o4 ⊢;exact o4) ?_;rw [HW.out]);refine Calls.mono (show Calls _ _ _ _ _ from eP.out) ?_;rintro r w3 ⟨rfl,hb3⟩;have bb:=ae (aB bZ.out hb3);clear hb3 z0 z1 z2 z3 y0 y1 y2 y3;go_wp2;go_roundw
        case rel=>exact ⟨k+1,by first|rfl|(congr 1),hpk,HS,bb⟩
        case measure=>clear GY nX;(try simp only [hwk]);clear hwk;simp;omega
      ·have q3:decide ((k:Int)<(ts.length:Int))=false:=decide_eq_false (by omega);have HS:Hid (((cs.drop (j+1)).any (uj m) || RD)=R):=ae (by have h9:=HN.out;rw [List.drop_eq_nil_of_le (by omega),List.any_nil,Bool.false_or] at h9;rw [<- Aj.out];exact h9);clear HN;go_wp2;go_roundw
       case rel=>exact ⟨j+1,by first|rfl|(congr 1),nW,HS,HB2⟩
       case measure=>clear GY;(try simp only [nX]);clear nX;simp;omega
    ·have q2:decide ((j:Int)<(cs.length:Int))=false:=decide_eq_false (by omega);have HS:Hid (((ds.drop (i+1)).any (ui m) || lI m e)=R):=ae (by have h9:=HN.out;rw [List.drop_eq_nil_of_le (by omega),List.any_nil,Bool.false_or] at h9;rw [<- HRD.out];exact h9);clear HN;go_wp2;go_roundw
     case rel=>exact ⟨i+1,by first|rfl|(congr 1),hp,HS,HB2⟩
     case measure=>(try simp only [GY]);clear GY;simp;omega
  ·have q1:decide ((i:Int)<(ds.length:Int))=false:=decide_eq_false (by omega);have HS:Hid (R=lI m e):=ae (by have h9:=HN.out;rw [List.drop_eq_nil_of_le (by omega),List.any_nil,Bool.false_or] at h9;exact h9.symm);have hx2:wr.heap[w.heap.size]?=some (.cells #[.slice oD ds.length cD,.int .i64 mk,.string mx,.string my,.int .i64 mn,mu,mz,.int .i64 ma] 29 (0,0)):=by rw [HB2.out.block _ (Array.getElem?_eq_some_iff.1 Ty.out).1];exact Ty.out
   have r1:=ak hx2 1 _ rfl;have r2:=ak hx2 2 _ rfl;have r3:=ak hx2 3 _ rfl;have r4:=ak hx2 4 _ rfl;have r5:=ak hx2 5 _ rfl;have r6:=ak hx2 6 _ rfl;have r7:=ak hx2 7 _ rfl;have HP:=ae (TE m e _ wr bW.out (HM.out.on (B:=0) (C:=0) (fun kk _ hl=>HB2.out.block kk hl) (Nat.le_refl _)));rw [dw.out] at HP;clear HN hx2;go_wp2_with fail;refine Calls.mono (show Calls _ _ _ _ _ from HP.out) ?_;rintro r w3 ⟨rfl,hb3⟩;have bb:=ae (aB Ed.out (aB HB2.out hb3));clear hb3 r1 r2 r3 r4 r5 r6 r7 HP;go_wp2;go_ret;exact ⟨bf HS.out.symm,bb.out⟩
theorem ab4 (ds:List Value) (e v:Value) (w:World) (h:lD 0 (ds,e) v w):Calls Tryz.prog 26 #[v] w fun r w'=>r=.returned (.bool (pq 256 ds e))/\Below w.heap.size w w':=ab3 256 rfl ds e v w h
namespace Pz
def kg:Nat->Value->Bool
 | 0,_=>false
 | d+1,t=>(jE t == 4 && decide (8<(dE t).length)) || (dE t).any (kg d)
def kR:Nat->Value->Bool
 | 0,_=>false
 | d+1,t=>(jE t == 8 && decide (8<(dE t).length)) || ((dE t).any (kR d) || (gV t).any (kg d))
def yG (c:Value):Bool:=decide (8<(yH c).length)
def yI (d:Value):Bool:=decide (4<(CH d).length) || (decide (32<(uB d).length) || (uB d).any yG)
theorem uC {n m:Nat}:decide ((n:Int) > (m:Int))=decide (m<n):=by
 by_cases h:m<n
 ·rw [decide_eq_true h];exact decide_eq_true (by omega)
 ·rw [decide_eq_false h];exact decide_eq_false (by omega)
end Pz
theorem Xq (t v:Value) (w:World) (h:jU 0 t v w):Calls Tryz.prog 127 #[v] w fun e w'=>e=.returned (.bool (yG t))/\Below w.heap.size w w':=by
 obtain ⟨x,ts,u,rfl,rfl,d,hr⟩:=h;obtain ⟨oR,cR,rfl,_⟩:=cF hr;have HB:=ae (dF w (.cells #[.string x,.slice oR ts.length cR] 76));have HR:Hid (decide ((ts.length:Int) > 8)=yG (sZ x ts)):=ae (uC (n:=ts.length) (m:=8));generalize yG (sZ x ts)=R at *;clear hr;go_enter Tryz.func127,Tryz.ntmps127;go_wp2;go_ret;exact ⟨bf HR.out,HB.out⟩
theorem Xr (t v:Value) (w:World) (h:lj 0 t v w):Calls Tryz.prog 63 #[v] w fun e w'=>e=.returned (.bool (yI t))/\Below w.heap.size w w':=by
 obtain ⟨x,ps,cs,a,u,z,rfl,rfl,hs,hc⟩:=h;obtain ⟨oS,cS,rfl,_⟩:=cF hs;obtain ⟨oC,cC,rfl,_⟩:=cF hc;have hb:Below w.heap.size w (w.alloc (.cells #[.string x,.slice oS (ps.map Value.string).length cS,.slice oC cs.length cC,.int .i64 a] 62)):=dF w _;have HB:=ae hb;have HC:=ae (Xt yG cs (.slice oC cs.length cC) _ (yJ.on (C:=0) (B:=0) hc (fun kk _ hl=>hb.block kk hl) (Nat.le_refl _)) (fun t v w' _ ht _=>Xq t v w' ht));obtain ⟨R,hR⟩:∃R,R=yI (pM x ps cs a):=⟨_,rfl⟩;rw [<- hR];have hR':R=(decide (4<(ps.map Value.string).length) || (decide (32<cs.length) || cs.any yG)):=hR;generalize (ps.map Value.string).length=n1 at *;have e1:=uC (n:=n1) (m:=4);have e2:=uC (n:=cs.length) (m:=32);rw [<- e1,<- e2] at hR';have HR:=ae hR';have q1c:((4:Nat):Int)=4:=rfl;clear hR hs hc hb e1 e2 hR';cases h1:decide ((n1:Int) > ((4:Nat):Int)) with
 | true =>
  have h1':decide ((n1:Int) > 4)=true:=h1;have HS:Hid (true=R):=ae (by rw [HR.out,h1];rfl);clear h1 HR;go_enter Tryz.func63,Tryz.ntmps63;go_wp2;go_ret;exact ⟨bf HS.out,HB.out⟩
 | false =>
  have h1':decide ((n1:Int) > 4)=false:=h1;cases h2:decide ((cs.length:Int) > ((32:Nat):Int)) with
  | true =>
   have h2':decide ((cs.length:Int) > 32)=true:=h2;have HS:Hid (true=R):=ae (by rw [HR.out,h1,h2];rfl);clear h1 h2 HR;go_enter Tryz.func63,Tryz.ntmps63;go_wp2;go_ret;exact ⟨bf HS.out,HB.out⟩
  | false =>
   have h2':decide ((cs.length:Int) > 32)=false:=h2;have HS:Hid (cs.any yG=R):=ae (by rw [HR.out,h1,h2];rfl);clear h1 h2 HR;go_enter Tryz.func63,Tryz.ntmps63;go_wp2_with fail;refine Calls.mono (show Calls _ _ _ _ _ from HC.out) ?_;rintro e w1 ⟨rfl,hb1⟩;have HB1:=ae (aB HB.out hb1);clear hb1 HC;go_wp2;go_ret;exact ⟨bf HS.out,HB1.out⟩
theorem Xu (d:Nat):∀(t v:Value) (w:World),lu 0 d w t v->Calls Tryz.prog 130 #[v] w fun e w'=>e=.returned (.bool (kg (d+1) t))/\Below w.heap.size w w':=by
 induction d with
 | zero =>
  intro t v w h;obtain ⟨k,x,n,es,a,u,rfl,rfl,hr⟩:=h;obtain ⟨oR,cR,rfl,hel⟩:=cF hr;have hb:Below w.heap.size w (w.alloc (.cells #[.int .i64 k,.string x,.int .i64 n,.slice oR es.length cR,.int .i64 a] 101)):=dF w _;have HB:=ae hb;obtain ⟨R,hR⟩:∃R,R=kg (0+1) (nd k x e0 n es [] a):=⟨_,rfl⟩;rw [<- hR];rw [kg,ko,vZ] at hR;have HC:=ae (E5 (kg (0)) es (.slice oR es.length cR) _ (0) (hr.imp (fun b o t _ ht=>di.but (fun kk _ hl=>hb.block kk hl) _ b o t ht)) (fun t v w' hm ⟨d0,e0,hh⟩ _=>by cases e0));have e1:=uC (n:=es.length) (m:=8);rw [<- e1] at hR;have HR:=ae hR;clear hR hr hb e1 hel;cases h1:(k == 4) && decide ((es.length:Int) > ((8:Nat):Int)) with
  | true =>
   have HS:Hid (true=R):=ae (by rw [HR.out,h1];rfl);rw [Bool.and_eq_true] at h1;obtain ⟨q1,h2⟩:=h1;have q2:decide ((es.length:Int) > 8)=true:=h2;clear h2 HR HC;go_enter Tryz.func130,Tryz.ntmps130;go_wp2;go_ret;exact ⟨bf HS.out,HB.out⟩
  | false =>
   have jF:=HR.out;rw [h1,Bool.false_or] at jF;have HR2:=ae jF;clear jF HR;generalize es.any (kg (0))=Rt at HC HR2;cases q1:k == 4 with
   | true =>
    rw [q1,Bool.true_and] at h1;have q2:decide ((es.length:Int) > 8)=false:=h1;clear h1;go_enter Tryz.func130,Tryz.ntmps130;go_wp2_with fail;refine Calls.mono (show Calls _ _ _ _ _ from HC.out) ?_;rintro e w1 ⟨rfl,hb1⟩;have HB1:=ae (aB HB.out hb1);clear hb1 HC;go_wp2;go_ret;exact ⟨bf HR2.out.symm,HB1.out⟩
   | false =>
    clear h1;go_enter Tryz.func130,Tryz.ntmps130;go_wp2_with fail;refine Calls.mono (show Calls _ _ _ _ _ from HC.out) ?_;rintro e w1 ⟨rfl,hb1⟩;have HB1:=ae (aB HB.out hb1);clear hb1 HC;go_wp2;go_ret;exact ⟨bf HR2.out.symm,HB1.out⟩
 | succ d ih =>
  intro t v w h;obtain ⟨k,x,n,es,a,u,rfl,rfl,hr⟩:=h;obtain ⟨oR,cR,rfl,hel⟩:=cF hr;have hb:Below w.heap.size w (w.alloc (.cells #[.int .i64 k,.string x,.int .i64 n,.slice oR es.length cR,.int .i64 a] 101)):=dF w _;have HB:=ae hb;obtain ⟨R,hR⟩:∃R,R=kg (d+1+1) (nd k x e0 n es [] a):=⟨_,rfl⟩;rw [<- hR];rw [kg,ko,vZ] at hR;have HC:=ae (E5 (kg (d+1)) es (.slice oR es.length cR) _ (d+1) (hr.imp (fun b o t _ ht=>di.but (fun kk _ hl=>hb.block kk hl) _ b o t ht)) (fun t v w' hm ⟨d0,e0,hh⟩ _=>by injection e0 with e0;subst e0;exact ih t v w' hh));have e1:=uC (n:=es.length) (m:=8);rw [<- e1] at hR;have HR:=ae hR;clear hR hr hb e1 hel;cases h1:(k == 4) && decide ((es.length:Int) > ((8:Nat):Int)) with
  | true =>
   have HS:Hid (true=R):=ae (by rw [HR.out,h1];rfl);rw [Bool.and_eq_true] at h1;obtain ⟨q1,h2⟩:=h1;have q2:decide ((es.length:Int) > 8)=true:=h2;clear h2 HR HC;go_enter Tryz.func130,Tryz.ntmps130;go_wp2;go_ret;exact ⟨bf HS.out,HB.out⟩
  | false =>
   have jF:=HR.out;rw [h1,Bool.false_or] at jF;have HR2:=ae jF;clear jF HR;generalize es.any (kg (d+1))=Rt at HC HR2;cases q1:k == 4 with
   | true =>
    rw [q1,Bool.true_and] at h1;have q2:decide ((es.length:Int) > 8)=false:=h1;clear h1;go_enter Tryz.func130,Tryz.ntmps130;go_wp2_with fail;refine Calls.mono (show Calls _ _ _ _ _ from HC.out) ?_;rintro e w1 ⟨rfl,hb1⟩;have HB1:=ae (aB HB.out hb1);clear hb1 HC;go_wp2;go_ret;exact ⟨bf HR2.out.symm,HB1.out⟩
   | false =>
    clear h1;go_enter Tryz.func130,Tryz.ntmps130;go_wp2_with fail;refine Calls.mono (show Calls _ _ _ _ _ from HC.out) ?_;rintro e w1 ⟨rfl,hb1⟩;have HB1:=ae (aB HB.out hb1);clear hb1 HC;go_wp2;go_ret;exact ⟨bf HR2.out.symm,HB1.out⟩
theorem Xv (d:Nat):∀(t v:Value) (w:World),ji 0 d w t v->Calls Tryz.prog 64 #[v] w fun e w'=>e=.returned (.bool (kR (d+1) t))/\Below w.heap.size w w':=by
 induction d with
 | zero =>
  intro t v w h;obtain ⟨k,x,y,n,es,ps,a,u,z,rfl,rfl,hr,nE⟩:=h;obtain ⟨oR,cR,rfl,hel⟩:=cF hr;obtain ⟨oP,cP,rfl,_⟩:=cF nE;have hb:Below w.heap.size w (w.alloc (.cells #[.int .i64 k,.string x,.string y,.int .i64 n,.slice oR es.length cR,.slice oP ps.length cP,.int .i64 a] 27)):=dF w _;have HB:=ae hb;obtain ⟨R,hR⟩:∃R,R=kR (0+1) (nd k x y n es ps a):=⟨_,rfl⟩;rw [<- hR];rw [kR,ko,vZ,qI] at hR;have HC:=ae (OH (kR (0)) es (.slice oR es.length cR) _ (0) (hr.imp (fun b o t _ ht=>dW.but (fun kk _ hl=>hb.block kk hl) _ b o t ht)) (fun t v w' hm ⟨d0,e0,hh⟩ _=>by cases e0));have tG:=ae (fun w' (hbw:Below w.heap.size w w')=>E5 (kg (0)) ps (.slice oP ps.length cP) w' (0) (nE.imp (fun b o t _ ht=>di.but (fun kk _ hl=>hbw.block kk hl) _ b o t ht)) (fun t v w2 hm ⟨d0,e0,hh⟩ _=>by cases e0));generalize I1:ps.any (kg (0))=CI at *;clear I1;have e1:=uC (n:=es.length) (m:=8);rw [<- e1] at hR;have HR:=ae hR;clear hR hr hb e1 hel nE;cases h1:(k == 8) && decide ((es.length:Int) > ((8:Nat):Int)) with
  | true =>
   have HS:Hid (true=R):=ae (by rw [HR.out,h1];rfl);rw [Bool.and_eq_true] at h1;obtain ⟨q1,h2⟩:=h1;have q2:decide ((es.length:Int) > 8)=true:=h2;clear h2 HR HC;go_enter Tryz.func64,Tryz.ntmps64;go_wp2;go_ret;exact ⟨bf HS.out,HB.out⟩
  | false =>
   have jF:=HR.out;rw [h1,Bool.false_or] at jF;have HR2:=ae jF;clear jF HR;generalize es.any (kR (0))=Rt at HC HR2;cases q1:k == 8 with
   | true =>
    rw [q1,Bool.true_and] at h1;have q2:decide ((es.length:Int) > 8)=false:=h1;clear h1;go_enter Tryz.func64,Tryz.ntmps64;go_wp2_with fail;refine Calls.mono (show Calls _ _ _ _ _ from HC.out) ?_;rintro e w1 ⟨rfl,hb1⟩;have HB1:=ae (aB HB.out hb1);have hx1:w1.heap[w.heap.size]?=some (.cells #[.int .i64 k,.string x,.string y,.int .i64 n,.slice oR es.length cR,.slice oP ps.length cP,.int .i64 a] 27 (0,0)):=by rw [hb1.block _ (by simp)];exact heap_alloc_new w _
    have r5:=ak hx1 5 _ rfl;have HP:=ae (tG.out w1 HB1.out);clear hb1 HC hx1;cases Rt with
    | true =>
     have HS:Hid (true=R):=ae (by rw [HR2.out];rfl);clear HR2 HP;go_wp2;go_ret;exact ⟨bf HS.out,HB1.out⟩
    | false =>
     have HS:Hid (CI=R):=ae (by rw [HR2.out];rfl);clear HR2;go_wp2_with fail;refine Calls.mono (show Calls _ _ _ _ _ from HP.out) ?_;rintro e w2 ⟨rfl,hb2⟩;have HB2:=ae (aB HB1.out hb2);clear hb2 HP r5;go_wp2;go_ret;exact ⟨bf HS.out,HB2.out⟩
   | false =>
    clear h1;go_enter Tryz.func64,Tryz.ntmps64;go_wp2_with fail;refine Calls.mono (show Calls _ _ _ _ _ from HC.out) ?_;rintro e w1 ⟨rfl,hb1⟩;have HB1:=ae (aB HB.out hb1);have hx1:w1.heap[w.heap.size]?=some (.cells #[.int .i64 k,.string x,.string y,.int .i64 n,.slice oR es.length cR,.slice oP ps.length cP,.int .i64 a] 27 (0,0)):=by rw [hb1.block _ (by simp)];exact heap_alloc_new w _
    have r5:=ak hx1 5 _ rfl;have HP:=ae (tG.out w1 HB1.out);clear hb1 HC hx1;cases Rt with
    | true =>
     have HS:Hid (true=R):=ae (by rw [HR2.out];rfl);clear HR2 HP;go_wp2;go_ret;exact ⟨bf HS.out,HB1.out⟩
    | false =>
     have HS:Hid (CI=R):=ae (by rw [HR2.out];rfl);clear HR2;go_wp2_with fail;refine Calls.mono (show Calls _ _ _ _ _ from HP.out) ?_;rintro e w2 ⟨rfl,hb2⟩;have HB2:=ae (aB HB1.out hb2);clear hb2 HP r5;go_wp2;go_ret;exact ⟨bf HS.out,HB2.out⟩
 | succ d ih =>
  intro t v w h;obtain ⟨k,x,y,n,es,ps,a,u,z,rfl,rfl,hr,nE⟩:=h;obtain ⟨oR,cR,rfl,hel⟩:=cF hr;obtain ⟨oP,cP,rfl,_⟩:=cF nE;have hb:Below w.heap.size w (w.alloc (.cells #[.int .i64 k,.string x,.string y,.int .i64 n,.slice oR es.length cR,.slice oP ps.length cP,.int .i64 a] 27)):=dF w _;have HB:=ae hb;obtain ⟨R,hR⟩:∃R,R=kR (d+1+1) (nd k x y n es ps a):=⟨_,rfl⟩;rw [<- hR];rw [kR,ko,vZ,qI] at hR;have HC:=ae (OH (kR (d+1)) es (.slice oR es.length cR) _ (d+1) (hr.imp (fun b o t _ ht=>dW.but (fun kk _ hl=>hb.block kk hl) _ b o t ht)) (fun t v w' hm ⟨d0,e0,hh⟩ _=>by injection e0 with e0;subst e0;exact ih t v w' hh));have tG:=ae (fun w' (hbw:Below w.heap.size w w')=>E5 (kg (d+1)) ps (.slice oP ps.length cP) w' (d+1) (nE.imp (fun b o t _ ht=>di.but (fun kk _ hl=>hbw.block kk hl) _ b o t ht)) (fun t v w2 hm ⟨d0,e0,hh⟩ _=>by injection e0 with e0;subst e0;exact Xu d t v w2 hh));generalize I1:ps.any (kg (d+1))=CI at *;clear I1;have e1:=uC (n:=es.length) (m:=8);rw [<- e1] at hR;have HR:=ae hR;clear hR hr hb e1 hel nE;cases h1:(k == 8) && decide ((es.length:Int) > ((8:Nat):Int)) with
  | true =>
   have HS:Hid (true=R):=ae (by rw [HR.out,h1];rfl);rw [Bool.and_eq_true] at h1;obtain ⟨q1,h2⟩:=h1;have q2:decide ((es.length:Int) > 8)=true:=h2;clear h2 HR HC;go_enter Tryz.func64,Tryz.ntmps64;go_wp2;go_ret;exact ⟨bf HS.out,HB.out⟩
  | false =>
   have jF:=HR.out;rw [h1,Bool.false_or] at jF;have HR2:=ae jF;clear jF HR;generalize es.any (kR (d+1))=Rt at HC HR2;cases q1:k == 8 with
   | true =>
    rw [q1,Bool.true_and] at h1;have q2:decide ((es.length:Int) > 8)=false:=h1;clear h1;go_enter Tryz.func64,Tryz.ntmps64;go_wp2_with fail;refine Calls.mono (show Calls _ _ _ _ _ from HC.out) ?_;rintro e w1 ⟨rfl,hb1⟩;have HB1:=ae (aB HB.out hb1);have hx1:w1.heap[w.heap.size]?=some (.cells #[.int .i64 k,.string x,.string y,.int .i64 n,.slice oR es.length cR,.slice oP ps.length cP,.int .i64 a] 27 (0,0)):=by rw [hb1.block _ (by simp)];exact heap_alloc_new w _
    have r5:=ak hx1 5 _ rfl;have HP:=ae (tG.out w1 HB1.out);clear hb1 HC hx1;cases Rt with
    | true =>
     have HS:Hid (true=R):=ae (by rw [HR2.out];rfl);clear HR2 HP;go_wp2;go_ret;exact ⟨bf HS.out,HB1.out⟩
    | false =>
     have HS:Hid (CI=R):=ae (by rw [HR2.out];rfl);clear HR2;go_wp2_with fail;refine Calls.mono (show Calls _ _ _ _ _ from HP.out) ?_;rintro e w2 ⟨rfl,hb2⟩;have HB2:=ae (aB HB1.out hb2);clear hb2 HP r5;go_wp2;go_ret;exact ⟨bf HS.out,HB2.out⟩
   | false =>
    clear h1;go_enter Tryz.func64,Tryz.ntmps64;go_wp2_with fail;refine Calls.mono (show Calls _ _ _ _ _ from HC.out) ?_;rintro e w1 ⟨rfl,hb1⟩;have HB1:=ae (aB HB.out hb1);have hx1:w1.heap[w.heap.size]?=some (.cells #[.int .i64 k,.string x,.string y,.int .i64 n,.slice oR es.length cR,.slice oP ps.length cP,.int .i64 a] 27 (0,0)):=by rw [hb1.block _ (by simp)];exact heap_alloc_new w _
    have r5:=ak hx1 5 _ rfl;have HP:=ae (tG.out w1 HB1.out);clear hb1 HC hx1;cases Rt with
    | true =>
     have HS:Hid (true=R):=ae (by rw [HR2.out];rfl);clear HR2 HP;go_wp2;go_ret;exact ⟨bf HS.out,HB1.out⟩
    | false =>
     have HS:Hid (CI=R):=ae (by rw [HR2.out];rfl);clear HR2;go_wp2_with fail;refine Calls.mono (show Calls _ _ _ _ _ from HP.out) ?_;rintro e w2 ⟨rfl,hb2⟩;have HB2:=ae (aB HB1.out hb2);clear hb2 HP r5;go_wp2;go_ret;exact ⟨bf HS.out,HB2.out⟩
namespace Pz
theorem TN {d b o:Nat} {w:World} {t:Value} (h:dW 0 w d b o t):∃k x y n u z a,w.cell? ⟨b,o,none⟩=some (.int .i64 k)/\w.cell? ⟨b,o+1,none⟩=some (.string x)/\w.cell? ⟨b,o+2,none⟩=some (.string y)/\w.cell? ⟨b,o+3,none⟩=some (.int .i64 n)/\w.cell? ⟨b,o+4,none⟩=some u/\w.cell? ⟨b,o+5,none⟩=some z/\w.cell? ⟨b,o+6,none⟩=some (.int .i64 a)/\(u.oneCell'=true/\z.oneCell'=true)/\aX 0 t (.agg #[.int .i64 k,.string x,.string y,.int .i64 n,u,z,.int .i64 a]) w:=by
 obtain ⟨k,x,y,n,u,z,a,h1,h2,h3,h4,h5,h6,h7,o1,o2,h8⟩:=JV h;exact ⟨k,x,y,n,u,z,a,h1,h2,h3,h4,h5,h6,h7,⟨o1,o2⟩,h8⟩
theorem TM {d b o:Nat} {w:World} {t:Value} (h:di 0 w d b o t):∃k x n u a,w.cell? ⟨b,o,none⟩=some (.int .i64 k)/\w.cell? ⟨b,o+1,none⟩=some (.string x)/\w.cell? ⟨b,o+2,none⟩=some (.int .i64 n)/\w.cell? ⟨b,o+3,none⟩=some u/\w.cell? ⟨b,o+4,none⟩=some (.int .i64 a)/\u.oneCell'=true/\cW 0 t (.agg #[.int .i64 k,.string x,.int .i64 n,u,.int .i64 a]) w:=by
 obtain ⟨k,x,n,u,a,es,_,h1,h2,h3,h4,h5,o1,h6,_⟩:=LS h;exact ⟨k,x,n,u,a,h1,h2,h3,h4,h5,o1,h6⟩
theorem OU {d b o:Nat} {w:World} {t:Value} (h:eM 0 w d b o t):∃k x n u,w.cell? ⟨b,o,none⟩=some (.int .i64 k)/\w.cell? ⟨b,o+1,none⟩=some (.string x)/\w.cell? ⟨b,o+2,none⟩=some (.int .i64 n)/\w.cell? ⟨b,o+3,none⟩=some u/\u.oneCell'=true/\fE 0 t (.agg #[.int .i64 k,.string x,.int .i64 n,u]) w:=by
 obtain ⟨k,x,n,u,es,_,h1,h2,h3,h4,o1,h5⟩:=LI h;exact ⟨k,x,n,u,h1,h2,h3,h4,o1,h5⟩
end Pz
end Go.Proofs.YtkdbgopgjbfhbaaGreatDoor
