/- Texts that the claim needs. -/
import Derived.Test.YtkdbgopgjbfhbaaGreatDoorQPV27
namespace Go.Proofs.YtkdbgopgjbfhbaaGreatDoor
open Go.RowKit Lx Pz bw
set_option linter.unusedVariables false
set_option maxRecDepth 100000
set_option maxHeartbeats 16000000
namespace Pz
def kH:Value->List Value
 | .agg c=>match (c:Array Value)[2]? with
  | some (Value.agg a)=>a.toList
  | _=>[]
 | _=>[]
def p8:Value->List Value
 | .agg c=>match (c:Array Value)[1]? with
  | some (Value.agg a)=>a.toList
  | _=>[]
 | _=>[]
def oJ:Value->List Value
 | .agg c=>match (c:Array Value)[1]? with
  | some (Value.agg a)=>a.toList
  | _=>[]
 | _=>[]
def tN (m:Nat) (c:Value):Bool:=(oJ c).any (lN m)
def xy (m:Nat) (d:Value):Bool:=(kH d).any (tN m)
def rS (m:Nat) (ds:List Value) (e:Value):Bool:=ds.any (xy m) || mU m e
theorem Gy {B b o:Nat} {w:World} {t:Value} (h:nV B w b o t):∃x u z a ps cs,t=lh x ps cs a/\w.cell? ⟨b,o,none⟩=some (.string x)/\w.cell? ⟨b,o+1,none⟩=some u/\w.cell? ⟨b,o+2,none⟩=some z/\w.cell? ⟨b,o+3,none⟩=some (.int .i64 a)/\u.oneCell'=true/\z.oneCell'=true/\kS B u ps w/\oK B z cs w:=by
 obtain ⟨hB,x,ps,cs,a,u,z,h0,h1,h2,h3,h4,h5,h6⟩:=h;obtain ⟨o1,c1,e1⟩:=Row.len h5;obtain ⟨o2,c2,e2⟩:=Row.len h6;exact ⟨x,u,z,a,ps,cs,h0,h1,h2,h3,h4,by rw [e1];rfl,by rw [e2];rfl,h5,h6⟩
theorem Bb {B b o:Nat} {w:World} {t:Value} (h:lD B w b o t):∃x u ts,t=mr x ts/\w.cell? ⟨b,o,none⟩=some (.string x)/\w.cell? ⟨b,o+1,none⟩=some u/\u.oneCell'=true/\iz B u ts w:=by
 obtain ⟨hB,x,ts,u,h0,h1,h2,h3⟩:=h;obtain ⟨d,hd⟩:=id h3;obtain ⟨o1,c1,e1⟩:=Row.len hd;exact ⟨x,u,ts,h0,h1,h2,by rw [e1];rfl,h3⟩
end Pz
theorem aaP (m:Nat) (hm:(m:Int)=256) (ds:List Value) (e v:Value) (w:World) (h:fw 0 (ds,e) v w):Calls Tryz.prog 26 #[v] w fun r w'=>r=.returned (.bool (rS m ds e))/\Below w.heap.size w w':=by
 have bW:Hid (m<=1000):=ae (by omega);have dm:=ae hm;clear hm;obtain ⟨u,mk,mx,my,mn,mu,mz,ma,rfl,hD,hM⟩:=h;obtain ⟨oD,cD,rfl,_⟩:=bz hD;obtain ⟨wA,rR⟩:∃wA,wA=w.alloc (.cells #[.slice oD ds.length cD,.int .i64 mk,.string mx,.string my,.int .i64 mn,mu,mz,.int .i64 ma] 29):=⟨_,rfl⟩;have jw:Below w.heap.size w wA:=by rw [rR];exact bN w _
 have KJ:wA.heap[w.heap.size]?=some (.cells #[.slice oD ds.length cD,.int .i64 mk,.string mx,.string my,.int .i64 mn,mu,mz,.int .i64 ma] 29 (0,0)):=by rw [rR];exact heap_alloc_new w _
 have hD':iN 0 (.slice oD ds.length cD) ds wA:=iN.on (C:=0) hD (fun kk _ hl=>jw.block kk hl) (Nat.le_refl _);have HM:=ae (hM.on (B:=0) (C:=0) (fun kk _ hl=>jw.block kk hl) (Nat.le_refl _));obtain ⟨oD',cD',hsl,hel⟩:=bz hD';injection hsl with e1 _ e2;subst e1;subst e2;have dB:=ae hel;have zD:=ae hD'.1;obtain ⟨R,hR⟩:∃R,R=rS m ds e:=⟨_,rfl⟩;rw [<- hR];have st0:Hid (((ds.drop 0).any (xy m) || mU m e)=R):=ae (by rw [hR];rfl);have iX:=ae jw;have jQ:=ae KJ;have hd0:=af KJ 0 _ rfl;clear hR hD hD' hel hM jw KJ;go_enter Tryz.func26,Tryz.ntmps26;go_upto_region 1 with fail;rw [<- rR];clear rR;go_wp2_with fail;clear hd0;go_loopw [12] (fun a wr=>∃i:Nat,a=.int .i64 i/\i<=ds.length/\Hid (((ds.drop i).any (xy m) || mU m e)=R)/\Hid (Below wA.heap.size wA wr)) (fun a _=>match a with | .int _ i=>ds.length-i.toNat|_=>0)
 case atStart=>exact ⟨0,rfl,Nat.zero_le _,st0,ae (Below.refl _ _)⟩
 case round =>
  obtain ⟨i,rfl,hi,HN,HB2⟩:=hrel;clear st0;by_cases hp:i<ds.length
  ·obtain ⟨d1,hd1⟩:∃d1,ds[i]?=some d1:=⟨_,List.getElem?_eq_getElem hp⟩;obtain ⟨b,off,dh,hC⟩:=dB.out i d1 hd1;subst dh;obtain ⟨dx,du,dz,da,ps,cs,h0,h1,h2,h3,h4,o1,o2,hRS,kN⟩:=Gy hC;obtain ⟨oC,cC,rfl,RJ⟩:=bz kN;have y0:=ag HB2.out h1;have y1:=ag HB2.out h2;have y2:=ag HB2.out h3;have y3:=ag HB2.out h4;have q1:decide ((i:Int)<(ds.length:Int))=true:=decide_eq_true (by omega);have Gz:=fO hp zD.out;have hN:=HN.out;rw [rV (f:=xy m) hd1,Bool.or_assoc,show xy m d1=cs.any (tN m) by rw [h0];rfl] at hN;obtain ⟨W,hW,hth,hbk,hbw⟩:=jk wr 62 qO #[.string dx,du,.slice oC cs.length cC,.int .i64 da] rfl;have HW:=ae hW;have az:=ae hth;have aT:=ae (ax HB2.out hbw);have BM:=ae RJ;have rT:=ae kN.1;obtain ⟨RD,KL⟩:∃RD,RD=((ds.drop (i+1)).any (xy m) || mU m e):=⟨_,rfl⟩;rw [<- KL] at hN;have HRD:=ae KL;have st1:Hid (((cs.drop 0).any (tN m) || RD)=R):=ae hN;have z2:=af hbk 2 _ rfl;clear hC h0 h1 h2 h3 h4 hW hth hbk hbw hd1 HN HB2 hRS kN RJ hN KL;go_wp2_with (refine wpList_store_mid rfl 62 (.tmp 4) (.tmp 15) rfl wr.heap.size 0 #[.string dx,du,.slice oC cs.length cC,.int .i64 da] rfl rfl az.out tX (by simp [Value.oneCell'] at o1 o2 ⊢;exact o1) ?_;rw [HW.out]);clear z2 y0 y1 y2 y3 HW az;generalize wr.heap.size=qD at *;go_loopw [19] (fun a wr=>∃j:Nat,a=.int .i64 j/\j<=cs.length/\Hid (((cs.drop j).any (tN m) || RD)=R)/\Hid (Below wA.heap.size wA wr)) (fun a _=>match a with | .int _ i=>cs.length-i.toNat|_=>0)
   case atStart=>exact ⟨0,rfl,Nat.zero_le _,st1,aT⟩
   case round =>
    obtain ⟨j,rfl,hj,HN,HB2⟩:=hrel;clear st1 aT;by_cases jT:j<cs.length
    ·obtain ⟨c1,hc1⟩:∃c1,cs[j]?=some c1:=⟨_,List.getElem?_eq_getElem jT⟩;obtain ⟨bc,adw,uW,hC⟩:=BM.out j c1 hc1;subst uW;obtain ⟨cx,cu,ts,h0,h1,h2,o3,rU⟩:=Bb hC;obtain ⟨dd,hrt⟩:=rU;obtain ⟨oT,cT,rfl,RL⟩:=bz hrt;have y0:=ag HB2.out h1;have y1:=ag HB2.out h2;have q2:decide ((j:Int)<(cs.length:Int))=true:=decide_eq_true (by omega);have mV:=fO jT rT.out;have hN:=HN.out;rw [rV (f:=tN m) hc1,Bool.or_assoc,show tN m c1=ts.any (lN m) by rw [h0];rfl] at hN;obtain ⟨W,hW,hth,hbk,hbw⟩:=jk wr 76 Bm #[.string cx,.slice oT ts.length cT] rfl;have HW:=ae hW;have az:=ae hth;have aT:=ae (ax HB2.out hbw);have HTL:=ae RL;have nW:=ae hrt.1;obtain ⟨RC,kN⟩:∃RC,RC=((cs.drop (j+1)).any (tN m) || RD):=⟨_,rfl⟩;rw [<- kN] at hN;have tu:=ae kN;have st2:Hid (((ts.drop 0).any (lN m) || RC)=R):=ae hN;have z1:=af hbk 1 _ rfl;clear hC h0 h1 h2 hW hth hbk hbw hc1 HN HB2 hrt RL hN kN;go_wp2_with (refine wpList_store_mid rfl 76 (.tmp 6) (.tmp 22) rfl wr.heap.size 0 #[.string cx,.slice oT ts.length cT] rfl rfl az.out zS (by simp [Value.oneCell']) ?_;rw [HW.out]);clear z1 y0 y1 HW az;generalize wr.heap.size=qC at *;go_loopw [26] (fun a wr=>∃k:Nat,a=.int .i64 k/\k<=ts.length/\Hid (((ts.drop k).any (lN m) || RC)=R)/\Hid (Below wA.heap.size wA wr)) (fun a _=>match a with | .int _ i=>ts.length-i.toNat|_=>0)
     case atStart=>exact ⟨0,rfl,Nat.zero_le _,st2,aT⟩
     case round =>
      obtain ⟨k,rfl,hk,HN,HB2⟩:=hrel;clear st2 aT;by_cases hpk:k<ts.length
      ·obtain ⟨t1,ht1⟩:∃t1,ts[k]?=some t1:=⟨_,List.getElem?_eq_getElem hpk⟩;obtain ⟨bt,adx,hoT,hC⟩:=HTL.out k t1 ht1;subst hoT;obtain ⟨k1,x1,n1,u1,es1,h0,h1,h2,h3,h4,o4,hT⟩:=KM hC;have y0:=ag HB2.out h1;have y1:=ag HB2.out h2;have y2:=ag HB2.out h3;have y3:=ag HB2.out h4;have q3:decide ((k:Int)<(ts.length:Int))=true:=decide_eq_true (by omega);have hwk:=fO hpk nW.out;have hN:=HN.out;rw [rV (f:=lN m) ht1,Bool.or_assoc] at hN;obtain ⟨W,hW,hth,hbk,hbw⟩:=jk wr 79 lL #[.int .i64 k1,.string x1,.int .i64 n1,u1] rfl;have bP:=ae (RN m t1 _ W bW.out ((hT.on (B:=0) (C:=0) (fun kk _ hl=>(HB2.out.block kk hl)) (Nat.le_refl _)).on (fun kk _ hl=>hbw.block kk hl) (Nat.le_refl _)));rw [dm.out] at bP;have HW:=ae hW;have az:=ae hth;have aT:=ae (ax HB2.out hbw);have z0:=af hbk 0 _ rfl;have z1:=af hbk 1 _ rfl;have z2:=af hbk 2 _ rfl;have z3:=af hbk 3 _ rfl;clear hC h0 h1 h2 h3 h4 hT hW hth hbk hbw ht1 HN HB2;generalize lN m t1=Bt at *;cases Bt with
       | true =>
        rw [Bool.true_or] at hN;have HS:Hid (R=true):=ae hN.symm;clear hN;go_wp2_with (refine wpList_store_mid rfl 79 (.tmp 8) (.tmp 29) rfl wr.heap.size 0 #[.int .i64 k1,.string x1,.int .i64 n1,u1] rfl rfl az.out iQ (by simp [Value.oneCell'] at o4 ⊢;exact o4) ?_;rw [HW.out]);refine Calls.mono (show Calls _ _ _ _ _ from bP.out) ?_;rintro r w3 ⟨rfl,hb3⟩;have aD:=ae (ax iX.out (ax aT.out hb3));clear hb3 z0 z1 z2 z3 y0 y1 y2 y3;go_wp2;go_ret;exact ⟨aO HS.out.symm,aD.out⟩
       | false =>
        rw [Bool.false_or] at hN;have HS:=ae hN;clear hN;go_wp2_with (refine wpList_store_mid rfl 79 (.tmp 8) (.tmp 29) rfl wr.heap.size 0 #[.int .i64 k1,.string x1,.int .i64 n1,u1] rfl rfl az.out iQ (by simp [Value.oneCell'] at o4 ⊢;exact o4) ?_;rw [HW.out]);refine Calls.mono (show Calls _ _ _ _ _ from bP.out) ?_;rintro r w3 ⟨rfl,hb3⟩;have aD:=ae (ax aT.out hb3);clear hb3 z0 z1 z2 z3 y0 y1 y2 y3;go_wp2;go_roundw
        case rel=>exact ⟨k+1,by first|rfl|(congr 1),hpk,HS,aD⟩
        case measure=>clear Gz mV;(try simp only [hwk]);clear hwk;simp;omega
      ·have q3:decide ((k:Int)<(ts.length:Int))=false:=decide_eq_false (by omega);have HS:Hid (((cs.drop (j+1)).any (tN m) || RD)=R):=ae (by have h9:=HN.out;rw [List.drop_eq_nil_of_le (by omega),List.any_nil,Bool.false_or] at h9;rw [<- tu.out];exact h9);clear HN;go_wp2;go_roundw
       case rel=>exact ⟨j+1,by first|rfl|(congr 1),jT,HS,HB2⟩
       case measure=>clear Gz;(try simp only [mV]);clear mV;simp;omega
    ·have q2:decide ((j:Int)<(cs.length:Int))=false:=decide_eq_false (by omega);have HS:Hid (((ds.drop (i+1)).any (xy m) || mU m e)=R):=ae (by have h9:=HN.out;rw [List.drop_eq_nil_of_le (by omega),List.any_nil,Bool.false_or] at h9;rw [<- HRD.out];exact h9);clear HN;go_wp2;go_roundw
     case rel=>exact ⟨i+1,by first|rfl|(congr 1),hp,HS,HB2⟩
     case measure=>(try simp only [Gz]);clear Gz;simp;omega
  ·have q1:decide ((i:Int)<(ds.length:Int))=false:=decide_eq_false (by omega);have HS:Hid (R=mU m e):=ae (by have h9:=HN.out;rw [List.drop_eq_nil_of_le (by omega),List.any_nil,Bool.false_or] at h9;exact h9.symm);have hx2:wr.heap[w.heap.size]?=some (.cells #[.slice oD ds.length cD,.int .i64 mk,.string mx,.string my,.int .i64 mn,mu,mz,.int .i64 ma] 29 (0,0)):=by rw [HB2.out.block _ (Array.getElem?_eq_some_iff.1 jQ.out).1];exact jQ.out
   have r1:=af hx2 1 _ rfl;have r2:=af hx2 2 _ rfl;have r3:=af hx2 3 _ rfl;have r4:=af hx2 4 _ rfl;have r5:=af hx2 5 _ rfl;have r6:=af hx2 6 _ rfl;have r7:=af hx2 7 _ rfl;have HP:=ae (RO m e _ wr bW.out (HM.out.on (B:=0) (C:=0) (fun kk _ hl=>HB2.out.block kk hl) (Nat.le_refl _)));rw [dm.out] at HP;clear HN hx2;go_wp2_with fail;refine Calls.mono (show Calls _ _ _ _ _ from HP.out) ?_;rintro r w3 ⟨rfl,hb3⟩;have aD:=ae (ax iX.out (ax HB2.out hb3));clear hb3 r1 r2 r3 r4 r5 r6 r7 HP;go_wp2;go_ret;exact ⟨aO HS.out.symm,aD.out⟩
theorem aaQ (ds:List Value) (e v:Value) (w:World) (h:fw 0 (ds,e) v w):Calls Tryz.prog 26 #[v] w fun r w'=>r=.returned (.bool (rS 256 ds e))/\Below w.heap.size w w':=aaP 256 rfl ds e v w h
namespace Pz
def lH:Nat->Value->Bool
 | 0,_=>false
 | d+1,t=>(jF t == 4 && decide (8<(dD t).length)) || (dD t).any (lH d)
def lV:Nat->Value->Bool
 | 0,_=>false
 | d+1,t=>(jF t == 8 && decide (8<(dD t).length)) || ((dD t).any (lV d) || (gD t).any (lH d))
def yj (c:Value):Bool:=decide (8<(oJ c).length)
def Ci (d:Value):Bool:=decide (4<(p8 d).length) || (decide (32<(kH d).length) || (kH d).any yj)
theorem um {n m:Nat}:decide ((n:Int) > (m:Int))=decide (m<n):=by
 by_cases h:m<n
 ·rw [decide_eq_true h];exact decide_eq_true (by omega)
 ·rw [decide_eq_false h];exact decide_eq_false (by omega)
end Pz
theorem Vs (t v:Value) (w:World) (h:iw 0 t v w):Calls Tryz.prog 127 #[v] w fun e w'=>e=.returned (.bool (yj t))/\Below w.heap.size w w':=by
 obtain ⟨x,ts,u,rfl,rfl,d,hr⟩:=h;obtain ⟨oR,cR,rfl,_⟩:=bz hr;have HB:=ae (bN w (.cells #[.string x,.slice oR ts.length cR] 76));have HR:Hid (decide ((ts.length:Int) > 8)=yj (mr x ts)):=ae (um (n:=ts.length) (m:=8));generalize yj (mr x ts)=R at *;clear hr;go_enter Tryz.func127,Tryz.ntmps127;go_wp2;go_ret;exact ⟨aO HR.out,HB.out⟩
theorem Vt (t v:Value) (w:World) (h:iL 0 t v w):Calls Tryz.prog 63 #[v] w fun e w'=>e=.returned (.bool (Ci t))/\Below w.heap.size w w':=by
 obtain ⟨x,ps,cs,a,u,z,rfl,rfl,hs,hc⟩:=h;obtain ⟨oS,cS,rfl,_⟩:=bz hs;obtain ⟨oC,cC,rfl,_⟩:=bz hc;have hb:Below w.heap.size w (w.alloc (.cells #[.string x,.slice oS (ps.map Value.string).length cS,.slice oC cs.length cC,.int .i64 a] 62)):=bN w _;have HB:=ae hb;have HC:=ae (Vu yj cs (.slice oC cs.length cC) _ (oK.on (C:=0) (B:=0) hc (fun kk _ hl=>hb.block kk hl) (Nat.le_refl _)) (fun t v w' _ ht _=>Vs t v w' ht));obtain ⟨R,hR⟩:∃R,R=Ci (lh x ps cs a):=⟨_,rfl⟩;rw [<- hR];have hR':R=(decide (4<(ps.map Value.string).length) || (decide (32<cs.length) || cs.any yj)):=hR;generalize (ps.map Value.string).length=n1 at *;have e1:=um (n:=n1) (m:=4);have e2:=um (n:=cs.length) (m:=32);rw [<- e1,<- e2] at hR';have HR:=ae hR';have q1c:((4:Nat):Int)=4:=rfl;clear hR hs hc hb e1 e2 hR';cases h1:decide ((n1:Int) > ((4:Nat):Int)) with
 | true =>
  have h1':decide ((n1:Int) > 4)=true:=h1;have HS:Hid (true=R):=ae (by rw [HR.out,h1];rfl);clear h1 HR;go_enter Tryz.func63,Tryz.ntmps63;go_wp2;go_ret;exact ⟨aO HS.out,HB.out⟩
 | false =>
  have h1':decide ((n1:Int) > 4)=false:=h1;cases h2:decide ((cs.length:Int) > ((32:Nat):Int)) with
  | true =>
   have h2':decide ((cs.length:Int) > 32)=true:=h2;have HS:Hid (true=R):=ae (by rw [HR.out,h1,h2];rfl);clear h1 h2 HR;go_enter Tryz.func63,Tryz.ntmps63;go_wp2;go_ret;exact ⟨aO HS.out,HB.out⟩
  | false =>
   have h2':decide ((cs.length:Int) > 32)=false:=h2;have HS:Hid (cs.any yj=R):=ae (by rw [HR.out,h1,h2];rfl);clear h1 h2 HR;go_enter Tryz.func63,Tryz.ntmps63;go_wp2_with fail;refine Calls.mono (show Calls _ _ _ _ _ from HC.out) ?_;rintro e w1 ⟨rfl,hb1⟩;have HB1:=ae (ax HB.out hb1);clear hb1 HC;go_wp2;go_ret;exact ⟨aO HS.out,HB1.out⟩
theorem Vv (d:Nat):∀(t v:Value) (w:World),kI 0 d w t v->Calls Tryz.prog 130 #[v] w fun e w'=>e=.returned (.bool (lH (d+1) t))/\Below w.heap.size w w':=by
 induction d with
 | zero =>
  intro t v w h;obtain ⟨k,x,n,es,a,u,rfl,rfl,hr⟩:=h;obtain ⟨oR,cR,rfl,hel⟩:=bz hr;have hb:Below w.heap.size w (w.alloc (.cells #[.int .i64 k,.string x,.int .i64 n,.slice oR es.length cR,.int .i64 a] 101)):=bN w _;have HB:=ae hb;obtain ⟨R,hR⟩:∃R,R=lH (0+1) (nd k x e0 n es [] a):=⟨_,rfl⟩;rw [<- hR];rw [lH,EG,EH] at hR;have HC:=ae (EI (lH (0)) es (.slice oR es.length cR) _ (0) (hr.imp (fun b o t _ ht=>bR.but (fun kk _ hl=>hb.block kk hl) _ b o t ht)) (fun t v w' hm ⟨d0,e0,hh⟩ _=>by cases e0));have e1:=um (n:=es.length) (m:=8);rw [<- e1] at hR;have HR:=ae hR;clear hR hr hb e1 hel;cases h1:(k == 4) && decide ((es.length:Int) > ((8:Nat):Int)) with
  | true =>
   have HS:Hid (true=R):=ae (by rw [HR.out,h1];rfl);rw [Bool.and_eq_true] at h1;obtain ⟨q1,h2⟩:=h1;have q2:decide ((es.length:Int) > 8)=true:=h2;clear h2 HR HC;go_enter Tryz.func130,Tryz.ntmps130;go_wp2;go_ret;exact ⟨aO HS.out,HB.out⟩
  | false =>
   have jG:=HR.out;rw [h1,Bool.false_or] at jG;have HR2:=ae jG;clear jG HR;generalize es.any (lH (0))=Rt at HC HR2;cases q1:k == 4 with
   | true =>
    rw [q1,Bool.true_and] at h1;have q2:decide ((es.length:Int) > 8)=false:=h1;clear h1;go_enter Tryz.func130,Tryz.ntmps130;go_wp2_with fail;refine Calls.mono (show Calls _ _ _ _ _ from HC.out) ?_;rintro e w1 ⟨rfl,hb1⟩;have HB1:=ae (ax HB.out hb1);clear hb1 HC;go_wp2;go_ret;exact ⟨aO HR2.out.symm,HB1.out⟩
   | false =>
    clear h1;go_enter Tryz.func130,Tryz.ntmps130;go_wp2_with fail;refine Calls.mono (show Calls _ _ _ _ _ from HC.out) ?_;rintro e w1 ⟨rfl,hb1⟩;have HB1:=ae (ax HB.out hb1);clear hb1 HC;go_wp2;go_ret;exact ⟨aO HR2.out.symm,HB1.out⟩
 | succ d ih =>
  intro t v w h;obtain ⟨k,x,n,es,a,u,rfl,rfl,hr⟩:=h;obtain ⟨oR,cR,rfl,hel⟩:=bz hr;have hb:Below w.heap.size w (w.alloc (.cells #[.int .i64 k,.string x,.int .i64 n,.slice oR es.length cR,.int .i64 a] 101)):=bN w _;have HB:=ae hb;obtain ⟨R,hR⟩:∃R,R=lH (d+1+1) (nd k x e0 n es [] a):=⟨_,rfl⟩;rw [<- hR];rw [lH,EG,EH] at hR;have HC:=ae (EI (lH (d+1)) es (.slice oR es.length cR) _ (d+1) (hr.imp (fun b o t _ ht=>bR.but (fun kk _ hl=>hb.block kk hl) _ b o t ht)) (fun t v w' hm ⟨d0,e0,hh⟩ _=>by injection e0 with e0;subst e0;exact ih t v w' hh));have e1:=um (n:=es.length) (m:=8);rw [<- e1] at hR;have HR:=ae hR;clear hR hr hb e1 hel;cases h1:(k == 4) && decide ((es.length:Int) > ((8:Nat):Int)) with
  | true =>
   have HS:Hid (true=R):=ae (by rw [HR.out,h1];rfl);rw [Bool.and_eq_true] at h1;obtain ⟨q1,h2⟩:=h1;have q2:decide ((es.length:Int) > 8)=true:=h2;clear h2 HR HC;go_enter Tryz.func130,Tryz.ntmps130;go_wp2;go_ret;exact ⟨aO HS.out,HB.out⟩
  | false =>
   have jG:=HR.out;rw [h1,Bool.false_or] at jG;have HR2:=ae jG;clear jG HR;generalize es.any (lH (d+1))=Rt at HC HR2;cases q1:k == 4 with
   | true =>
    rw [q1,Bool.true_and] at h1;have q2:decide ((es.length:Int) > 8)=false:=h1;clear h1;go_enter Tryz.func130,Tryz.ntmps130;go_wp2_with fail;refine Calls.mono (show Calls _ _ _ _ _ from HC.out) ?_;rintro e w1 ⟨rfl,hb1⟩;have HB1:=ae (ax HB.out hb1);clear hb1 HC;go_wp2;go_ret;exact ⟨aO HR2.out.symm,HB1.out⟩
   | false =>
    clear h1;go_enter Tryz.func130,Tryz.ntmps130;go_wp2_with fail;refine Calls.mono (show Calls _ _ _ _ _ from HC.out) ?_;rintro e w1 ⟨rfl,hb1⟩;have HB1:=ae (ax HB.out hb1);clear hb1 HC;go_wp2;go_ret;exact ⟨aO HR2.out.symm,HB1.out⟩
theorem Vw (d:Nat):∀(t v:Value) (w:World),iU 0 d w t v->Calls Tryz.prog 64 #[v] w fun e w'=>e=.returned (.bool (lV (d+1) t))/\Below w.heap.size w w':=by
 induction d with
 | zero =>
  intro t v w h;obtain ⟨k,x,y,n,es,ps,a,u,z,rfl,rfl,hr,iA⟩:=h;obtain ⟨oR,cR,rfl,hel⟩:=bz hr;obtain ⟨oP,cP,rfl,_⟩:=bz iA;have hb:Below w.heap.size w (w.alloc (.cells #[.int .i64 k,.string x,.string y,.int .i64 n,.slice oR es.length cR,.slice oP ps.length cP,.int .i64 a] 27)):=bN w _;have HB:=ae hb;obtain ⟨R,hR⟩:∃R,R=lV (0+1) (nd k x y n es ps a):=⟨_,rfl⟩;rw [<- hR];rw [lV,EG,EH,NB] at hR;have HC:=ae (NC (lV (0)) es (.slice oR es.length cR) _ (0) (hr.imp (fun b o t _ ht=>cf.but (fun kk _ hl=>hb.block kk hl) _ b o t ht)) (fun t v w' hm ⟨d0,e0,hh⟩ _=>by cases e0));have fP:=ae (fun w' (hbw:Below w.heap.size w w')=>EI (lH (0)) ps (.slice oP ps.length cP) w' (0) (iA.imp (fun b o t _ ht=>bR.but (fun kk _ hl=>hbw.block kk hl) _ b o t ht)) (fun t v w2 hm ⟨d0,e0,hh⟩ _=>by cases e0));generalize IP:ps.any (lH (0))=Cj at *;clear IP;have e1:=um (n:=es.length) (m:=8);rw [<- e1] at hR;have HR:=ae hR;clear hR hr hb e1 hel iA;cases h1:(k == 8) && decide ((es.length:Int) > ((8:Nat):Int)) with
  | true =>
   have HS:Hid (true=R):=ae (by rw [HR.out,h1];rfl);rw [Bool.and_eq_true] at h1;obtain ⟨q1,h2⟩:=h1;have q2:decide ((es.length:Int) > 8)=true:=h2;clear h2 HR HC;go_enter Tryz.func64,Tryz.ntmps64;go_wp2;go_ret;exact ⟨aO HS.out,HB.out⟩
  | false =>
   have jG:=HR.out;rw [h1,Bool.false_or] at jG;have HR2:=ae jG;clear jG HR;generalize es.any (lV (0))=Rt at HC HR2;cases q1:k == 8 with
   | true =>
    rw [q1,Bool.true_and] at h1;have q2:decide ((es.length:Int) > 8)=false:=h1;clear h1;go_enter Tryz.func64,Tryz.ntmps64;go_wp2_with fail;refine Calls.mono (show Calls _ _ _ _ _ from HC.out) ?_;rintro e w1 ⟨rfl,hb1⟩;have HB1:=ae (ax HB.out hb1);have hx1:w1.heap[w.heap.size]?=some (.cells #[.int .i64 k,.string x,.string y,.int .i64 n,.slice oR es.length cR,.slice oP ps.length cP,.int .i64 a] 27 (0,0)):=by rw [hb1.block _ (by simp)];exact heap_alloc_new w _
    have r5:=af hx1 5 _ rfl;have HP:=ae (fP.out w1 HB1.out);clear hb1 HC hx1;cases Rt with
    | true =>
     have HS:Hid (true=R):=ae (by rw [HR2.out];rfl);clear HR2 HP;go_wp2;go_ret;exact ⟨aO HS.out,HB1.out⟩
    | false =>
     have HS:Hid (Cj=R):=ae (by rw [HR2.out];rfl);clear HR2;go_wp2_with fail;refine Calls.mono (show Calls _ _ _ _ _ from HP.out) ?_;rintro e w2 ⟨rfl,hb2⟩;have HB2:=ae (ax HB1.out hb2);clear hb2 HP r5;go_wp2;go_ret;exact ⟨aO HS.out,HB2.out⟩
   | false =>
    clear h1;go_enter Tryz.func64,Tryz.ntmps64;go_wp2_with fail;refine Calls.mono (show Calls _ _ _ _ _ from HC.out) ?_;rintro e w1 ⟨rfl,hb1⟩;have HB1:=ae (ax HB.out hb1);have hx1:w1.heap[w.heap.size]?=some (.cells #[.int .i64 k,.string x,.string y,.int .i64 n,.slice oR es.length cR,.slice oP ps.length cP,.int .i64 a] 27 (0,0)):=by rw [hb1.block _ (by simp)];exact heap_alloc_new w _
    have r5:=af hx1 5 _ rfl;have HP:=ae (fP.out w1 HB1.out);clear hb1 HC hx1;cases Rt with
    | true =>
     have HS:Hid (true=R):=ae (by rw [HR2.out];rfl);clear HR2 HP;go_wp2;go_ret;exact ⟨aO HS.out,HB1.out⟩
    | false =>
     have HS:Hid (Cj=R):=ae (by rw [HR2.out];rfl);clear HR2;go_wp2_with fail;refine Calls.mono (show Calls _ _ _ _ _ from HP.out) ?_;rintro e w2 ⟨rfl,hb2⟩;have HB2:=ae (ax HB1.out hb2);clear hb2 HP r5;go_wp2;go_ret;exact ⟨aO HS.out,HB2.out⟩
 | succ d ih =>
  intro t v w h;obtain ⟨k,x,y,n,es,ps,a,u,z,rfl,rfl,hr,iA⟩:=h;obtain ⟨oR,cR,rfl,hel⟩:=bz hr;obtain ⟨oP,cP,rfl,_⟩:=bz iA;have hb:Below w.heap.size w (w.alloc (.cells #[.int .i64 k,.string x,.string y,.int .i64 n,.slice oR es.length cR,.slice oP ps.length cP,.int .i64 a] 27)):=bN w _;have HB:=ae hb;obtain ⟨R,hR⟩:∃R,R=lV (d+1+1) (nd k x y n es ps a):=⟨_,rfl⟩;rw [<- hR];rw [lV,EG,EH,NB] at hR;have HC:=ae (NC (lV (d+1)) es (.slice oR es.length cR) _ (d+1) (hr.imp (fun b o t _ ht=>cf.but (fun kk _ hl=>hb.block kk hl) _ b o t ht)) (fun t v w' hm ⟨d0,e0,hh⟩ _=>by injection e0 with e0;subst e0;exact ih t v w' hh));have fP:=ae (fun w' (hbw:Below w.heap.size w w')=>EI (lH (d+1)) ps (.slice oP ps.length cP) w' (d+1) (iA.imp (fun b o t _ ht=>bR.but (fun kk _ hl=>hbw.block kk hl) _ b o t ht)) (fun t v w2 hm ⟨d0,e0,hh⟩ _=>by injection e0 with e0;subst e0;exact Vv d t v w2 hh));generalize IP:ps.any (lH (d+1))=Cj at *;clear IP;have e1:=um (n:=es.length) (m:=8);rw [<- e1] at hR;have HR:=ae hR;clear hR hr hb e1 hel iA;cases h1:(k == 8) && decide ((es.length:Int) > ((8:Nat):Int)) with
  | true =>
   have HS:Hid (true=R):=ae (by rw [HR.out,h1];rfl);rw [Bool.and_eq_true] at h1;obtain ⟨q1,h2⟩:=h1;have q2:decide ((es.length:Int) > 8)=true:=h2;clear h2 HR HC;go_enter Tryz.func64,Tryz.ntmps64;go_wp2;go_ret;exact ⟨aO HS.out,HB.out⟩
  | false =>
   have jG:=HR.out;rw [h1,Bool.false_or] at jG;have HR2:=ae jG;clear jG HR;generalize es.any (lV (d+1))=Rt at HC HR2;cases q1:k == 8 with
   | true =>
    rw [q1,Bool.true_and] at h1;have q2:decide ((es.length:Int) > 8)=false:=h1;clear h1;go_enter Tryz.func64,Tryz.ntmps64;go_wp2_with fail;refine Calls.mono (show Calls _ _ _ _ _ from HC.out) ?_;rintro e w1 ⟨rfl,hb1⟩;have HB1:=ae (ax HB.out hb1);have hx1:w1.heap[w.heap.size]?=some (.cells #[.int .i64 k,.string x,.string y,.int .i64 n,.slice oR es.length cR,.slice oP ps.length cP,.int .i64 a] 27 (0,0)):=by rw [hb1.block _ (by simp)];exact heap_alloc_new w _
    have r5:=af hx1 5 _ rfl;have HP:=ae (fP.out w1 HB1.out);clear hb1 HC hx1;cases Rt with
    | true =>
     have HS:Hid (true=R):=ae (by rw [HR2.out];rfl);clear HR2 HP;go_wp2;go_ret;exact ⟨aO HS.out,HB1.out⟩
    | false =>
     have HS:Hid (Cj=R):=ae (by rw [HR2.out];rfl);clear HR2;go_wp2_with fail;refine Calls.mono (show Calls _ _ _ _ _ from HP.out) ?_;rintro e w2 ⟨rfl,hb2⟩;have HB2:=ae (ax HB1.out hb2);clear hb2 HP r5;go_wp2;go_ret;exact ⟨aO HS.out,HB2.out⟩
   | false =>
    clear h1;go_enter Tryz.func64,Tryz.ntmps64;go_wp2_with fail;refine Calls.mono (show Calls _ _ _ _ _ from HC.out) ?_;rintro e w1 ⟨rfl,hb1⟩;have HB1:=ae (ax HB.out hb1);have hx1:w1.heap[w.heap.size]?=some (.cells #[.int .i64 k,.string x,.string y,.int .i64 n,.slice oR es.length cR,.slice oP ps.length cP,.int .i64 a] 27 (0,0)):=by rw [hb1.block _ (by simp)];exact heap_alloc_new w _
    have r5:=af hx1 5 _ rfl;have HP:=ae (fP.out w1 HB1.out);clear hb1 HC hx1;cases Rt with
    | true =>
     have HS:Hid (true=R):=ae (by rw [HR2.out];rfl);clear HR2 HP;go_wp2;go_ret;exact ⟨aO HS.out,HB1.out⟩
    | false =>
     have HS:Hid (Cj=R):=ae (by rw [HR2.out];rfl);clear HR2;go_wp2_with fail;refine Calls.mono (show Calls _ _ _ _ _ from HP.out) ?_;rintro e w2 ⟨rfl,hb2⟩;have HB2:=ae (ax HB1.out hb2);clear hb2 HP r5;go_wp2;go_ret;exact ⟨aO HS.out,HB2.out⟩
end Go.Proofs.YtkdbgopgjbfhbaaGreatDoor
