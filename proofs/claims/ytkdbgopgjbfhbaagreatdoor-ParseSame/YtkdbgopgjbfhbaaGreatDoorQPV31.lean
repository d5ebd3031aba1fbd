/- Texts that the claim needs. -/
import Derived.Test.YtkdbgopgjbfhbaaGreatDoorQPV30
import Derived.Deep.RegionLaw
import Derived.Deep.RegionWith
import Derived.Deep.Cut
import Derived.Test.YtkdbgopgjbfhbaaGreatDoorQPV0
import Derived.Lib.ItoaNum
namespace Go.Proofs.YtkdbgopgjbfhbaaGreatDoor
open Go.RowKit Lx Pz bw
set_option linter.unusedVariables false
set_option maxRecDepth 100000
set_option maxHeartbeats 16000000
def Np (d:Nat):Prop:=∀(w:World) (l:List Value) (vl:Value),Row 4 (dw 0 w d) vl l->nD d l->Calls Tryz.prog 81 #[vl] w fun e w'=>∃v',e=.returned v'/\Below w.heap.size w w'/\iz w.heap.size v' l w'
theorem Vi:∀d:Nat,Np d:=by
 intro d
 induction d using Nat.strongRecOn with
 | _ d ih =>
  intro w l vl hr hfw;obtain ⟨oR,cR,rfl,hel⟩:=bz hr;have hle:=hfw.1;have HL:=ae hr.1;have dB:=ae hel;have lG:=ae hfw.2;have fT:Hid (∀d0,d=d0+1->Np d0):=ae (fun d0 e=>ih d0 (by omega));clear hr hel hfw ih;go_enter Tryz.func81,Tryz.ntmps81;go_wp2_with fail;go_loopw [3,4] (fun oo aa wr=>∃(i:Nat) (vo:Value),aa=.int .i64 i/\oo=vo/\i<=l.length/\Hid (gB (eu w.heap.size) w.heap.size 79 4 wr vo (l.take i))/\Hid (Below w.heap.size w wr)) (fun _ aa _=>match aa with | .int _ i=>l.length-i.toNat|_=>0)
  case atStart=>exact ⟨0,_,rfl,rfl,Nat.zero_le _,ae (gB.nil _ _ _ _ _),ae (Below.refl _ _)⟩
  case round =>
   obtain ⟨i,vo,rfl,rfl,hi,HO,HP⟩:=hrel;by_cases hp:i<l.length
   ·have q1:decide ((i:Int)<(l.length:Int))=true:=decide_eq_true (by omega);obtain ⟨t1,ht1⟩:∃t1,l[i]?=some t1:=⟨_,List.getElem?_eq_getElem hp⟩;obtain ⟨b,off,dh,hC⟩:=dB.out i t1 ht1;subst dh;obtain ⟨d0,k1,x1,n1,es1,Ik,hd0,ht0,g0,g1,g2,g3,hrow⟩:=Vj hC;obtain ⟨oE,cE,rfl,_⟩:=bz hrow;have y0:=ag HP.out g0;have y1:=ag HP.out g1;have y2:=ag HP.out g2;have y3:=ag HP.out g3;have hw1:=fO hp HL.out;have yd:=ae (show l.take (i+1)=l.take i++[t1] by rw [List.take_add_one,ht1];rfl)
    have oI:nD d0 es1:=by
     obtain ⟨d1,hd1,hf⟩:=lG.out i t1 hp ht1;obtain rfl:d0=d1:=by omega
     rw [ht0] at hf;exact (Il hf).1
    have yf:=ae ht0;obtain ⟨p,kG⟩:∃p,p=wr.heap.size:=⟨_,rfl⟩;obtain ⟨u1,hu1⟩:∃u1,u1=wr.alloc (.cells #[.int .i64 k1,.string x1,.int .i64 n1,.slice oE es1.length cE] 79):=⟨_,rfl⟩;have hb1:Below wr.heap.size wr u1:=by rw [hu1];exact bN _ _
    have bB:Hid (u1.heap[p]?=some (.cells #[.int .i64 k1,.string x1,.int .i64 n1,.slice oE es1.length cE] 79 (0,0))):=ae (by rw [hu1,kG];exact heap_alloc_new wr _);have aA:Hid (u1.heap.size=p+1):=ae (by rw [hu1,kG];simp);have HB1:=ae hb1;have HC:=ae (fT.out d0 hd0 u1 es1 (.slice oE es1.length cE) (hrow.imp fun b o t _ h=>h.but (bF.of (ax HP.out hb1))) oI);have fP:=ae kG;obtain ⟨oV,cV,iE⟩:=HO.out.sl;have hti:(l.take i).length=i:=by rw [List.length_take];omega
    rw [hti] at iE;have z3:=af bB.out 3 _ rfl;have qX:=ae hu1;clear hC g0 g1 g2 g3 hrow oI hb1 hu1 ht1 ht0 hd0 kG;subst iE;go_upto_region 6 with fail;rw [<- fP.out,<- qX.out];clear qX y0 y1 y2 y3;go_wp2_with fail;refine Calls.mono (show Calls _ _ _ _ _ from HC.out) ?_;rintro e u2 ⟨v4,rfl,hb2,hr2⟩;obtain ⟨o4,c4,rfl⟩:=hr2.sl;have hx2:u2.heap[p]?=some (.cells #[.int .i64 k1,.string x1,.int .i64 n1,.slice oE es1.length cE] 79 (0,0)):=(hb2.block p (by rw [aA.out];omega)).trans bB.out;have f3:u2.frozen? ⟨p,3,none⟩=false:=by unfold World.frozen?;rw [hx2];simp
    have Im:=af hx2 3 _ rfl;obtain ⟨u3,hu3⟩:∃u3,u3=u2.setCell ⟨p,3,none⟩ (.slice o4 es1.length c4):=⟨_,rfl⟩;have bZ:Hid (u3.heap[p]?=some (.cells #[.int .i64 k1,.string x1,.int .i64 n1,.slice o4 es1.length c4] 79 (0,0))):=ae (by rw [hu3];exact heap_setCell_same u2 p 3 _ _ _ hx2);have nE:u3.heap.size=u2.heap.size:=by rw [hu3];simp
    have BV:∀k,k≠p->u3.heap[k]?=u2.heap[k]?:=fun k hk=>by rw [hu3];exact Below.heap_setCell _ _ _ _ hk
    have BW:=ax HB1.out hb2;have aD:Hid (Below wr.heap.size wr u3):=ae (by rw [hu3];exact BW.setCell (by rw [<- fP.out];exact Nat.le_refl _) _);have BX:w.heap.size<=p:=by rw [fP.out];exact HP.out.size
    have nG:=bN u3 (.cells #[.int .i64 k1,.string x1,.int .i64 n1,.slice o4 es1.length c4] 79)
    have HST:Hid (lU w.heap.size (Value.slice oV i cV).ownBlock (eu w.heap.size t1 (.agg #[.int .i64 k1,.string x1,.int .i64 n1,.slice o4 es1.length c4])) (u3.alloc (.cells #[.int .i64 k1,.string x1,.int .i64 n1,.slice o4 es1.length c4] 79))):=ae (Nq fP.out HB1.out aA.out hb2 nE BV nG (fun k hk=>by obtain ⟨xs,ho,_⟩:=HO.out;exact (ho.lt k hk).2) BX fun w' hw'=>by
     rw [yf.out];exact BZ k1 x1 n1 (hr2.on (by rw [aA.out];exact hw') (by rw [aA.out];omega)))
    have sI:=ae ((HO.out.on aD.out).on nG);have dF:=ae (ax aD.out nG);have sJ:=ae (qQ u3 #[.int .i64 k1,.string x1,.int .i64 n1,.slice o4 es1.length c4] 79);have vV:w.heap.size<=(u3.alloc (.cells #[.int .i64 k1,.string x1,.int .i64 n1,.slice o4 es1.length c4] 79)).heap.size:=by have:=dF.out.size;rw [<- fP.out] at this;omega
    have B0:=af bZ.out 0 _ rfl;have Ca:=af bZ.out 1 _ rfl;have Cb:=af bZ.out 2 _ rfl;have Cc:=af bZ.out 3 _ rfl;have Ce:=ae hu3;obtain ⟨i0,hi0,hz0,hz1,hz2⟩:=info_parts Nr;obtain ⟨xs,hown,hxe⟩:=sI.out;rw [hti] at hown;have nH:=ae hxe;have HOW:=ae hown;clear HC bB hb2 hr2 BW BV nG nE hx2 z3 hu3 HB1 hxe hown;go_upto_region 7 with fail;rw [<- Ce.out];clear Ce f3 Im;go_wp2_with (first|(at_builtin;refine uh rfl _ _ 74 rfl w.heap.size 79 i0 _ 4 56 Tryz.underlying74 hi0 hz0 hz1 hz2 rfl (by decide) _ _ _ rfl HOW.out (some ⟨u3.heap.size,0,none⟩) 1 1 [.int .i64 k1,.string x1,.int .i64 n1,.slice o4 es1.length c4] rfl ?c6 ?c0 ?c1 ?c2 ?c3 ?c4 ?c5 ?_))
    case c6=>intro h;cases h
    case c0=>rfl
    case c1=>exact fun ad h=>by injection h with h;subst h;exact sJ.out
    case c2=>intro c hc;simp only [List.mem_cons,List.not_mem_nil,or_false] at hc;rcases hc with rfl|rfl|rfl|rfl<;>rfl
    case c3=>unfold maxLen;omega
    case c4=>omega
    case c5=>exact vV
    intro v9 w9 dR dI bG
    have jg:Hid (gB (eu w.heap.size) w.heap.size 79 4 w9 v9 (l.take (i+1))):=ae (by
     rw [yd.out];exact gB.app (cs:=#[.int .i64 k1,.string x1,.int .i64 n1,.slice o4 es1.length c4]) (by rw [hti];exact HOW.out) nH.out (by rw [hti];exact dR) dI (by simpa using bG) rfl HST.out)
    have mF:Hid (Below w.heap.size w w9):=ae ((ax HP.out dF.out).grown dI vV fun k hk=>by exact (HOW.out.lt k hk).1);obtain ⟨oN,cN,gT⟩:=qY dR;subst gT;clear dR dI bG HOW nH sI dF sJ HST bZ aD HO HP B0 Ca Cb Cc;go_wp2;go_roundw
    case rel=>exact ⟨i+1,_,by first|rfl|(congr 1),rfl,hp,jg,mF⟩
    case measure=>simp;omega
   ·have q1:decide ((i:Int)<(l.length:Int))=false:=decide_eq_false (by omega)
    have HR:Hid (iz w.heap.size _ l wr):=ae (by
     have h:=HO.out;rw [List.take_of_length_le (by omega)] at h;exact h.row (F:=fun w' d b o t=>dw w.heap.size w' d b o t) (fun w' d b o t h=>dw.up d b o t h) HL.out (fun w' t cs b o hv hB hc=>Io hv hB hc))
    clear HO;go_wp2;go_ret;exact ⟨_,rfl,HP.out,HR.out⟩
def Ac (d:Nat):Prop:=∀(w:World) (l:List Value) (vl:Value),Row 5 (bR 0 w d) vl l->nD d l->Calls Tryz.prog 82 #[vl] w fun e w'=>∃v',e=.returned v'/\Below w.heap.size w w'/\iM w.heap.size v' l w'
theorem Vk:∀d:Nat,Ac d:=by
 intro d
 induction d using Nat.strongRecOn with
 | _ d ih =>
  intro w l vl hr hfw;obtain ⟨oR,cR,rfl,hel⟩:=bz hr;have hle:=hfw.1;have HL:=ae hr.1;have dB:=ae hel;have lG:=ae hfw.2;have fT:Hid (∀d0,d=d0+1->Ac d0):=ae (fun d0 e=>ih d0 (by omega));clear hr hel hfw ih;go_enter Tryz.func82,Tryz.ntmps82;go_wp2_with fail;go_loopw [3,4] (fun oo aa wr=>∃(i:Nat) (vo:Value),aa=.int .i64 i/\oo=vo/\i<=l.length/\Hid (gB (bV w.heap.size) w.heap.size 101 5 wr vo (l.take i))/\Hid (Below w.heap.size w wr)) (fun _ aa _=>match aa with | .int _ i=>l.length-i.toNat|_=>0)
  case atStart=>exact ⟨0,_,rfl,rfl,Nat.zero_le _,ae (gB.nil _ _ _ _ _),ae (Below.refl _ _)⟩
  case round =>
   obtain ⟨i,vo,rfl,rfl,hi,HO,HP⟩:=hrel;by_cases hp:i<l.length
   ·have q1:decide ((i:Int)<(l.length:Int))=true:=decide_eq_true (by omega);obtain ⟨t1,ht1⟩:∃t1,l[i]?=some t1:=⟨_,List.getElem?_eq_getElem hp⟩;obtain ⟨b,off,dh,hC⟩:=dB.out i t1 ht1;subst dh;obtain ⟨d0,k1,x1,n1,es1,a1,Ik,hd0,ht0,g0,g1,g2,g3,g4,hrow⟩:=Vl hC;obtain ⟨oE,cE,rfl,_⟩:=bz hrow;have y0:=ag HP.out g0;have y1:=ag HP.out g1;have y2:=ag HP.out g2;have y3:=ag HP.out g3;have y4:=ag HP.out g4;have hw1:=fO hp HL.out;have yd:=ae (show l.take (i+1)=l.take i++[t1] by rw [List.take_add_one,ht1];rfl)
    have oI:nD d0 es1:=by
     obtain ⟨d1,hd1,hf⟩:=lG.out i t1 hp ht1;obtain rfl:d0=d1:=by omega
     rw [ht0] at hf;exact (Il hf).1
    have yf:=ae ht0;obtain ⟨p,kG⟩:∃p,p=wr.heap.size:=⟨_,rfl⟩;obtain ⟨u1,hu1⟩:∃u1,u1=wr.alloc (.cells #[.int .i64 k1,.string x1,.int .i64 n1,.slice oE es1.length cE,.int .i64 a1] 101):=⟨_,rfl⟩;have hb1:Below wr.heap.size wr u1:=by rw [hu1];exact bN _ _
    have bB:Hid (u1.heap[p]?=some (.cells #[.int .i64 k1,.string x1,.int .i64 n1,.slice oE es1.length cE,.int .i64 a1] 101 (0,0))):=ae (by rw [hu1,kG];exact heap_alloc_new wr _);have aA:Hid (u1.heap.size=p+1):=ae (by rw [hu1,kG];simp);have HB1:=ae hb1;have HC:=ae (fT.out d0 hd0 u1 es1 (.slice oE es1.length cE) (hrow.imp fun b o t _ h=>h.but (bF.of (ax HP.out hb1))) oI);have fP:=ae kG;obtain ⟨oV,cV,iE⟩:=HO.out.sl;have hti:(l.take i).length=i:=by rw [List.length_take];omega
    rw [hti] at iE;have z3:=af bB.out 3 _ rfl;have qX:=ae hu1;clear hC g0 g1 g2 g3 g4 hrow oI hb1 hu1 ht1 ht0 hd0 kG;subst iE;go_upto_region 6 with fail;rw [<- fP.out,<- qX.out];clear qX y0 y1 y2 y3 y4;go_wp2_with fail;refine Calls.mono (show Calls _ _ _ _ _ from HC.out) ?_;rintro e u2 ⟨v4,rfl,hb2,hr2⟩;obtain ⟨o4,c4,rfl⟩:=hr2.sl;have hx2:u2.heap[p]?=some (.cells #[.int .i64 k1,.string x1,.int .i64 n1,.slice oE es1.length cE,.int .i64 a1] 101 (0,0)):=(hb2.block p (by rw [aA.out];omega)).trans bB.out;have f3:u2.frozen? ⟨p,3,none⟩=false:=by unfold World.frozen?;rw [hx2];simp
    have Im:=af hx2 3 _ rfl;obtain ⟨u3,hu3⟩:∃u3,u3=u2.setCell ⟨p,3,none⟩ (.slice o4 es1.length c4):=⟨_,rfl⟩;have bZ:Hid (u3.heap[p]?=some (.cells #[.int .i64 k1,.string x1,.int .i64 n1,.slice o4 es1.length c4,.int .i64 a1] 101 (0,0))):=ae (by rw [hu3];exact heap_setCell_same u2 p 3 _ _ _ hx2);have nE:u3.heap.size=u2.heap.size:=by rw [hu3];simp
    have BV:∀k,k≠p->u3.heap[k]?=u2.heap[k]?:=fun k hk=>by rw [hu3];exact Below.heap_setCell _ _ _ _ hk
    have BW:=ax HB1.out hb2;have aD:Hid (Below wr.heap.size wr u3):=ae (by rw [hu3];exact BW.setCell (by rw [<- fP.out];exact Nat.le_refl _) _);have BX:w.heap.size<=p:=by rw [fP.out];exact HP.out.size
    have nG:=bN u3 (.cells #[.int .i64 k1,.string x1,.int .i64 n1,.slice o4 es1.length c4,.int .i64 a1] 101)
    have HST:Hid (lU w.heap.size (Value.slice oV i cV).ownBlock (bV w.heap.size t1 (.agg #[.int .i64 k1,.string x1,.int .i64 n1,.slice o4 es1.length c4,.int .i64 a1])) (u3.alloc (.cells #[.int .i64 k1,.string x1,.int .i64 n1,.slice o4 es1.length c4,.int .i64 a1] 101))):=ae (Nq fP.out HB1.out aA.out hb2 nE BV nG (fun k hk=>by obtain ⟨xs,ho,_⟩:=HO.out;exact (ho.lt k hk).2) BX fun w' hw'=>by
     rw [yf.out];exact Ip k1 x1 n1 a1 (hr2.on (by rw [aA.out];exact hw') (by rw [aA.out];omega)))
    have sI:=ae ((HO.out.on aD.out).on nG);have dF:=ae (ax aD.out nG);have sJ:=ae (qQ u3 #[.int .i64 k1,.string x1,.int .i64 n1,.slice o4 es1.length c4,.int .i64 a1] 101);have vV:w.heap.size<=(u3.alloc (.cells #[.int .i64 k1,.string x1,.int .i64 n1,.slice o4 es1.length c4,.int .i64 a1] 101)).heap.size:=by have:=dF.out.size;rw [<- fP.out] at this;omega
    have B0:=af bZ.out 0 _ rfl;have Ca:=af bZ.out 1 _ rfl;have Cb:=af bZ.out 2 _ rfl;have Cc:=af bZ.out 3 _ rfl;have Iq:=af bZ.out 4 _ rfl;have Ce:=ae hu3;obtain ⟨i0,hi0,hz0,hz1,hz2⟩:=info_parts Ir;obtain ⟨xs,hown,hxe⟩:=sI.out;rw [hti] at hown;have nH:=ae hxe;have HOW:=ae hown;clear HC bB hb2 hr2 BW BV nG nE hx2 z3 hu3 HB1 hxe hown;go_upto_region 7 with fail;rw [<- Ce.out];clear Ce f3 Im;go_wp2_with (first|(at_builtin;refine uh rfl _ _ 25 rfl w.heap.size 101 i0 _ 5 64 Tryz.underlying25 hi0 hz0 hz1 hz2 rfl (by decide) _ _ _ rfl HOW.out (some ⟨u3.heap.size,0,none⟩) 1 1 [.int .i64 k1,.string x1,.int .i64 n1,.slice o4 es1.length c4,.int .i64 a1] rfl ?c6 ?c0 ?c1 ?c2 ?c3 ?c4 ?c5 ?_))
    case c6=>intro h;cases h
    case c0=>rfl
    case c1=>exact fun ad h=>by injection h with h;subst h;exact sJ.out
    case c2=>intro c hc;simp only [List.mem_cons,List.not_mem_nil,or_false] at hc;rcases hc with rfl|rfl|rfl|rfl|rfl<;>rfl
    case c3=>unfold maxLen;omega
    case c4=>omega
    case c5=>exact vV
    intro v9 w9 dR dI bG
    have jg:Hid (gB (bV w.heap.size) w.heap.size 101 5 w9 v9 (l.take (i+1))):=ae (by
     rw [yd.out];exact gB.app (cs:=#[.int .i64 k1,.string x1,.int .i64 n1,.slice o4 es1.length c4,.int .i64 a1]) (by rw [hti];exact HOW.out) nH.out (by rw [hti];exact dR) dI (by simpa using bG) rfl HST.out)
    have mF:Hid (Below w.heap.size w w9):=ae ((ax HP.out dF.out).grown dI vV fun k hk=>by exact (HOW.out.lt k hk).1);obtain ⟨oN,cN,gT⟩:=qY dR;subst gT;clear dR dI bG HOW nH sI dF sJ HST bZ aD HO HP B0 Ca Cb Cc Iq;go_wp2;go_roundw
    case rel=>exact ⟨i+1,_,by first|rfl|(congr 1),rfl,hp,jg,mF⟩
    case measure=>simp;omega
   ·have q1:decide ((i:Int)<(l.length:Int))=false:=decide_eq_false (by omega)
    have HR:Hid (iM w.heap.size _ l wr):=ae (by
     have h:=HO.out;rw [List.take_of_length_le (by omega)] at h;exact h.row (F:=fun w' d b o t=>bR w.heap.size w' d b o t) (fun w' d b o t h=>bR.up d b o t h) HL.out (fun w' t cs b o hv hB hc=>EE hv hB hc))
    clear HO;go_wp2;go_ret;exact ⟨_,rfl,HP.out,HR.out⟩
namespace Pz
def Rj (p:Nat) (k1 n1 a1:Int) (x1 gm:ByteArray) (es1 fu:List Value) (wr wx:World):Prop:=∃o4 c4 o5 c5,wx.heap[p]?=some (.cells #[.int .i64 k1,.string x1,.string gm,.int .i64 n1,.slice o4 es1.length c4,.slice o5 fu.length c5,.int .i64 a1] 27 (0,0))/\Below p wr wx/\p<wx.heap.size/\∀w',bF (p+1) wx w'->iZ (p+1) (.slice o4 es1.length c4) es1 w'/\iM (p+1) (.slice o5 fu.length c5) fu w'
theorem aap {p:Nat} {k1 n1 a1:Int} {x1 gm:ByteArray} {es1 fu:List Value} {wr u1 u2 u3:World} {bv ev:Value} {o4 o5:Option Addr} {c4 c5:Nat} (hp:p=wr.heap.size) (h1:Below wr.heap.size wr u1) (hs1:u1.heap.size=p+1) (hx1:u1.heap[p]?=some (.cells #[.int .i64 k1,.string x1,.string gm,.int .i64 n1,bv,ev,.int .i64 a1] 27 (0,0)))
  (h2:Below u1.drew.heap.size u1.drew u2) (h3:Below u2.heap.size u2 u3) (r4:iZ u1.drew.heap.size (.slice o4 es1.length c4) es1 u2) (r5:iM u2.heap.size (.slice o5 fu.length c5) fu u3) :
  Rj p k1 n1 a1 x1 gm es1 fu wr ((u3.setCell ⟨p,4,none⟩ (.slice o4 es1.length c4)).setCell ⟨p,5,none⟩ (.slice o5 fu.length c5)):=by
 have e1:u1.drew.heap.size=p+1:=hs1;have z2:p+1<=u2.heap.size:=by rw [<- e1];exact h2.size
 have z3:u2.heap.size<=u3.heap.size:=h3.size;have hx3:u3.heap[p]?=some (.cells #[.int .i64 k1,.string x1,.string gm,.int .i64 n1,bv,ev,.int .i64 a1] 27 (0,0)):=by rw [h3.block p (by omega),h2.block p (by omega)];exact hx1
 have b4:=heap_setCell_same u3 p 4 _ _ (.slice o4 es1.length c4) hx3;have b5:=heap_setCell_same (u3.setCell ⟨p,4,none⟩ (.slice o4 es1.length c4)) p 5 _ _ (.slice o5 fu.length c5) b4
 have set:∀k,k≠p->((u3.setCell ⟨p,4,none⟩ (.slice o4 es1.length c4)).setCell ⟨p,5,none⟩ (.slice o5 fu.length c5)).heap[k]?=u3.heap[k]?:=fun k hk=>by
  rw [Below.heap_setCell _ _ _ _ (by show k≠p;exact hk),Below.heap_setCell _ _ _ _ (by show k≠p;exact hk)]
 have hsz:((u3.setCell ⟨p,4,none⟩ (.slice o4 es1.length c4)).setCell ⟨p,5,none⟩ (.slice o5 fu.length c5)).heap.size=u3.heap.size:=by simp
 refine ⟨o4,c4,o5,c5,b5,?_,by rw [hsz];omega,fun w' hw=>⟨?_,?_⟩⟩
 ·have uC:Below p wr u3:=((h1.mono (by omega)).drew.trans (h2.mono (by omega))).trans (h3.mono (by omega));exact (uC.setCell (Nat.le_refl _) _).setCell (Nat.le_refl _) _
 ·obtain ⟨d,hd⟩:=r4;rw [e1] at hd
  exact ⟨d,hd.imp fun b o t _ ht=>cf.but (fun k hk hl=>by
   have:u3.heap[k]?=u2.heap[k]?:=h3.block k hl
   rw [<- this,<- set k (by omega)];exact hw k hk (by rw [hsz];omega)) d b o t ht⟩
 ·obtain ⟨d,hd⟩:=r5
  exact ⟨d,hd.imp fun b o t _ ht=>bR.lo (by omega) d b o t (bR.but (fun k hk hl=>by
   rw [<- set k (by omega)];exact hw k (by omega) (by rw [hsz];exact hl)) d b o t ht)⟩
end Pz
def Rk (d:Nat):Prop:=∀(w:World) (l:List Value) (vl:Value),Row 7 (cf 0 w d) vl l->nD d l->Calls Tryz.prog 37 #[vl] w fun e w'=>∃v',e=.returned v'/\Below w.heap.size w w'/\iZ w.heap.size v' l w'
theorem aaq:∀d:Nat,Rk d:=by
 intro d
 induction d using Nat.strongRecOn with
 | _ d ih =>
  intro w l vl hr hfw;obtain ⟨oR,cR,rfl,hel⟩:=bz hr;have hle:=hfw.1;have HL:=ae hr.1;have dB:=ae hel;have lG:=ae hfw.2;have fT:Hid (∀d0,d=d0+1->Rk d0):=ae (fun d0 e=>ih d0 (by omega));clear hr hel hfw ih;go_enter Tryz.func37,Tryz.ntmps37;go_wp2_with fail;go_loopw [3,4] (fun oo aa wr=>∃(i:Nat) (vo:Value),aa=.int .i64 i/\oo=vo/\i<=l.length/\Hid (gB (aW w.heap.size) w.heap.size 27 7 wr vo (l.take i))/\Hid (Below w.heap.size w wr)) (fun _ aa _=>match aa with | .int _ i=>l.length-i.toNat|_=>0)
  case atStart=>exact ⟨0,_,rfl,rfl,Nat.zero_le _,ae (gB.nil _ _ _ _ _),ae (Below.refl _ _)⟩
  case round =>
   obtain ⟨i,vo,rfl,rfl,hi,HO,HP⟩:=hrel;by_cases hp:i<l.length
   ·have q1:decide ((i:Int)<(l.length:Int))=true:=decide_eq_true (by omega);obtain ⟨t1,ht1⟩:∃t1,l[i]?=some t1:=⟨_,List.getElem?_eq_getElem hp⟩;obtain ⟨b,off,dh,hC⟩:=dB.out i t1 ht1;subst dh;obtain ⟨d0,k1,x1,gm,n1,es1,fu,a1,Ik,YT,hd0,ht0,g0,g1,g2,g3,g4,g5,g6,hrow,Ky⟩:=aar hC;obtain ⟨oE,cE,rfl,_⟩:=bz hrow;obtain ⟨oP,cP,rfl,_⟩:=bz Ky;have y0:=ag HP.out g0;have y1:=ag HP.out g1;have y2:=ag HP.out g2;have y3:=ag HP.out g3;have y4:=ag HP.out g4;have y5:=ag HP.out g5;have y6:=ag HP.out g6;have hw1:=fO hp HL.out;have yd:=ae (show l.take (i+1)=l.take i++[t1] by rw [List.take_add_one,ht1];rfl)
    have oI:nD d0 es1/\nD d0 fu:=by
     obtain ⟨d1,hd1,hf⟩:=lG.out i t1 hp ht1;obtain rfl:d0=d1:=by omega
     rw [ht0] at hf;exact Il hf
    have yf:=ae ht0;obtain ⟨p,kG⟩:∃p,p=wr.heap.size:=⟨_,rfl⟩;obtain ⟨u1,hu1⟩:∃u1,u1=wr.alloc (.cells #[.int .i64 k1,.string x1,.string gm,.int .i64 n1,.slice oE es1.length cE,.slice oP fu.length cP,.int .i64 a1] 27):=⟨_,rfl⟩;have hb1:Below wr.heap.size wr u1:=by rw [hu1];exact bN _ _
    have bB:Hid (u1.heap[p]?=some (.cells #[.int .i64 k1,.string x1,.string gm,.int .i64 n1,.slice oE es1.length cE,.slice oP fu.length cP,.int .i64 a1] 27 (0,0))):=ae (by rw [hu1,kG];exact heap_alloc_new wr _);have aA:Hid (u1.heap.size=p+1):=ae (by rw [hu1,kG];simp);have HB1:=ae hb1;have vp:=ae (fun (u:World) (hu:Below u1.heap.size u1 u)=>fT.out d0 hd0 u es1 (.slice oE es1.length cE) (hrow.imp fun b o t _ h=>h.but (bF.of (ax (ax HP.out hb1) hu))) oI.1);have Kz:=ae (fun (u:World) (hu:Below u1.heap.size u1 u)=>Vk d0 u fu (.slice oP fu.length cP) (Ky.imp fun b o t _ h=>h.but (bF.of (ax (ax HP.out hb1) hu))) oI.2);have fP:=ae kG;obtain ⟨oV,cV,iE⟩:=HO.out.sl;have hti:(l.take i).length=i:=by rw [List.length_take];omega
    rw [hti] at iE;have qX:=ae hu1;have z4:=trivial;have z5:=trivial;clear hC g0 g1 g2 g3 g4 g5 g6 hrow Ky oI hb1 hu1 ht1 ht0 hd0 kG;subst iE;go_upto_region 6 with fail;rw [<- fP.out,<- qX.out];clear qX y0 y1 y2 y3 y4 y5 y6 z4 z5;obtain ⟨bv,hbv⟩:∃bv,bv=Value.slice oE es1.length cE:=⟨_,rfl⟩;obtain ⟨ev,hev⟩:∃ev,ev=Value.slice oP fu.length cP:=⟨_,rfl⟩;rw [<- hbv,<- hev] at bB;rw [<- hbv] at vp;rw [<- hev] at Kz;rw [<- hbv,<- hev];clear hbv hev;have z4:=af bB.out 4 _ rfl;have z5:=af bB.out 5 _ rfl;go_cut [5] from 16 to 24 (fun s5 wx=>s5=.pointer (some ⟨p,0,none⟩)/\Hid (Rj p k1 n1 a1 x1 gm es1 fu wr wx))
    case first =>
     go_region_with (first
      | (go_at_call_of 37 bv;refine ((vp.out _ (gZ u1))).mono ?_;rintro e u2 ⟨v4',rfl,KA,Rl⟩;obtain ⟨o4,c4,rfl⟩:=Rl.sl;have hx2:=(KA.block p (by show p<u1.heap.size;rw [aA.out];omega)).trans bB.out;have z5':=af hx2 5 _ rfl)
      | (go_at_call_of 82 ev;refine ((Kz.out _ (ax (gZ u1) KA))).mono ?_;rintro e u3 ⟨v5',rfl,qw,Rm⟩;obtain ⟨o5,c5,rfl⟩:=Rm.sl;have hx3:=(qw.block p (Array.getElem?_eq_some_iff.1 hx2).1).trans hx2;have z4':=af hx3 4 _ rfl;have adv:=af hx3 5 _ rfl;have f4:u3.frozen? ⟨p,4,none⟩=false:=(by simp [World.frozen?,hx3]);have f5:u3.frozen? ⟨p,5,none⟩=false:=(by simp [World.frozen?,hx3])))
     all_goals (go_wp2_with fail;go_meet;exact ⟨rfl,ae (aap fP.out HB1.out aA.out bB.out KA qw Rl Rm)⟩)
    obtain ⟨rfl,Rn⟩:=hcut;clear vp Kz z4 z5 bB HB1 aA;obtain ⟨o4,c4,o5,c5,hx3,hb3,hlt3,Ro⟩:=Rn.out;have bZ:=ae hx3;have aD:Hid (Below wr.heap.size wr wc):=ae (by rw [<- fP.out];exact hb3);have BX:w.heap.size<=p:=by rw [fP.out];exact HP.out.size
    have nG:=bN wc (.cells #[.int .i64 k1,.string x1,.string gm,.int .i64 n1,.slice o4 es1.length c4,.slice o5 fu.length c5,.int .i64 a1] 27)
    have HST:Hid (lU w.heap.size (Value.slice oV i cV).ownBlock (aW w.heap.size t1 (.agg #[.int .i64 k1,.string x1,.string gm,.int .i64 n1,.slice o4 es1.length c4,.slice o5 fu.length c5,.int .i64 a1])) (wc.alloc (.cells #[.int .i64 k1,.string x1,.string gm,.int .i64 n1,.slice o4 es1.length c4,.slice o5 fu.length c5,.int .i64 a1] 27))):=ae (fun w' hw'=>by
     have ho:∀k,(Value.slice oV i cV).ownBlock=some k->k<p:=fun k hk=>by obtain ⟨xs,ho,_⟩:=HO.out;rw [fP.out];exact (ho.lt k hk).2
     obtain ⟨r4,r5⟩:=Ro w' fun k hk hl=>by
      rw [hw' k (by omega) (by simp;omega) (fun e=>by have:=ho k e;omega)];exact nG.block k hl
     rw [yf.out];exact yS k1 x1 gm n1 a1 (r4.on (C:=p+1) (fun _ _ _=>rfl) (by omega)) (r5.on (C:=p+1) (fun _ _ _=>rfl) (by omega)))
    have sI:=ae ((HO.out.on aD.out).on nG);have dF:=ae (ax aD.out nG);have sJ:=ae (qQ wc #[.int .i64 k1,.string x1,.string gm,.int .i64 n1,.slice o4 es1.length c4,.slice o5 fu.length c5,.int .i64 a1] 27);have vV:w.heap.size<=(wc.alloc (.cells #[.int .i64 k1,.string x1,.string gm,.int .i64 n1,.slice o4 es1.length c4,.slice o5 fu.length c5,.int .i64 a1] 27)).heap.size:=by have:=dF.out.size;rw [<- fP.out] at this;omega
    have B0:=af bZ.out 0 _ rfl;have Ca:=af bZ.out 1 _ rfl;have Cb:=af bZ.out 2 _ rfl;have Cc:=af bZ.out 3 _ rfl;have Iq:=af bZ.out 4 _ rfl;have kc5:=af bZ.out 5 _ rfl;have kc6:=af bZ.out 6 _ rfl;obtain ⟨i0,hi0,hz0,hz1,hz2⟩:=info_parts Gx;obtain ⟨xs,hown,hxe⟩:=sI.out;rw [hti] at hown;have nH:=ae hxe;have HOW:=ae hown;clear hx3 hb3 Ro nG hxe hown Rn;go_wp2_with (first|(at_builtin;refine uh rfl _ _ 24 rfl w.heap.size 27 i0 _ 7 104 Tryz.underlying24 hi0 hz0 hz1 hz2 rfl (by decide) _ _ _ rfl HOW.out (some ⟨wc.heap.size,0,none⟩) 1 1 [.int .i64 k1,.string x1,.string gm,.int .i64 n1,.slice o4 es1.length c4,.slice o5 fu.length c5,.int .i64 a1] rfl (by intro h;cases h) rfl (fun ad h=>by injection h with h;subst h;exact sJ.out) ?c2 ?c3 ?c4 ?c5 ?_))
    case c2=>exact ⟨rfl,rfl,rfl,rfl,rfl,rfl,rfl⟩
    case c3=>unfold maxLen;omega
    case c4=>omega
    case c5=>simpa using vV
    intro v9 w9 dR dI bG
    have jg:Hid (gB (aW w.heap.size) w.heap.size 27 7 w9 v9 (l.take (i+1))):=ae (by
     rw [yd.out];exact gB.app (cs:=#[.int .i64 k1,.string x1,.string gm,.int .i64 n1,.slice o4 es1.length c4,.slice o5 fu.length c5,.int .i64 a1]) (by rw [hti];exact HOW.out) nH.out (by rw [hti];exact dR) dI (by simpa using bG) rfl HST.out)
    have mF:Hid (Below w.heap.size w w9):=ae ((ax HP.out dF.out).grown dI vV fun k hk=>by exact (HOW.out.lt k hk).1);obtain ⟨oN,cN,gT⟩:=qY dR;subst gT;clear dR dI bG HOW nH sI dF sJ HST bZ aD HO HP B0 Ca Cb Cc Iq kc5 kc6;go_wp2;go_roundw
    case rel=>exact ⟨i+1,_,by first|rfl|(congr 1),rfl,hp,jg,mF⟩
    case measure=>simp;omega
   ·have q1:decide ((i:Int)<(l.length:Int))=false:=decide_eq_false (by omega)
    have HR:Hid (iZ w.heap.size _ l wr):=ae (by
     have h:=HO.out;rw [List.take_of_length_le (by omega)] at h;exact h.row (F:=fun w' d b o t=>cf w.heap.size w' d b o t) (fun w' d b o t h=>cf.up d b o t h) HL.out (fun w' t cs b o hv hB hc=>AZ hv hB hc))
    clear HO;go_wp2;go_ret;exact ⟨_,rfl,HP.out,HR.out⟩
end Go.Proofs.YtkdbgopgjbfhbaaGreatDoor
namespace Go.Proofs.YtkdbgopgjbfhbaaGreatDoor
open Go.RowKit
set_option linter.unusedVariables false
namespace Lx
def wd (s:ByteArray) (low:Bool):Bool :=
 decide (1<=s.size) && decide (s.size<=32) && (if low=true then sm (bt s 0) else cp (bt s 0)) && decide (en s pt 1=s.size)
def mJ (k:Int) (x:ByteArray) (n:Int):Bool :=
 if k≠4/\n≠0 then false
 else if k=1 then wd x true && !dG x keys
 else if k=2 then wd x false
 else if k=3 then wd x true
 else if k=4 then decide (x.size=0) && ez n
 else if k=5 then dG x keys
 else if k=6 then dG x signs
 else false
theorem NS {s:ByteArray} {low:Bool}:wd s low=true↔1<=s.size/\s.size<=32/\(if low=true then sm (bt s 0) else cp (bt s 0))=true/\en s pt 1=s.size:=by
 unfold wd;simp only [Bool.and_eq_true,decide_eq_true_eq,and_assoc]
theorem NT (s:ByteArray):s.extract 0 s.size=s:=by simp
theorem VQ {s:ByteArray} {a f:Nat} {n:Int} {e:Nat} (h:num s a f=some (n,e)):ez n=true:=by
 unfold num at h;obtain ⟨V,hV⟩:∃V,(if a<f then -gV s (en s dg f-f) f 0 else gV s (en s dg f-f) f 0)=V:=⟨_,rfl⟩;rw [hV] at h;split at h
 ·cases h
 ·split at h
  ·rename_i hi;injection h with h;injection h with h1 h2;rw [<- h1];exact hi
  ·cases h
theorem NU {s:ByteArray}:∀ {l:List ByteArray},dG s l=true->s ∈ l
 | [],h=>by cases h
 | x :: l,h=>by
  rw [dG] at h;split at h
  ·rename_i e;subst e;exact List.mem_cons_self ..
  ·exact List.mem_cons_of_mem _ (NU h)
end Lx
end Go.Proofs.YtkdbgopgjbfhbaaGreatDoor
