/- Texts that the claim needs. -/
import Derived.Test.YtkdbgopgjbfhbaaGreatDoorQPV28
namespace Go.Proofs.YtkdbgopgjbfhbaaGreatDoor
open Go.RowKit Lx Pz bw
set_option linter.unusedVariables false
set_option maxRecDepth 100000
set_option maxHeartbeats 16000000
namespace Pz
def eH (f:Nat->Value->Nat):Nat->List Value->Nat
 | c,[]=>c
 | c,t :: l=>if 2048<c then c else eH f (f c t) l
def fZ:Nat->Nat->Value->Nat
 | 0,c,_=>c+1
 | d+1,c,t=>eH (fZ d) (c+1) (dD t)
def iG:Nat->Nat->Value->Nat
 | 0,c,_=>c+1
 | d+1,c,t=>eH (fZ d) (eH (iG d) (c+1) (dD t)) (gD t)
theorem Fj {f:Nat->Value->Nat} {c:Nat} (h:2048<c) (l:List Value):eH f c l=c:=by
 cases l with
 | nil=>rfl
 | cons t l=>unfold eH;rw [if_pos h]
theorem Aq {f:Nat->Value->Nat} (hf:∀c t,c<=2048->f c t<=2049):∀(l:List Value) (c:Nat),c<=2049->eH f c l<=2049
 | [],c,h=>h
 | t :: l,c,h=>by
  unfold eH;by_cases hc:2048<c
  ·rw [if_pos hc];exact h
  ·rw [if_neg hc];exact Aq hf l _ (hf c t (by omega))
theorem CU:∀(d c:Nat) (t:Value),c<=2048->fZ d c t<=2049
 | 0,c,t,h=>by unfold fZ;omega
 | d+1,c,t,h=>by unfold fZ;exact Aq (CU d) _ _ (by omega)
theorem OL:∀(d c:Nat) (t:Value),c<=2048->iG d c t<=2049
 | 0,c,t,h=>by unfold iG;omega
 | d+1,c,t,h=>by unfold iG;exact Aq (CU d) _ _ (Aq (OL d) _ _ (by omega))
theorem Fp {f:Nat->Value->Nat} {l:List Value} {i c:Nat} {t:Value} (hx:l[i]?=some t) (hc:¬ 2048<c):eH f c (l.drop i)=eH f (f c t) (l.drop (i+1)):=by
 have hi:=(List.getElem?_eq_some_iff.1 hx).1;rw [List.drop_eq_getElem_cons hi,(List.getElem?_eq_some_iff.1 hx).2]
 conv=>lhs;unfold eH
 rw [if_neg hc]
structure CN (q c:Nat) (w:World):Prop where
 blk:w.heap[q]?=some (.cells #[.int .i64 (c:Int)] 81 (0,0))
theorem CN.lt {q c:Nat} {w:World} (h:CN q c w):q<w.heap.size:=(Array.getElem?_eq_some_iff.1 h.blk).1
theorem CN.cell {q c:Nat} {w:World} (h:CN q c w):w.cell? ⟨q,0,none⟩=some (.int .i64 (c:Int)):=af h.blk 0 _ rfl
theorem CN.je {q c:Nat} {w:World} (h:CN q c w):w.frozen? ⟨q,0,none⟩=false:=by unfold World.frozen?;rw [h.blk];simp
theorem CN.on {q c:Nat} {w w':World} (h:CN q c w) (hb:Below w.heap.size w w'):CN q c w':=⟨by rw [hb.block q h.lt];exact h.blk⟩
theorem CN.set {q c:Nat} {w:World} (h:CN q c w) (c':Nat):CN q c' (w.setCell ⟨q,0,none⟩ (.int .i64 (c':Int))):=⟨heap_setCell_same w q 0 _ _ _ h.blk⟩
theorem But.below {q n:Nat} {w0 w w':World} (h:But q w w') (hb:Below n w0 w) (hq:n<=q) (hn:n<=w.heap.size):Below n w0 w' :=
 ⟨h.os.trans hb.os,h.tape.trans hb.tape,h.output.trans hb.output,Nat.le_trans hb.size h.size,fun k hk=>(h.block k (by omega) (by omega)).trans (hb.block k hk)⟩
theorem Cw {d b o:Nat} {w:World} {t:Value} (h:bR 0 w d b o t):∃d0 k x n u a,d=d0+1/\w.cell? ⟨b,o,none⟩=some (.int .i64 k)/\w.cell? ⟨b,o+1,none⟩=some (.string x)/\w.cell? ⟨b,o+2,none⟩=some (.int .i64 n)/\w.cell? ⟨b,o+3,none⟩=some u/\w.cell? ⟨b,o+4,none⟩=some (.int .i64 a)/\kI 0 d0 w t (.agg #[.int .i64 k,.string x,.int .i64 n,u,.int .i64 a]):=by
 cases d with
 | zero=>exact h.elim
 | succ d =>
  obtain ⟨hp,k,x,n,es,a,v,h0,h1,h2,h3,h4,h5,h6⟩:=h;exact ⟨d,k,x,n,v,a,rfl,h1,h2,h3,h4,h5,k,x,n,es,a,v,h0,rfl,h6⟩
theorem Jd {d b o:Nat} {w:World} {t:Value} (h:cf 0 w d b o t):∃d0 k x y n u z a,d=d0+1/\w.cell? ⟨b,o,none⟩=some (.int .i64 k)/\w.cell? ⟨b,o+1,none⟩=some (.string x)/\w.cell? ⟨b,o+2,none⟩=some (.string y)/\w.cell? ⟨b,o+3,none⟩=some (.int .i64 n)/\w.cell? ⟨b,o+4,none⟩=some u/\w.cell? ⟨b,o+5,none⟩=some z/\w.cell? ⟨b,o+6,none⟩=some (.int .i64 a)/\iU 0 d0 w t (.agg #[.int .i64 k,.string x,.string y,.int .i64 n,u,z,.int .i64 a]):=by
 cases d with
 | zero=>exact h.elim
 | succ d =>
  obtain ⟨hp,k,x,y,n,es,ps,a,v,u,h0,h1,h2,h3,h4,h5,h6,h7,h8,h9⟩:=h;exact ⟨d,k,x,y,n,v,u,a,rfl,h1,h2,h3,h4,h5,h6,h7,k,x,y,n,es,ps,a,v,u,h0,rfl,h8,h9⟩
def Ac (d:Nat):Prop:=∀(w0 w:World) (t v:Value) (q c:Nat),kI 0 d w0 t v->Below w0.heap.size w0 w->w0.heap.size<=q->CN q c w->c<=2048 ->
 Calls Tryz.prog 99 #[.pointer (some ⟨q,0,none⟩),v] w fun e w'=>e=.returned (.tuple #[])/\But q w w'/\CN q (fZ (d+1) c t) w'
def OM (d:Nat):Prop:=∀(w0 w:World) (t v:Value) (q c:Nat),iU 0 d w0 t v->Below w0.heap.size w0 w->w0.heap.size<=q->CN q c w->c<=2048 ->
 Calls Tryz.prog 47 #[.pointer (some ⟨q,0,none⟩),v] w fun e w'=>e=.returned (.tuple #[])/\But q w w'/\CN q (iG (d+1) c t) w'
theorem OO (w:World) (q:Nat) (v:Value) (o:Obj):((w.setCell ⟨q,0,none⟩ v).alloc o).heap[w.heap.size]?=some o:=by
 have h:=heap_alloc_new (w.setCell ⟨q,0,none⟩ v) o;simpa using h
theorem OP {c:Nat}:decide ((c:Int) > 2048)=decide (2048<c):=um (n:=c) (m:=2048)
theorem OQ {c:Nat} (h:c<=2048):wrap64 ((c:Int)+1)=(c:Int)+1:=by unfold wrap64;omega
end Pz
theorem Fq (q c:Nat) (w:World) (h:CN q c w):Calls Tryz.prog 98 #[.pointer (some ⟨q,0,none⟩)] w fun e w'=>e=.returned (.bool (decide (2048<c)))/\w'=w:=by
 have h0:=h.cell;have HR:=ae (OP (c:=c));generalize decide (2048<c)=R at HR ⊢;clear h;go_enter Tryz.func98,Tryz.ntmps98;go_wp2;go_ret;exact ⟨aO HR.out,rfl⟩
theorem Xk:∀d:Nat,Ac d:=by
 intro d
 induction d using Nat.strongRecOn with
 | _ d ih =>
  intro w0 w t v q c h hb0 hq hcn hc;obtain ⟨k,x,n,es,a,u,rfl,rfl,hr⟩:=h;obtain ⟨oR,cR,rfl,hel⟩:=bz hr;obtain ⟨R,hR⟩:∃R,R=fZ (d+1) c (nd k x e0 n es [] a):=⟨_,rfl⟩;rw [<- hR];have ST0:Hid (eH (fZ d) (c+1) (es.drop 0)=R):=ae (by rw [hR];rfl);have fT:Hid (∀d0,d=d0+1->Ac d0):=ae (fun d0 e=>ih d0 (by omega));have rH:=ae hr.1;have qg:=ae hel;have CV:Hid (w.heap.size≠q):=ae (by have:=hcn.lt;omega);obtain ⟨W,hW⟩:∃W,W=(w.setCell ⟨q,0,none⟩ (.int .i64 ((c:Int)+1))).alloc (.cells #[.int .i64 k,.string x,.int .i64 n,.slice oR es.length cR,.int .i64 a] 101):=⟨_,rfl⟩;have c0:=hcn.cell;have f0:=hcn.je;have jw:Below (w.setCell ⟨q,0,none⟩ (.int .i64 ((c:Int)+1))).heap.size (w.setCell ⟨q,0,none⟩ (.int .i64 ((c:Int)+1))) W:=by rw [hW];exact bN _ _
  have rM:Hid (But q w W):=ae ((But.set q 0 w _).trans (But.of q jw));have rN:Hid (CN q (c+1) W):=ae ((hcn.set (c+1)).on jw);have rO:Hid (W.heap[w.heap.size]?=some (.cells #[.int .i64 k,.string x,.int .i64 n,.slice oR es.length cR,.int .i64 a] 101 (0,0))):=ae (by rw [hW];exact OO w _ _ _);have rQ:Hid (c+1<=2049):=ae (by omega);have hwc:=OQ hc;have uK:=ae hb0;have HQ:=ae hq;have Xl:=hcn.lt;clear hR hr hel hcn hc jw hb0 hq ih;go_enter Tryz.func99,Tryz.ntmps99;go_upto_region 2 with fail;rw [<- hW];clear hW c0 f0 hwc;go_wp2_with fail;go_loopw [4] (fun aa wr=>∃i cc:Nat,aa=.int .i64 i/\i<=es.length/\Hid (eH (fZ d) cc (es.drop i)=R)/\Hid (cc<=2049)/\Hid (But q w wr)/\Hid (CN q cc wr)/\Hid (wr.heap[w.heap.size]?=some (.cells #[.int .i64 k,.string x,.int .i64 n,.slice oR es.length cR,.int .i64 a] 101 (0,0)))) (fun aa _=>match aa with | .int _ i=>es.length-i.toNat|_=>0)
  case atStart=>exact ⟨0,_,rfl,Nat.zero_le _,ST0,rQ,rM,rN,rO⟩
  case round =>
   obtain ⟨i,cc,rfl,hi,HN,HC,iD,iY,HX⟩:=hrel;clear ST0 rQ rM rN rO;have rF:=af HX.out 3 _ rfl;by_cases hp:i<es.length
   ·have q1:decide ((i:Int)<(es.length:Int))=true:=decide_eq_true (by omega);have iI:=ae (Fq q cc wr iY.out);by_cases hf:2048<cc
    ·have HS:Hid (cc=R):=ae (by rw [<- HN.out,Fj hf]);rw [decide_eq_true hf] at iI;clear HN hi hf;go_wp2_with fail;refine Calls.mono (show Calls _ _ _ _ _ from iI.out) ?_;rintro e w3 ⟨rfl,rfl⟩;clear iI;go_wp2;go_end0;rw [<- HS.out];exact ⟨rfl,iD.out,iY.out⟩
    ·obtain ⟨t1,ht1⟩:∃t1,es[i]?=some t1:=⟨_,List.getElem?_eq_getElem hp⟩;obtain ⟨b,off,dh,hC⟩:=qg.out i t1 ht1;subst dh;obtain ⟨d0,k1,x1,n1,u1,a1,hd0,g0,g1,g2,g3,g4,hV⟩:=Cw hC;have aT:=ae (iD.out.below uK.out HQ.out uK.out.size);have y0:=ag aT.out g0;have y1:=ag aT.out g1;have y2:=ag aT.out g2;have y3:=ag aT.out g3;have y4:=ag aT.out g4;have hw1:=fO hp rH.out;have HS:Hid (eH (fZ d) ((fZ d) cc t1) (es.drop (i+1))=R):=ae (by rw [<- HN.out,Fp ht1 hf]);have dS:Hid ((fZ d) cc t1<=2049):=ae (CU _ _ _ (by omega));have bP:=ae (fT.out d0 hd0 w0 wr t1 _ q cc hV aT.out HQ.out iY.out (by omega));have hd1:fZ (d0+1)=(fZ d):=by rw [<- hd0]
     rw [hd1] at bP;rw [decide_eq_false hf] at iI;clear hd1 hd0 hV g0 g1 g2 g3 g4 aT hC ht1 HN hf HC iY;go_wp2_with fail;refine Calls.mono (show Calls _ _ _ _ _ from iI.out) ?_;rintro e w3 ⟨rfl,rfl⟩;clear iI;go_wp2_with fail;refine Calls.mono (show Calls _ _ _ _ _ from bP.out) ?_;rintro e w3 ⟨rfl,hb3,hc3⟩;have yK:=ae (iD.out.trans hb3);have bZ:=ae (hb3.blk HX.out CV.out);have yL:=ae hc3;clear hb3 hc3 bP HX iD rF y0 y1 y2 y3 y4;go_wp2;go_roundw
     case rel=>exact ⟨i+1,_,by first|rfl|(congr 1),hp,HS,dS,yK,yL,bZ⟩
     case measure=>simp;omega
   ·have q1:decide ((i:Int)<(es.length:Int))=false:=decide_eq_false (by omega);have HS:Hid (cc=R):=ae (by rw [<- HN.out,List.drop_eq_nil_of_le (by omega)];rfl);clear HN hi;go_wp2;go_end0;rw [<- HS.out];exact ⟨rfl,iD.out,iY.out⟩
theorem Xm:∀d:Nat,OM d:=by
 intro d
 induction d using Nat.strongRecOn with
 | _ d ih =>
  intro w0 w t v q c h hb0 hq hcn hc;obtain ⟨k,x,y,n,es,ps,a,u,z,rfl,rfl,hr,iA⟩:=h;obtain ⟨oR,cR,rfl,hel⟩:=bz hr;obtain ⟨oP,cP,rfl,wF⟩:=bz iA;obtain ⟨R,hR⟩:∃R,R=iG (d+1) c (nd k x y n es ps a):=⟨_,rfl⟩;rw [<- hR];obtain ⟨R1,pU⟩:∃R1,R1=eH (iG d) (c+1) es:=⟨_,rfl⟩;have ST0:Hid (eH (iG d) (c+1) (es.drop 0)=R1):=ae (by rw [pU];rfl);have OT:Hid (eH (fZ d) R1 ps=R):=ae (by rw [hR,pU];rfl);have fT:Hid (∀d0,d=d0+1->OM d0):=ae (fun d0 e=>ih d0 (by omega));have Am:Hid (∀d0,d=d0+1->Ac d0):=ae (fun d0 _=>Xk d0);have rH:=ae iA.1;have qg:=ae wF;have Jt:=ae hr.1;have Xn:=ae hel;have CV:Hid (w.heap.size≠q):=ae (by have:=hcn.lt;omega);obtain ⟨W,hW⟩:∃W,W=(w.setCell ⟨q,0,none⟩ (.int .i64 ((c:Int)+1))).alloc (.cells #[.int .i64 k,.string x,.string y,.int .i64 n,.slice oR es.length cR,.slice oP ps.length cP,.int .i64 a] 27):=⟨_,rfl⟩;have c0:=hcn.cell;have f0:=hcn.je;have jw:Below (w.setCell ⟨q,0,none⟩ (.int .i64 ((c:Int)+1))).heap.size (w.setCell ⟨q,0,none⟩ (.int .i64 ((c:Int)+1))) W:=by rw [hW];exact bN _ _
  have rM:Hid (But q w W):=ae ((But.set q 0 w _).trans (But.of q jw));have rN:Hid (CN q (c+1) W):=ae ((hcn.set (c+1)).on jw);have rO:Hid (W.heap[w.heap.size]?=some (.cells #[.int .i64 k,.string x,.string y,.int .i64 n,.slice oR es.length cR,.slice oP ps.length cP,.int .i64 a] 27 (0,0))):=ae (by rw [hW];exact OO w _ _ _);have rQ:Hid (c+1<=2049):=ae (by omega);have hwc:=OQ hc;have uK:=ae hb0;have HQ:=ae hq;have Xl:=hcn.lt;clear hR pU hr hel iA wF hcn hc jw hb0 hq ih;go_enter Tryz.func47,Tryz.ntmps47;go_upto_region 2 with fail;rw [<- hW];clear hW c0 f0 hwc;go_wp2_with fail;go_loopw [4] (fun aa wr=>∃i cc:Nat,aa=.int .i64 i/\i<=es.length/\Hid (eH (iG d) cc (es.drop i)=R1)/\Hid (cc<=2049)/\Hid (But q w wr)/\Hid (CN q cc wr)/\Hid (wr.heap[w.heap.size]?=some (.cells #[.int .i64 k,.string x,.string y,.int .i64 n,.slice oR es.length cR,.slice oP ps.length cP,.int .i64 a] 27 (0,0)))) (fun aa _=>match aa with | .int _ i=>es.length-i.toNat|_=>0)
  case atStart=>exact ⟨0,_,rfl,Nat.zero_le _,ST0,rQ,rM,rN,rO⟩
  case round =>
   obtain ⟨i,cc,rfl,hi,HN,HC,iD,iY,HX⟩:=hrel;clear ST0 rQ rM rN rO;have rF:=af HX.out 4 _ rfl;by_cases hp:i<es.length
   ·have q1:decide ((i:Int)<(es.length:Int))=true:=decide_eq_true (by omega);have iI:=ae (Fq q cc wr iY.out);by_cases hf:2048<cc
    ·have HS:Hid (cc=R1):=ae (by rw [<- HN.out,Fj hf]);rw [decide_eq_true hf] at iI;clear HN hi hf;go_wp2_with fail;refine Calls.mono (show Calls _ _ _ _ _ from iI.out) ?_;rintro e w3 ⟨rfl,rfl⟩;clear iI;have ST0:Hid (eH (fZ d) cc (ps.drop 0)=R):=ae (by rw [HS.out];exact OT.out);have rQ:=HC;have rM:=iD;have rN:=iY;have rO:=HX;clear HS HC iD iY HX;go_wp2_with fail;clear hp q1 rF;go_loopw [5] (fun aa wr=>∃i cc:Nat,aa=.int .i64 i/\i<=ps.length/\Hid (eH (fZ d) cc (ps.drop i)=R)/\Hid (cc<=2049)/\Hid (But q w wr)/\Hid (CN q cc wr)/\Hid (wr.heap[w.heap.size]?=some (.cells #[.int .i64 k,.string x,.string y,.int .i64 n,.slice oR es.length cR,.slice oP ps.length cP,.int .i64 a] 27 (0,0)))) (fun aa _=>match aa with | .int _ i=>ps.length-i.toNat|_=>0)
     case atStart=>exact ⟨0,_,rfl,Nat.zero_le _,ST0,rQ,rM,rN,rO⟩
     case round =>
      obtain ⟨i,cc,rfl,hi,HN,HC,iD,iY,HX⟩:=hrel;clear ST0 rQ rM rN rO;have rF:=af HX.out 5 _ rfl;by_cases hp:i<ps.length
      ·have q1:decide ((i:Int)<(ps.length:Int))=true:=decide_eq_true (by omega);have iI:=ae (Fq q cc wr iY.out);by_cases hf:2048<cc
       ·have HS:Hid (cc=R):=ae (by rw [<- HN.out,Fj hf]);rw [decide_eq_true hf] at iI;clear HN hi hf;go_wp2_with fail;refine Calls.mono (show Calls _ _ _ _ _ from iI.out) ?_;rintro e w3 ⟨rfl,rfl⟩;clear iI;go_wp2;go_end0;rw [<- HS.out];exact ⟨rfl,iD.out,iY.out⟩
       ·obtain ⟨t1,ht1⟩:∃t1,ps[i]?=some t1:=⟨_,List.getElem?_eq_getElem hp⟩;obtain ⟨b,off,dh,hC⟩:=qg.out i t1 ht1;subst dh;obtain ⟨d0,k1,x1,n1,u1,a1,hd0,g0,g1,g2,g3,g4,hV⟩:=Cw hC;have aT:=ae (iD.out.below uK.out HQ.out uK.out.size);have y0:=ag aT.out g0;have y1:=ag aT.out g1;have y2:=ag aT.out g2;have y3:=ag aT.out g3;have y4:=ag aT.out g4;have hw1:=fO hp rH.out;have HS:Hid (eH (fZ d) ((fZ d) cc t1) (ps.drop (i+1))=R):=ae (by rw [<- HN.out,Fp ht1 hf]);have dS:Hid ((fZ d) cc t1<=2049):=ae (CU _ _ _ (by omega));have bP:=ae (Am.out d0 hd0 w0 wr t1 _ q cc hV aT.out HQ.out iY.out (by omega));have hd1:fZ (d0+1)=(fZ d):=by rw [<- hd0]
        rw [hd1] at bP;rw [decide_eq_false hf] at iI;clear hd1 hd0 hV g0 g1 g2 g3 g4 aT hC ht1 HN hf HC iY;go_wp2_with fail;refine Calls.mono (show Calls _ _ _ _ _ from iI.out) ?_;rintro e w3 ⟨rfl,rfl⟩;clear iI;go_wp2_with fail;refine Calls.mono (show Calls _ _ _ _ _ from bP.out) ?_;rintro e w3 ⟨rfl,hb3,hc3⟩;have yK:=ae (iD.out.trans hb3);have bZ:=ae (hb3.blk HX.out CV.out);have yL:=ae hc3;clear hb3 hc3 bP HX iD rF y0 y1 y2 y3 y4;go_wp2;go_roundw
        case rel=>exact ⟨i+1,_,by first|rfl|(congr 1),hp,HS,dS,yK,yL,bZ⟩
        case measure=>simp;omega
      ·have q1:decide ((i:Int)<(ps.length:Int))=false:=decide_eq_false (by omega);have HS:Hid (cc=R):=ae (by rw [<- HN.out,List.drop_eq_nil_of_le (by omega)];rfl);clear HN hi;go_wp2;go_end0;rw [<- HS.out];exact ⟨rfl,iD.out,iY.out⟩
    ·obtain ⟨t1,ht1⟩:∃t1,es[i]?=some t1:=⟨_,List.getElem?_eq_getElem hp⟩;obtain ⟨b,off,dh,hC⟩:=Xn.out i t1 ht1;subst dh;obtain ⟨d0,k1,x1,gm,n1,u1,z1,a1,hd0,g0,g1,g2,g3,g4,g5,g6,hV⟩:=Jd hC;have aT:=ae (iD.out.below uK.out HQ.out uK.out.size);have y0:=ag aT.out g0;have y1:=ag aT.out g1;have y2:=ag aT.out g2;have y3:=ag aT.out g3;have y4:=ag aT.out g4;have y5:=ag aT.out g5;have y6:=ag aT.out g6;have hw1:=fO hp Jt.out;have HS:Hid (eH (iG d) ((iG d) cc t1) (es.drop (i+1))=R1):=ae (by rw [<- HN.out,Fp ht1 hf]);have dS:Hid ((iG d) cc t1<=2049):=ae (OL _ _ _ (by omega));have bP:=ae (fT.out d0 hd0 w0 wr t1 _ q cc hV aT.out HQ.out iY.out (by omega));have hd1:iG (d0+1)=(iG d):=by rw [<- hd0]
     rw [hd1] at bP;rw [decide_eq_false hf] at iI;clear hd1 hd0 hV g0 g1 g2 g3 g4 g5 g6 aT hC ht1 HN hf HC iY;go_wp2_with fail;refine Calls.mono (show Calls _ _ _ _ _ from iI.out) ?_;rintro e w3 ⟨rfl,rfl⟩;clear iI;go_wp2_with fail;refine Calls.mono (show Calls _ _ _ _ _ from bP.out) ?_;rintro e w3 ⟨rfl,hb3,hc3⟩;have yK:=ae (iD.out.trans hb3);have bZ:=ae (hb3.blk HX.out CV.out);have yL:=ae hc3;clear hb3 hc3 bP HX iD rF y0 y1 y2 y3 y4 y5 y6;go_wp2;go_roundw
     case rel=>exact ⟨i+1,_,by first|rfl|(congr 1),hp,HS,dS,yK,yL,bZ⟩
     case measure=>simp;omega
   ·have q1:decide ((i:Int)<(es.length:Int))=false:=decide_eq_false (by omega);have HS:Hid (cc=R1):=ae (by rw [<- HN.out,List.drop_eq_nil_of_le (by omega)];rfl);clear HN hi;have ST0:Hid (eH (fZ d) cc (ps.drop 0)=R):=ae (by rw [HS.out];exact OT.out);have rQ:=HC;have rM:=iD;have rN:=iY;have rO:=HX;clear HS HC iD iY HX;go_wp2_with fail;clear hp q1 rF;go_loopw [5] (fun aa wr=>∃i cc:Nat,aa=.int .i64 i/\i<=ps.length/\Hid (eH (fZ d) cc (ps.drop i)=R)/\Hid (cc<=2049)/\Hid (But q w wr)/\Hid (CN q cc wr)/\Hid (wr.heap[w.heap.size]?=some (.cells #[.int .i64 k,.string x,.string y,.int .i64 n,.slice oR es.length cR,.slice oP ps.length cP,.int .i64 a] 27 (0,0)))) (fun aa _=>match aa with | .int _ i=>ps.length-i.toNat|_=>0)
    case atStart=>exact ⟨0,_,rfl,Nat.zero_le _,ST0,rQ,rM,rN,rO⟩
    case round =>
     obtain ⟨i,cc,rfl,hi,HN,HC,iD,iY,HX⟩:=hrel;clear ST0 rQ rM rN rO;have rF:=af HX.out 5 _ rfl;by_cases hp:i<ps.length
     ·have q1:decide ((i:Int)<(ps.length:Int))=true:=decide_eq_true (by omega);have iI:=ae (Fq q cc wr iY.out);by_cases hf:2048<cc
      ·have HS:Hid (cc=R):=ae (by rw [<- HN.out,Fj hf]);rw [decide_eq_true hf] at iI;clear HN hi hf;go_wp2_with fail;refine Calls.mono (show Calls _ _ _ _ _ from iI.out) ?_;rintro e w3 ⟨rfl,rfl⟩;clear iI;go_wp2;go_end0;rw [<- HS.out];exact ⟨rfl,iD.out,iY.out⟩
      ·obtain ⟨t1,ht1⟩:∃t1,ps[i]?=some t1:=⟨_,List.getElem?_eq_getElem hp⟩;obtain ⟨b,off,dh,hC⟩:=qg.out i t1 ht1;subst dh;obtain ⟨d0,k1,x1,n1,u1,a1,hd0,g0,g1,g2,g3,g4,hV⟩:=Cw hC;have aT:=ae (iD.out.below uK.out HQ.out uK.out.size);have y0:=ag aT.out g0;have y1:=ag aT.out g1;have y2:=ag aT.out g2;have y3:=ag aT.out g3;have y4:=ag aT.out g4;have hw1:=fO hp rH.out;have HS:Hid (eH (fZ d) ((fZ d) cc t1) (ps.drop (i+1))=R):=ae (by rw [<- HN.out,Fp ht1 hf]);have dS:Hid ((fZ d) cc t1<=2049):=ae (CU _ _ _ (by omega));have bP:=ae (Am.out d0 hd0 w0 wr t1 _ q cc hV aT.out HQ.out iY.out (by omega));have hd1:fZ (d0+1)=(fZ d):=by rw [<- hd0]
       rw [hd1] at bP;rw [decide_eq_false hf] at iI;clear hd1 hd0 hV g0 g1 g2 g3 g4 aT hC ht1 HN hf HC iY;go_wp2_with fail;refine Calls.mono (show Calls _ _ _ _ _ from iI.out) ?_;rintro e w3 ⟨rfl,rfl⟩;clear iI;go_wp2_with fail;refine Calls.mono (show Calls _ _ _ _ _ from bP.out) ?_;rintro e w3 ⟨rfl,hb3,hc3⟩;have yK:=ae (iD.out.trans hb3);have bZ:=ae (hb3.blk HX.out CV.out);have yL:=ae hc3;clear hb3 hc3 bP HX iD rF y0 y1 y2 y3 y4;go_wp2;go_roundw
       case rel=>exact ⟨i+1,_,by first|rfl|(congr 1),hp,HS,dS,yK,yL,bZ⟩
       case measure=>simp;omega
     ·have q1:decide ((i:Int)<(ps.length:Int))=false:=decide_eq_false (by omega);have HS:Hid (cc=R):=ae (by rw [<- HN.out,List.drop_eq_nil_of_le (by omega)];rfl);clear HN hi;go_wp2;go_end0;rw [<- HS.out];exact ⟨rfl,iD.out,iY.out⟩
theorem Xo (d:Nat) (e u vu vz:Value) (k n a:Int) (x y:ByteArray) (w:World) (h:iU 0 d w e (.agg #[.int .i64 k,.string x,.string y,.int .i64 n,vu,vz,.int .i64 a])):Calls Tryz.prog 17 #[.agg #[u,.int .i64 k,.string x,.string y,.int .i64 n,vu,vz,.int .i64 a]] w fun r w'=>r=.returned (.int .i64 (iG (d+1) 0 e:Nat))/\Below w.heap.size w w':=by
 obtain ⟨W,hW⟩:∃W,W=(w.alloc (.cells #[u,.int .i64 k,.string x,.string y,.int .i64 n,vu,vz,.int .i64 a] 29)).alloc (.cells #[.int .i64 0] 81):=⟨_,rfl⟩;have jw:Below w.heap.size w (w.alloc (.cells #[u,.int .i64 k,.string x,.string y,.int .i64 n,vu,vz,.int .i64 a] 29)):=bN w _;have Ju:Below (w.alloc (.cells #[u,.int .i64 k,.string x,.string y,.int .i64 n,vu,vz,.int .i64 a] 29)).heap.size (w.alloc (.cells #[u,.int .i64 k,.string x,.string y,.int .i64 n,vu,vz,.int .i64 a] 29)) W:=by rw [hW];exact bN _ _
 have hbW:=ax jw Ju;have HX:Hid (W.heap[w.heap.size]?=some (.cells #[u,.int .i64 k,.string x,.string y,.int .i64 n,vu,vz,.int .i64 a] 29 (0,0))):=ae (by rw [Ju.block _ (by simp)];exact heap_alloc_new w _);have hcn:CN (w.heap.size+1) 0 W:=⟨by rw [hW];have h:=heap_alloc_new (w.alloc (.cells #[u,.int .i64 k,.string x,.string y,.int .i64 n,vu,vz,.int .i64 a] 29)) (.cells #[.int .i64 0] 81);simpa using h⟩;have HC:=ae (Xm d w W e _ (w.heap.size+1) 0 h hbW (by omega) hcn (by omega));have aT:=ae hbW;generalize iG (d+1) 0 e=R at *;have c1:=af HX.out 1 _ rfl;have c2:=af HX.out 2 _ rfl;have c3:=af HX.out 3 _ rfl;have c4:=af HX.out 4 _ rfl;have c5:=af HX.out 5 _ rfl;have c6:=af HX.out 6 _ rfl;have c7:=af HX.out 7 _ rfl;clear h jw Ju hbW hcn;go_enter Tryz.func17,Tryz.ntmps17;go_upto_region 2 with fail;rw [<- hW];clear hW;go_wp2_with fail;refine Calls.mono (show Calls _ _ _ _ _ from HC.out) ?_;rintro e w3 ⟨rfl,hb3,hc3⟩;have aD:=ae (hb3.below aT.out (Nat.le_succ _) aT.out.size);have cc:=hc3.cell;clear hb3 hc3 HC c1 c2 c3 c4 c5 c6 c7 HX;go_wp2;go_ret;exact ⟨rfl,aD.out⟩
namespace Pz
def lY (d:Nat) (ds:List Value) (e:Value):Bool:=decide (32<ds.length) || (decide (2048<iG (d+1) 0 e) || (ds.any Ci || lV (d+1) e))
end Pz
theorem aai (d:Nat) (ds:List Value) (e u vu vz:Value) (k n a:Int) (x y:ByteArray) (w:World) (hD:iN 0 u ds w) (hM:iU 0 d w e (.agg #[.int .i64 k,.string x,.string y,.int .i64 n,vu,vz,.int .i64 a])):Calls Tryz.prog 25 #[.agg #[u,.int .i64 k,.string x,.string y,.int .i64 n,vu,vz,.int .i64 a]] w fun r w'=>r=.returned (.bool (lY d ds e))/\Below w.heap.size w w':=by
 obtain ⟨oD,cD,rfl,_⟩:=bz hD;obtain ⟨R,hR⟩:∃R,R=lY d ds e:=⟨_,rfl⟩;rw [<- hR];unfold lY at hR;obtain ⟨W,hW⟩:∃W,W=w.alloc (.cells #[.slice oD ds.length cD,.int .i64 k,.string x,.string y,.int .i64 n,vu,vz,.int .i64 a] 29):=⟨_,rfl⟩;have jw:Below w.heap.size w W:=by rw [hW];exact bN w _
 have HX:Hid (W.heap[w.heap.size]?=some (.cells #[.slice oD ds.length cD,.int .i64 k,.string x,.string y,.int .i64 n,vu,vz,.int .i64 a] 29 (0,0))):=ae (by rw [hW];exact heap_alloc_new w _);have HS:=ae (Xo d e (.slice oD ds.length cD) vu vz k n a x y W (hM.but (fun kk _ hl=>jw.block kk hl)));have HD:=ae (fun w' (hb:Below w.heap.size w w')=>ZA Ci ds (.slice oD ds.length cD) w' (iN.on (C:=0) (B:=0) hD (fun kk _ hl=>hb.block kk hl) (Nat.le_refl _)) (fun t v w' _ ht _=>Vt t v w' ht));have HE:=ae (fun w' (hb:Below w.heap.size w w')=>Vw d e _ w' (hM.but (fun kk _ hl=>hb.block kk hl)));have HB:=ae jw;have e1:=um (n:=ds.length) (m:=32);have e2:=OP (c:=iG (d+1) 0 e);rw [<- e1,<- e2] at hR;have HR:=ae hR;generalize iG (d+1) 0 e=Cn at *;generalize lV (d+1) e=Me at *;generalize ds.any Ci=Md at *;have c0:=af HX.out 0 _ rfl;have c1:=af HX.out 1 _ rfl;have c2:=af HX.out 2 _ rfl;have c3:=af HX.out 3 _ rfl;have c4:=af HX.out 4 _ rfl;have c5:=af HX.out 5 _ rfl;have c6:=af HX.out 6 _ rfl;have c7:=af HX.out 7 _ rfl;clear hD hM hR jw e1 e2;cases h1:decide ((ds.length:Int) > ((32:Nat):Int)) with
 | true =>
  have h1':decide ((ds.length:Int) > 32)=true:=h1;have HQ:Hid (true=R):=ae (by rw [HR.out,h1];rfl);clear h1 HR HS HD HE;go_enter Tryz.func25,Tryz.ntmps25;go_upto_region 1 with fail;rw [<- hW];clear hW;go_wp2;go_ret;exact ⟨aO HQ.out,HB.out⟩
 | false =>
  have h1':decide ((ds.length:Int) > 32)=false:=h1;have jG:=HR.out;rw [h1,Bool.false_or] at jG;have HR2:=ae jG;clear h1 HR jG;go_enter Tryz.func25,Tryz.ntmps25;go_upto_region 1 with fail;rw [<- hW];clear hW;go_wp2_with fail;refine Calls.mono (show Calls _ _ _ _ _ from HS.out) ?_;rintro e w1 ⟨rfl,hb1⟩;have HB1:=ae (ax HB.out hb1);have bB:Hid (w1.heap[w.heap.size]?=some (.cells #[.slice oD ds.length cD,.int .i64 k,.string x,.string y,.int .i64 n,vu,vz,.int .i64 a] 29 (0,0))):=ae ((hb1.block _ (Array.getElem?_eq_some_iff.1 HX.out).1).trans HX.out);have Ks:=ae (HD.out w1 HB1.out);clear hb1 HS HD HB HX c0 c1 c2 c3 c4 c5 c6 c7;have c0:=af bB.out 0 _ rfl;cases h2:decide ((Cn:Int) > 2048) with
  | true =>
   have HQ:Hid (true=R):=ae (by rw [HR2.out,h2];rfl);clear HR2 Ks HE;go_wp2;go_ret;exact ⟨aO HQ.out,HB1.out⟩
  | false =>
   have A7:=HR2.out;rw [h2,Bool.false_or] at A7;have HR3:=ae A7;clear HR2 A7;go_wp2_with fail;refine Calls.mono (show Calls _ _ _ _ _ from Ks.out) ?_;rintro e w2 ⟨rfl,hb2⟩;have HB2:=ae (ax HB1.out hb2);have bb:Hid (w2.heap[w.heap.size]?=some (.cells #[.slice oD ds.length cD,.int .i64 k,.string x,.string y,.int .i64 n,vu,vz,.int .i64 a] 29 (0,0))):=ae ((hb2.block _ (Array.getElem?_eq_some_iff.1 bB.out).1).trans bB.out);have rD:=ae (HE.out w2 HB2.out);clear hb2 Ks HE HB1 bB c0;have c1:=af bb.out 1 _ rfl;have c2:=af bb.out 2 _ rfl;have c3:=af bb.out 3 _ rfl;have c4:=af bb.out 4 _ rfl;have c5:=af bb.out 5 _ rfl;have c6:=af bb.out 6 _ rfl;have c7:=af bb.out 7 _ rfl;cases Md with
   | true =>
    have HQ:Hid (true=R):=ae (by rw [HR3.out];rfl);clear HR3 rD;go_wp2;go_ret;exact ⟨aO HQ.out,HB2.out⟩
   | false =>
    have HQ:Hid (Me=R):=ae (by rw [HR3.out];rfl);clear HR3;go_wp2_with fail;refine Calls.mono (show Calls _ _ _ _ _ from rD.out) ?_;rintro e w3 ⟨rfl,hb3⟩;have aD:=ae (ax HB2.out hb3);clear hb3 rD c1 c2 c3 c4 c5 c6 c7;go_wp2;go_ret;exact ⟨aO HQ.out,aD.out⟩
namespace Pz
def E9 (t:Value):Prop:=∃k x y n es ps a,t=nd k x y n es ps a
def fit:Nat->Value->Prop
 | 0,t=>E9 t/\dD t = []/\gD t = []
 | d+1,t=>E9 t/\(∀x ∈ dD t,fit d x)/\(∀x ∈ gD t,fit d x)
theorem Fc:∀(d:Nat) (t:Value),fit d t->fit (d+1) t
 | 0,t,h=>⟨h.1,fun x hx=>(by rw [h.2.1] at hx;cases hx),fun x hx=>(by rw [h.2.2] at hx;cases hx)⟩
 | d+1,t,h=>⟨h.1,fun x hx=>Fc d x (h.2.1 x hx),fun x hx=>Fc d x (h.2.2 x hx)⟩
theorem Js {d e:Nat} (h:d<=e) {t:Value} (hf:fit d t):fit e t:=by
 induction h with
 | refl=>exact hf
 | step _ ih=>exact Fc _ _ ih
theorem Fg {α:Type} {f g:α->Bool}:∀ {l:List α},(∀x ∈ l,f x=g x)->l.any f=l.any g
 | [],_=>rfl
 | x :: l,h=>by rw [List.any_cons,List.any_cons,h x (List.Mem.head _),Fg (fun y hy=>h y (List.Mem.tail _ hy))]
theorem Fh {f g:Nat->Value->Nat}:∀ {l:List Value} (c:Nat),(∀x ∈ l,∀c,f c x=g c x)->eH f c l=eH g c l
 | [],_,_=>rfl
 | x :: l,c,h=>by
  unfold eH;rw [h x (List.Mem.head _) c,Fh _ (fun y hy=>h y (List.Mem.tail _ hy))]
theorem OE:∀(d:Nat) (t:Value),fit d t->lH (d+2) t=lH (d+1) t
 | 0,t,h=>by show (_ || (dD t).any _)=(_ || (dD t).any _);rw [h.2.1];rfl
 | d+1,t,h=>by show (_ || (dD t).any _)=(_ || (dD t).any _);rw [Fg (fun x hx=>OE d x (h.2.1 x hx))]
theorem OG:∀(d:Nat) (t:Value),fit d t->lV (d+2) t=lV (d+1) t
 | 0,t,h=>by show (_ || ((dD t).any _ || (gD t).any _))=(_ || ((dD t).any _ || (gD t).any _));rw [h.2.1,h.2.2];rfl
 | d+1,t,h=>by show (_ || ((dD t).any _ || (gD t).any _))=(_ || ((dD t).any _ || (gD t).any _));rw [Fg (fun x hx=>OG d x (h.2.1 x hx)),Fg (fun x hx=>OE d x (h.2.2 x hx))]
theorem Xi {d e:Nat} (h:d<=e) {t:Value} (hf:fit d t):lV (e+1) t=lV (d+1) t:=by
 induction h with
 | refl=>rfl
 | step hm ih=>rw [OG _ t (Js hm hf)];exact ih
theorem OH:∀(d:Nat) (t:Value),fit d t->∀c,fZ (d+2) c t=fZ (d+1) c t
 | 0,t,h,c=>by show eH _ _ (dD t)=eH _ _ (dD t);rw [h.2.1];rfl
 | d+1,t,h,c=>by show eH _ _ (dD t)=eH _ _ (dD t);rw [Fh _ (fun x hx=>OH d x (h.2.1 x hx))]
theorem OI:∀(d:Nat) (t:Value),fit d t->∀c,iG (d+2) c t=iG (d+1) c t
 | 0,t,h,c=>by show eH _ (eH _ _ (dD t)) (gD t)=eH _ (eH _ _ (dD t)) (gD t);rw [h.2.1,h.2.2];rfl
 | d+1,t,h,c=>by show eH _ (eH _ _ (dD t)) (gD t)=eH _ (eH _ _ (dD t)) (gD t);rw [Fh (l:=dD t) _ (fun x hx=>OI d x (h.2.1 x hx)),Fh (l:=gD t) _ (fun x hx=>OH d x (h.2.2 x hx))]
theorem Xj {d e:Nat} (h:d<=e) {t:Value} (hf:fit d t) (c:Nat):iG (e+1) c t=iG (d+1) c t:=by
 induction h with
 | refl=>rfl
 | step hm ih=>rw [OI _ t (Js hm hf)];exact ih
theorem OJ {d e:Nat} (h:d<=e) {t:Value} (hf:fit d t) (ds:List Value):lY e ds t=lY d ds t:=by
 unfold lY;rw [Xi h hf,Xj h hf]
theorem OB {d e:Nat} {t:Value} (hd:fit d t) (he:fit e t) (ds:List Value):lY e ds t=lY d ds t:=by
 rcases Nat.le_total d e with h|h
 ·exact OJ h hd ds
 ·exact (OJ h he ds).symm
theorem nQ {α:Type} {sz:Nat} {f:Nat->Nat->α->Prop} {v:Value} {l:List α} (h:Row sz f v l) {x:α} (hx:x ∈ l):∃b o,f b o x:=by
 obtain ⟨o,c,_,hc⟩:=bz h;obtain ⟨i,hi⟩:=List.getElem?_of_mem hx;obtain ⟨b,off,_,hf⟩:=hc i x hi;exact ⟨b,_,hf⟩
theorem uF {α:Type} {sz:Nat} {v:Value} {l:List α} (h:Row sz (fun _ _ _=>False) v l):l = []:=by
 cases l with
 | nil=>rfl
 | cons x l=>obtain ⟨_,_,hf⟩:=nQ h (List.Mem.head _);exact False.elim hf
section
variable {p:Nat} {w:World}
theorem bR.fit:∀(d b o:Nat) (t:Value),bR p w (d+1) b o t->fit d t
 | 0,b,o,t,⟨hp,k,x,n,es,a,v,h0,h1,h2,h3,h4,h5,h6⟩=>by
  subst h0;exact ⟨⟨_,_,_,_,_,_,_,rfl⟩,uF (h6.imp fun _ _ _ _ hf=>hf),rfl⟩
 | d+1,b,o,t,⟨hp,k,x,n,es,a,v,h0,h1,h2,h3,h4,h5,h6⟩=>by
  subst h0;refine ⟨⟨_,_,_,_,_,_,_,rfl⟩,fun y hy=>?_,fun y hy=>by cases hy⟩;obtain ⟨b',o',hf⟩:=nQ h6 hy;exact bR.fit d b' o' y hf
theorem dw.fit:∀(d b o:Nat) (t:Value),dw p w (d+1) b o t->fit d t
 | 0,b,o,t,⟨hp,k,x,n,es,v,h0,h1,h2,h3,h4,h6⟩=>by
  subst h0;exact ⟨⟨_,_,_,_,_,_,_,rfl⟩,uF (h6.imp fun _ _ _ _ hf=>hf),rfl⟩
 | d+1,b,o,t,⟨hp,k,x,n,es,v,h0,h1,h2,h3,h4,h6⟩=>by
  subst h0;refine ⟨⟨_,_,_,_,_,_,_,rfl⟩,fun y hy=>?_,fun y hy=>by cases hy⟩;obtain ⟨b',o',hf⟩:=nQ h6 hy;exact dw.fit d b' o' y hf
theorem cf.fit:∀(d b o:Nat) (t:Value),cf p w (d+1) b o t->fit d t
 | 0,b,o,t,⟨hp,k,x,y,n,es,ps,a,v,u,h0,h1,h2,h3,h4,h5,h6,h7,h8,h9⟩=>by
  subst h0;exact ⟨⟨_,_,_,_,_,_,_,rfl⟩,uF (h8.imp fun _ _ _ _ hf=>hf),uF (h9.imp fun _ _ _ _ hf=>hf)⟩
 | d+1,b,o,t,⟨hp,k,x,y,n,es,ps,a,v,u,h0,h1,h2,h3,h4,h5,h6,h7,h8,h9⟩=>by
  subst h0;refine ⟨⟨_,_,_,_,_,_,_,rfl⟩,fun z hz=>?_,fun z hz=>?_⟩
  ·obtain ⟨b',o',hf⟩:=nQ h8 hz;exact cf.fit d b' o' z hf
  ·obtain ⟨b',o',hf⟩:=nQ h9 hz;exact bR.fit d b' o' z hf
theorem iU.fit {d:Nat} {t v:Value} (h:iU p d w t v):fit d t:=by
 obtain ⟨k,x,y,n,es,ps,a,u,z,rfl,_,h1,h2⟩:=h;cases d with
 | zero=>exact ⟨⟨_,_,_,_,_,_,_,rfl⟩,uF (h1.imp fun _ _ _ _ hf=>hf),uF (h2.imp fun _ _ _ _ hf=>hf)⟩
 | succ d =>
  refine ⟨⟨_,_,_,_,_,_,_,rfl⟩,fun z hz=>?_,fun z hz=>?_⟩
  ·obtain ⟨b',o',hf⟩:=nQ h1 hz;exact cf.fit d b' o' z hf
  ·obtain ⟨b',o',hf⟩:=nQ h2 hz;exact bR.fit d b' o' z hf
theorem kI.fit {d:Nat} {t v:Value} (h:kI p d w t v):fit d t:=by
 obtain ⟨k,x,n,es,a,u,rfl,_,h1⟩:=h;cases d with
 | zero=>exact ⟨⟨_,_,_,_,_,_,_,rfl⟩,uF (h1.imp fun _ _ _ _ hf=>hf),rfl⟩
 | succ d =>
  refine ⟨⟨_,_,_,_,_,_,_,rfl⟩,fun z hz=>?_,fun z hz=>by cases hz⟩;obtain ⟨b',o',hf⟩:=nQ h1 hz;exact bR.fit d b' o' z hf
theorem nP.fit {d:Nat} {t v:Value} (h:nP p d w t v):fit d t:=by
 obtain ⟨k,x,n,es,u,rfl,_,h1⟩:=h;cases d with
 | zero=>exact ⟨⟨_,_,_,_,_,_,_,rfl⟩,uF (h1.imp fun _ _ _ _ hf=>hf),rfl⟩
 | succ d =>
  refine ⟨⟨_,_,_,_,_,_,_,rfl⟩,fun z hz=>?_,fun z hz=>by cases hz⟩;obtain ⟨b',o',hf⟩:=nQ h1 hz;exact dw.fit d b' o' z hf
end
end Pz
end Go.Proofs.YtkdbgopgjbfhbaaGreatDoor
