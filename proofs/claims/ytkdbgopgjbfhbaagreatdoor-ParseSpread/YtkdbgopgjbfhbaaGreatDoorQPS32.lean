/- Texts that the claim needs. -/
import Derived.Test.YtkdbgopgjbfhbaaGreatDoorQPS31
import Derived.Test.YtkdbgopgjbfhbaaGreatDoorQPS5
import Derived.ProofKit
import Derived.OpenShut
import Derived.Lib.SmallJoins
import Derived.Test.YtkdbgopgjbfhbaaGreatDoorQPS6
namespace Go.Proofs.YtkdbgopgjbfhbaaGreatDoor
open Go.RowKit Lx Pz bb
set_option linter.unusedVariables false
set_option maxRecDepth 100000
set_option maxHeartbeats 16000000
namespace Pz
def dY (f:Nat->Value->Nat):Nat->List Value->Nat
 | c,[]=>c
 | c,t :: l=>if 2048<c then c else dY f (f c t) l
def fU:Nat->Nat->Value->Nat
 | 0,c,_=>c+1
 | d+1,c,t=>dY (fU d) (c+1) (dw t)
def ij:Nat->Nat->Value->Nat
 | 0,c,_=>c+1
 | d+1,c,t=>dY (fU d) (dY (ij d) (c+1) (dw t)) (iH t)
theorem FF {f:Nat->Value->Nat} {c:Nat} (h:2048<c) (l:List Value):dY f c l=c:=by
 cases l with
 | nil=>rfl
 | cons t l=>unfold dY;rw [if_pos h]
theorem A7 {f:Nat->Value->Nat} (hf:∀c t,c<=2048->f c t<=2049):∀(l:List Value) (c:Nat),c<=2049->dY f c l<=2049
 | [],c,h=>h
 | t :: l,c,h=>by
  unfold dY;by_cases hc:2048<c
  ·rw [if_pos hc];exact h
  ·rw [if_neg hc];exact A7 hf l _ (hf c t (by omega))
theorem Dr:∀(d c:Nat) (t:Value),c<=2048->fU d c t<=2049
 | 0,c,t,h=>by unfold fU;omega
 | d+1,c,t,h=>by unfold fU;exact A7 (Dr d) _ _ (by omega)
theorem Ql:∀(d c:Nat) (t:Value),c<=2048->ij d c t<=2049
 | 0,c,t,h=>by unfold ij;omega
 | d+1,c,t,h=>by unfold ij;exact A7 (Dr d) _ _ (A7 (Ql d) _ _ (by omega))
theorem FG {f:Nat->Value->Nat} {l:List Value} {i c:Nat} {t:Value} (hx:l[i]?=some t) (hc:¬ 2048<c):dY f c (l.drop i)=dY f (f c t) (l.drop (i+1)):=by
 have hi:=(List.getElem?_eq_some_iff.1 hx).1;rw [List.drop_eq_getElem_cons hi,(List.getElem?_eq_some_iff.1 hx).2]
 conv=>lhs;unfold dY
 rw [if_neg hc]
structure CN (q c:Nat) (w:World):Prop where
 blk:w.heap[q]?=some (.cells #[.int .i64 (c:Int)] 81 (0,0))
theorem CN.lt {q c:Nat} {w:World} (h:CN q c w):q<w.heap.size:=(Array.getElem?_eq_some_iff.1 h.blk).1
theorem CN.cell {q c:Nat} {w:World} (h:CN q c w):w.cell? ⟨q,0,none⟩=some (.int .i64 (c:Int)):=af h.blk 0 _ rfl
theorem CN.iq {q c:Nat} {w:World} (h:CN q c w):w.frozen? ⟨q,0,none⟩=false:=by unfold World.frozen?;rw [h.blk];simp
theorem CN.on {q c:Nat} {w w':World} (h:CN q c w) (hb:Below w.heap.size w w'):CN q c w':=⟨by rw [hb.block q h.lt];exact h.blk⟩
theorem CN.set {q c:Nat} {w:World} (h:CN q c w) (c':Nat):CN q c' (w.setCell ⟨q,0,none⟩ (.int .i64 (c':Int))):=⟨heap_setCell_same w q 0 _ _ _ h.blk⟩
theorem But.below {q n:Nat} {w0 w w':World} (h:But q w w') (hb:Below n w0 w) (hq:n<=q) (hn:n<=w.heap.size):Below n w0 w' :=
 ⟨h.os.trans hb.os,h.tape.trans hb.tape,h.output.trans hb.output,Nat.le_trans hb.size h.size,fun k hk=>(h.block k (by omega) (by omega)).trans (hb.block k hk)⟩
theorem JN {d b o:Nat} {w:World} {t:Value} (h:cW 0 w d b o t):∃d0 k x n u a,d=d0+1/\w.cell? ⟨b,o,none⟩=some (.int .i64 k)/\w.cell? ⟨b,o+1,none⟩=some (.string x)/\w.cell? ⟨b,o+2,none⟩=some (.int .i64 n)/\w.cell? ⟨b,o+3,none⟩=some u/\w.cell? ⟨b,o+4,none⟩=some (.int .i64 a)/\ll 0 d0 w t (.agg #[.int .i64 k,.string x,.int .i64 n,u,.int .i64 a]):=by
 cases d with
 | zero=>exact h.elim
 | succ d =>
  obtain ⟨hp,k,x,n,es,a,v,h0,h1,h2,h3,h4,h5,h6⟩:=h;exact ⟨d,k,x,n,v,a,rfl,h1,h2,h3,h4,h5,k,x,n,es,a,v,h0,rfl,h6⟩
theorem Ze {d b o:Nat} {w:World} {t:Value} (h:dR 0 w d b o t):∃d0 k x y n u z a,d=d0+1/\w.cell? ⟨b,o,none⟩=some (.int .i64 k)/\w.cell? ⟨b,o+1,none⟩=some (.string x)/\w.cell? ⟨b,o+2,none⟩=some (.string y)/\w.cell? ⟨b,o+3,none⟩=some (.int .i64 n)/\w.cell? ⟨b,o+4,none⟩=some u/\w.cell? ⟨b,o+5,none⟩=some z/\w.cell? ⟨b,o+6,none⟩=some (.int .i64 a)/\jH 0 d0 w t (.agg #[.int .i64 k,.string x,.string y,.int .i64 n,u,z,.int .i64 a]):=by
 cases d with
 | zero=>exact h.elim
 | succ d =>
  obtain ⟨hp,k,x,y,n,es,ps,a,v,u,h0,h1,h2,h3,h4,h5,h6,h7,h8,h9⟩:=h;exact ⟨d,k,x,y,n,v,u,a,rfl,h1,h2,h3,h4,h5,h6,h7,k,x,y,n,es,ps,a,v,u,h0,rfl,h8,h9⟩
def JO (d:Nat):Prop:=∀(w0 w:World) (t v:Value) (q c:Nat),ll 0 d w0 t v->Below w0.heap.size w0 w->w0.heap.size<=q->CN q c w->c<=2048 ->
 Calls Tryz.prog 99 #[.pointer (some ⟨q,0,none⟩),v] w fun e w'=>e=.returned (.tuple #[])/\But q w w'/\CN q (fU (d+1) c t) w'
def Qm (d:Nat):Prop:=∀(w0 w:World) (t v:Value) (q c:Nat),jH 0 d w0 t v->Below w0.heap.size w0 w->w0.heap.size<=q->CN q c w->c<=2048 ->
 Calls Tryz.prog 47 #[.pointer (some ⟨q,0,none⟩),v] w fun e w'=>e=.returned (.tuple #[])/\But q w w'/\CN q (ij (d+1) c t) w'
theorem Qn (w:World) (q:Nat) (v:Value) (o:Obj):((w.setCell ⟨q,0,none⟩ v).alloc o).heap[w.heap.size]?=some o:=by
 have h:=heap_alloc_new (w.setCell ⟨q,0,none⟩ v) o;simpa using h
theorem Qo {c:Nat}:decide ((c:Int) > 2048)=decide (2048<c):=ui (n:=c) (m:=2048)
theorem Qp {c:Nat} (h:c<=2048):wrap64 ((c:Int)+1)=(c:Int)+1:=by unfold wrap64;omega
end Pz
theorem FH (q c:Nat) (w:World) (h:CN q c w):Calls Tryz.prog 98 #[.pointer (some ⟨q,0,none⟩)] w fun e w'=>e=.returned (.bool (decide (2048<c)))/\w'=w:=by
 have h0:=h.cell;have HR:=ae (Qo (c:=c));generalize decide (2048<c)=R at HR ⊢;clear h;go_enter Tryz.func98,Tryz.ntmps98;go_wp2;go_ret;exact ⟨ba HR.out,rfl⟩
theorem Zf:∀d:Nat,JO d:=by
 intro d
 induction d using Nat.strongRecOn with
 | _ d ih =>
  intro w0 w t v q c h hb0 hq hcn hc;obtain ⟨k,x,n,es,a,u,rfl,rfl,hr⟩:=h;obtain ⟨oR,cR,rfl,hel⟩:=cF hr;obtain ⟨R,hR⟩:∃R,R=fU (d+1) c (nd k x e0 n es [] a):=⟨_,rfl⟩;rw [<- hR];have ST0:Hid (dY (fU d) (c+1) (es.drop 0)=R):=ae (by rw [hR];rfl);have lT:Hid (∀d0,d=d0+1->JO d0):=ae (fun d0 e=>ih d0 (by omega));have y8:=ae hr.1;have FI:=ae hel;have Dt:Hid (w.heap.size≠q):=ae (by have:=hcn.lt;omega);obtain ⟨W,hW⟩:∃W,W=(w.setCell ⟨q,0,none⟩ (.int .i64 ((c:Int)+1))).alloc (.cells #[.int .i64 k,.string x,.int .i64 n,.slice oR es.length cR,.int .i64 a] 101):=⟨_,rfl⟩;have c0:=hcn.cell;have f0:=hcn.iq;have kU:Below (w.setCell ⟨q,0,none⟩ (.int .i64 ((c:Int)+1))).heap.size (w.setCell ⟨q,0,none⟩ (.int .i64 ((c:Int)+1))) W:=by rw [hW];exact dh _ _
  have rD:Hid (But q w W):=ae ((But.set q 0 w _).trans (But.of q kU));have rG:Hid (CN q (c+1) W):=ae ((hcn.set (c+1)).on kU);have rH:Hid (W.heap[w.heap.size]?=some (.cells #[.int .i64 k,.string x,.int .i64 n,.slice oR es.length cR,.int .i64 a] 101 (0,0))):=ae (by rw [hW];exact Qn w _ _ _);have rJ:Hid (c+1<=2049):=ae (by omega);have hwc:=Qp hc;have qh:=ae hb0;have HQ:=ae hq;have Zg:=hcn.lt;clear hR hr hel hcn hc kU hb0 hq ih;go_enter Tryz.func99,Tryz.ntmps99;go_upto_region 2 with fail;rw [<- hW];clear hW c0 f0 hwc;go_wp2_with fail;go_loopw [4] (fun aa wr=>∃i cc:Nat,aa=.int .i64 i/\i<=es.length/\Hid (dY (fU d) cc (es.drop i)=R)/\Hid (cc<=2049)/\Hid (But q w wr)/\Hid (CN q cc wr)/\Hid (wr.heap[w.heap.size]?=some (.cells #[.int .i64 k,.string x,.int .i64 n,.slice oR es.length cR,.int .i64 a] 101 (0,0)))) (fun aa _=>match aa with | .int _ i=>es.length-i.toNat|_=>0)
  case atStart=>exact ⟨0,_,rfl,Nat.zero_le _,ST0,rJ,rD,rG,rH⟩
  case round =>
   obtain ⟨i,cc,rfl,hi,HN,HC,iI,iX,HX⟩:=hrel;clear ST0 rJ rD rG rH;have rF:=af HX.out 3 _ rfl;by_cases hp:i<es.length
   ·have q1:decide ((i:Int)<(es.length:Int))=true:=decide_eq_true (by omega);have iL:=ae (FH q cc wr iX.out);by_cases hf:2048<cc
    ·have HS:Hid (cc=R):=ae (by rw [<- HN.out,FF hf]);rw [decide_eq_true hf] at iL;clear HN hi hf;go_wp2_with fail;refine Calls.mono (show Calls _ _ _ _ _ from iL.out) ?_;rintro e w3 ⟨rfl,rfl⟩;clear iL;go_wp2;go_end0;rw [<- HS.out];exact ⟨rfl,iI.out,iX.out⟩
    ·obtain ⟨t1,ht1⟩:∃t1,es[i]?=some t1:=⟨_,List.getElem?_eq_getElem hp⟩;obtain ⟨b,off,gF,hC⟩:=FI.out i t1 ht1;subst gF;obtain ⟨d0,k1,x1,n1,u1,a1,hd0,g0,g1,g2,g3,g4,hV⟩:=JN hC;have cf:=ae (iI.out.below qh.out HQ.out qh.out.size);have y0:=ah cf.out g0;have y1:=ah cf.out g1;have y2:=ah cf.out g2;have y3:=ah cf.out g3;have y4:=ah cf.out g4;have hw1:=mZ hp y8.out;have HS:Hid (dY (fU d) ((fU d) cc t1) (es.drop (i+1))=R):=ae (by rw [<- HN.out,FG ht1 hf]);have dQ:Hid ((fU d) cc t1<=2049):=ae (Dr _ _ _ (by omega));have eH:=ae (lT.out d0 hd0 w0 wr t1 _ q cc hV cf.out HQ.out iX.out (by omega));have hd1:fU (d0+1)=(fU d):=by rw [<- hd0]
     rw [hd1] at eH;rw [decide_eq_false hf] at iL;clear hd1 hd0 hV g0 g1 g2 g3 g4 cf hC ht1 HN hf HC iX;go_wp2_with fail;refine Calls.mono (show Calls _ _ _ _ _ from iL.out) ?_;rintro e w3 ⟨rfl,rfl⟩;clear iL;go_wp2_with fail;refine Calls.mono (show Calls _ _ _ _ _ from eH.out) ?_;rintro e w3 ⟨rfl,hb3,hc3⟩;have za:=ae (iI.out.trans hb3);have dZ:=ae (hb3.blk HX.out Dt.out);have zb:=ae hc3;clear hb3 hc3 eH HX iI rF y0 y1 y2 y3 y4;go_wp2;go_roundw
     case rel=>exact ⟨i+1,_,by first|rfl|(congr 1),hp,HS,dQ,za,zb,dZ⟩
     case measure=>simp;omega
   ·have q1:decide ((i:Int)<(es.length:Int))=false:=decide_eq_false (by omega);have HS:Hid (cc=R):=ae (by rw [<- HN.out,List.drop_eq_nil_of_le (by omega)];rfl);clear HN hi;go_wp2;go_end0;rw [<- HS.out];exact ⟨rfl,iI.out,iX.out⟩
theorem Zh:∀d:Nat,Qm d:=by
 intro d
 induction d using Nat.strongRecOn with
 | _ d ih =>
  intro w0 w t v q c h hb0 hq hcn hc;obtain ⟨k,x,y,n,es,ps,a,u,z,rfl,rfl,hr,mQ⟩:=h;obtain ⟨oR,cR,rfl,hel⟩:=cF hr;obtain ⟨oP,cP,rfl,Qq⟩:=cF mQ;obtain ⟨R,hR⟩:∃R,R=ij (d+1) c (nd k x y n es ps a):=⟨_,rfl⟩;rw [<- hR];obtain ⟨R1,pV⟩:∃R1,R1=dY (ij d) (c+1) es:=⟨_,rfl⟩;have ST0:Hid (dY (ij d) (c+1) (es.drop 0)=R1):=ae (by rw [pV];rfl);have Qr:Hid (dY (fU d) R1 ps=R):=ae (by rw [hR,pV];rfl);have lT:Hid (∀d0,d=d0+1->Qm d0):=ae (fun d0 e=>ih d0 (by omega));have Qs:Hid (∀d0,d=d0+1->JO d0):=ae (fun d0 _=>Zf d0);have y8:=ae mQ.1;have FI:=ae Qq;have Zi:=ae hr.1;have Zj:=ae hel;have Dt:Hid (w.heap.size≠q):=ae (by have:=hcn.lt;omega);obtain ⟨W,hW⟩:∃W,W=(w.setCell ⟨q,0,none⟩ (.int .i64 ((c:Int)+1))).alloc (.cells #[.int .i64 k,.string x,.string y,.int .i64 n,.slice oR es.length cR,.slice oP ps.length cP,.int .i64 a] 27):=⟨_,rfl⟩;have c0:=hcn.cell;have f0:=hcn.iq;have kU:Below (w.setCell ⟨q,0,none⟩ (.int .i64 ((c:Int)+1))).heap.size (w.setCell ⟨q,0,none⟩ (.int .i64 ((c:Int)+1))) W:=by rw [hW];exact dh _ _
  have rD:Hid (But q w W):=ae ((But.set q 0 w _).trans (But.of q kU));have rG:Hid (CN q (c+1) W):=ae ((hcn.set (c+1)).on kU);have rH:Hid (W.heap[w.heap.size]?=some (.cells #[.int .i64 k,.string x,.string y,.int .i64 n,.slice oR es.length cR,.slice oP ps.length cP,.int .i64 a] 27 (0,0))):=ae (by rw [hW];exact Qn w _ _ _);have rJ:Hid (c+1<=2049):=ae (by omega);have hwc:=Qp hc;have qh:=ae hb0;have HQ:=ae hq;have Zg:=hcn.lt;clear hR pV hr hel mQ Qq hcn hc kU hb0 hq ih;go_enter Tryz.func47,Tryz.ntmps47;go_upto_region 2 with fail;rw [<- hW];clear hW c0 f0 hwc;go_wp2_with fail;go_loopw [4] (fun aa wr=>∃i cc:Nat,aa=.int .i64 i/\i<=es.length/\Hid (dY (ij d) cc (es.drop i)=R1)/\Hid (cc<=2049)/\Hid (But q w wr)/\Hid (CN q cc wr)/\Hid (wr.heap[w.heap.size]?=some (.cells #[.int .i64 k,.string x,.string y,.int .i64 n,.slice oR es.length cR,.slice oP ps.length cP,.int .i64 a] 27 (0,0)))) (fun aa _=>match aa with | .int _ i=>es.length-i.toNat|_=>0)
  case atStart=>exact ⟨0,_,rfl,Nat.zero_le _,ST0,rJ,rD,rG,rH⟩
  case round =>
   obtain ⟨i,cc,rfl,hi,HN,HC,iI,iX,HX⟩:=hrel;clear ST0 rJ rD rG rH;have rF:=af HX.out 4 _ rfl;by_cases hp:i<es.length
   ·have q1:decide ((i:Int)<(es.length:Int))=true:=decide_eq_true (by omega);have iL:=ae (FH q cc wr iX.out);by_cases hf:2048<cc
    ·have HS:Hid (cc=R1):=ae (by rw [<- HN.out,FF hf]);rw [decide_eq_true hf] at iL;clear HN hi hf;go_wp2_with fail;refine Calls.mono (show Calls _ _ _ _ _ from iL.out) ?_;rintro e w3 ⟨rfl,rfl⟩;clear iL;have ST0:Hid (dY (fU d) cc (ps.drop 0)=R):=ae (by rw [HS.out];exact Qr.out);have rJ:=HC;have rD:=iI;have rG:=iX;have rH:=HX;clear HS HC iI iX HX;go_wp2_with fail;clear hp q1 rF;go_loopw [5] (fun aa wr=>∃i cc:Nat,aa=.int .i64 i/\i<=ps.length/\Hid (dY (fU d) cc (ps.drop i)=R)/\Hid (cc<=2049)/\Hid (But q w wr)/\Hid (CN q cc wr)/\Hid (wr.heap[w.heap.size]?=some (.cells #[.int .i64 k,.string x,.string y,.int .i64 n,.slice oR es.length cR,.slice oP ps.length cP,.int .i64 a] 27 (0,0)))) (fun aa _=>match aa with | .int _ i=>ps.length-i.toNat|_=>0)
     case atStart=>exact ⟨0,_,rfl,Nat.zero_le _,ST0,rJ,rD,rG,rH⟩
     case round =>
      obtain ⟨i,cc,rfl,hi,HN,HC,iI,iX,HX⟩:=hrel;clear ST0 rJ rD rG rH;have rF:=af HX.out 5 _ rfl;by_cases hp:i<ps.length
      ·have q1:decide ((i:Int)<(ps.length:Int))=true:=decide_eq_true (by omega);have iL:=ae (FH q cc wr iX.out);by_cases hf:2048<cc
       ·have HS:Hid (cc=R):=ae (by rw [<- HN.out,FF hf]);rw [decide_eq_true hf] at iL;clear HN hi hf;go_wp2_with fail;refine Calls.mono (show Calls _ _ _ _ _ from iL.out) ?_;rintro e w3 ⟨rfl,rfl⟩;clear iL;go_wp2;go_end0;rw [<- HS.out];exact ⟨rfl,iI.out,iX.out⟩
       ·obtain ⟨t1,ht1⟩:∃t1,ps[i]?=some t1:=⟨_,List.getElem?_eq_getElem hp⟩;obtain ⟨b,off,gF,hC⟩:=FI.out i t1 ht1;subst gF;obtain ⟨d0,k1,x1,n1,u1,a1,hd0,g0,g1,g2,g3,g4,hV⟩:=JN hC;have cf:=ae (iI.out.below qh.out HQ.out qh.out.size);have y0:=ah cf.out g0;have y1:=ah cf.out g1;have y2:=ah cf.out g2;have y3:=ah cf.out g3;have y4:=ah cf.out g4;have hw1:=mZ hp y8.out;have HS:Hid (dY (fU d) ((fU d) cc t1) (ps.drop (i+1))=R):=ae (by rw [<- HN.out,FG ht1 hf]);have dQ:Hid ((fU d) cc t1<=2049):=ae (Dr _ _ _ (by omega));have eH:=ae (Qs.out d0 hd0 w0 wr t1 _ q cc hV cf.out HQ.out iX.out (by omega));have hd1:fU (d0+1)=(fU d):=by rw [<- hd0]
        rw [hd1] at eH;rw [decide_eq_false hf] at iL;clear hd1 hd0 hV g0 g1 g2 g3 g4 cf hC ht1 HN hf HC iX;go_wp2_with fail;refine Calls.mono (show Calls _ _ _ _ _ from iL.out) ?_;rintro e w3 ⟨rfl,rfl⟩;clear iL;go_wp2_with fail;refine Calls.mono (show Calls _ _ _ _ _ from eH.out) ?_;rintro e w3 ⟨rfl,hb3,hc3⟩;have za:=ae (iI.out.trans hb3);have dZ:=ae (hb3.blk HX.out Dt.out);have zb:=ae hc3;clear hb3 hc3 eH HX iI rF y0 y1 y2 y3 y4;go_wp2;go_roundw
        case rel=>exact ⟨i+1,_,by first|rfl|(congr 1),hp,HS,dQ,za,zb,dZ⟩
        case measure=>simp;omega
      ·have q1:decide ((i:Int)<(ps.length:Int))=false:=decide_eq_false (by omega);have HS:Hid (cc=R):=ae (by rw [<- HN.out,List.drop_eq_nil_of_le (by omega)];rfl);clear HN hi;go_wp2;go_end0;rw [<- HS.out];exact ⟨rfl,iI.out,iX.out⟩
    ·obtain ⟨t1,ht1⟩:∃t1,es[i]?=some t1:=⟨_,List.getElem?_eq_getElem hp⟩;obtain ⟨b,off,gF,hC⟩:=Zj.out i t1 ht1;subst gF;obtain ⟨d0,k1,x1,qi,n1,u1,z1,a1,hd0,g0,g1,g2,g3,g4,g5,g6,hV⟩:=Ze hC;have cf:=ae (iI.out.below qh.out HQ.out qh.out.size);have y0:=ah cf.out g0;have y1:=ah cf.out g1;have y2:=ah cf.out g2;have y3:=ah cf.out g3;have y4:=ah cf.out g4;have y5:=ah cf.out g5;have y6:=ah cf.out g6;have hw1:=mZ hp Zi.out;have HS:Hid (dY (ij d) ((ij d) cc t1) (es.drop (i+1))=R1):=ae (by rw [<- HN.out,FG ht1 hf]);have dQ:Hid ((ij d) cc t1<=2049):=ae (Ql _ _ _ (by omega));have eH:=ae (lT.out d0 hd0 w0 wr t1 _ q cc hV cf.out HQ.out iX.out (by omega));have hd1:ij (d0+1)=(ij d):=by rw [<- hd0]
     rw [hd1] at eH;rw [decide_eq_false hf] at iL;clear hd1 hd0 hV g0 g1 g2 g3 g4 g5 g6 cf hC ht1 HN hf HC iX;go_wp2_with fail;refine Calls.mono (show Calls _ _ _ _ _ from iL.out) ?_;rintro e w3 ⟨rfl,rfl⟩;clear iL;go_wp2_with fail;refine Calls.mono (show Calls _ _ _ _ _ from eH.out) ?_;rintro e w3 ⟨rfl,hb3,hc3⟩;have za:=ae (iI.out.trans hb3);have dZ:=ae (hb3.blk HX.out Dt.out);have zb:=ae hc3;clear hb3 hc3 eH HX iI rF y0 y1 y2 y3 y4 y5 y6;go_wp2;go_roundw
     case rel=>exact ⟨i+1,_,by first|rfl|(congr 1),hp,HS,dQ,za,zb,dZ⟩
     case measure=>simp;omega
   ·have q1:decide ((i:Int)<(es.length:Int))=false:=decide_eq_false (by omega);have HS:Hid (cc=R1):=ae (by rw [<- HN.out,List.drop_eq_nil_of_le (by omega)];rfl);clear HN hi;have ST0:Hid (dY (fU d) cc (ps.drop 0)=R):=ae (by rw [HS.out];exact Qr.out);have rJ:=HC;have rD:=iI;have rG:=iX;have rH:=HX;clear HS HC iI iX HX;go_wp2_with fail;clear hp q1 rF;go_loopw [5] (fun aa wr=>∃i cc:Nat,aa=.int .i64 i/\i<=ps.length/\Hid (dY (fU d) cc (ps.drop i)=R)/\Hid (cc<=2049)/\Hid (But q w wr)/\Hid (CN q cc wr)/\Hid (wr.heap[w.heap.size]?=some (.cells #[.int .i64 k,.string x,.string y,.int .i64 n,.slice oR es.length cR,.slice oP ps.length cP,.int .i64 a] 27 (0,0)))) (fun aa _=>match aa with | .int _ i=>ps.length-i.toNat|_=>0)
    case atStart=>exact ⟨0,_,rfl,Nat.zero_le _,ST0,rJ,rD,rG,rH⟩
    case round =>
     obtain ⟨i,cc,rfl,hi,HN,HC,iI,iX,HX⟩:=hrel;clear ST0 rJ rD rG rH;have rF:=af HX.out 5 _ rfl;by_cases hp:i<ps.length
     ·have q1:decide ((i:Int)<(ps.length:Int))=true:=decide_eq_true (by omega);have iL:=ae (FH q cc wr iX.out);by_cases hf:2048<cc
      ·have HS:Hid (cc=R):=ae (by rw [<- HN.out,FF hf]);rw [decide_eq_true hf] at iL;clear HN hi hf;go_wp2_with fail;refine Calls.mono (show Calls _ _ _ _ _ from iL.out) ?_;rintro e w3 ⟨rfl,rfl⟩;clear iL;go_wp2;go_end0;rw [<- HS.out];exact ⟨rfl,iI.out,iX.out⟩
      ·obtain ⟨t1,ht1⟩:∃t1,ps[i]?=some t1:=⟨_,List.getElem?_eq_getElem hp⟩;obtain ⟨b,off,gF,hC⟩:=FI.out i t1 ht1;subst gF;obtain ⟨d0,k1,x1,n1,u1,a1,hd0,g0,g1,g2,g3,g4,hV⟩:=JN hC;have cf:=ae (iI.out.below qh.out HQ.out qh.out.size);have y0:=ah cf.out g0;have y1:=ah cf.out g1;have y2:=ah cf.out g2;have y3:=ah cf.out g3;have y4:=ah cf.out g4;have hw1:=mZ hp y8.out;have HS:Hid (dY (fU d) ((fU d) cc t1) (ps.drop (i+1))=R):=ae (by rw [<- HN.out,FG ht1 hf]);have dQ:Hid ((fU d) cc t1<=2049):=ae (Dr _ _ _ (by omega));have eH:=ae (Qs.out d0 hd0 w0 wr t1 _ q cc hV cf.out HQ.out iX.out (by omega));have hd1:fU (d0+1)=(fU d):=by rw [<- hd0]
       rw [hd1] at eH;rw [decide_eq_false hf] at iL;clear hd1 hd0 hV g0 g1 g2 g3 g4 cf hC ht1 HN hf HC iX;go_wp2_with fail;refine Calls.mono (show Calls _ _ _ _ _ from iL.out) ?_;rintro e w3 ⟨rfl,rfl⟩;clear iL;go_wp2_with fail;refine Calls.mono (show Calls _ _ _ _ _ from eH.out) ?_;rintro e w3 ⟨rfl,hb3,hc3⟩;have za:=ae (iI.out.trans hb3);have dZ:=ae (hb3.blk HX.out Dt.out);have zb:=ae hc3;clear hb3 hc3 eH HX iI rF y0 y1 y2 y3 y4;go_wp2;go_roundw
       case rel=>exact ⟨i+1,_,by first|rfl|(congr 1),hp,HS,dQ,za,zb,dZ⟩
       case measure=>simp;omega
     ·have q1:decide ((i:Int)<(ps.length:Int))=false:=decide_eq_false (by omega);have HS:Hid (cc=R):=ae (by rw [<- HN.out,List.drop_eq_nil_of_le (by omega)];rfl);clear HN hi;go_wp2;go_end0;rw [<- HS.out];exact ⟨rfl,iI.out,iX.out⟩
theorem Zk (d:Nat) (e u vu vz:Value) (k n a:Int) (x y:ByteArray) (w:World) (h:jH 0 d w e (.agg #[.int .i64 k,.string x,.string y,.int .i64 n,vu,vz,.int .i64 a])):Calls Tryz.prog 17 #[.agg #[u,.int .i64 k,.string x,.string y,.int .i64 n,vu,vz,.int .i64 a]] w fun r w'=>r=.returned (.int .i64 (ij (d+1) 0 e:Nat))/\Below w.heap.size w w':=by
 obtain ⟨W,hW⟩:∃W,W=(w.alloc (.cells #[u,.int .i64 k,.string x,.string y,.int .i64 n,vu,vz,.int .i64 a] 29)).alloc (.cells #[.int .i64 0] 81):=⟨_,rfl⟩;have kU:Below w.heap.size w (w.alloc (.cells #[u,.int .i64 k,.string x,.string y,.int .i64 n,vu,vz,.int .i64 a] 29)):=dh w _;have JP:Below (w.alloc (.cells #[u,.int .i64 k,.string x,.string y,.int .i64 n,vu,vz,.int .i64 a] 29)).heap.size (w.alloc (.cells #[u,.int .i64 k,.string x,.string y,.int .i64 n,vu,vz,.int .i64 a] 29)) W:=by rw [hW];exact dh _ _
 have hbW:=az kU JP;have HX:Hid (W.heap[w.heap.size]?=some (.cells #[u,.int .i64 k,.string x,.string y,.int .i64 n,vu,vz,.int .i64 a] 29 (0,0))):=ae (by rw [JP.block _ (by simp)];exact heap_alloc_new w _);have hcn:CN (w.heap.size+1) 0 W:=⟨by rw [hW];have h:=heap_alloc_new (w.alloc (.cells #[u,.int .i64 k,.string x,.string y,.int .i64 n,vu,vz,.int .i64 a] 29)) (.cells #[.int .i64 0] 81);simpa using h⟩;have HC:=ae (Zh d w W e _ (w.heap.size+1) 0 h hbW (by omega) hcn (by omega));have cf:=ae hbW;generalize ij (d+1) 0 e=R at *;have c1:=af HX.out 1 _ rfl;have c2:=af HX.out 2 _ rfl;have c3:=af HX.out 3 _ rfl;have c4:=af HX.out 4 _ rfl;have c5:=af HX.out 5 _ rfl;have c6:=af HX.out 6 _ rfl;have c7:=af HX.out 7 _ rfl;clear h kU JP hbW hcn;go_enter Tryz.func17,Tryz.ntmps17;go_upto_region 2 with fail;rw [<- hW];clear hW;go_wp2_with fail;refine Calls.mono (show Calls _ _ _ _ _ from HC.out) ?_;rintro e w3 ⟨rfl,hb3,hc3⟩;have aW:=ae (hb3.below cf.out (Nat.le_succ _) cf.out.size);have cc:=hc3.cell;clear hb3 hc3 HC c1 c2 c3 c4 c5 c6 c7 HX;go_wp2;go_ret;exact ⟨rfl,aW.out⟩
namespace Pz
def kS (d:Nat) (ds:List Value) (e:Value):Bool:=decide (32<ds.length) || (decide (2048<ij (d+1) 0 e) || (ds.any yj || kO (d+1) e))
end Pz
theorem abH (d:Nat) (ds:List Value) (e u vu vz:Value) (k n a:Int) (x y:ByteArray) (w:World) (hD:mX 0 u ds w) (hM:jH 0 d w e (.agg #[.int .i64 k,.string x,.string y,.int .i64 n,vu,vz,.int .i64 a])):Calls Tryz.prog 25 #[.agg #[u,.int .i64 k,.string x,.string y,.int .i64 n,vu,vz,.int .i64 a]] w fun r w'=>r=.returned (.bool (kS d ds e))/\Below w.heap.size w w':=by
 obtain ⟨oD,cD,rfl,_⟩:=cF hD;obtain ⟨R,hR⟩:∃R,R=kS d ds e:=⟨_,rfl⟩;rw [<- hR];unfold kS at hR;obtain ⟨W,hW⟩:∃W,W=w.alloc (.cells #[.slice oD ds.length cD,.int .i64 k,.string x,.string y,.int .i64 n,vu,vz,.int .i64 a] 29):=⟨_,rfl⟩;have kU:Below w.heap.size w W:=by rw [hW];exact dh w _
 have HX:Hid (W.heap[w.heap.size]?=some (.cells #[.slice oD ds.length cD,.int .i64 k,.string x,.string y,.int .i64 n,vu,vz,.int .i64 a] 29 (0,0))):=ae (by rw [hW];exact heap_alloc_new w _);have HS:=ae (Zk d e (.slice oD ds.length cD) vu vz k n a x y W (hM.but (fun kk _ hl=>kU.block kk hl)));have HD:=ae (fun w' (hb:Below w.heap.size w w')=>aaZ yj ds (.slice oD ds.length cD) w' (mX.on (C:=0) (B:=0) hD (fun kk _ hl=>hb.block kk hl) (Nat.le_refl _)) (fun t v w' _ ht _=>Xt t v w' ht));have HE:=ae (fun w' (hb:Below w.heap.size w w')=>Xw d e _ w' (hM.but (fun kk _ hl=>hb.block kk hl)));have HB:=ae kU;have e1:=ui (n:=ds.length) (m:=32);have e2:=Qo (c:=ij (d+1) 0 e);rw [<- e1,<- e2] at hR;have HR:=ae hR;generalize ij (d+1) 0 e=Cn at *;generalize kO (d+1) e=Me at *;generalize ds.any yj=Md at *;have c0:=af HX.out 0 _ rfl;have c1:=af HX.out 1 _ rfl;have c2:=af HX.out 2 _ rfl;have c3:=af HX.out 3 _ rfl;have c4:=af HX.out 4 _ rfl;have c5:=af HX.out 5 _ rfl;have c6:=af HX.out 6 _ rfl;have c7:=af HX.out 7 _ rfl;clear hD hM hR kU e1 e2;cases h1:decide ((ds.length:Int) > ((32:Nat):Int)) with
 | true =>
  have h1':decide ((ds.length:Int) > 32)=true:=h1;have HQ:Hid (true=R):=ae (by rw [HR.out,h1];rfl);clear h1 HR HS HD HE;go_enter Tryz.func25,Tryz.ntmps25;go_upto_region 1 with fail;rw [<- hW];clear hW;go_wp2;go_ret;exact ⟨ba HQ.out,HB.out⟩
 | false =>
  have h1':decide ((ds.length:Int) > 32)=false:=h1;have jh:=HR.out;rw [h1,Bool.false_or] at jh;have HR2:=ae jh;clear h1 HR jh;go_enter Tryz.func25,Tryz.ntmps25;go_upto_region 1 with fail;rw [<- hW];clear hW;go_wp2_with fail;refine Calls.mono (show Calls _ _ _ _ _ from HS.out) ?_;rintro e w1 ⟨rfl,hb1⟩;have HB1:=ae (az HB.out hb1);have bH:Hid (w1.heap[w.heap.size]?=some (.cells #[.slice oD ds.length cD,.int .i64 k,.string x,.string y,.int .i64 n,vu,vz,.int .i64 a] 29 (0,0))):=ae ((hb1.block _ (Array.getElem?_eq_some_iff.1 HX.out).1).trans HX.out);have KN:=ae (HD.out w1 HB1.out);clear hb1 HS HD HB HX c0 c1 c2 c3 c4 c5 c6 c7;have c0:=af bH.out 0 _ rfl;cases h2:decide ((Cn:Int) > 2048) with
  | true =>
   have HQ:Hid (true=R):=ae (by rw [HR2.out,h2];rfl);clear HR2 KN HE;go_wp2;go_ret;exact ⟨ba HQ.out,HB1.out⟩
  | false =>
   have Bv:=HR2.out;rw [h2,Bool.false_or] at Bv;have HR3:=ae Bv;clear HR2 Bv;go_wp2_with fail;refine Calls.mono (show Calls _ _ _ _ _ from KN.out) ?_;rintro e w2 ⟨rfl,hb2⟩;have HB2:=ae (az HB1.out hb2);have bu:Hid (w2.heap[w.heap.size]?=some (.cells #[.slice oD ds.length cD,.int .i64 k,.string x,.string y,.int .i64 n,vu,vz,.int .i64 a] 29 (0,0))):=ae ((hb2.block _ (Array.getElem?_eq_some_iff.1 bH.out).1).trans bH.out);have zP:=ae (HE.out w2 HB2.out);clear hb2 KN HE HB1 bH c0;have c1:=af bu.out 1 _ rfl;have c2:=af bu.out 2 _ rfl;have c3:=af bu.out 3 _ rfl;have c4:=af bu.out 4 _ rfl;have c5:=af bu.out 5 _ rfl;have c6:=af bu.out 6 _ rfl;have c7:=af bu.out 7 _ rfl;cases Md with
   | true =>
    have HQ:Hid (true=R):=ae (by rw [HR3.out];rfl);clear HR3 zP;go_wp2;go_ret;exact ⟨ba HQ.out,HB2.out⟩
   | false =>
    have HQ:Hid (Me=R):=ae (by rw [HR3.out];rfl);clear HR3;go_wp2_with fail;refine Calls.mono (show Calls _ _ _ _ _ from zP.out) ?_;rintro e w3 ⟨rfl,hb3⟩;have aW:=ae (az HB2.out hb3);clear hb3 zP c1 c2 c3 c4 c5 c6 c7;go_wp2;go_ret;exact ⟨ba HQ.out,aW.out⟩
namespace Pz
def Qf (t:Value):Prop:=∃k x y n es ps a,t=nd k x y n es ps a
def fit:Nat->Value->Prop
 | 0,t=>Qf t/\dw t = []/\iH t = []
 | d+1,t=>Qf t/\(∀x ∈ dw t,fit d x)/\(∀x ∈ iH t,fit d x)
theorem Fv:∀(d:Nat) (t:Value),fit d t->fit (d+1) t
 | 0,t,h=>⟨h.1,fun x hx=>(by rw [h.2.1] at hx;cases hx),fun x hx=>(by rw [h.2.2] at hx;cases hx)⟩
 | d+1,t,h=>⟨h.1,fun x hx=>Fv d x (h.2.1 x hx),fun x hx=>Fv d x (h.2.2 x hx)⟩
theorem JM {d e:Nat} (h:d<=e) {t:Value} (hf:fit d t):fit e t:=by
 induction h with
 | refl=>exact hf
 | step _ ih=>exact Fv _ _ ih
theorem FD {α:Type} {f g:α->Bool}:∀ {l:List α},(∀x ∈ l,f x=g x)->l.any f=l.any g
 | [],_=>rfl
 | x :: l,h=>by rw [List.any_cons,List.any_cons,h x (List.Mem.head _),FD (fun y hy=>h y (List.Mem.tail _ hy))]
theorem FE {f g:Nat->Value->Nat}:∀ {l:List Value} (c:Nat),(∀x ∈ l,∀c,f c x=g c x)->dY f c l=dY g c l
 | [],_,_=>rfl
 | x :: l,c,h=>by
  unfold dY;rw [h x (List.Mem.head _) c,FE _ (fun y hy=>h y (List.Mem.tail _ hy))]
theorem Qg:∀(d:Nat) (t:Value),fit d t->kg (d+2) t=kg (d+1) t
 | 0,t,h=>by show (_ || (dw t).any _)=(_ || (dw t).any _);rw [h.2.1];rfl
 | d+1,t,h=>by show (_ || (dw t).any _)=(_ || (dw t).any _);rw [FD (fun x hx=>Qg d x (h.2.1 x hx))]
theorem Qh:∀(d:Nat) (t:Value),fit d t->kO (d+2) t=kO (d+1) t
 | 0,t,h=>by show (_ || ((dw t).any _ || (iH t).any _))=(_ || ((dw t).any _ || (iH t).any _));rw [h.2.1,h.2.2];rfl
 | d+1,t,h=>by show (_ || ((dw t).any _ || (iH t).any _))=(_ || ((dw t).any _ || (iH t).any _));rw [FD (fun x hx=>Qh d x (h.2.1 x hx)),FD (fun x hx=>Qg d x (h.2.2 x hx))]
theorem Zc {d e:Nat} (h:d<=e) {t:Value} (hf:fit d t):kO (e+1) t=kO (d+1) t:=by
 induction h with
 | refl=>rfl
 | step hm ih=>rw [Qh _ t (JM hm hf)];exact ih
theorem Qi:∀(d:Nat) (t:Value),fit d t->∀c,fU (d+2) c t=fU (d+1) c t
 | 0,t,h,c=>by show dY _ _ (dw t)=dY _ _ (dw t);rw [h.2.1];rfl
 | d+1,t,h,c=>by show dY _ _ (dw t)=dY _ _ (dw t);rw [FE _ (fun x hx=>Qi d x (h.2.1 x hx))]
theorem Qj:∀(d:Nat) (t:Value),fit d t->∀c,ij (d+2) c t=ij (d+1) c t
 | 0,t,h,c=>by show dY _ (dY _ _ (dw t)) (iH t)=dY _ (dY _ _ (dw t)) (iH t);rw [h.2.1,h.2.2];rfl
 | d+1,t,h,c=>by show dY _ (dY _ _ (dw t)) (iH t)=dY _ (dY _ _ (dw t)) (iH t);rw [FE (l:=dw t) _ (fun x hx=>Qj d x (h.2.1 x hx)),FE (l:=iH t) _ (fun x hx=>Qi d x (h.2.2 x hx))]
theorem Zd {d e:Nat} (h:d<=e) {t:Value} (hf:fit d t) (c:Nat):ij (e+1) c t=ij (d+1) c t:=by
 induction h with
 | refl=>rfl
 | step hm ih=>rw [Qj _ t (JM hm hf)];exact ih
theorem Qk {d e:Nat} (h:d<=e) {t:Value} (hf:fit d t) (ds:List Value):kS e ds t=kS d ds t:=by
 unfold kS;rw [Zc h hf,Zd h hf]
theorem Qb {d e:Nat} {t:Value} (hd:fit d t) (he:fit e t) (ds:List Value):kS e ds t=kS d ds t:=by
 rcases Nat.le_total d e with h|h
 ·exact Qk h hd ds
 ·exact (Qk h he ds).symm
theorem pg {α:Type} {sz:Nat} {f:Nat->Nat->α->Prop} {v:Value} {l:List α} (h:Row sz f v l) {x:α} (hx:x ∈ l):∃b o,f b o x:=by
 obtain ⟨o,c,_,hc⟩:=cF h;obtain ⟨i,hi⟩:=List.getElem?_of_mem hx;obtain ⟨b,off,_,hf⟩:=hc i x hi;exact ⟨b,_,hf⟩
theorem uC {α:Type} {sz:Nat} {v:Value} {l:List α} (h:Row sz (fun _ _ _=>False) v l):l = []:=by
 cases l with
 | nil=>rfl
 | cons x l=>obtain ⟨_,_,hf⟩:=pg h (List.Mem.head _);exact False.elim hf
section
variable {p:Nat} {w:World}
theorem cW.fit:∀(d b o:Nat) (t:Value),cW p w (d+1) b o t->fit d t
 | 0,b,o,t,⟨hp,k,x,n,es,a,v,h0,h1,h2,h3,h4,h5,h6⟩=>by
  subst h0;exact ⟨⟨_,_,_,_,_,_,_,rfl⟩,uC (h6.imp fun _ _ _ _ hf=>hf),rfl⟩
 | d+1,b,o,t,⟨hp,k,x,n,es,a,v,h0,h1,h2,h3,h4,h5,h6⟩=>by
  subst h0;refine ⟨⟨_,_,_,_,_,_,_,rfl⟩,fun y hy=>?_,fun y hy=>by cases hy⟩;obtain ⟨b',o',hf⟩:=pg h6 hy;exact cW.fit d b' o' y hf
theorem eG.fit:∀(d b o:Nat) (t:Value),eG p w (d+1) b o t->fit d t
 | 0,b,o,t,⟨hp,k,x,n,es,v,h0,h1,h2,h3,h4,h6⟩=>by
  subst h0;exact ⟨⟨_,_,_,_,_,_,_,rfl⟩,uC (h6.imp fun _ _ _ _ hf=>hf),rfl⟩
 | d+1,b,o,t,⟨hp,k,x,n,es,v,h0,h1,h2,h3,h4,h6⟩=>by
  subst h0;refine ⟨⟨_,_,_,_,_,_,_,rfl⟩,fun y hy=>?_,fun y hy=>by cases hy⟩;obtain ⟨b',o',hf⟩:=pg h6 hy;exact eG.fit d b' o' y hf
theorem dR.fit:∀(d b o:Nat) (t:Value),dR p w (d+1) b o t->fit d t
 | 0,b,o,t,⟨hp,k,x,y,n,es,ps,a,v,u,h0,h1,h2,h3,h4,h5,h6,h7,h8,h9⟩=>by
  subst h0;exact ⟨⟨_,_,_,_,_,_,_,rfl⟩,uC (h8.imp fun _ _ _ _ hf=>hf),uC (h9.imp fun _ _ _ _ hf=>hf)⟩
 | d+1,b,o,t,⟨hp,k,x,y,n,es,ps,a,v,u,h0,h1,h2,h3,h4,h5,h6,h7,h8,h9⟩=>by
  subst h0;refine ⟨⟨_,_,_,_,_,_,_,rfl⟩,fun z hz=>?_,fun z hz=>?_⟩
  ·obtain ⟨b',o',hf⟩:=pg h8 hz;exact dR.fit d b' o' z hf
  ·obtain ⟨b',o',hf⟩:=pg h9 hz;exact cW.fit d b' o' z hf
theorem jH.fit {d:Nat} {t v:Value} (h:jH p d w t v):fit d t:=by
 obtain ⟨k,x,y,n,es,ps,a,u,z,rfl,_,h1,h2⟩:=h;cases d with
 | zero=>exact ⟨⟨_,_,_,_,_,_,_,rfl⟩,uC (h1.imp fun _ _ _ _ hf=>hf),uC (h2.imp fun _ _ _ _ hf=>hf)⟩
 | succ d =>
  refine ⟨⟨_,_,_,_,_,_,_,rfl⟩,fun z hz=>?_,fun z hz=>?_⟩
  ·obtain ⟨b',o',hf⟩:=pg h1 hz;exact dR.fit d b' o' z hf
  ·obtain ⟨b',o',hf⟩:=pg h2 hz;exact cW.fit d b' o' z hf
theorem ll.fit {d:Nat} {t v:Value} (h:ll p d w t v):fit d t:=by
 obtain ⟨k,x,n,es,a,u,rfl,_,h1⟩:=h;cases d with
 | zero=>exact ⟨⟨_,_,_,_,_,_,_,rfl⟩,uC (h1.imp fun _ _ _ _ hf=>hf),rfl⟩
 | succ d =>
  refine ⟨⟨_,_,_,_,_,_,_,rfl⟩,fun z hz=>?_,fun z hz=>by cases hz⟩;obtain ⟨b',o',hf⟩:=pg h1 hz;exact cW.fit d b' o' z hf
theorem qg.fit {d:Nat} {t v:Value} (h:qg p d w t v):fit d t:=by
 obtain ⟨k,x,n,es,u,rfl,_,h1⟩:=h;cases d with
 | zero=>exact ⟨⟨_,_,_,_,_,_,_,rfl⟩,uC (h1.imp fun _ _ _ _ hf=>hf),rfl⟩
 | succ d =>
  refine ⟨⟨_,_,_,_,_,_,_,rfl⟩,fun z hz=>?_,fun z hz=>by cases hz⟩;obtain ⟨b',o',hf⟩:=pg h1 hz;exact eG.fit d b' o' z hf
end
end Pz
end Go.Proofs.YtkdbgopgjbfhbaaGreatDoor
namespace Go.Proofs.YtkdbgopgjbfhbaaGreatDoor
open Go.RowKit bb
set_option linter.unusedVariables false
namespace bb
variable {H:Type} {enc:TypeId × Value->H} {P:Program} {w:World} {base:Nat} {spare:Nat->Bool} {held:Bool}
theorem pg {α:Type} {c:Nat} {f:Nat->Nat->α->Prop} {g:α->Prop} {v:Value} {l:List α} (h:Row c (fun b o x=>f b o x/\g x) v l):∀x ∈ l,g x:=by
 intro x hx;rcases h.2 with ⟨rfl,_⟩|⟨b,off,cap,_,hc⟩
 ·cases hx
 ·obtain ⟨i,hi,rfl⟩:=List.getElem_of_mem hx;exact (hc i _ (List.getElem?_eq_getElem hi)).2
end bb
section Of
variable {H:Type} {enc:TypeId × Value->H} {w:World} {base:Nat} {spare:Nat->Bool} {held:Bool}
end Of
namespace bb
def Sub (w w':World):Prop:=∀b o u,w.cell? ⟨b,o,none⟩=.some u->w'.cell? ⟨b,o,none⟩=.some u
theorem Sub.refl (w:World):Sub w w:=fun _ _ _ h=>h
theorem Sub.trans {w1 w2 w3:World} (h:Sub w1 w2) (h':Sub w2 w3):Sub w1 w3:=fun b o u e=>h' b o u (h b o u e)
section On
variable {w w':World} (hb:Sub w w')
theorem Ints.sub (hb:Sub w w') {v:Value} {l:List Int} (h:Ints w v l):Ints w' v l:=Row.imp h fun _ _ _ _ h=>hb _ _ _ h
theorem sM.sub (hb : Sub w w') {α : Type} {f g : Value → α → Prop} (hfg : ∀ v x, f v x → g v x) {b o : Nat} {x : Ins α} (h : sM w f b o x) : sM w' g b o x :=
  ⟨hb _ _ _ h.op, hb _ _ _ h.a, hb _ _ _ h.b, hb _ _ _ h.n,
   let ⟨v, h1, h2⟩ := h.labels; ⟨v, hb _ _ _ h1, h2.sub hb⟩,
   let ⟨v, h1, h2⟩ := h.body; ⟨v, hb _ _ _ h1, hfg _ _ h2⟩,
   let ⟨v, h1, h2⟩ := h.els; ⟨v, hb _ _ _ h1, hfg _ _ h2⟩⟩
theorem At.sub (hb:Sub w w'):∀(d:Nat) (v:Value) (l:IL d),At w d v l->At w' d v l
 | 0,_,_,h=>h
 | d+1,_,_,h=>Row.imp (α:=Ins (IL d)) h fun _ _ _ _ h=>h.sub hb (At.sub hb d)
theorem vQ.sub (hb:Sub w w') {bk o:Nat} {x:FT} (h:vQ w bk o x):vQ w' bk o x :=
 ⟨let ⟨v,a,b⟩:=h.params;⟨v,hb _ _ _ a,b.sub hb⟩,let ⟨v,a,b⟩:=h.results;⟨v,hb _ _ _ a,b.sub hb⟩⟩
theorem vR.sub (hb:Sub w w') {bk o:Nat} {x:EY} (h:vR w bk o x):vR w' bk o x:=⟨hb _ _ _ h.mod,hb _ _ _ h.name,hb _ _ _ h.type⟩
theorem vS.sub (hb:Sub w w') {d bk o:Nat} {x:EZ d} (h:vS w d bk o x):vS w' d bk o x :=
 ⟨hb _ _ _ h.type,let ⟨v,a,b⟩:=h.locals;⟨v,hb _ _ _ a,b.sub hb⟩,let ⟨v,a,b⟩:=h.body;⟨v,hb _ _ _ a,At.sub hb d v _ b⟩⟩
theorem sK.sub (hb:Sub w w') {bk o:Nat} {x:CK} (h:sK w bk o x):sK w' bk o x:=⟨hb _ _ _ h.min,hb _ _ _ h.max,hb _ _ _ h.has⟩
theorem vT.sub (hb:Sub w w') {d bk o:Nat} {x:E0 d} (h:vT w d bk o x):vT w' d bk o x:=⟨hb _ _ _ h.type,hb _ _ _ h.E5,h.init.sub hb (At.sub hb d)⟩
theorem vU.sub (hb:Sub w w') {bk o:Nat} {x:E8} (h:vU w bk o x):vU w' bk o x:=⟨hb _ _ _ h.name,hb _ _ _ h.kind,hb _ _ _ h.index⟩
theorem vV.sub (hb:Sub w w') {d bk o:Nat} {x:E9 d} (h:vV w d bk o x):vV w' d bk o x:=⟨h.offset.sub hb (At.sub hb d),let ⟨v,a,b⟩:=h.funcs;⟨v,hb _ _ _ a,b.sub hb⟩⟩
theorem vW.sub (hb:Sub w w') {d bk o:Nat} {x:Dat d} (h:vW w d bk o x):vW w' d bk o x:=⟨h.offset.sub hb (At.sub hb d),hb _ _ _ h.bytes⟩
end On
def only (w:World) (S:Nat->Bool):World:={ w with heap:=w.heap.mapIdx fun i x=>if S i then x else .cells #[] 0 (0,0) }
structure Piece {α:Type} (R:World) (c:Nat) (f:World->Nat->Nat->α->Prop) (x:α) (cs:List Value):Prop where
 len:cs.length=c
 one:∀u ∈ cs,u.oneCell'=true
 lay:∀R' b o,Sub R R'->(∀k u,cs[k]?=.some u->R'.cell? ⟨b,o+k,none⟩=.some u)->f R' b o x
theorem Piece.sub {α:Type} {R R2:World} {c:Nat} {f:World->Nat->Nat->α->Prop} {x:α} {cs:List Value} (h:Piece R c f x cs) (hs:Sub R R2):Piece R2 c f x cs :=
 ⟨h.len,h.one,fun R' b o h' hc=>h.lay R' b o (hs.trans h') hc⟩
def flat {α:Type} (ps:List (α × List Value)):List Value:=ps.flatMap (·.2)
section App
variable {P:Program}
end App
end bb
namespace bb
section Blk
variable {w w':World} {b:Nat} {c0 c1 c2 c3 c4 c5 c6 c7 c8 c9:Value}
end Blk
end bb
end Go.Proofs.YtkdbgopgjbfhbaaGreatDoor
