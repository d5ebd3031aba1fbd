/- Texts that the claim needs. -/
import Derived.Test.YtkdbgopgjbfhbaaGreatDoorQPW28
import Derived.Test.YtkdbgopgjbfhbaaGreatDoorQPW2
import Derived.ProofKit
import Derived.OpenShut
import Derived.Lib.SmallJoins
import Derived.Test.YtkdbgopgjbfhbaaGreatDoorQPW3
namespace Go.Proofs.YtkdbgopgjbfhbaaGreatDoor
open Go.RowKit Lx Pz bq
set_option linter.unusedVariables false
set_option maxRecDepth 100000
set_option maxHeartbeats 16000000
namespace Pz
def ed (f:Nat->Value->Nat):Nat->List Value->Nat
 | c,[]=>c
 | c,t :: l=>if 2048<c then c else ed f (f c t) l
def fS:Nat->Nat->Value->Nat
 | 0,c,_=>c+1
 | d+1,c,t=>ed (fS d) (c+1) (dE t)
def il:Nat->Nat->Value->Nat
 | 0,c,_=>c+1
 | d+1,c,t=>ed (fS d) (ed (il d) (c+1) (dE t)) (gV t)
theorem FG {f:Nat->Value->Nat} {c:Nat} (h:2048<c) (l:List Value):ed f c l=c:=by
 cases l with
 | nil=>rfl
 | cons t l=>unfold ed;rw [if_pos h]
theorem Bb {f:Nat->Value->Nat} (hf:∀c t,c<=2048->f c t<=2049):∀(l:List Value) (c:Nat),c<=2049->ed f c l<=2049
 | [],c,h=>h
 | t :: l,c,h=>by
  unfold ed;by_cases hc:2048<c
  ·rw [if_pos hc];exact h
  ·rw [if_neg hc];exact Bb hf l _ (hf c t (by omega))
theorem Dn:∀(d c:Nat) (t:Value),c<=2048->fS d c t<=2049
 | 0,c,t,h=>by unfold fS;omega
 | d+1,c,t,h=>by unfold fS;exact Bb (Dn d) _ _ (by omega)
theorem PL:∀(d c:Nat) (t:Value),c<=2048->il d c t<=2049
 | 0,c,t,h=>by unfold il;omega
 | d+1,c,t,h=>by unfold il;exact Bb (Dn d) _ _ (Bb (PL d) _ _ (by omega))
theorem FH {f:Nat->Value->Nat} {l:List Value} {i c:Nat} {t:Value} (hx:l[i]?=some t) (hc:¬ 2048<c):ed f c (l.drop i)=ed f (f c t) (l.drop (i+1)):=by
 have hi:=(List.getElem?_eq_some_iff.1 hx).1;rw [List.drop_eq_getElem_cons hi,(List.getElem?_eq_some_iff.1 hx).2]
 conv=>lhs;unfold ed
 rw [if_neg hc]
structure CN (q c:Nat) (w:World):Prop where
 blk:w.heap[q]?=some (.cells #[.int .i64 (c:Int)] 81 (0,0))
theorem CN.lt {q c:Nat} {w:World} (h:CN q c w):q<w.heap.size:=(Array.getElem?_eq_some_iff.1 h.blk).1
theorem CN.cell {q c:Nat} {w:World} (h:CN q c w):w.cell? ⟨q,0,none⟩=some (.int .i64 (c:Int)):=ak h.blk 0 _ rfl
theorem CN.jb {q c:Nat} {w:World} (h:CN q c w):w.frozen? ⟨q,0,none⟩=false:=by unfold World.frozen?;rw [h.blk];simp
theorem CN.on {q c:Nat} {w w':World} (h:CN q c w) (hb:Below w.heap.size w w'):CN q c w':=⟨by rw [hb.block q h.lt];exact h.blk⟩
theorem CN.set {q c:Nat} {w:World} (h:CN q c w) (c':Nat):CN q c' (w.setCell ⟨q,0,none⟩ (.int .i64 (c':Int))):=⟨heap_setCell_same w q 0 _ _ _ h.blk⟩
theorem But.below {q n:Nat} {w0 w w':World} (h:But q w w') (hb:Below n w0 w) (hq:n<=q) (hn:n<=w.heap.size):Below n w0 w' :=
 ⟨h.os.trans hb.os,h.tape.trans hb.tape,h.output.trans hb.output,Nat.le_trans hb.size h.size,fun k hk=>(h.block k (by omega) (by omega)).trans (hb.block k hk)⟩
theorem JD {d b o:Nat} {w:World} {t:Value} (h:di 0 w d b o t):∃d0 k x n u a,d=d0+1/\w.cell? ⟨b,o,none⟩=some (.int .i64 k)/\w.cell? ⟨b,o+1,none⟩=some (.string x)/\w.cell? ⟨b,o+2,none⟩=some (.int .i64 n)/\w.cell? ⟨b,o+3,none⟩=some u/\w.cell? ⟨b,o+4,none⟩=some (.int .i64 a)/\lu 0 d0 w t (.agg #[.int .i64 k,.string x,.int .i64 n,u,.int .i64 a]):=by
 cases d with
 | zero=>exact h.elim
 | succ d =>
  obtain ⟨hp,k,x,n,es,a,v,h0,h1,h2,h3,h4,h5,h6⟩:=h;exact ⟨d,k,x,n,v,a,rfl,h1,h2,h3,h4,h5,k,x,n,es,a,v,h0,rfl,h6⟩
theorem PM {d b o:Nat} {w:World} {t:Value} (h:dW 0 w d b o t):∃d0 k x y n u z a,d=d0+1/\w.cell? ⟨b,o,none⟩=some (.int .i64 k)/\w.cell? ⟨b,o+1,none⟩=some (.string x)/\w.cell? ⟨b,o+2,none⟩=some (.string y)/\w.cell? ⟨b,o+3,none⟩=some (.int .i64 n)/\w.cell? ⟨b,o+4,none⟩=some u/\w.cell? ⟨b,o+5,none⟩=some z/\w.cell? ⟨b,o+6,none⟩=some (.int .i64 a)/\ji 0 d0 w t (.agg #[.int .i64 k,.string x,.string y,.int .i64 n,u,z,.int .i64 a]):=by
 cases d with
 | zero=>exact h.elim
 | succ d =>
  obtain ⟨hp,k,x,y,n,es,ps,a,v,u,h0,h1,h2,h3,h4,h5,h6,h7,h8,h9⟩:=h;exact ⟨d,k,x,y,n,v,u,a,rfl,h1,h2,h3,h4,h5,h6,h7,k,x,y,n,es,ps,a,v,u,h0,rfl,h8,h9⟩
def JE (d:Nat):Prop:=∀(w0 w:World) (t v:Value) (q c:Nat),lu 0 d w0 t v->Below w0.heap.size w0 w->w0.heap.size<=q->CN q c w->c<=2048 ->
 Calls Tryz.prog 99 #[.pointer (some ⟨q,0,none⟩),v] w fun e w'=>e=.returned (.tuple #[])/\But q w w'/\CN q (fS (d+1) c t) w'
def PN (d:Nat):Prop:=∀(w0 w:World) (t v:Value) (q c:Nat),ji 0 d w0 t v->Below w0.heap.size w0 w->w0.heap.size<=q->CN q c w->c<=2048 ->
 Calls Tryz.prog 47 #[.pointer (some ⟨q,0,none⟩),v] w fun e w'=>e=.returned (.tuple #[])/\But q w w'/\CN q (il (d+1) c t) w'
theorem PO (w:World) (q:Nat) (v:Value) (o:Obj):((w.setCell ⟨q,0,none⟩ v).alloc o).heap[w.heap.size]?=some o:=by
 have h:=heap_alloc_new (w.setCell ⟨q,0,none⟩ v) o;simpa using h
theorem PQ {c:Nat}:decide ((c:Int) > 2048)=decide (2048<c):=uC (n:=c) (m:=2048)
theorem PT {c:Nat} (h:c<=2048):wrap64 ((c:Int)+1)=(c:Int)+1:=by unfold wrap64;omega
end Pz
theorem FI (q c:Nat) (w:World) (h:CN q c w):Calls Tryz.prog 98 #[.pointer (some ⟨q,0,none⟩)] w fun e w'=>e=.returned (.bool (decide (2048<c)))/\w'=w:=by
 have h0:=h.cell;have HR:=ae (PQ (c:=c));generalize decide (2048<c)=R at HR ⊢;clear h;go_enter Tryz.func98,Tryz.ntmps98;go_wp2;go_ret;exact ⟨bf HR.out,rfl⟩
theorem YI:∀d:Nat,JE d:=by
 intro d
 induction d using Nat.strongRecOn with
 | _ d ih =>
  intro w0 w t v q c h hb0 hq hcn hc;obtain ⟨k,x,n,es,a,u,rfl,rfl,hr⟩:=h;obtain ⟨oR,cR,rfl,hel⟩:=cF hr;obtain ⟨R,hR⟩:∃R,R=fS (d+1) c (nd k x e0 n es [] a):=⟨_,rfl⟩;rw [<- hR];have ST0:Hid (ed (fS d) (c+1) (es.drop 0)=R):=ae (by rw [hR];rfl);have nG:Hid (∀d0,d=d0+1->JE d0):=ae (fun d0 e=>ih d0 (by omega));have zl:=ae hr.1;have FJ:=ae hel;have Dp:Hid (w.heap.size≠q):=ae (by have:=hcn.lt;omega);obtain ⟨W,hW⟩:∃W,W=(w.setCell ⟨q,0,none⟩ (.int .i64 ((c:Int)+1))).alloc (.cells #[.int .i64 k,.string x,.int .i64 n,.slice oR es.length cR,.int .i64 a] 101):=⟨_,rfl⟩;have c0:=hcn.cell;have f0:=hcn.jb;have jl:Below (w.setCell ⟨q,0,none⟩ (.int .i64 ((c:Int)+1))).heap.size (w.setCell ⟨q,0,none⟩ (.int .i64 ((c:Int)+1))) W:=by rw [hW];exact dF _ _
  have rY:Hid (But q w W):=ae ((But.set q 0 w _).trans (But.of q jl));have rZ:Hid (CN q (c+1) W):=ae ((hcn.set (c+1)).on jl);have si:Hid (W.heap[w.heap.size]?=some (.cells #[.int .i64 k,.string x,.int .i64 n,.slice oR es.length cR,.int .i64 a] 101 (0,0))):=ae (by rw [hW];exact PO w _ _ _);have sj:Hid (c+1<=2049):=ae (by omega);have hwc:=PT hc;have tP:=ae hb0;have HQ:=ae hq;have YJ:=hcn.lt;clear hR hr hel hcn hc jl hb0 hq ih;go_enter Tryz.func99,Tryz.ntmps99;go_upto_region 2 with fail;rw [<- hW];clear hW c0 f0 hwc;go_wp2_with fail;go_loopw [4] (fun aa wr=>∃i cc:Nat,aa=.int .i64 i/\i<=es.length/\Hid (ed (fS d) cc (es.drop i)=R)/\Hid (cc<=2049)/\Hid (But q w wr)/\Hid (CN q cc wr)/\Hid (wr.heap[w.heap.size]?=some (.cells #[.int .i64 k,.string x,.int .i64 n,.slice oR es.length cR,.int .i64 a] 101 (0,0)))) (fun aa _=>match aa with | .int _ i=>es.length-i.toNat|_=>0)
  case atStart=>exact ⟨0,_,rfl,Nat.zero_le _,ST0,sj,rY,rZ,si⟩
  case round =>
   obtain ⟨i,cc,rfl,hi,HN,HC,iU,iV,HX⟩:=hrel;clear ST0 sj rY rZ si;have rF:=ak HX.out 3 _ rfl;by_cases hp:i<es.length
   ·have q1:decide ((i:Int)<(es.length:Int))=true:=decide_eq_true (by omega);have iI:=ae (FI q cc wr iV.out);by_cases hf:2048<cc
    ·have HS:Hid (cc=R):=ae (by rw [<- HN.out,FG hf]);rw [decide_eq_true hf] at iI;clear HN hi hf;go_wp2_with fail;refine Calls.mono (show Calls _ _ _ _ _ from iI.out) ?_;rintro e w3 ⟨rfl,rfl⟩;clear iI;go_wp2;go_end0;rw [<- HS.out];exact ⟨rfl,iU.out,iV.out⟩
    ·obtain ⟨t1,ht1⟩:∃t1,es[i]?=some t1:=⟨_,List.getElem?_eq_getElem hp⟩;obtain ⟨b,off,gH,hC⟩:=FJ.out i t1 ht1;subst gH;obtain ⟨d0,k1,x1,n1,u1,a1,hd0,g0,g1,g2,g3,g4,hV⟩:=JD hC;have bZ:=ae (iU.out.below tP.out HQ.out tP.out.size);have y0:=ai bZ.out g0;have y1:=ai bZ.out g1;have y2:=ai bZ.out g2;have y3:=ai bZ.out g3;have y4:=ai bZ.out g4;have hw1:=nM hp zl.out;have HS:Hid (ed (fS d) ((fS d) cc t1) (es.drop (i+1))=R):=ae (by rw [<- HN.out,FH ht1 hf]);have dV:Hid ((fS d) cc t1<=2049):=ae (Dn _ _ _ (by omega));have eP:=ae (nG.out d0 hd0 w0 wr t1 _ q cc hV bZ.out HQ.out iV.out (by omega));have hd1:fS (d0+1)=(fS d):=by rw [<- hd0]
     rw [hd1] at eP;rw [decide_eq_false hf] at iI;clear hd1 hd0 hV g0 g1 g2 g3 g4 bZ hC ht1 HN hf HC iV;go_wp2_with fail;refine Calls.mono (show Calls _ _ _ _ _ from iI.out) ?_;rintro e w3 ⟨rfl,rfl⟩;clear iI;go_wp2_with fail;refine Calls.mono (show Calls _ _ _ _ _ from eP.out) ?_;rintro e w3 ⟨rfl,hb3,hc3⟩;have zm:=ae (iU.out.trans hb3);have eX:=ae (hb3.blk HX.out Dp.out);have zn:=ae hc3;clear hb3 hc3 eP HX iU rF y0 y1 y2 y3 y4;go_wp2;go_roundw
     case rel=>exact ⟨i+1,_,by first|rfl|(congr 1),hp,HS,dV,zm,zn,eX⟩
     case measure=>simp;omega
   ·have q1:decide ((i:Int)<(es.length:Int))=false:=decide_eq_false (by omega);have HS:Hid (cc=R):=ae (by rw [<- HN.out,List.drop_eq_nil_of_le (by omega)];rfl);clear HN hi;go_wp2;go_end0;rw [<- HS.out];exact ⟨rfl,iU.out,iV.out⟩
theorem YK:∀d:Nat,PN d:=by
 intro d
 induction d using Nat.strongRecOn with
 | _ d ih =>
  intro w0 w t v q c h hb0 hq hcn hc;obtain ⟨k,x,y,n,es,ps,a,u,z,rfl,rfl,hr,nE⟩:=h;obtain ⟨oR,cR,rfl,hel⟩:=cF hr;obtain ⟨oP,cP,rfl,PW⟩:=cF nE;obtain ⟨R,hR⟩:∃R,R=il (d+1) c (nd k x y n es ps a):=⟨_,rfl⟩;rw [<- hR];obtain ⟨R1,qB⟩:∃R1,R1=ed (il d) (c+1) es:=⟨_,rfl⟩;have ST0:Hid (ed (il d) (c+1) (es.drop 0)=R1):=ae (by rw [qB];rfl);have PX:Hid (ed (fS d) R1 ps=R):=ae (by rw [hR,qB];rfl);have nG:Hid (∀d0,d=d0+1->PN d0):=ae (fun d0 e=>ih d0 (by omega));have PY:Hid (∀d0,d=d0+1->JE d0):=ae (fun d0 _=>YI d0);have zl:=ae nE.1;have FJ:=ae PW;have YL:=ae hr.1;have YM:=ae hel;have Dp:Hid (w.heap.size≠q):=ae (by have:=hcn.lt;omega);obtain ⟨W,hW⟩:∃W,W=(w.setCell ⟨q,0,none⟩ (.int .i64 ((c:Int)+1))).alloc (.cells #[.int .i64 k,.string x,.string y,.int .i64 n,.slice oR es.length cR,.slice oP ps.length cP,.int .i64 a] 27):=⟨_,rfl⟩;have c0:=hcn.cell;have f0:=hcn.jb;have jl:Below (w.setCell ⟨q,0,none⟩ (.int .i64 ((c:Int)+1))).heap.size (w.setCell ⟨q,0,none⟩ (.int .i64 ((c:Int)+1))) W:=by rw [hW];exact dF _ _
  have rY:Hid (But q w W):=ae ((But.set q 0 w _).trans (But.of q jl));have rZ:Hid (CN q (c+1) W):=ae ((hcn.set (c+1)).on jl);have si:Hid (W.heap[w.heap.size]?=some (.cells #[.int .i64 k,.string x,.string y,.int .i64 n,.slice oR es.length cR,.slice oP ps.length cP,.int .i64 a] 27 (0,0))):=ae (by rw [hW];exact PO w _ _ _);have sj:Hid (c+1<=2049):=ae (by omega);have hwc:=PT hc;have tP:=ae hb0;have HQ:=ae hq;have YJ:=hcn.lt;clear hR qB hr hel nE PW hcn hc jl hb0 hq ih;go_enter Tryz.func47,Tryz.ntmps47;go_upto_region 2 with fail;rw [<- hW];clear hW c0 f0 hwc;go_wp2_with fail;go_loopw [4] (fun aa wr=>∃i cc:Nat,aa=.int .i64 i/\i<=es.length/\Hid (ed (il d) cc (es.drop i)=R1)/\Hid (cc<=2049)/\Hid (But q w wr)/\Hid (CN q cc wr)/\Hid (wr.heap[w.heap.size]?=some (.cells #[.int .i64 k,.string x,.string y,.int .i64 n,.slice oR es.length cR,.slice oP ps.length cP,.int .i64 a] 27 (0,0)))) (fun aa _=>match aa with | .int _ i=>es.length-i.toNat|_=>0)
  case atStart=>exact ⟨0,_,rfl,Nat.zero_le _,ST0,sj,rY,rZ,si⟩
  case round =>
   obtain ⟨i,cc,rfl,hi,HN,HC,iU,iV,HX⟩:=hrel;clear ST0 sj rY rZ si;have rF:=ak HX.out 4 _ rfl;by_cases hp:i<es.length
   ·have q1:decide ((i:Int)<(es.length:Int))=true:=decide_eq_true (by omega);have iI:=ae (FI q cc wr iV.out);by_cases hf:2048<cc
    ·have HS:Hid (cc=R1):=ae (by rw [<- HN.out,FG hf]);rw [decide_eq_true hf] at iI;clear HN hi hf;go_wp2_with fail;refine Calls.mono (show Calls _ _ _ _ _ from iI.out) ?_;rintro e w3 ⟨rfl,rfl⟩;clear iI;have ST0:Hid (ed (fS d) cc (ps.drop 0)=R):=ae (by rw [HS.out];exact PX.out);have sj:=HC;have rY:=iU;have rZ:=iV;have si:=HX;clear HS HC iU iV HX;go_wp2_with fail;clear hp q1 rF;go_loopw [5] (fun aa wr=>∃i cc:Nat,aa=.int .i64 i/\i<=ps.length/\Hid (ed (fS d) cc (ps.drop i)=R)/\Hid (cc<=2049)/\Hid (But q w wr)/\Hid (CN q cc wr)/\Hid (wr.heap[w.heap.size]?=some (.cells #[.int .i64 k,.string x,.string y,.int .i64 n,.slice oR es.length cR,.slice oP ps.length cP,.int .i64 a] 27 (0,0)))) (fun aa _=>match aa with | .int _ i=>ps.length-i.toNat|_=>0)
     case atStart=>exact ⟨0,_,rfl,Nat.zero_le _,ST0,sj,rY,rZ,si⟩
     case round =>
      obtain ⟨i,cc,rfl,hi,HN,HC,iU,iV,HX⟩:=hrel;clear ST0 sj rY rZ si;have rF:=ak HX.out 5 _ rfl;by_cases hp:i<ps.length
      ·have q1:decide ((i:Int)<(ps.length:Int))=true:=decide_eq_true (by omega);have iI:=ae (FI q cc wr iV.out);by_cases hf:2048<cc
       ·have HS:Hid (cc=R):=ae (by rw [<- HN.out,FG hf]);rw [decide_eq_true hf] at iI;clear HN hi hf;go_wp2_with fail;refine Calls.mono (show Calls _ _ _ _ _ from iI.out) ?_;rintro e w3 ⟨rfl,rfl⟩;clear iI;go_wp2;go_end0;rw [<- HS.out];exact ⟨rfl,iU.out,iV.out⟩
       ·obtain ⟨t1,ht1⟩:∃t1,ps[i]?=some t1:=⟨_,List.getElem?_eq_getElem hp⟩;obtain ⟨b,off,gH,hC⟩:=FJ.out i t1 ht1;subst gH;obtain ⟨d0,k1,x1,n1,u1,a1,hd0,g0,g1,g2,g3,g4,hV⟩:=JD hC;have bZ:=ae (iU.out.below tP.out HQ.out tP.out.size);have y0:=ai bZ.out g0;have y1:=ai bZ.out g1;have y2:=ai bZ.out g2;have y3:=ai bZ.out g3;have y4:=ai bZ.out g4;have hw1:=nM hp zl.out;have HS:Hid (ed (fS d) ((fS d) cc t1) (ps.drop (i+1))=R):=ae (by rw [<- HN.out,FH ht1 hf]);have dV:Hid ((fS d) cc t1<=2049):=ae (Dn _ _ _ (by omega));have eP:=ae (PY.out d0 hd0 w0 wr t1 _ q cc hV bZ.out HQ.out iV.out (by omega));have hd1:fS (d0+1)=(fS d):=by rw [<- hd0]
        rw [hd1] at eP;rw [decide_eq_false hf] at iI;clear hd1 hd0 hV g0 g1 g2 g3 g4 bZ hC ht1 HN hf HC iV;go_wp2_with fail;refine Calls.mono (show Calls _ _ _ _ _ from iI.out) ?_;rintro e w3 ⟨rfl,rfl⟩;clear iI;go_wp2_with fail;refine Calls.mono (show Calls _ _ _ _ _ from eP.out) ?_;rintro e w3 ⟨rfl,hb3,hc3⟩;have zm:=ae (iU.out.trans hb3);have eX:=ae (hb3.blk HX.out Dp.out);have zn:=ae hc3;clear hb3 hc3 eP HX iU rF y0 y1 y2 y3 y4;go_wp2;go_roundw
        case rel=>exact ⟨i+1,_,by first|rfl|(congr 1),hp,HS,dV,zm,zn,eX⟩
        case measure=>simp;omega
      ·have q1:decide ((i:Int)<(ps.length:Int))=false:=decide_eq_false (by omega);have HS:Hid (cc=R):=ae (by rw [<- HN.out,List.drop_eq_nil_of_le (by omega)];rfl);clear HN hi;go_wp2;go_end0;rw [<- HS.out];exact ⟨rfl,iU.out,iV.out⟩
    ·obtain ⟨t1,ht1⟩:∃t1,es[i]?=some t1:=⟨_,List.getElem?_eq_getElem hp⟩;obtain ⟨b,off,gH,hC⟩:=YM.out i t1 ht1;subst gH;obtain ⟨d0,k1,x1,qZ,n1,u1,z1,a1,hd0,g0,g1,g2,g3,g4,g5,g6,hV⟩:=PM hC;have bZ:=ae (iU.out.below tP.out HQ.out tP.out.size);have y0:=ai bZ.out g0;have y1:=ai bZ.out g1;have y2:=ai bZ.out g2;have y3:=ai bZ.out g3;have y4:=ai bZ.out g4;have y5:=ai bZ.out g5;have y6:=ai bZ.out g6;have hw1:=nM hp YL.out;have HS:Hid (ed (il d) ((il d) cc t1) (es.drop (i+1))=R1):=ae (by rw [<- HN.out,FH ht1 hf]);have dV:Hid ((il d) cc t1<=2049):=ae (PL _ _ _ (by omega));have eP:=ae (nG.out d0 hd0 w0 wr t1 _ q cc hV bZ.out HQ.out iV.out (by omega));have hd1:il (d0+1)=(il d):=by rw [<- hd0]
     rw [hd1] at eP;rw [decide_eq_false hf] at iI;clear hd1 hd0 hV g0 g1 g2 g3 g4 g5 g6 bZ hC ht1 HN hf HC iV;go_wp2_with fail;refine Calls.mono (show Calls _ _ _ _ _ from iI.out) ?_;rintro e w3 ⟨rfl,rfl⟩;clear iI;go_wp2_with fail;refine Calls.mono (show Calls _ _ _ _ _ from eP.out) ?_;rintro e w3 ⟨rfl,hb3,hc3⟩;have zm:=ae (iU.out.trans hb3);have eX:=ae (hb3.blk HX.out Dp.out);have zn:=ae hc3;clear hb3 hc3 eP HX iU rF y0 y1 y2 y3 y4 y5 y6;go_wp2;go_roundw
     case rel=>exact ⟨i+1,_,by first|rfl|(congr 1),hp,HS,dV,zm,zn,eX⟩
     case measure=>simp;omega
   ·have q1:decide ((i:Int)<(es.length:Int))=false:=decide_eq_false (by omega);have HS:Hid (cc=R1):=ae (by rw [<- HN.out,List.drop_eq_nil_of_le (by omega)];rfl);clear HN hi;have ST0:Hid (ed (fS d) cc (ps.drop 0)=R):=ae (by rw [HS.out];exact PX.out);have sj:=HC;have rY:=iU;have rZ:=iV;have si:=HX;clear HS HC iU iV HX;go_wp2_with fail;clear hp q1 rF;go_loopw [5] (fun aa wr=>∃i cc:Nat,aa=.int .i64 i/\i<=ps.length/\Hid (ed (fS d) cc (ps.drop i)=R)/\Hid (cc<=2049)/\Hid (But q w wr)/\Hid (CN q cc wr)/\Hid (wr.heap[w.heap.size]?=some (.cells #[.int .i64 k,.string x,.string y,.int .i64 n,.slice oR es.length cR,.slice oP ps.length cP,.int .i64 a] 27 (0,0)))) (fun aa _=>match aa with | .int _ i=>ps.length-i.toNat|_=>0)
    case atStart=>exact ⟨0,_,rfl,Nat.zero_le _,ST0,sj,rY,rZ,si⟩
    case round =>
     obtain ⟨i,cc,rfl,hi,HN,HC,iU,iV,HX⟩:=hrel;clear ST0 sj rY rZ si;have rF:=ak HX.out 5 _ rfl;by_cases hp:i<ps.length
     ·have q1:decide ((i:Int)<(ps.length:Int))=true:=decide_eq_true (by omega);have iI:=ae (FI q cc wr iV.out);by_cases hf:2048<cc
      ·have HS:Hid (cc=R):=ae (by rw [<- HN.out,FG hf]);rw [decide_eq_true hf] at iI;clear HN hi hf;go_wp2_with fail;refine Calls.mono (show Calls _ _ _ _ _ from iI.out) ?_;rintro e w3 ⟨rfl,rfl⟩;clear iI;go_wp2;go_end0;rw [<- HS.out];exact ⟨rfl,iU.out,iV.out⟩
      ·obtain ⟨t1,ht1⟩:∃t1,ps[i]?=some t1:=⟨_,List.getElem?_eq_getElem hp⟩;obtain ⟨b,off,gH,hC⟩:=FJ.out i t1 ht1;subst gH;obtain ⟨d0,k1,x1,n1,u1,a1,hd0,g0,g1,g2,g3,g4,hV⟩:=JD hC;have bZ:=ae (iU.out.below tP.out HQ.out tP.out.size);have y0:=ai bZ.out g0;have y1:=ai bZ.out g1;have y2:=ai bZ.out g2;have y3:=ai bZ.out g3;have y4:=ai bZ.out g4;have hw1:=nM hp zl.out;have HS:Hid (ed (fS d) ((fS d) cc t1) (ps.drop (i+1))=R):=ae (by rw [<- HN.out,FH ht1 hf]);have dV:Hid ((fS d) cc t1<=2049):=ae (Dn _ _ _ (by omega));have eP:=ae (PY.out d0 hd0 w0 wr t1 _ q cc hV bZ.out HQ.out iV.out (by omega));have hd1:fS (d0+1)=(fS d):=by rw [<- hd0]
       rw [hd1] at eP;rw [decide_eq_false hf] at iI;clear hd1 hd0 hV g0 g1 g2 g3 g4 bZ hC ht1 HN hf HC iV;go_wp2_with fail;refine Calls.mono (show Calls _ _ _ _ _ from iI.out) ?_;rintro e w3 ⟨rfl,rfl⟩;clear iI;go_wp2_with fail;refine Calls.mono (show Calls _ _ _ _ _ from eP.out) ?_;rintro e w3 ⟨rfl,hb3,hc3⟩;have zm:=ae (iU.out.trans hb3);have eX:=ae (hb3.blk HX.out Dp.out);have zn:=ae hc3;clear hb3 hc3 eP HX iU rF y0 y1 y2 y3 y4;go_wp2;go_roundw
       case rel=>exact ⟨i+1,_,by first|rfl|(congr 1),hp,HS,dV,zm,zn,eX⟩
       case measure=>simp;omega
     ·have q1:decide ((i:Int)<(ps.length:Int))=false:=decide_eq_false (by omega);have HS:Hid (cc=R):=ae (by rw [<- HN.out,List.drop_eq_nil_of_le (by omega)];rfl);clear HN hi;go_wp2;go_end0;rw [<- HS.out];exact ⟨rfl,iU.out,iV.out⟩
theorem YN (d:Nat) (e u vu vz:Value) (k n a:Int) (x y:ByteArray) (w:World) (h:ji 0 d w e (.agg #[.int .i64 k,.string x,.string y,.int .i64 n,vu,vz,.int .i64 a])):Calls Tryz.prog 17 #[.agg #[u,.int .i64 k,.string x,.string y,.int .i64 n,vu,vz,.int .i64 a]] w fun r w'=>r=.returned (.int .i64 (il (d+1) 0 e:Nat))/\Below w.heap.size w w':=by
 obtain ⟨W,hW⟩:∃W,W=(w.alloc (.cells #[u,.int .i64 k,.string x,.string y,.int .i64 n,vu,vz,.int .i64 a] 29)).alloc (.cells #[.int .i64 0] 81):=⟨_,rfl⟩;have jl:Below w.heap.size w (w.alloc (.cells #[u,.int .i64 k,.string x,.string y,.int .i64 n,vu,vz,.int .i64 a] 29)):=dF w _;have uT:Below (w.alloc (.cells #[u,.int .i64 k,.string x,.string y,.int .i64 n,vu,vz,.int .i64 a] 29)).heap.size (w.alloc (.cells #[u,.int .i64 k,.string x,.string y,.int .i64 n,vu,vz,.int .i64 a] 29)) W:=by rw [hW];exact dF _ _
 have hbW:=aB jl uT;have HX:Hid (W.heap[w.heap.size]?=some (.cells #[u,.int .i64 k,.string x,.string y,.int .i64 n,vu,vz,.int .i64 a] 29 (0,0))):=ae (by rw [uT.block _ (by simp)];exact heap_alloc_new w _);have hcn:CN (w.heap.size+1) 0 W:=⟨by rw [hW];have h:=heap_alloc_new (w.alloc (.cells #[u,.int .i64 k,.string x,.string y,.int .i64 n,vu,vz,.int .i64 a] 29)) (.cells #[.int .i64 0] 81);simpa using h⟩;have HC:=ae (YK d w W e _ (w.heap.size+1) 0 h hbW (by omega) hcn (by omega));have bZ:=ae hbW;generalize il (d+1) 0 e=R at *;have c1:=ak HX.out 1 _ rfl;have c2:=ak HX.out 2 _ rfl;have c3:=ak HX.out 3 _ rfl;have c4:=ak HX.out 4 _ rfl;have c5:=ak HX.out 5 _ rfl;have c6:=ak HX.out 6 _ rfl;have c7:=ak HX.out 7 _ rfl;clear h jl uT hbW hcn;go_enter Tryz.func17,Tryz.ntmps17;go_upto_region 2 with fail;rw [<- hW];clear hW;go_wp2_with fail;refine Calls.mono (show Calls _ _ _ _ _ from HC.out) ?_;rintro e w3 ⟨rfl,hb3,hc3⟩;have bb:=ae (hb3.below bZ.out (Nat.le_succ _) bZ.out.size);have cc:=hc3.cell;clear hb3 hc3 HC c1 c2 c3 c4 c5 c6 c7 HX;go_wp2;go_ret;exact ⟨rfl,bb.out⟩
namespace Pz
def kV (d:Nat) (ds:List Value) (e:Value):Bool:=decide (32<ds.length) || (decide (2048<il (d+1) 0 e) || (ds.any yI || kR (d+1) e))
end Pz
theorem aba (d:Nat) (ds:List Value) (e u vu vz:Value) (k n a:Int) (x y:ByteArray) (w:World) (hD:mL 0 u ds w) (hM:ji 0 d w e (.agg #[.int .i64 k,.string x,.string y,.int .i64 n,vu,vz,.int .i64 a])):Calls Tryz.prog 25 #[.agg #[u,.int .i64 k,.string x,.string y,.int .i64 n,vu,vz,.int .i64 a]] w fun r w'=>r=.returned (.bool (kV d ds e))/\Below w.heap.size w w':=by
 obtain ⟨oD,cD,rfl,_⟩:=cF hD;obtain ⟨R,hR⟩:∃R,R=kV d ds e:=⟨_,rfl⟩;rw [<- hR];unfold kV at hR;obtain ⟨W,hW⟩:∃W,W=w.alloc (.cells #[.slice oD ds.length cD,.int .i64 k,.string x,.string y,.int .i64 n,vu,vz,.int .i64 a] 29):=⟨_,rfl⟩;have jl:Below w.heap.size w W:=by rw [hW];exact dF w _
 have HX:Hid (W.heap[w.heap.size]?=some (.cells #[.slice oD ds.length cD,.int .i64 k,.string x,.string y,.int .i64 n,vu,vz,.int .i64 a] 29 (0,0))):=ae (by rw [hW];exact heap_alloc_new w _);have HS:=ae (YN d e (.slice oD ds.length cD) vu vz k n a x y W (hM.but (fun kk _ hl=>jl.block kk hl)));have HD:=ae (fun w' (hb:Below w.heap.size w w')=>aaC yI ds (.slice oD ds.length cD) w' (mL.on (C:=0) (B:=0) hD (fun kk _ hl=>hb.block kk hl) (Nat.le_refl _)) (fun t v w' _ ht _=>Xr t v w' ht));have HE:=ae (fun w' (hb:Below w.heap.size w w')=>Xv d e _ w' (hM.but (fun kk _ hl=>hb.block kk hl)));have HB:=ae jl;have e1:=uC (n:=ds.length) (m:=32);have e2:=PQ (c:=il (d+1) 0 e);rw [<- e1,<- e2] at hR;have HR:=ae hR;generalize il (d+1) 0 e=Cn at *;generalize kR (d+1) e=Me at *;generalize ds.any yI=Md at *;have c0:=ak HX.out 0 _ rfl;have c1:=ak HX.out 1 _ rfl;have c2:=ak HX.out 2 _ rfl;have c3:=ak HX.out 3 _ rfl;have c4:=ak HX.out 4 _ rfl;have c5:=ak HX.out 5 _ rfl;have c6:=ak HX.out 6 _ rfl;have c7:=ak HX.out 7 _ rfl;clear hD hM hR jl e1 e2;cases h1:decide ((ds.length:Int) > ((32:Nat):Int)) with
 | true =>
  have h1':decide ((ds.length:Int) > 32)=true:=h1;have HQ:Hid (true=R):=ae (by rw [HR.out,h1];rfl);clear h1 HR HS HD HE;go_enter Tryz.func25,Tryz.ntmps25;go_upto_region 1 with fail;rw [<- hW];clear hW;go_wp2;go_ret;exact ⟨bf HQ.out,HB.out⟩
 | false =>
  have h1':decide ((ds.length:Int) > 32)=false:=h1;have jF:=HR.out;rw [h1,Bool.false_or] at jF;have HR2:=ae jF;clear h1 HR jF;go_enter Tryz.func25,Tryz.ntmps25;go_upto_region 1 with fail;rw [<- hW];clear hW;go_wp2_with fail;refine Calls.mono (show Calls _ _ _ _ _ from HS.out) ?_;rintro e w1 ⟨rfl,hb1⟩;have HB1:=ae (aB HB.out hb1);have bI:Hid (w1.heap[w.heap.size]?=some (.cells #[.slice oD ds.length cD,.int .i64 k,.string x,.string y,.int .i64 n,vu,vz,.int .i64 a] 29 (0,0))):=ae ((hb1.block _ (Array.getElem?_eq_some_iff.1 HX.out).1).trans HX.out);have KN:=ae (HD.out w1 HB1.out);clear hb1 HS HD HB HX c0 c1 c2 c3 c4 c5 c6 c7;have c0:=ak bI.out 0 _ rfl;cases h2:decide ((Cn:Int) > 2048) with
  | true =>
   have HQ:Hid (true=R):=ae (by rw [HR2.out,h2];rfl);clear HR2 KN HE;go_wp2;go_ret;exact ⟨bf HQ.out,HB1.out⟩
  | false =>
   have xK:=HR2.out;rw [h2,Bool.false_or] at xK;have HR3:=ae xK;clear HR2 xK;go_wp2_with fail;refine Calls.mono (show Calls _ _ _ _ _ from KN.out) ?_;rintro e w2 ⟨rfl,hb2⟩;have HB2:=ae (aB HB1.out hb2);have bD:Hid (w2.heap[w.heap.size]?=some (.cells #[.slice oD ds.length cD,.int .i64 k,.string x,.string y,.int .i64 n,vu,vz,.int .i64 a] 29 (0,0))):=ae ((hb2.block _ (Array.getElem?_eq_some_iff.1 bI.out).1).trans bI.out);have zY:=ae (HE.out w2 HB2.out);clear hb2 KN HE HB1 bI c0;have c1:=ak bD.out 1 _ rfl;have c2:=ak bD.out 2 _ rfl;have c3:=ak bD.out 3 _ rfl;have c4:=ak bD.out 4 _ rfl;have c5:=ak bD.out 5 _ rfl;have c6:=ak bD.out 6 _ rfl;have c7:=ak bD.out 7 _ rfl;cases Md with
   | true =>
    have HQ:Hid (true=R):=ae (by rw [HR3.out];rfl);clear HR3 zY;go_wp2;go_ret;exact ⟨bf HQ.out,HB2.out⟩
   | false =>
    have HQ:Hid (Me=R):=ae (by rw [HR3.out];rfl);clear HR3;go_wp2_with fail;refine Calls.mono (show Calls _ _ _ _ _ from zY.out) ?_;rintro e w3 ⟨rfl,hb3⟩;have bb:=ae (aB HB2.out hb3);clear hb3 zY c1 c2 c3 c4 c5 c6 c7;go_wp2;go_ret;exact ⟨bf HQ.out,bb.out⟩
namespace Pz
def Fy (t:Value):Prop:=∃k x y n es ps a,t=nd k x y n es ps a
def fit:Nat->Value->Prop
 | 0,t=>Fy t/\dE t = []/\gV t = []
 | d+1,t=>Fy t/\(∀x ∈ dE t,fit d x)/\(∀x ∈ gV t,fit d x)
theorem FB:∀(d:Nat) (t:Value),fit d t->fit (d+1) t
 | 0,t,h=>⟨h.1,fun x hx=>(by rw [h.2.1] at hx;cases hx),fun x hx=>(by rw [h.2.2] at hx;cases hx)⟩
 | d+1,t,h=>⟨h.1,fun x hx=>FB d x (h.2.1 x hx),fun x hx=>FB d x (h.2.2 x hx)⟩
theorem JC {d e:Nat} (h:d<=e) {t:Value} (hf:fit d t):fit e t:=by
 induction h with
 | refl=>exact hf
 | step _ ih=>exact FB _ _ ih
theorem FE {α:Type} {f g:α->Bool}:∀ {l:List α},(∀x ∈ l,f x=g x)->l.any f=l.any g
 | [],_=>rfl
 | x :: l,h=>by rw [List.any_cons,List.any_cons,h x (List.Mem.head _),FE (fun y hy=>h y (List.Mem.tail _ hy))]
theorem FF {f g:Nat->Value->Nat}:∀ {l:List Value} (c:Nat),(∀x ∈ l,∀c,f c x=g c x)->ed f c l=ed g c l
 | [],_,_=>rfl
 | x :: l,c,h=>by
  unfold ed;rw [h x (List.Mem.head _) c,FF _ (fun y hy=>h y (List.Mem.tail _ hy))]
theorem PF:∀(d:Nat) (t:Value),fit d t->kg (d+2) t=kg (d+1) t
 | 0,t,h=>by show (_ || (dE t).any _)=(_ || (dE t).any _);rw [h.2.1];rfl
 | d+1,t,h=>by show (_ || (dE t).any _)=(_ || (dE t).any _);rw [FE (fun x hx=>PF d x (h.2.1 x hx))]
theorem PG:∀(d:Nat) (t:Value),fit d t->kR (d+2) t=kR (d+1) t
 | 0,t,h=>by show (_ || ((dE t).any _ || (gV t).any _))=(_ || ((dE t).any _ || (gV t).any _));rw [h.2.1,h.2.2];rfl
 | d+1,t,h=>by show (_ || ((dE t).any _ || (gV t).any _))=(_ || ((dE t).any _ || (gV t).any _));rw [FE (fun x hx=>PG d x (h.2.1 x hx)),FE (fun x hx=>PF d x (h.2.2 x hx))]
theorem YG {d e:Nat} (h:d<=e) {t:Value} (hf:fit d t):kR (e+1) t=kR (d+1) t:=by
 induction h with
 | refl=>rfl
 | step hm ih=>rw [PG _ t (JC hm hf)];exact ih
theorem PH:∀(d:Nat) (t:Value),fit d t->∀c,fS (d+2) c t=fS (d+1) c t
 | 0,t,h,c=>by show ed _ _ (dE t)=ed _ _ (dE t);rw [h.2.1];rfl
 | d+1,t,h,c=>by show ed _ _ (dE t)=ed _ _ (dE t);rw [FF _ (fun x hx=>PH d x (h.2.1 x hx))]
theorem PI:∀(d:Nat) (t:Value),fit d t->∀c,il (d+2) c t=il (d+1) c t
 | 0,t,h,c=>by show ed _ (ed _ _ (dE t)) (gV t)=ed _ (ed _ _ (dE t)) (gV t);rw [h.2.1,h.2.2];rfl
 | d+1,t,h,c=>by show ed _ (ed _ _ (dE t)) (gV t)=ed _ (ed _ _ (dE t)) (gV t);rw [FF (l:=dE t) _ (fun x hx=>PI d x (h.2.1 x hx)),FF (l:=gV t) _ (fun x hx=>PH d x (h.2.2 x hx))]
theorem YH {d e:Nat} (h:d<=e) {t:Value} (hf:fit d t) (c:Nat):il (e+1) c t=il (d+1) c t:=by
 induction h with
 | refl=>rfl
 | step hm ih=>rw [PI _ t (JC hm hf)];exact ih
theorem PK {d e:Nat} (h:d<=e) {t:Value} (hf:fit d t) (ds:List Value):kV e ds t=kV d ds t:=by
 unfold kV;rw [YG h hf,YH h hf]
theorem Px {d e:Nat} {t:Value} (hd:fit d t) (he:fit e t) (ds:List Value):kV e ds t=kV d ds t:=by
 rcases Nat.le_total d e with h|h
 ·exact PK h hd ds
 ·exact (PK h he ds).symm
theorem pW {α:Type} {sz:Nat} {f:Nat->Nat->α->Prop} {v:Value} {l:List α} (h:Row sz f v l) {x:α} (hx:x ∈ l):∃b o,f b o x:=by
 obtain ⟨o,c,_,hc⟩:=cF h;obtain ⟨i,hi⟩:=List.getElem?_of_mem hx;obtain ⟨b,off,_,hf⟩:=hc i x hi;exact ⟨b,_,hf⟩
theorem uO {α:Type} {sz:Nat} {v:Value} {l:List α} (h:Row sz (fun _ _ _=>False) v l):l = []:=by
 cases l with
 | nil=>rfl
 | cons x l=>obtain ⟨_,_,hf⟩:=pW h (List.Mem.head _);exact False.elim hf
section
variable {p:Nat} {w:World}
theorem di.fit:∀(d b o:Nat) (t:Value),di p w (d+1) b o t->fit d t
 | 0,b,o,t,⟨hp,k,x,n,es,a,v,h0,h1,h2,h3,h4,h5,h6⟩=>by
  subst h0;exact ⟨⟨_,_,_,_,_,_,_,rfl⟩,uO (h6.imp fun _ _ _ _ hf=>hf),rfl⟩
 | d+1,b,o,t,⟨hp,k,x,n,es,a,v,h0,h1,h2,h3,h4,h5,h6⟩=>by
  subst h0;refine ⟨⟨_,_,_,_,_,_,_,rfl⟩,fun y hy=>?_,fun y hy=>by cases hy⟩;obtain ⟨b',o',hf⟩:=pW h6 hy;exact di.fit d b' o' y hf
theorem eM.fit:∀(d b o:Nat) (t:Value),eM p w (d+1) b o t->fit d t
 | 0,b,o,t,⟨hp,k,x,n,es,v,h0,h1,h2,h3,h4,h6⟩=>by
  subst h0;exact ⟨⟨_,_,_,_,_,_,_,rfl⟩,uO (h6.imp fun _ _ _ _ hf=>hf),rfl⟩
 | d+1,b,o,t,⟨hp,k,x,n,es,v,h0,h1,h2,h3,h4,h6⟩=>by
  subst h0;refine ⟨⟨_,_,_,_,_,_,_,rfl⟩,fun y hy=>?_,fun y hy=>by cases hy⟩;obtain ⟨b',o',hf⟩:=pW h6 hy;exact eM.fit d b' o' y hf
theorem dW.fit:∀(d b o:Nat) (t:Value),dW p w (d+1) b o t->fit d t
 | 0,b,o,t,⟨hp,k,x,y,n,es,ps,a,v,u,h0,h1,h2,h3,h4,h5,h6,h7,h8,h9⟩=>by
  subst h0;exact ⟨⟨_,_,_,_,_,_,_,rfl⟩,uO (h8.imp fun _ _ _ _ hf=>hf),uO (h9.imp fun _ _ _ _ hf=>hf)⟩
 | d+1,b,o,t,⟨hp,k,x,y,n,es,ps,a,v,u,h0,h1,h2,h3,h4,h5,h6,h7,h8,h9⟩=>by
  subst h0;refine ⟨⟨_,_,_,_,_,_,_,rfl⟩,fun z hz=>?_,fun z hz=>?_⟩
  ·obtain ⟨b',o',hf⟩:=pW h8 hz;exact dW.fit d b' o' z hf
  ·obtain ⟨b',o',hf⟩:=pW h9 hz;exact di.fit d b' o' z hf
theorem ji.fit {d:Nat} {t v:Value} (h:ji p d w t v):fit d t:=by
 obtain ⟨k,x,y,n,es,ps,a,u,z,rfl,_,h1,h2⟩:=h;cases d with
 | zero=>exact ⟨⟨_,_,_,_,_,_,_,rfl⟩,uO (h1.imp fun _ _ _ _ hf=>hf),uO (h2.imp fun _ _ _ _ hf=>hf)⟩
 | succ d =>
  refine ⟨⟨_,_,_,_,_,_,_,rfl⟩,fun z hz=>?_,fun z hz=>?_⟩
  ·obtain ⟨b',o',hf⟩:=pW h1 hz;exact dW.fit d b' o' z hf
  ·obtain ⟨b',o',hf⟩:=pW h2 hz;exact di.fit d b' o' z hf
theorem lu.fit {d:Nat} {t v:Value} (h:lu p d w t v):fit d t:=by
 obtain ⟨k,x,n,es,a,u,rfl,_,h1⟩:=h;cases d with
 | zero=>exact ⟨⟨_,_,_,_,_,_,_,rfl⟩,uO (h1.imp fun _ _ _ _ hf=>hf),rfl⟩
 | succ d =>
  refine ⟨⟨_,_,_,_,_,_,_,rfl⟩,fun z hz=>?_,fun z hz=>by cases hz⟩;obtain ⟨b',o',hf⟩:=pW h1 hz;exact di.fit d b' o' z hf
theorem qY.fit {d:Nat} {t v:Value} (h:qY p d w t v):fit d t:=by
 obtain ⟨k,x,n,es,u,rfl,_,h1⟩:=h;cases d with
 | zero=>exact ⟨⟨_,_,_,_,_,_,_,rfl⟩,uO (h1.imp fun _ _ _ _ hf=>hf),rfl⟩
 | succ d =>
  refine ⟨⟨_,_,_,_,_,_,_,rfl⟩,fun z hz=>?_,fun z hz=>by cases hz⟩;obtain ⟨b',o',hf⟩:=pW h1 hz;exact eM.fit d b' o' z hf
end
end Pz
end Go.Proofs.YtkdbgopgjbfhbaaGreatDoor
namespace Go.Proofs.YtkdbgopgjbfhbaaGreatDoor
open Go.RowKit bq
set_option linter.unusedVariables false
namespace bq
variable {H:Type} {enc:TypeId × Value->H} {P:Program} {w:World} {base:Nat} {spare:Nat->Bool} {held:Bool}
theorem pW {α:Type} {c:Nat} {f:Nat->Nat->α->Prop} {g:α->Prop} {v:Value} {l:List α} (h:Row c (fun b o x=>f b o x/\g x) v l):∀x ∈ l,g x:=by
 intro x hx;rcases h.2 with ⟨rfl,_⟩|⟨b,off,cap,_,hc⟩
 ·cases hx
 ·obtain ⟨i,hi,rfl⟩:=List.getElem_of_mem hx;exact (hc i _ (List.getElem?_eq_getElem hi)).2
end bq
section Of
variable {H:Type} {enc:TypeId × Value->H} {w:World} {base:Nat} {spare:Nat->Bool} {held:Bool}
end Of
namespace bq
def Sub (w w':World):Prop:=∀b o u,w.cell? ⟨b,o,none⟩=.some u->w'.cell? ⟨b,o,none⟩=.some u
theorem Sub.refl (w:World):Sub w w:=fun _ _ _ h=>h
theorem Sub.trans {w1 w2 w3:World} (h:Sub w1 w2) (h':Sub w2 w3):Sub w1 w3:=fun b o u e=>h' b o u (h b o u e)
section On
variable {w w':World} (hb:Sub w w')
theorem Ints.sub (hb:Sub w w') {v:Value} {l:List Int} (h:Ints w v l):Ints w' v l:=Row.imp h fun _ _ _ _ h=>hb _ _ _ h
theorem tK.sub (hb : Sub w w') {α : Type} {f g : Value → α → Prop} (hfg : ∀ v x, f v x → g v x) {b o : Nat} {x : Ins α} (h : tK w f b o x) : tK w' g b o x :=
  ⟨hb _ _ _ h.op, hb _ _ _ h.a, hb _ _ _ h.b, hb _ _ _ h.n,
   let ⟨v, h1, h2⟩ := h.labels; ⟨v, hb _ _ _ h1, h2.sub hb⟩,
   let ⟨v, h1, h2⟩ := h.body; ⟨v, hb _ _ _ h1, hfg _ _ h2⟩,
   let ⟨v, h1, h2⟩ := h.els; ⟨v, hb _ _ _ h1, hfg _ _ h2⟩⟩
theorem At.sub (hb:Sub w w'):∀(d:Nat) (v:Value) (l:IL d),At w d v l->At w' d v l
 | 0,_,_,h=>h
 | d+1,_,_,h=>Row.imp (α:=Ins (IL d)) h fun _ _ _ _ h=>h.sub hb (At.sub hb d)
theorem wy.sub (hb:Sub w w') {bk o:Nat} {x:FT} (h:wy w bk o x):wy w' bk o x :=
 ⟨let ⟨v,a,b⟩:=h.params;⟨v,hb _ _ _ a,b.sub hb⟩,let ⟨v,a,b⟩:=h.results;⟨v,hb _ _ _ a,b.sub hb⟩⟩
theorem wz.sub (hb:Sub w w') {bk o:Nat} {x:Fb} (h:wz w bk o x):wz w' bk o x:=⟨hb _ _ _ h.mod,hb _ _ _ h.name,hb _ _ _ h.type⟩
theorem wB.sub (hb:Sub w w') {d bk o:Nat} {x:Fc d} (h:wB w d bk o x):wB w' d bk o x :=
 ⟨hb _ _ _ h.type,let ⟨v,a,b⟩:=h.locals;⟨v,hb _ _ _ a,b.sub hb⟩,let ⟨v,a,b⟩:=h.body;⟨v,hb _ _ _ a,At.sub hb d v _ b⟩⟩
theorem tJ.sub (hb:Sub w w') {bk o:Nat} {x:CL} (h:tJ w bk o x):tJ w' bk o x:=⟨hb _ _ _ h.min,hb _ _ _ h.max,hb _ _ _ h.has⟩
theorem wC.sub (hb:Sub w w') {d bk o:Nat} {x:Fe d} (h:wC w d bk o x):wC w' d bk o x:=⟨hb _ _ _ h.type,hb _ _ _ h.Ff,h.init.sub hb (At.sub hb d)⟩
theorem wD.sub (hb:Sub w w') {bk o:Nat} {x:Fg} (h:wD w bk o x):wD w' bk o x:=⟨hb _ _ _ h.name,hb _ _ _ h.kind,hb _ _ _ h.index⟩
theorem wE.sub (hb:Sub w w') {d bk o:Nat} {x:Fh d} (h:wE w d bk o x):wE w' d bk o x:=⟨h.offset.sub hb (At.sub hb d),let ⟨v,a,b⟩:=h.funcs;⟨v,hb _ _ _ a,b.sub hb⟩⟩
theorem wF.sub (hb:Sub w w') {d bk o:Nat} {x:Dat d} (h:wF w d bk o x):wF w' d bk o x:=⟨h.offset.sub hb (At.sub hb d),hb _ _ _ h.bytes⟩
end On
def only (w:World) (S:Nat->Bool):World:={ w with heap:=w.heap.mapIdx fun i x=>if S i then x else .cells #[] 0 (0,0) }
structure Piece {α:Type} (R:World) (c:Nat) (f:World->Nat->Nat->α->Prop) (x:α) (cs:List Value):Prop where
 len:cs.length=c
 one:∀u ∈ cs,u.oneCell'=true
 lay:∀R' b o,Sub R R'->(∀k u,cs[k]?=.some u->R'.cell? ⟨b,o+k,none⟩=.some u)->f R' b o x
theorem Piece.sub {α:Type} {R R2:World} {c:Nat} {f:World->Nat->Nat->α->Prop} {x:α} {cs:List Value} (h:Piece R c f x cs) (hs:Sub R R2):Piece R2 c f x cs :=
 ⟨h.len,h.one,fun R' b o h' hc=>h.lay R' b o (hs.trans h') hc⟩
def flat {α:Type} (ps:List (α × List Value)):List Value:=ps.flatMap (·.2)
section App
variable {P:Program}
end App
end bq
namespace bq
section Blk
variable {w w':World} {b:Nat} {c0 c1 c2 c3 c4 c5 c6 c7 c8 c9:Value}
end Blk
end bq
end Go.Proofs.YtkdbgopgjbfhbaaGreatDoor
