/- Texts that the claim needs. -/
import Derived.Test.YtpaefhceiliaiaaGreatDoorQPAk28
namespace Go.Proofs.YtpaefhceiliaiaaGreatDoor
open Go.RowKit Lx Pz bB
set_option linter.unusedVariables false
set_option maxRecDepth 100000
set_option maxHeartbeats 16000000
namespace Pz
def dB (f:Nat->Value->Nat):Nat->List Value->Nat
 | c,[]=>c
 | c,t :: l=>if 2048<c then c else dB f (f c t) l
def fG:Nat->Nat->Value->Nat
 | 0,c,_=>c+1
 | d+1,c,t=>dB (fG d) (c+1) (dc t)
def fS:Nat->Nat->Value->Nat
 | 0,c,_=>c+1
 | d+1,c,t=>dB (fG d) (dB (fS d) (c+1) (dc t)) (gm t)
theorem DV {f:Nat->Value->Nat} {c:Nat} (h:2048<c) (l:List Value):dB f c l=c:=by
 cases l with
 | nil=>rfl
 | cons t l=>unfold dB;rw [if_pos h]
theorem yL {f:Nat->Value->Nat} (hf:∀c t,c<=2048->f c t<=2049):∀(l:List Value) (c:Nat),c<=2049->dB f c l<=2049
 | [],c,h=>h
 | t :: l,c,h=>by
  unfold dB;by_cases hc:2048<c
  ·rw [if_pos hc];exact h
  ·rw [if_neg hc];exact yL hf l _ (hf c t (by omega))
theorem Bh:∀(d c:Nat) (t:Value),c<=2048->fG d c t<=2049
 | 0,c,t,h=>by unfold fG;omega
 | d+1,c,t,h=>by unfold fG;exact yL (Bh d) _ _ (by omega)
theorem NT:∀(d c:Nat) (t:Value),c<=2048->fS d c t<=2049
 | 0,c,t,h=>by unfold fS;omega
 | d+1,c,t,h=>by unfold fS;exact yL (Bh d) _ _ (yL (NT d) _ _ (by omega))
theorem DW {f:Nat->Value->Nat} {l:List Value} {i c:Nat} {t:Value} (hx:l[i]?=some t) (hc:¬ 2048<c):dB f c (l.drop i)=dB f (f c t) (l.drop (i+1)):=by
 have hi:=(List.getElem?_eq_some_iff.1 hx).1;rw [List.drop_eq_getElem_cons hi,(List.getElem?_eq_some_iff.1 hx).2]
 conv=>lhs;unfold dB
 rw [if_neg hc]
structure CN (q c:Nat) (w:World):Prop where
 blk:w.heap[q]?=some (.cells #[.int .i64 (c:Int)] 81 (0,0))
theorem CN.lt {q c:Nat} {w:World} (h:CN q c w):q<w.heap.size:=(Array.getElem?_eq_some_iff.1 h.blk).1
theorem CN.cell {q c:Nat} {w:World} (h:CN q c w):w.cell? ⟨q,0,none⟩=some (.int .i64 (c:Int)):=af h.blk 0 _ rfl
theorem CN.iD {q c:Nat} {w:World} (h:CN q c w):w.frozen? ⟨q,0,none⟩=false:=by unfold World.frozen?;rw [h.blk];simp
theorem CN.on {q c:Nat} {w w':World} (h:CN q c w) (hb:Below w.heap.size w w'):CN q c w':=⟨by rw [hb.block q h.lt];exact h.blk⟩
theorem CN.set {q c:Nat} {w:World} (h:CN q c w) (c':Nat):CN q c' (w.setCell ⟨q,0,none⟩ (.int .i64 (c':Int))):=⟨heap_setCell_same w q 0 _ _ _ h.blk⟩
theorem But.below {q n:Nat} {w0 w w':World} (h:But q w w') (hb:Below n w0 w) (hq:n<=q) (hn:n<=w.heap.size):Below n w0 w' :=
 ⟨h.os.trans hb.os,h.tape.trans hb.tape,h.output.trans hb.output,Nat.le_trans hb.size h.size,fun k hk=>(h.block k (by omega) (by omega)).trans (hb.block k hk)⟩
theorem Ic {d b o:Nat} {w:World} {t:Value} (h:cf 0 w d b o t):∃d0 k x n u a,d=d0+1/\w.cell? ⟨b,o,none⟩=some (.int .i64 k)/\w.cell? ⟨b,o+1,none⟩=some (.string x)/\w.cell? ⟨b,o+2,none⟩=some (.int .i64 n)/\w.cell? ⟨b,o+3,none⟩=some u/\w.cell? ⟨b,o+4,none⟩=some (.int .i64 a)/\jU 0 d0 w t (.agg #[.int .i64 k,.string x,.int .i64 n,u,.int .i64 a]):=by
 cases d with
 | zero=>exact h.elim
 | succ d =>
  obtain ⟨hp,k,x,n,es,a,v,h0,h1,h2,h3,h4,h5,h6⟩:=h;exact ⟨d,k,x,n,v,a,rfl,h1,h2,h3,h4,h5,k,x,n,es,a,v,h0,rfl,h6⟩
theorem WQ {d b o:Nat} {w:World} {t:Value} (h:dm 0 w d b o t):∃d0 k x y n u z a,d=d0+1/\w.cell? ⟨b,o,none⟩=some (.int .i64 k)/\w.cell? ⟨b,o+1,none⟩=some (.string x)/\w.cell? ⟨b,o+2,none⟩=some (.string y)/\w.cell? ⟨b,o+3,none⟩=some (.int .i64 n)/\w.cell? ⟨b,o+4,none⟩=some u/\w.cell? ⟨b,o+5,none⟩=some z/\w.cell? ⟨b,o+6,none⟩=some (.int .i64 a)/\iY 0 d0 w t (.agg #[.int .i64 k,.string x,.string y,.int .i64 n,u,z,.int .i64 a]):=by
 cases d with
 | zero=>exact h.elim
 | succ d =>
  obtain ⟨hp,k,x,y,n,es,ps,a,v,u,h0,h1,h2,h3,h4,h5,h6,h7,h8,h9⟩:=h;exact ⟨d,k,x,y,n,v,u,a,rfl,h1,h2,h3,h4,h5,h6,h7,k,x,y,n,es,ps,a,v,u,h0,rfl,h8,h9⟩
def Ie (d:Nat):Prop:=∀(w0 w:World) (t v:Value) (q c:Nat),jU 0 d w0 t v->Below w0.heap.size w0 w->w0.heap.size<=q->CN q c w->c<=2048 ->
 Calls Tryz.prog 99 #[.pointer (some ⟨q,0,none⟩),v] w fun e w'=>e=.returned (.tuple #[])/\But q w w'/\CN q (fG (d+1) c t) w'
def NU (d:Nat):Prop:=∀(w0 w:World) (t v:Value) (q c:Nat),iY 0 d w0 t v->Below w0.heap.size w0 w->w0.heap.size<=q->CN q c w->c<=2048 ->
 Calls Tryz.prog 47 #[.pointer (some ⟨q,0,none⟩),v] w fun e w'=>e=.returned (.tuple #[])/\But q w w'/\CN q (fS (d+1) c t) w'
theorem NV (w:World) (q:Nat) (v:Value) (o:Obj):((w.setCell ⟨q,0,none⟩ v).alloc o).heap[w.heap.size]?=some o:=by
 have h:=heap_alloc_new (w.setCell ⟨q,0,none⟩ v) o;simpa using h
theorem NW {c:Nat}:decide ((c:Int) > 2048)=decide (2048<c):=oZ (n:=c) (m:=2048)
theorem NY {c:Nat} (h:c<=2048):wrap64 ((c:Int)+1)=(c:Int)+1:=by unfold wrap64;omega
end Pz
theorem DX (q c:Nat) (w:World) (h:CN q c w):Calls Tryz.prog 98 #[.pointer (some ⟨q,0,none⟩)] w fun e w'=>e=.returned (.bool (decide (2048<c)))/\w'=w:=by
 have h0:=h.cell;have HR:=ae (NW (c:=c));generalize decide (2048<c)=R at HR ⊢;clear h;go_enter Tryz.func98,Tryz.ntmps98;go_wp2;go_ret;exact ⟨aC HR.out,rfl⟩
theorem WR:∀d:Nat,Ie d:=by
 intro d
 induction d using Nat.strongRecOn with
 | _ d ih =>
  intro w0 w t v q c h hb0 hq hcn hc;obtain ⟨k,x,n,es,a,u,rfl,rfl,hr⟩:=h;obtain ⟨oR,cR,rfl,hel⟩:=bP hr;obtain ⟨R,hR⟩:∃R,R=fG (d+1) c (nd k x e0 n es [] a):=⟨_,rfl⟩;rw [<- hR];have ST0:Hid (dB (fG d) (c+1) (es.drop 0)=R):=ae (by rw [hR];rfl);have sS:Hid (∀d0,d=d0+1->Ie d0):=ae (fun d0 e=>ih d0 (by omega));have sU:=ae hr.1;have DY:=ae hel;have Bi:Hid (w.heap.size≠q):=ae (by have:=hcn.lt;omega);obtain ⟨W,hW⟩:∃W,W=(w.setCell ⟨q,0,none⟩ (.int .i64 ((c:Int)+1))).alloc (.cells #[.int .i64 k,.string x,.int .i64 n,.slice oR es.length cR,.int .i64 a] 101):=⟨_,rfl⟩;have c0:=hcn.cell;have f0:=hcn.iD;have jL:Below (w.setCell ⟨q,0,none⟩ (.int .i64 ((c:Int)+1))).heap.size (w.setCell ⟨q,0,none⟩ (.int .i64 ((c:Int)+1))) W:=by rw [hW];exact bO _ _
  have pM:Hid (But q w W):=ae ((But.set q 0 w _).trans (But.of q jL));have pO:Hid (CN q (c+1) W):=ae ((hcn.set (c+1)).on jL);have pQ:Hid (W.heap[w.heap.size]?=some (.cells #[.int .i64 k,.string x,.int .i64 n,.slice oR es.length cR,.int .i64 a] 101 (0,0))):=ae (by rw [hW];exact NV w _ _ _);have pR:Hid (c+1<=2049):=ae (by omega);have hwc:=NY hc;have pU:=ae hb0;have HQ:=ae hq;have WS:=hcn.lt;clear hR hr hel hcn hc jL hb0 hq ih;go_enter Tryz.func99,Tryz.ntmps99;go_upto_region 2 with fail;rw [<- hW];clear hW c0 f0 hwc;go_wp2_with fail;go_loopw [4] (fun aa wr=>∃i cc:Nat,aa=.int .i64 i/\i<=es.length/\Hid (dB (fG d) cc (es.drop i)=R)/\Hid (cc<=2049)/\Hid (But q w wr)/\Hid (CN q cc wr)/\Hid (wr.heap[w.heap.size]?=some (.cells #[.int .i64 k,.string x,.int .i64 n,.slice oR es.length cR,.int .i64 a] 101 (0,0)))) (fun aa _=>match aa with | .int _ i=>es.length-i.toNat|_=>0)
  case atStart=>exact ⟨0,_,rfl,Nat.zero_le _,ST0,pR,pM,pO,pQ⟩
  case round =>
   obtain ⟨i,cc,rfl,hi,HN,HC,iA,iB,HX⟩:=hrel;clear ST0 pR pM pO pQ;have rF:=af HX.out 3 _ rfl;by_cases hp:i<es.length
   ·have q1:decide ((i:Int)<(es.length:Int))=true:=decide_eq_true (by omega);have gU:=ae (DX q cc wr iB.out);by_cases hf:2048<cc
    ·have HS:Hid (cc=R):=ae (by rw [<- HN.out,DV hf]);rw [decide_eq_true hf] at gU;clear HN hi hf;go_wp2_with fail;refine Calls.mono (show Calls _ _ _ _ _ from gU.out) ?_;rintro e w3 ⟨rfl,rfl⟩;clear gU;go_wp2;go_end0;rw [<- HS.out];exact ⟨rfl,iA.out,iB.out⟩
    ·obtain ⟨t1,ht1⟩:∃t1,es[i]?=some t1:=⟨_,List.getElem?_eq_getElem hp⟩;obtain ⟨b,off,dO,hC⟩:=DY.out i t1 ht1;subst dO;obtain ⟨d0,k1,x1,n1,u1,a1,hd0,g0,g1,g2,g3,g4,hV⟩:=Ic hC;have bf:=ae (iA.out.below pU.out HQ.out pU.out.size);have y0:=ag bf.out g0;have y1:=ag bf.out g1;have y2:=ag bf.out g2;have y3:=ag bf.out g3;have y4:=ag bf.out g4;have hw1:=gV hp sU.out;have HS:Hid (dB (fG d) ((fG d) cc t1) (es.drop (i+1))=R):=ae (by rw [<- HN.out,DW ht1 hf]);have dI:Hid ((fG d) cc t1<=2049):=ae (Bh _ _ _ (by omega));have bN:=ae (sS.out d0 hd0 w0 wr t1 _ q cc hV bf.out HQ.out iB.out (by omega));have hd1:fG (d0+1)=(fG d):=by rw [<- hd0]
     rw [hd1] at bN;rw [decide_eq_false hf] at gU;clear hd1 hd0 hV g0 g1 g2 g3 g4 bf hC ht1 HN hf HC iB;go_wp2_with fail;refine Calls.mono (show Calls _ _ _ _ _ from gU.out) ?_;rintro e w3 ⟨rfl,rfl⟩;clear gU;go_wp2_with fail;refine Calls.mono (show Calls _ _ _ _ _ from bN.out) ?_;rintro e w3 ⟨rfl,hb3,hc3⟩;have xu:=ae (iA.out.trans hb3);have bR:=ae (hb3.blk HX.out Bi.out);have xw:=ae hc3;clear hb3 hc3 bN HX iA rF y0 y1 y2 y3 y4;go_wp2;go_roundw
     case rel=>exact ⟨i+1,_,by first|rfl|(congr 1),hp,HS,dI,xu,xw,bR⟩
     case measure=>simp;omega
   ·have q1:decide ((i:Int)<(es.length:Int))=false:=decide_eq_false (by omega);have HS:Hid (cc=R):=ae (by rw [<- HN.out,List.drop_eq_nil_of_le (by omega)];rfl);clear HN hi;go_wp2;go_end0;rw [<- HS.out];exact ⟨rfl,iA.out,iB.out⟩
theorem WT:∀d:Nat,NU d:=by
 intro d
 induction d using Nat.strongRecOn with
 | _ d ih =>
  intro w0 w t v q c h hb0 hq hcn hc;obtain ⟨k,x,y,n,es,ps,a,u,z,rfl,rfl,hr,jI⟩:=h;obtain ⟨oR,cR,rfl,hel⟩:=bP hr;obtain ⟨oP,cP,rfl,yM⟩:=bP jI;obtain ⟨R,hR⟩:∃R,R=fS (d+1) c (nd k x y n es ps a):=⟨_,rfl⟩;rw [<- hR];obtain ⟨R1,nR⟩:∃R1,R1=dB (fS d) (c+1) es:=⟨_,rfl⟩;have ST0:Hid (dB (fS d) (c+1) (es.drop 0)=R1):=ae (by rw [nR];rfl);have NZ:Hid (dB (fG d) R1 ps=R):=ae (by rw [hR,nR];rfl);have sS:Hid (∀d0,d=d0+1->NU d0):=ae (fun d0 e=>ih d0 (by omega));have N7:Hid (∀d0,d=d0+1->Ie d0):=ae (fun d0 _=>WR d0);have sU:=ae jI.1;have DY:=ae yM;have WU:=ae hr.1;have WV:=ae hel;have Bi:Hid (w.heap.size≠q):=ae (by have:=hcn.lt;omega);obtain ⟨W,hW⟩:∃W,W=(w.setCell ⟨q,0,none⟩ (.int .i64 ((c:Int)+1))).alloc (.cells #[.int .i64 k,.string x,.string y,.int .i64 n,.slice oR es.length cR,.slice oP ps.length cP,.int .i64 a] 27):=⟨_,rfl⟩;have c0:=hcn.cell;have f0:=hcn.iD;have jL:Below (w.setCell ⟨q,0,none⟩ (.int .i64 ((c:Int)+1))).heap.size (w.setCell ⟨q,0,none⟩ (.int .i64 ((c:Int)+1))) W:=by rw [hW];exact bO _ _
  have pM:Hid (But q w W):=ae ((But.set q 0 w _).trans (But.of q jL));have pO:Hid (CN q (c+1) W):=ae ((hcn.set (c+1)).on jL);have pQ:Hid (W.heap[w.heap.size]?=some (.cells #[.int .i64 k,.string x,.string y,.int .i64 n,.slice oR es.length cR,.slice oP ps.length cP,.int .i64 a] 27 (0,0))):=ae (by rw [hW];exact NV w _ _ _);have pR:Hid (c+1<=2049):=ae (by omega);have hwc:=NY hc;have pU:=ae hb0;have HQ:=ae hq;have WS:=hcn.lt;clear hR nR hr hel jI yM hcn hc jL hb0 hq ih;go_enter Tryz.func47,Tryz.ntmps47;go_upto_region 2 with fail;rw [<- hW];clear hW c0 f0 hwc;go_wp2_with fail;go_loopw [4] (fun aa wr=>∃i cc:Nat,aa=.int .i64 i/\i<=es.length/\Hid (dB (fS d) cc (es.drop i)=R1)/\Hid (cc<=2049)/\Hid (But q w wr)/\Hid (CN q cc wr)/\Hid (wr.heap[w.heap.size]?=some (.cells #[.int .i64 k,.string x,.string y,.int .i64 n,.slice oR es.length cR,.slice oP ps.length cP,.int .i64 a] 27 (0,0)))) (fun aa _=>match aa with | .int _ i=>es.length-i.toNat|_=>0)
  case atStart=>exact ⟨0,_,rfl,Nat.zero_le _,ST0,pR,pM,pO,pQ⟩
  case round =>
   obtain ⟨i,cc,rfl,hi,HN,HC,iA,iB,HX⟩:=hrel;clear ST0 pR pM pO pQ;have rF:=af HX.out 4 _ rfl;by_cases hp:i<es.length
   ·have q1:decide ((i:Int)<(es.length:Int))=true:=decide_eq_true (by omega);have gU:=ae (DX q cc wr iB.out);by_cases hf:2048<cc
    ·have HS:Hid (cc=R1):=ae (by rw [<- HN.out,DV hf]);rw [decide_eq_true hf] at gU;clear HN hi hf;go_wp2_with fail;refine Calls.mono (show Calls _ _ _ _ _ from gU.out) ?_;rintro e w3 ⟨rfl,rfl⟩;clear gU;have ST0:Hid (dB (fG d) cc (ps.drop 0)=R):=ae (by rw [HS.out];exact NZ.out);have pR:=HC;have pM:=iA;have pO:=iB;have pQ:=HX;clear HS HC iA iB HX;go_wp2_with fail;clear hp q1 rF;go_loopw [5] (fun aa wr=>∃i cc:Nat,aa=.int .i64 i/\i<=ps.length/\Hid (dB (fG d) cc (ps.drop i)=R)/\Hid (cc<=2049)/\Hid (But q w wr)/\Hid (CN q cc wr)/\Hid (wr.heap[w.heap.size]?=some (.cells #[.int .i64 k,.string x,.string y,.int .i64 n,.slice oR es.length cR,.slice oP ps.length cP,.int .i64 a] 27 (0,0)))) (fun aa _=>match aa with | .int _ i=>ps.length-i.toNat|_=>0)
     case atStart=>exact ⟨0,_,rfl,Nat.zero_le _,ST0,pR,pM,pO,pQ⟩
     case round =>
      obtain ⟨i,cc,rfl,hi,HN,HC,iA,iB,HX⟩:=hrel;clear ST0 pR pM pO pQ;have rF:=af HX.out 5 _ rfl;by_cases hp:i<ps.length
      ·have q1:decide ((i:Int)<(ps.length:Int))=true:=decide_eq_true (by omega);have gU:=ae (DX q cc wr iB.out);by_cases hf:2048<cc
       ·have HS:Hid (cc=R):=ae (by rw [<- HN.out,DV hf]);rw [decide_eq_true hf] at gU;clear HN hi hf;go_wp2_with fail;refine Calls.mono (show Calls _ _ _ _ _ from gU.out) ?_;rintro e w3 ⟨rfl,rfl⟩;clear gU;go_wp2;go_end0;rw [<- HS.out];exact ⟨rfl,iA.out,iB.out⟩
       ·obtain ⟨t1,ht1⟩:∃t1,ps[i]?=some t1:=⟨_,List.getElem?_eq_getElem hp⟩;obtain ⟨b,off,dO,hC⟩:=DY.out i t1 ht1;subst dO;obtain ⟨d0,k1,x1,n1,u1,a1,hd0,g0,g1,g2,g3,g4,hV⟩:=Ic hC;have bf:=ae (iA.out.below pU.out HQ.out pU.out.size);have y0:=ag bf.out g0;have y1:=ag bf.out g1;have y2:=ag bf.out g2;have y3:=ag bf.out g3;have y4:=ag bf.out g4;have hw1:=gV hp sU.out;have HS:Hid (dB (fG d) ((fG d) cc t1) (ps.drop (i+1))=R):=ae (by rw [<- HN.out,DW ht1 hf]);have dI:Hid ((fG d) cc t1<=2049):=ae (Bh _ _ _ (by omega));have bN:=ae (N7.out d0 hd0 w0 wr t1 _ q cc hV bf.out HQ.out iB.out (by omega));have hd1:fG (d0+1)=(fG d):=by rw [<- hd0]
        rw [hd1] at bN;rw [decide_eq_false hf] at gU;clear hd1 hd0 hV g0 g1 g2 g3 g4 bf hC ht1 HN hf HC iB;go_wp2_with fail;refine Calls.mono (show Calls _ _ _ _ _ from gU.out) ?_;rintro e w3 ⟨rfl,rfl⟩;clear gU;go_wp2_with fail;refine Calls.mono (show Calls _ _ _ _ _ from bN.out) ?_;rintro e w3 ⟨rfl,hb3,hc3⟩;have xu:=ae (iA.out.trans hb3);have bR:=ae (hb3.blk HX.out Bi.out);have xw:=ae hc3;clear hb3 hc3 bN HX iA rF y0 y1 y2 y3 y4;go_wp2;go_roundw
        case rel=>exact ⟨i+1,_,by first|rfl|(congr 1),hp,HS,dI,xu,xw,bR⟩
        case measure=>simp;omega
      ·have q1:decide ((i:Int)<(ps.length:Int))=false:=decide_eq_false (by omega);have HS:Hid (cc=R):=ae (by rw [<- HN.out,List.drop_eq_nil_of_le (by omega)];rfl);clear HN hi;go_wp2;go_end0;rw [<- HS.out];exact ⟨rfl,iA.out,iB.out⟩
    ·obtain ⟨t1,ht1⟩:∃t1,es[i]?=some t1:=⟨_,List.getElem?_eq_getElem hp⟩;obtain ⟨b,off,dO,hC⟩:=WV.out i t1 ht1;subst dO;obtain ⟨d0,k1,x1,nZ,n1,u1,z1,a1,hd0,g0,g1,g2,g3,g4,g5,g6,hV⟩:=WQ hC;have bf:=ae (iA.out.below pU.out HQ.out pU.out.size);have y0:=ag bf.out g0;have y1:=ag bf.out g1;have y2:=ag bf.out g2;have y3:=ag bf.out g3;have y4:=ag bf.out g4;have y5:=ag bf.out g5;have y6:=ag bf.out g6;have hw1:=gV hp WU.out;have HS:Hid (dB (fS d) ((fS d) cc t1) (es.drop (i+1))=R1):=ae (by rw [<- HN.out,DW ht1 hf]);have dI:Hid ((fS d) cc t1<=2049):=ae (NT _ _ _ (by omega));have bN:=ae (sS.out d0 hd0 w0 wr t1 _ q cc hV bf.out HQ.out iB.out (by omega));have hd1:fS (d0+1)=(fS d):=by rw [<- hd0]
     rw [hd1] at bN;rw [decide_eq_false hf] at gU;clear hd1 hd0 hV g0 g1 g2 g3 g4 g5 g6 bf hC ht1 HN hf HC iB;go_wp2_with fail;refine Calls.mono (show Calls _ _ _ _ _ from gU.out) ?_;rintro e w3 ⟨rfl,rfl⟩;clear gU;go_wp2_with fail;refine Calls.mono (show Calls _ _ _ _ _ from bN.out) ?_;rintro e w3 ⟨rfl,hb3,hc3⟩;have xu:=ae (iA.out.trans hb3);have bR:=ae (hb3.blk HX.out Bi.out);have xw:=ae hc3;clear hb3 hc3 bN HX iA rF y0 y1 y2 y3 y4 y5 y6;go_wp2;go_roundw
     case rel=>exact ⟨i+1,_,by first|rfl|(congr 1),hp,HS,dI,xu,xw,bR⟩
     case measure=>simp;omega
   ·have q1:decide ((i:Int)<(es.length:Int))=false:=decide_eq_false (by omega);have HS:Hid (cc=R1):=ae (by rw [<- HN.out,List.drop_eq_nil_of_le (by omega)];rfl);clear HN hi;have ST0:Hid (dB (fG d) cc (ps.drop 0)=R):=ae (by rw [HS.out];exact NZ.out);have pR:=HC;have pM:=iA;have pO:=iB;have pQ:=HX;clear HS HC iA iB HX;go_wp2_with fail;clear hp q1 rF;go_loopw [5] (fun aa wr=>∃i cc:Nat,aa=.int .i64 i/\i<=ps.length/\Hid (dB (fG d) cc (ps.drop i)=R)/\Hid (cc<=2049)/\Hid (But q w wr)/\Hid (CN q cc wr)/\Hid (wr.heap[w.heap.size]?=some (.cells #[.int .i64 k,.string x,.string y,.int .i64 n,.slice oR es.length cR,.slice oP ps.length cP,.int .i64 a] 27 (0,0)))) (fun aa _=>match aa with | .int _ i=>ps.length-i.toNat|_=>0)
    case atStart=>exact ⟨0,_,rfl,Nat.zero_le _,ST0,pR,pM,pO,pQ⟩
    case round =>
     obtain ⟨i,cc,rfl,hi,HN,HC,iA,iB,HX⟩:=hrel;clear ST0 pR pM pO pQ;have rF:=af HX.out 5 _ rfl;by_cases hp:i<ps.length
     ·have q1:decide ((i:Int)<(ps.length:Int))=true:=decide_eq_true (by omega);have gU:=ae (DX q cc wr iB.out);by_cases hf:2048<cc
      ·have HS:Hid (cc=R):=ae (by rw [<- HN.out,DV hf]);rw [decide_eq_true hf] at gU;clear HN hi hf;go_wp2_with fail;refine Calls.mono (show Calls _ _ _ _ _ from gU.out) ?_;rintro e w3 ⟨rfl,rfl⟩;clear gU;go_wp2;go_end0;rw [<- HS.out];exact ⟨rfl,iA.out,iB.out⟩
      ·obtain ⟨t1,ht1⟩:∃t1,ps[i]?=some t1:=⟨_,List.getElem?_eq_getElem hp⟩;obtain ⟨b,off,dO,hC⟩:=DY.out i t1 ht1;subst dO;obtain ⟨d0,k1,x1,n1,u1,a1,hd0,g0,g1,g2,g3,g4,hV⟩:=Ic hC;have bf:=ae (iA.out.below pU.out HQ.out pU.out.size);have y0:=ag bf.out g0;have y1:=ag bf.out g1;have y2:=ag bf.out g2;have y3:=ag bf.out g3;have y4:=ag bf.out g4;have hw1:=gV hp sU.out;have HS:Hid (dB (fG d) ((fG d) cc t1) (ps.drop (i+1))=R):=ae (by rw [<- HN.out,DW ht1 hf]);have dI:Hid ((fG d) cc t1<=2049):=ae (Bh _ _ _ (by omega));have bN:=ae (N7.out d0 hd0 w0 wr t1 _ q cc hV bf.out HQ.out iB.out (by omega));have hd1:fG (d0+1)=(fG d):=by rw [<- hd0]
       rw [hd1] at bN;rw [decide_eq_false hf] at gU;clear hd1 hd0 hV g0 g1 g2 g3 g4 bf hC ht1 HN hf HC iB;go_wp2_with fail;refine Calls.mono (show Calls _ _ _ _ _ from gU.out) ?_;rintro e w3 ⟨rfl,rfl⟩;clear gU;go_wp2_with fail;refine Calls.mono (show Calls _ _ _ _ _ from bN.out) ?_;rintro e w3 ⟨rfl,hb3,hc3⟩;have xu:=ae (iA.out.trans hb3);have bR:=ae (hb3.blk HX.out Bi.out);have xw:=ae hc3;clear hb3 hc3 bN HX iA rF y0 y1 y2 y3 y4;go_wp2;go_roundw
       case rel=>exact ⟨i+1,_,by first|rfl|(congr 1),hp,HS,dI,xu,xw,bR⟩
       case measure=>simp;omega
     ·have q1:decide ((i:Int)<(ps.length:Int))=false:=decide_eq_false (by omega);have HS:Hid (cc=R):=ae (by rw [<- HN.out,List.drop_eq_nil_of_le (by omega)];rfl);clear HN hi;go_wp2;go_end0;rw [<- HS.out];exact ⟨rfl,iA.out,iB.out⟩
theorem N8 (d:Nat) (e u vu vz:Value) (k n a:Int) (x y:ByteArray) (w:World) (h:iY 0 d w e (.agg #[.int .i64 k,.string x,.string y,.int .i64 n,vu,vz,.int .i64 a])):Calls Tryz.prog 17 #[.agg #[u,.int .i64 k,.string x,.string y,.int .i64 n,vu,vz,.int .i64 a]] w fun r w'=>r=.returned (.int .i64 (fS (d+1) 0 e:Nat))/\Below w.heap.size w w':=by
 obtain ⟨W,hW⟩:∃W,W=(w.alloc (.cells #[u,.int .i64 k,.string x,.string y,.int .i64 n,vu,vz,.int .i64 a] 29)).alloc (.cells #[.int .i64 0] 81):=⟨_,rfl⟩;have jL:Below w.heap.size w (w.alloc (.cells #[u,.int .i64 k,.string x,.string y,.int .i64 n,vu,vz,.int .i64 a] 29)):=bO w _;have Ig:Below (w.alloc (.cells #[u,.int .i64 k,.string x,.string y,.int .i64 n,vu,vz,.int .i64 a] 29)).heap.size (w.alloc (.cells #[u,.int .i64 k,.string x,.string y,.int .i64 n,vu,vz,.int .i64 a] 29)) W:=by rw [hW];exact bO _ _
 have hbW:=au jL Ig;have HX:Hid (W.heap[w.heap.size]?=some (.cells #[u,.int .i64 k,.string x,.string y,.int .i64 n,vu,vz,.int .i64 a] 29 (0,0))):=ae (by rw [Ig.block _ (by simp)];exact heap_alloc_new w _);have hcn:CN (w.heap.size+1) 0 W:=⟨by rw [hW];have h:=heap_alloc_new (w.alloc (.cells #[u,.int .i64 k,.string x,.string y,.int .i64 n,vu,vz,.int .i64 a] 29)) (.cells #[.int .i64 0] 81);simpa using h⟩;have HC:=ae (WT d w W e _ (w.heap.size+1) 0 h hbW (by omega) hcn (by omega));have bf:=ae hbW;generalize fS (d+1) 0 e=R at *;have c1:=af HX.out 1 _ rfl;have c2:=af HX.out 2 _ rfl;have c3:=af HX.out 3 _ rfl;have c4:=af HX.out 4 _ rfl;have c5:=af HX.out 5 _ rfl;have c6:=af HX.out 6 _ rfl;have c7:=af HX.out 7 _ rfl;clear h jL Ig hbW hcn;go_enter Tryz.func17,Tryz.ntmps17;go_upto_region 2 with fail;rw [<- hW];clear hW;go_wp2_with fail;refine Calls.mono (show Calls _ _ _ _ _ from HC.out) ?_;rintro e w3 ⟨rfl,hb3,hc3⟩;have aT:=ae (hb3.below bf.out (Nat.le_succ _) bf.out.size);have cc:=hc3.cell;clear hb3 hc3 HC c1 c2 c3 c4 c5 c6 c7 HX;go_wp2;go_ret;exact ⟨rfl,aT.out⟩
namespace Pz
def jb (d:Nat) (ds:List Value) (e:Value):Bool:=decide (32<ds.length) || (decide (2048<fS (d+1) 0 e) || (ds.any Am || kW (d+1) e))
end Pz
theorem Qg (d:Nat) (ds:List Value) (e u vu vz:Value) (k n a:Int) (x y:ByteArray) (w:World) (hD:lK 0 u ds w) (hM:iY 0 d w e (.agg #[.int .i64 k,.string x,.string y,.int .i64 n,vu,vz,.int .i64 a])):Calls Tryz.prog 25 #[.agg #[u,.int .i64 k,.string x,.string y,.int .i64 n,vu,vz,.int .i64 a]] w fun r w'=>r=.returned (.bool (jb d ds e))/\Below w.heap.size w w':=by
 obtain ⟨oD,cD,rfl,_⟩:=bP hD;obtain ⟨R,hR⟩:∃R,R=jb d ds e:=⟨_,rfl⟩;rw [<- hR];unfold jb at hR;obtain ⟨W,hW⟩:∃W,W=w.alloc (.cells #[.slice oD ds.length cD,.int .i64 k,.string x,.string y,.int .i64 n,vu,vz,.int .i64 a] 29):=⟨_,rfl⟩;have jL:Below w.heap.size w W:=by rw [hW];exact bO w _
 have HX:Hid (W.heap[w.heap.size]?=some (.cells #[.slice oD ds.length cD,.int .i64 k,.string x,.string y,.int .i64 n,vu,vz,.int .i64 a] 29 (0,0))):=ae (by rw [hW];exact heap_alloc_new w _);have HS:=ae (N8 d e (.slice oD ds.length cD) vu vz k n a x y W (hM.but (fun kk _ hl=>jL.block kk hl)));have HD:=ae (fun w' (hb:Below w.heap.size w w')=>Y7 Am ds (.slice oD ds.length cD) w' (lK.on (C:=0) (B:=0) hD (fun kk _ hl=>hb.block kk hl) (Nat.le_refl _)) (fun t v w' _ ht _=>UJ t v w' ht));have HE:=ae (fun w' (hb:Below w.heap.size w w')=>UM d e _ w' (hM.but (fun kk _ hl=>hb.block kk hl)));have HB:=ae jL;have e1:=oZ (n:=ds.length) (m:=32);have e2:=NW (c:=fS (d+1) 0 e);rw [<- e1,<- e2] at hR;have HR:=ae hR;generalize fS (d+1) 0 e=Cn at *;generalize kW (d+1) e=Me at *;generalize ds.any Am=Md at *;have c0:=af HX.out 0 _ rfl;have c1:=af HX.out 1 _ rfl;have c2:=af HX.out 2 _ rfl;have c3:=af HX.out 3 _ rfl;have c4:=af HX.out 4 _ rfl;have c5:=af HX.out 5 _ rfl;have c6:=af HX.out 6 _ rfl;have c7:=af HX.out 7 _ rfl;clear hD hM hR jL e1 e2;cases h1:decide ((ds.length:Int) > ((32:Nat):Int)) with
 | true =>
  have h1':decide ((ds.length:Int) > 32)=true:=h1;have HQ:Hid (true=R):=ae (by rw [HR.out,h1];rfl);clear h1 HR HS HD HE;go_enter Tryz.func25,Tryz.ntmps25;go_upto_region 1 with fail;rw [<- hW];clear hW;go_wp2;go_ret;exact ⟨aC HQ.out,HB.out⟩
 | false =>
  have h1':decide ((ds.length:Int) > 32)=false:=h1;have iR:=HR.out;rw [h1,Bool.false_or] at iR;have HR2:=ae iR;clear h1 HR iR;go_enter Tryz.func25,Tryz.ntmps25;go_upto_region 1 with fail;rw [<- hW];clear hW;go_wp2_with fail;refine Calls.mono (show Calls _ _ _ _ _ from HS.out) ?_;rintro e w1 ⟨rfl,hb1⟩;have HB1:=ae (au HB.out hb1);have bz:Hid (w1.heap[w.heap.size]?=some (.cells #[.slice oD ds.length cD,.int .i64 k,.string x,.string y,.int .i64 n,vu,vz,.int .i64 a] 29 (0,0))):=ae ((hb1.block _ (Array.getElem?_eq_some_iff.1 HX.out).1).trans HX.out);have Jg:=ae (HD.out w1 HB1.out);clear hb1 HS HD HB HX c0 c1 c2 c3 c4 c5 c6 c7;have c0:=af bz.out 0 _ rfl;cases h2:decide ((Cn:Int) > 2048) with
  | true =>
   have HQ:Hid (true=R):=ae (by rw [HR2.out,h2];rfl);clear HR2 Jg HE;go_wp2;go_ret;exact ⟨aC HQ.out,HB1.out⟩
  | false =>
   have zm:=HR2.out;rw [h2,Bool.false_or] at zm;have HR3:=ae zm;clear HR2 zm;go_wp2_with fail;refine Calls.mono (show Calls _ _ _ _ _ from Jg.out) ?_;rintro e w2 ⟨rfl,hb2⟩;have HB2:=ae (au HB1.out hb2);have ba:Hid (w2.heap[w.heap.size]?=some (.cells #[.slice oD ds.length cD,.int .i64 k,.string x,.string y,.int .i64 n,vu,vz,.int .i64 a] 29 (0,0))):=ae ((hb2.block _ (Array.getElem?_eq_some_iff.1 bz.out).1).trans bz.out);have xc:=ae (HE.out w2 HB2.out);clear hb2 Jg HE HB1 bz c0;have c1:=af ba.out 1 _ rfl;have c2:=af ba.out 2 _ rfl;have c3:=af ba.out 3 _ rfl;have c4:=af ba.out 4 _ rfl;have c5:=af ba.out 5 _ rfl;have c6:=af ba.out 6 _ rfl;have c7:=af ba.out 7 _ rfl;cases Md with
   | true =>
    have HQ:Hid (true=R):=ae (by rw [HR3.out];rfl);clear HR3 xc;go_wp2;go_ret;exact ⟨aC HQ.out,HB2.out⟩
   | false =>
    have HQ:Hid (Me=R):=ae (by rw [HR3.out];rfl);clear HR3;go_wp2_with fail;refine Calls.mono (show Calls _ _ _ _ _ from xc.out) ?_;rintro e w3 ⟨rfl,hb3⟩;have aT:=ae (au HB2.out hb3);clear hb3 xc c1 c2 c3 c4 c5 c6 c7;go_wp2;go_ret;exact ⟨aC HQ.out,aT.out⟩
namespace Pz
def NM (t:Value):Prop:=∃k x y n es ps a,t=nd k x y n es ps a
def fit:Nat->Value->Prop
 | 0,t=>NM t/\dc t = []/\gm t = []
 | d+1,t=>NM t/\(∀x ∈ dc t,fit d x)/\(∀x ∈ gm t,fit d x)
theorem DL:∀(d:Nat) (t:Value),fit d t->fit (d+1) t
 | 0,t,h=>⟨h.1,fun x hx=>(by rw [h.2.1] at hx;cases hx),fun x hx=>(by rw [h.2.2] at hx;cases hx)⟩
 | d+1,t,h=>⟨h.1,fun x hx=>DL d x (h.2.1 x hx),fun x hx=>DL d x (h.2.2 x hx)⟩
theorem Ib {d e:Nat} (h:d<=e) {t:Value} (hf:fit d t):fit e t:=by
 induction h with
 | refl=>exact hf
 | step _ ih=>exact DL _ _ ih
theorem DT {α:Type} {f g:α->Bool}:∀ {l:List α},(∀x ∈ l,f x=g x)->l.any f=l.any g
 | [],_=>rfl
 | x :: l,h=>by rw [List.any_cons,List.any_cons,h x (List.Mem.head _),DT (fun y hy=>h y (List.Mem.tail _ hy))]
theorem DU {f g:Nat->Value->Nat}:∀ {l:List Value} (c:Nat),(∀x ∈ l,∀c,f c x=g c x)->dB f c l=dB g c l
 | [],_,_=>rfl
 | x :: l,c,h=>by
  unfold dB;rw [h x (List.Mem.head _) c,DU _ (fun y hy=>h y (List.Mem.tail _ hy))]
theorem NN:∀(d:Nat) (t:Value),fit d t->kF (d+2) t=kF (d+1) t
 | 0,t,h=>by show (_ || (dc t).any _)=(_ || (dc t).any _);rw [h.2.1];rfl
 | d+1,t,h=>by show (_ || (dc t).any _)=(_ || (dc t).any _);rw [DT (fun x hx=>NN d x (h.2.1 x hx))]
theorem NP:∀(d:Nat) (t:Value),fit d t->kW (d+2) t=kW (d+1) t
 | 0,t,h=>by show (_ || ((dc t).any _ || (gm t).any _))=(_ || ((dc t).any _ || (gm t).any _));rw [h.2.1,h.2.2];rfl
 | d+1,t,h=>by show (_ || ((dc t).any _ || (gm t).any _))=(_ || ((dc t).any _ || (gm t).any _));rw [DT (fun x hx=>NP d x (h.2.1 x hx)),DT (fun x hx=>NN d x (h.2.2 x hx))]
theorem WN {d e:Nat} (h:d<=e) {t:Value} (hf:fit d t):kW (e+1) t=kW (d+1) t:=by
 induction h with
 | refl=>rfl
 | step hm ih=>rw [NP _ t (Ib hm hf)];exact ih
theorem NQ:∀(d:Nat) (t:Value),fit d t->∀c,fG (d+2) c t=fG (d+1) c t
 | 0,t,h,c=>by show dB _ _ (dc t)=dB _ _ (dc t);rw [h.2.1];rfl
 | d+1,t,h,c=>by show dB _ _ (dc t)=dB _ _ (dc t);rw [DU _ (fun x hx=>NQ d x (h.2.1 x hx))]
theorem NR:∀(d:Nat) (t:Value),fit d t->∀c,fS (d+2) c t=fS (d+1) c t
 | 0,t,h,c=>by show dB _ (dB _ _ (dc t)) (gm t)=dB _ (dB _ _ (dc t)) (gm t);rw [h.2.1,h.2.2];rfl
 | d+1,t,h,c=>by show dB _ (dB _ _ (dc t)) (gm t)=dB _ (dB _ _ (dc t)) (gm t);rw [DU (l:=dc t) _ (fun x hx=>NR d x (h.2.1 x hx)),DU (l:=gm t) _ (fun x hx=>NQ d x (h.2.2 x hx))]
theorem WO {d e:Nat} (h:d<=e) {t:Value} (hf:fit d t) (c:Nat):fS (e+1) c t=fS (d+1) c t:=by
 induction h with
 | refl=>rfl
 | step hm ih=>rw [NR _ t (Ib hm hf)];exact ih
theorem NS {d e:Nat} (h:d<=e) {t:Value} (hf:fit d t) (ds:List Value):jb e ds t=jb d ds t:=by
 unfold jb;rw [WN h hf,WO h hf]
theorem NK {d e:Nat} {t:Value} (hd:fit d t) (he:fit e t) (ds:List Value):jb e ds t=jb d ds t:=by
 rcases Nat.le_total d e with h|h
 ·exact NS h hd ds
 ·exact (NS h he ds).symm
theorem nu {α:Type} {sz:Nat} {f:Nat->Nat->α->Prop} {v:Value} {l:List α} (h:Row sz f v l) {x:α} (hx:x ∈ l):∃b o,f b o x:=by
 obtain ⟨o,c,_,hc⟩:=bP h;obtain ⟨i,hi⟩:=List.getElem?_of_mem hx;obtain ⟨b,off,_,hf⟩:=hc i x hi;exact ⟨b,_,hf⟩
theorem sK {α:Type} {sz:Nat} {v:Value} {l:List α} (h:Row sz (fun _ _ _=>False) v l):l = []:=by
 cases l with
 | nil=>rfl
 | cons x l=>obtain ⟨_,_,hf⟩:=nu h (List.Mem.head _);exact False.elim hf
section
variable {p:Nat} {w:World}
theorem cf.fit:∀(d b o:Nat) (t:Value),cf p w (d+1) b o t->fit d t
 | 0,b,o,t,⟨hp,k,x,n,es,a,v,h0,h1,h2,h3,h4,h5,h6⟩=>by
  subst h0;exact ⟨⟨_,_,_,_,_,_,_,rfl⟩,sK (h6.imp fun _ _ _ _ hf=>hf),rfl⟩
 | d+1,b,o,t,⟨hp,k,x,n,es,a,v,h0,h1,h2,h3,h4,h5,h6⟩=>by
  subst h0;refine ⟨⟨_,_,_,_,_,_,_,rfl⟩,fun y hy=>?_,fun y hy=>by cases hy⟩;obtain ⟨b',o',hf⟩:=nu h6 hy;exact cf.fit d b' o' y hf
theorem dN.fit:∀(d b o:Nat) (t:Value),dN p w (d+1) b o t->fit d t
 | 0,b,o,t,⟨hp,k,x,n,es,v,h0,h1,h2,h3,h4,h6⟩=>by
  subst h0;exact ⟨⟨_,_,_,_,_,_,_,rfl⟩,sK (h6.imp fun _ _ _ _ hf=>hf),rfl⟩
 | d+1,b,o,t,⟨hp,k,x,n,es,v,h0,h1,h2,h3,h4,h6⟩=>by
  subst h0;refine ⟨⟨_,_,_,_,_,_,_,rfl⟩,fun y hy=>?_,fun y hy=>by cases hy⟩;obtain ⟨b',o',hf⟩:=nu h6 hy;exact dN.fit d b' o' y hf
theorem dm.fit:∀(d b o:Nat) (t:Value),dm p w (d+1) b o t->fit d t
 | 0,b,o,t,⟨hp,k,x,y,n,es,ps,a,v,u,h0,h1,h2,h3,h4,h5,h6,h7,h8,h9⟩=>by
  subst h0;exact ⟨⟨_,_,_,_,_,_,_,rfl⟩,sK (h8.imp fun _ _ _ _ hf=>hf),sK (h9.imp fun _ _ _ _ hf=>hf)⟩
 | d+1,b,o,t,⟨hp,k,x,y,n,es,ps,a,v,u,h0,h1,h2,h3,h4,h5,h6,h7,h8,h9⟩=>by
  subst h0;refine ⟨⟨_,_,_,_,_,_,_,rfl⟩,fun z hz=>?_,fun z hz=>?_⟩
  ·obtain ⟨b',o',hf⟩:=nu h8 hz;exact dm.fit d b' o' z hf
  ·obtain ⟨b',o',hf⟩:=nu h9 hz;exact cf.fit d b' o' z hf
theorem iY.fit {d:Nat} {t v:Value} (h:iY p d w t v):fit d t:=by
 obtain ⟨k,x,y,n,es,ps,a,u,z,rfl,_,h1,h2⟩:=h;cases d with
 | zero=>exact ⟨⟨_,_,_,_,_,_,_,rfl⟩,sK (h1.imp fun _ _ _ _ hf=>hf),sK (h2.imp fun _ _ _ _ hf=>hf)⟩
 | succ d =>
  refine ⟨⟨_,_,_,_,_,_,_,rfl⟩,fun z hz=>?_,fun z hz=>?_⟩
  ·obtain ⟨b',o',hf⟩:=nu h1 hz;exact dm.fit d b' o' z hf
  ·obtain ⟨b',o',hf⟩:=nu h2 hz;exact cf.fit d b' o' z hf
theorem jU.fit {d:Nat} {t v:Value} (h:jU p d w t v):fit d t:=by
 obtain ⟨k,x,n,es,a,u,rfl,_,h1⟩:=h;cases d with
 | zero=>exact ⟨⟨_,_,_,_,_,_,_,rfl⟩,sK (h1.imp fun _ _ _ _ hf=>hf),rfl⟩
 | succ d =>
  refine ⟨⟨_,_,_,_,_,_,_,rfl⟩,fun z hz=>?_,fun z hz=>by cases hz⟩;obtain ⟨b',o',hf⟩:=nu h1 hz;exact cf.fit d b' o' z hf
theorem nY.fit {d:Nat} {t v:Value} (h:nY p d w t v):fit d t:=by
 obtain ⟨k,x,n,es,u,rfl,_,h1⟩:=h;cases d with
 | zero=>exact ⟨⟨_,_,_,_,_,_,_,rfl⟩,sK (h1.imp fun _ _ _ _ hf=>hf),rfl⟩
 | succ d =>
  refine ⟨⟨_,_,_,_,_,_,_,rfl⟩,fun z hz=>?_,fun z hz=>by cases hz⟩;obtain ⟨b',o',hf⟩:=nu h1 hz;exact dN.fit d b' o' z hf
end
end Pz
end Go.Proofs.YtpaefhceiliaiaaGreatDoor
