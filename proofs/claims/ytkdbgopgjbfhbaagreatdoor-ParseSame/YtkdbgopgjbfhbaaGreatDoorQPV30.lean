/- Texts that the claim needs. -/
import Derived.Test.YtkdbgopgjbfhbaaGreatDoorQPV29
namespace Go.Proofs.YtkdbgopgjbfhbaaGreatDoor
open Go.RowKit Lx Pz bw
set_option linter.unusedVariables false
set_option maxRecDepth 100000
set_option maxHeartbeats 16000000
namespace Pz
def few:Nat->Value->Prop
 | 0,t=>E9 t/\dD t = []/\gD t = []
 | d+1,t=>E9 t/\(dD t).length<=200010/\(gD t).length<=200010/\(∀x ∈ dD t,few d x)/\(∀x ∈ gD t,few d x)
def Fw (d i:Nat) (es:List Value):Prop:=∀j x,j<i->es[j]?=some x->∃d0,d=d0+1/\few d0 x
theorem Fw.zero (d:Nat) (es:List Value):Fw d 0 es:=fun j x hj=>absurd hj (Nat.not_lt_zero j)
theorem Fw.step {d i:Nat} {es:List Value} {x:Value} (h:Fw d i es) (hx:es[i]?=some x) {d0:Nat} (hd:d=d0+1) (hf:few d0 x):Fw d (i+1) es:=fun j y hj hy=>by
 by_cases hji:j<i
 ·exact h j y hji hy
 ·obtain rfl:j=i:=by omega
  rw [hx] at hy;injection hy with hy;subst hy;exact ⟨d0,hd,hf⟩
theorem Fa {d:Nat} {k:Int} {x y:ByteArray} {n:Int} {es ps:List Value} {a:Int} (h1:es.length<=200010) (h2:ps.length<=200010) (h3:Fw d es.length es) (h4:Fw d ps.length ps):few d (nd k x y n es ps a):=by
 have key:∀(l:List Value),Fw d l.length l->∀z ∈ l,∃d0,d=d0+1/\few d0 z:=fun l h z hz=>by
  obtain ⟨j,hj⟩:=List.getElem?_of_mem hz;exact h j z (List.getElem?_eq_some_iff.1 hj).1 hj
 cases d with
 | zero =>
  refine ⟨⟨_,_,_,_,_,_,_,rfl⟩,?_,?_⟩
  ·show es = [];cases es with
   | nil=>rfl
   | cons z l=>obtain ⟨d0,h,_⟩:=key _ h3 z (List.Mem.head _);omega
  ·show ps = [];cases ps with
   | nil=>rfl
   | cons z l=>obtain ⟨d0,h,_⟩:=key _ h4 z (List.Mem.head _);omega
 | succ d =>
  refine ⟨⟨_,_,_,_,_,_,_,rfl⟩,h1,h2,fun z hz=>?_,fun z hz=>?_⟩
  ·obtain ⟨d0,h,hf⟩:=key _ h3 z hz;obtain rfl:d=d0:=by omega
   exact hf
  ·obtain ⟨d0,h,hf⟩:=key _ h4 z hz;obtain rfl:d=d0:=by omega
   exact hf
theorem Fw.nil (d i:Nat):Fw d i []:=fun j x _ hx=>by simp at hx
theorem Fw.all {d i:Nat} {es:List Value} (h:Fw d i es) (hi:es.length<=i):Fw d es.length es:=fun j x hj hx=>h j x (by omega) hx
theorem Oe {d b o:Nat} {w:World} {t:Value} (h:dw 0 w d b o t):∃d0 k x n u,d=d0+1/\w.cell? ⟨b,o,none⟩=some (.int .i64 k)/\w.cell? ⟨b,o+1,none⟩=some (.string x)/\w.cell? ⟨b,o+2,none⟩=some (.int .i64 n)/\w.cell? ⟨b,o+3,none⟩=some u/\nP 0 d0 w t (.agg #[.int .i64 k,.string x,.int .i64 n,u]):=by
 cases d with
 | zero=>exact h.elim
 | succ d =>
  obtain ⟨hp,k,x,n,es,v,h0,h1,h2,h3,h4,h5⟩:=h;exact ⟨d,k,x,n,v,rfl,h1,h2,h3,h4,k,x,n,es,v,h0,rfl,h5⟩
def Og (d:Nat):Prop:=∀(w:World) (t v:Value) (deep:Nat) (n:Int),nP 0 d w t v->deep<=601->0<=n->n<=20000 ->
  Calls Tryz.prog 79 #[v,.int .i64 deep,.int .i64 n] w fun e w'=>∃r:Int,e=.returned (.int .i64 r)/\Below w.heap.size w w'/\-1<=r/\r<=20000/\(0<=r->few d t)
def Jc (d:Nat):Prop:=∀(w:World) (t v:Value) (deep:Nat) (n:Int),kI 0 d w t v->deep<=601->0<=n->n<=20000 ->
  Calls Tryz.prog 139 #[v,.int .i64 deep,.int .i64 n] w fun e w'=>∃r:Int,e=.returned (.int .i64 r)/\Below w.heap.size w w'/\-1<=r/\r<=20000/\(0<=r->few d t)
def Oh (d:Nat):Prop:=∀(w:World) (t v:Value) (deep:Nat) (n:Int),iU 0 d w t v->deep<=601->0<=n->n<=20000 ->
  Calls Tryz.prog 80 #[v,.int .i64 deep,.int .i64 n] w fun e w'=>∃r:Int,e=.returned (.int .i64 r)/\Below w.heap.size w w'/\-1<=r/\r<=20000/\(0<=r->few d t)
theorem Oi {n c2:Int} {l:Nat} (h:c2=n+(1+(l:Int) / 10)) (h0:0<=n) (h2:¬ 20000<c2):l<=200010:=by omega
theorem WB {n c2:Int} {l m:Nat} (h:c2=n+(1+(l:Int) / 10+(m:Int) / 10)) (h0:0<=n) (h2:¬ 20000<c2):l<=200010/\m<=200010:=by omega
end Pz
theorem WC:∀d:Nat,Og d:=by
 intro d
 induction d using Nat.strongRecOn with
 | _ d ih =>
  intro w t v deep n h hd hn0 Oj;obtain ⟨k,x,nn,es,u,rfl,rfl,hr⟩:=h;obtain ⟨oR,cR,rfl,hel⟩:=bz hr;have hlen:=hr.1;have HL:=ae hr.1;have dB:=ae hel;have fT:Hid (∀d0,d=d0+1->Og d0):=ae (fun d0 e=>ih d0 (by omega));obtain ⟨W,hW⟩:∃W,W=w.alloc (.cells #[.int .i64 k,.string x,.int .i64 nn,.slice oR es.length cR] 79):=⟨_,rfl⟩;have iX:Hid (Below w.heap.size w W):=ae (by rw [hW];exact bN _ _);have jQ:Hid (W.heap[w.heap.size]?=some (.cells #[.int .i64 k,.string x,.int .i64 nn,.slice oR es.length cR] 79 (0,0))):=ae (by rw [hW];exact heap_alloc_new w _);have c3:=af jQ.out 3 _ rfl;obtain ⟨c2,hc2⟩:∃c2:Int,c2=n+(1+(es.length:Int) / 10):=⟨_,rfl⟩;have cG:=ae hc2;have hc0:0<=c2:=by omega
  clear hr hel ih;by_cases hbig:20000<c2
  ·have q0:decide (c2 > 20000)=true:=decide_eq_true hbig;clear HL dB fT hc2;go_enter Tryz.func79,Tryz.ntmps79;go_upto_region 1 with fail;rw [<- hW];clear hW;go_upto_region 2 with fail;rw [<- cG.out];go_wp2;go_ret;exact ⟨-1,rfl,iX.out,by omega,by omega,fun h=>absurd h (by omega)⟩
  have q0:decide (c2 > 20000)=false:=decide_eq_false hbig;by_cases hdp:600<deep
  ·have q9:decide ((deep:Int) > 600)=true:=decide_eq_true (by omega);clear HL dB fT hc2;go_enter Tryz.func79,Tryz.ntmps79;go_upto_region 1 with fail;rw [<- hW];clear hW;go_upto_region 2 with fail;rw [<- cG.out];go_wp2;go_ret;exact ⟨-1,rfl,iX.out,by omega,by omega,fun h=>absurd h (by omega)⟩
  have q9:decide ((deep:Int) > 600)=false:=decide_eq_false (by omega);have hle:=Oi hc2 hn0 hbig;clear hc2;go_enter Tryz.func79,Tryz.ntmps79;go_upto_region 1 with fail;rw [<- hW];clear hW;go_upto_region 2 with fail;rw [<- cG.out];clear cG;have hcc:c2<=20000:=by omega
  clear hlen;go_wp2_with fail;go_loopw [2,7] (fun uu aa wr=>∃(i:Nat) (c:Int),aa=.int .i64 i/\uu=.int .i64 c/\i<=es.length/\-1<=c/\c<=20000/\Hid (0<=c->Fw d i es)/\Hid (Below w.heap.size w wr)/\Hid (wr.heap[w.heap.size]?=some (.cells #[.int .i64 k,.string x,.int .i64 nn,.slice oR es.length cR] 79 (0,0)))) (fun _ aa _=>match aa with | .int _ i=>es.length-i.toNat|_=>0)
  case atStart=>exact ⟨0,c2,rfl,rfl,Nat.zero_le _,by omega,hcc,ae (fun _=>Fw.zero _ _),iX,jQ⟩
  case round =>
   obtain ⟨i,c,rfl,rfl,hi,hc1,hc2,HN,aT,HX⟩:=hrel;clear jQ iX;have rF:=af HX.out 3 _ rfl;by_cases hp:i<es.length
   ·have q1:decide ((i:Int)<(es.length:Int))=true:=decide_eq_true (by omega);by_cases hc:0<=c
    ·have q2:decide (c>=0)=true:=decide_eq_true hc;obtain ⟨t1,ht1⟩:∃t1,es[i]?=some t1:=⟨_,List.getElem?_eq_getElem hp⟩;obtain ⟨b,off,dh,hC⟩:=dB.out i t1 ht1;subst dh;obtain ⟨d0,k1,x1,n1,u1,hd0,g0,g1,g2,g3,hV⟩:=Oe hC;have y0:=ag aT.out g0;have y1:=ag aT.out g1;have y2:=ag aT.out g2;have y3:=ag aT.out g3;have hw1:=fO hp HL.out;have bP:=ae (fT.out d0 hd0 wr t1 _ (deep+1) c (hV.but (bF.of aT.out)) (by omega) hc hc2);rw [show ((deep+1:Nat):Int)=(deep:Int)+1 by omega] at bP;have HST:=ae (fun (r:Int) (hf:few d0 t1)=>(HN.out hc).step ht1 hd0 hf);clear hd0 hV g0 g1 g2 g3 hC ht1 HN;go_wp2_with fail;refine Calls.mono (show Calls _ _ _ _ _ from bP.out) ?_;rintro e w3 ⟨r,rfl,hb3,hr1,hr2,hr3⟩;have aD:=ae (ax aT.out hb3);have bZ:=ae ((hb3.block _ (Array.getElem?_eq_some_iff.1 HX.out).1).trans HX.out);have rG:=ae (fun (h:0<=r)=>HST.out r (hr3 h));clear hb3 hr3 bP HX aT rF HST y0 y1 y2 y3;go_wp2;go_roundw
     case rel=>exact ⟨i+1,r,by first|rfl|(congr 1),rfl,hp,hr1,hr2,rG,aD,bZ⟩
     case measure=>simp;omega
    ·have q2:decide (c>=0)=false:=decide_eq_false hc;clear HN hi;go_wp2;go_ret;exact ⟨c,rfl,aT.out,hc1,hc2,fun h=>absurd h (by omega)⟩
   ·have q1:decide ((i:Int)<(es.length:Int))=false:=decide_eq_false (by omega);have HD:=ae (fun (h:0<=c)=>(HN.out h).all (by omega));clear HN hi;go_wp2;go_ret;exact ⟨c,rfl,aT.out,hc1,hc2,fun h=>Fa hle (by simp) (HD.out h) (Fw.nil _ _)⟩
theorem WE:∀d:Nat,Jc d:=by
 intro d
 induction d using Nat.strongRecOn with
 | _ d ih =>
  intro w t v deep n h hd hn0 Oj;obtain ⟨k,x,nn,es,a,u,rfl,rfl,hr⟩:=h;obtain ⟨oR,cR,rfl,hel⟩:=bz hr;have hlen:=hr.1;have HL:=ae hr.1;have dB:=ae hel;have fT:Hid (∀d0,d=d0+1->Jc d0):=ae (fun d0 e=>ih d0 (by omega));obtain ⟨W,hW⟩:∃W,W=w.alloc (.cells #[.int .i64 k,.string x,.int .i64 nn,.slice oR es.length cR,.int .i64 a] 101):=⟨_,rfl⟩;have iX:Hid (Below w.heap.size w W):=ae (by rw [hW];exact bN _ _);have jQ:Hid (W.heap[w.heap.size]?=some (.cells #[.int .i64 k,.string x,.int .i64 nn,.slice oR es.length cR,.int .i64 a] 101 (0,0))):=ae (by rw [hW];exact heap_alloc_new w _);have c3:=af jQ.out 3 _ rfl;obtain ⟨c2,hc2⟩:∃c2:Int,c2=n+(1+(es.length:Int) / 10):=⟨_,rfl⟩;have cG:=ae hc2;have hc0:0<=c2:=by omega
  clear hr hel ih;by_cases hbig:20000<c2
  ·have q0:decide (c2 > 20000)=true:=decide_eq_true hbig;clear HL dB fT hc2;go_enter Tryz.func139,Tryz.ntmps139;go_upto_region 1 with fail;rw [<- hW];clear hW;go_upto_region 2 with fail;rw [<- cG.out];go_wp2;go_ret;exact ⟨-1,rfl,iX.out,by omega,by omega,fun h=>absurd h (by omega)⟩
  have q0:decide (c2 > 20000)=false:=decide_eq_false hbig;by_cases hdp:600<deep
  ·have q9:decide ((deep:Int) > 600)=true:=decide_eq_true (by omega);clear HL dB fT hc2;go_enter Tryz.func139,Tryz.ntmps139;go_upto_region 1 with fail;rw [<- hW];clear hW;go_upto_region 2 with fail;rw [<- cG.out];go_wp2;go_ret;exact ⟨-1,rfl,iX.out,by omega,by omega,fun h=>absurd h (by omega)⟩
  have q9:decide ((deep:Int) > 600)=false:=decide_eq_false (by omega);have hle:=Oi hc2 hn0 hbig;clear hc2;go_enter Tryz.func139,Tryz.ntmps139;go_upto_region 1 with fail;rw [<- hW];clear hW;go_upto_region 2 with fail;rw [<- cG.out];clear cG;have hcc:c2<=20000:=by omega
  clear hlen;go_wp2_with fail;go_loopw [2,7] (fun uu aa wr=>∃(i:Nat) (c:Int),aa=.int .i64 i/\uu=.int .i64 c/\i<=es.length/\-1<=c/\c<=20000/\Hid (0<=c->Fw d i es)/\Hid (Below w.heap.size w wr)/\Hid (wr.heap[w.heap.size]?=some (.cells #[.int .i64 k,.string x,.int .i64 nn,.slice oR es.length cR,.int .i64 a] 101 (0,0)))) (fun _ aa _=>match aa with | .int _ i=>es.length-i.toNat|_=>0)
  case atStart=>exact ⟨0,c2,rfl,rfl,Nat.zero_le _,by omega,hcc,ae (fun _=>Fw.zero _ _),iX,jQ⟩
  case round =>
   obtain ⟨i,c,rfl,rfl,hi,hc1,hc2,HN,aT,HX⟩:=hrel;clear jQ iX;have rF:=af HX.out 3 _ rfl;by_cases hp:i<es.length
   ·have q1:decide ((i:Int)<(es.length:Int))=true:=decide_eq_true (by omega);by_cases hc:0<=c
    ·have q2:decide (c>=0)=true:=decide_eq_true hc;obtain ⟨t1,ht1⟩:∃t1,es[i]?=some t1:=⟨_,List.getElem?_eq_getElem hp⟩;obtain ⟨b,off,dh,hC⟩:=dB.out i t1 ht1;subst dh;obtain ⟨d0,k1,x1,n1,u1,a1,hd0,g0,g1,g2,g3,g4,hV⟩:=Cw hC;have y0:=ag aT.out g0;have y1:=ag aT.out g1;have y2:=ag aT.out g2;have y3:=ag aT.out g3;have y4:=ag aT.out g4;have hw1:=fO hp HL.out;have bP:=ae (fT.out d0 hd0 wr t1 _ (deep+1) c (hV.but (bF.of aT.out)) (by omega) hc hc2);rw [show ((deep+1:Nat):Int)=(deep:Int)+1 by omega] at bP;have HST:=ae (fun (r:Int) (hf:few d0 t1)=>(HN.out hc).step ht1 hd0 hf);clear hd0 hV g0 g1 g2 g3 g4 hC ht1 HN;go_wp2_with fail;refine Calls.mono (show Calls _ _ _ _ _ from bP.out) ?_;rintro e w3 ⟨r,rfl,hb3,hr1,hr2,hr3⟩;have aD:=ae (ax aT.out hb3);have bZ:=ae ((hb3.block _ (Array.getElem?_eq_some_iff.1 HX.out).1).trans HX.out);have rG:=ae (fun (h:0<=r)=>HST.out r (hr3 h));clear hb3 hr3 bP HX aT rF HST y0 y1 y2 y3 y4;go_wp2;go_roundw
     case rel=>exact ⟨i+1,r,by first|rfl|(congr 1),rfl,hp,hr1,hr2,rG,aD,bZ⟩
     case measure=>simp;omega
    ·have q2:decide (c>=0)=false:=decide_eq_false hc;clear HN hi;go_wp2;go_ret;exact ⟨c,rfl,aT.out,hc1,hc2,fun h=>absurd h (by omega)⟩
   ·have q1:decide ((i:Int)<(es.length:Int))=false:=decide_eq_false (by omega);have HD:=ae (fun (h:0<=c)=>(HN.out h).all (by omega));clear HN hi;go_wp2;go_ret;exact ⟨c,rfl,aT.out,hc1,hc2,fun h=>Fa hle (by simp) (HD.out h) (Fw.nil _ _)⟩
theorem WG:∀d:Nat,Oh d:=by
 intro d
 induction d using Nat.strongRecOn with
 | _ d ih =>
  intro w t v deep n h hd hn0 Oj;obtain ⟨k,x,y,nn,es,ps,a,u,z,rfl,rfl,hr,iA⟩:=h;obtain ⟨oR,cR,rfl,hel⟩:=bz hr;have hlen:=hr.1;obtain ⟨oP,cP,rfl,wF⟩:=bz iA;have WH:=iA.1;have rH:=ae iA.1;have qg:=ae wF;have Am:Hid (∀d0,d=d0+1->Jc d0):=ae (fun d0 _=>WE d0);have HL:=ae hr.1;have dB:=ae hel;have fT:Hid (∀d0,d=d0+1->Oh d0):=ae (fun d0 e=>ih d0 (by omega));obtain ⟨W,hW⟩:∃W,W=w.alloc (.cells #[.int .i64 k,.string x,.string y,.int .i64 nn,.slice oR es.length cR,.slice oP ps.length cP,.int .i64 a] 27):=⟨_,rfl⟩;have iX:Hid (Below w.heap.size w W):=ae (by rw [hW];exact bN _ _);have jQ:Hid (W.heap[w.heap.size]?=some (.cells #[.int .i64 k,.string x,.string y,.int .i64 nn,.slice oR es.length cR,.slice oP ps.length cP,.int .i64 a] 27 (0,0))):=ae (by rw [hW];exact heap_alloc_new w _);have c3:=af jQ.out 4 _ rfl;have c5:=af jQ.out 5 _ rfl;obtain ⟨c2,hc2⟩:∃c2:Int,c2=n+(1+(es.length:Int) / 10+(ps.length:Int) / 10):=⟨_,rfl⟩;have cG:=ae hc2;have hc0:0<=c2:=by omega
  clear hr hel ih iA wF;by_cases hbig:20000<c2
  ·have q0:decide (c2 > 20000)=true:=decide_eq_true hbig;clear HL dB fT hc2 rH qg Am;go_enter Tryz.func80,Tryz.ntmps80;go_upto_region 1 with fail;rw [<- hW];clear hW;go_upto_region 2 with fail;rw [<- cG.out];go_wp2;go_ret;exact ⟨-1,rfl,iX.out,by omega,by omega,fun h=>absurd h (by omega)⟩
  have q0:decide (c2 > 20000)=false:=decide_eq_false hbig;by_cases hdp:600<deep
  ·have q9:decide ((deep:Int) > 600)=true:=decide_eq_true (by omega);clear HL dB fT hc2 rH qg Am;go_enter Tryz.func80,Tryz.ntmps80;go_upto_region 1 with fail;rw [<- hW];clear hW;go_upto_region 2 with fail;rw [<- cG.out];go_wp2;go_ret;exact ⟨-1,rfl,iX.out,by omega,by omega,fun h=>absurd h (by omega)⟩
  have q9:decide ((deep:Int) > 600)=false:=decide_eq_false (by omega);obtain ⟨hle,Ol⟩:=WB hc2 hn0 hbig;clear hc2;go_enter Tryz.func80,Tryz.ntmps80;go_upto_region 1 with fail;rw [<- hW];clear hW;go_upto_region 2 with fail;rw [<- cG.out];clear cG;have hcc:c2<=20000:=by omega
  clear hlen WH;go_wp2_with fail;go_loopw [2,7] (fun uu aa wr=>∃(i:Nat) (c:Int),aa=.int .i64 i/\uu=.int .i64 c/\i<=ps.length/\-1<=c/\c<=20000/\Hid (0<=c->Fw d i ps)/\Hid (Below w.heap.size w wr)/\Hid (wr.heap[w.heap.size]?=some (.cells #[.int .i64 k,.string x,.string y,.int .i64 nn,.slice oR es.length cR,.slice oP ps.length cP,.int .i64 a] 27 (0,0)))) (fun _ aa _=>match aa with | .int _ i=>ps.length-i.toNat|_=>0)
  case atStart=>exact ⟨0,c2,rfl,rfl,Nat.zero_le _,by omega,hcc,ae (fun _=>Fw.zero _ _),iX,jQ⟩
  case round =>
   obtain ⟨i,c,rfl,rfl,hi,hc1,hc2,HN,aT,HX⟩:=hrel;clear jQ iX;have rF:=af HX.out 5 _ rfl;by_cases hp:i<ps.length
   ·have q1:decide ((i:Int)<(ps.length:Int))=true:=decide_eq_true (by omega);by_cases hc:0<=c
    ·have q2:decide (c>=0)=true:=decide_eq_true hc;obtain ⟨t1,ht1⟩:∃t1,ps[i]?=some t1:=⟨_,List.getElem?_eq_getElem hp⟩;obtain ⟨b,off,dh,hC⟩:=qg.out i t1 ht1;subst dh;obtain ⟨d0,k1,x1,n1,u1,a1,hd0,g0,g1,g2,g3,g4,hV⟩:=Cw hC;have y0:=ag aT.out g0;have y1:=ag aT.out g1;have y2:=ag aT.out g2;have y3:=ag aT.out g3;have y4:=ag aT.out g4;have hw1:=fO hp rH.out;have bP:=ae (Am.out d0 hd0 wr t1 _ (deep+1) c (hV.but (bF.of aT.out)) (by omega) hc hc2);rw [show ((deep+1:Nat):Int)=(deep:Int)+1 by omega] at bP;have HST:=ae (fun (r:Int) (hf:few d0 t1)=>(HN.out hc).step ht1 hd0 hf);clear hd0 hV g0 g1 g2 g3 g4 hC ht1 HN;go_wp2_with fail;refine Calls.mono (show Calls _ _ _ _ _ from bP.out) ?_;rintro e w3 ⟨r,rfl,hb3,hr1,hr2,hr3⟩;have aD:=ae (ax aT.out hb3);have bZ:=ae ((hb3.block _ (Array.getElem?_eq_some_iff.1 HX.out).1).trans HX.out);have rG:=ae (fun (h:0<=r)=>HST.out r (hr3 h));clear hb3 hr3 bP HX aT rF HST y0 y1 y2 y3 y4;go_wp2;go_roundw
     case rel=>exact ⟨i+1,r,by first|rfl|(congr 1),rfl,hp,hr1,hr2,rG,aD,bZ⟩
     case measure=>simp;omega
    ·have q2:decide (c>=0)=false:=decide_eq_false hc;clear HN hi;have qh:Hid (0<=c->Fw d ps.length ps):=ae (fun h=>absurd h (by omega));have iX:=aT;have jQ:=HX;clear aT HX;go_wp2_with fail;clear q1 rF hp;go_loopw [2,8] (fun uu aa wr=>∃(i:Nat) (c:Int),aa=.int .i64 i/\uu=.int .i64 c/\i<=es.length/\-1<=c/\c<=20000/\Hid (0<=c->Fw d i es)/\Hid (Below w.heap.size w wr)/\Hid (wr.heap[w.heap.size]?=some (.cells #[.int .i64 k,.string x,.string y,.int .i64 nn,.slice oR es.length cR,.slice oP ps.length cP,.int .i64 a] 27 (0,0)))/\Hid (0<=c->Fw d ps.length ps)) (fun _ aa _=>match aa with | .int _ i=>es.length-i.toNat|_=>0)
     case atStart=>exact ⟨0,c,rfl,rfl,Nat.zero_le _,hc1,hc2,ae (fun _=>Fw.zero _ _),iX,jQ,qh⟩
     case round =>
      obtain ⟨i,c,rfl,rfl,hi,hc1,hc2,HN,aT,HX,qh⟩:=hrel;clear jQ iX;have rF:=af HX.out 4 _ rfl;by_cases hp:i<es.length
      ·have q1:decide ((i:Int)<(es.length:Int))=true:=decide_eq_true (by omega);by_cases hc:0<=c
       ·have q2:decide (c>=0)=true:=decide_eq_true hc;obtain ⟨t1,ht1⟩:∃t1,es[i]?=some t1:=⟨_,List.getElem?_eq_getElem hp⟩;obtain ⟨b,off,dh,hC⟩:=dB.out i t1 ht1;subst dh;obtain ⟨d0,k1,x1,gm,n1,u1,z1,a1,hd0,g0,g1,g2,g3,g4,g5,g6,hV⟩:=Jd hC;have y0:=ag aT.out g0;have y1:=ag aT.out g1;have y2:=ag aT.out g2;have y3:=ag aT.out g3;have y4:=ag aT.out g4;have y5:=ag aT.out g5;have y6:=ag aT.out g6;have hw1:=fO hp HL.out;have bP:=ae (fT.out d0 hd0 wr t1 _ (deep+1) c (hV.but (bF.of aT.out)) (by omega) hc hc2);rw [show ((deep+1:Nat):Int)=(deep:Int)+1 by omega] at bP;have HST:=ae (fun (r:Int) (hf:few d0 t1)=>(HN.out hc).step ht1 hd0 hf);clear hd0 hV g0 g1 g2 g3 g4 g5 g6 hC ht1 HN;go_wp2_with fail;refine Calls.mono (show Calls _ _ _ _ _ from bP.out) ?_;rintro e w3 ⟨r,rfl,hb3,hr1,hr2,hr3⟩;have aD:=ae (ax aT.out hb3);have bZ:=ae ((hb3.block _ (Array.getElem?_eq_some_iff.1 HX.out).1).trans HX.out);have rG:=ae (fun (h:0<=r)=>HST.out r (hr3 h));clear hb3 hr3 bP HX aT rF HST y0 y1 y2 y3 y4 y5 y6;go_wp2;go_roundw
        case rel=>exact ⟨i+1,r,by first|rfl|(congr 1),rfl,hp,hr1,hr2,rG,aD,bZ,ae (fun _=>qh.out hc)⟩
        case measure=>simp;omega
       ·have q2:decide (c>=0)=false:=decide_eq_false hc;clear HN hi;go_wp2;go_ret;exact ⟨c,rfl,aT.out,hc1,hc2,fun h=>absurd h (by omega)⟩
      ·have q1:decide ((i:Int)<(es.length:Int))=false:=decide_eq_false (by omega);have HD:=ae (fun (h:0<=c)=>(HN.out h).all (by omega));clear HN hi;go_wp2;go_ret;exact ⟨c,rfl,aT.out,hc1,hc2,fun h=>Fa hle Ol (HD.out h) (qh.out h)⟩
   ·have q1:decide ((i:Int)<(ps.length:Int))=false:=decide_eq_false (by omega);have HD:=ae (fun (h:0<=c)=>(HN.out h).all (by omega));clear HN hi;have qh:Hid (0<=c->Fw d ps.length ps):=ae (HD.out);have iX:=aT;have jQ:=HX;clear aT HX;go_wp2_with fail;clear q1 rF hp;go_loopw [2,8] (fun uu aa wr=>∃(i:Nat) (c:Int),aa=.int .i64 i/\uu=.int .i64 c/\i<=es.length/\-1<=c/\c<=20000/\Hid (0<=c->Fw d i es)/\Hid (Below w.heap.size w wr)/\Hid (wr.heap[w.heap.size]?=some (.cells #[.int .i64 k,.string x,.string y,.int .i64 nn,.slice oR es.length cR,.slice oP ps.length cP,.int .i64 a] 27 (0,0)))/\Hid (0<=c->Fw d ps.length ps)) (fun _ aa _=>match aa with | .int _ i=>es.length-i.toNat|_=>0)
    case atStart=>exact ⟨0,c,rfl,rfl,Nat.zero_le _,hc1,hc2,ae (fun _=>Fw.zero _ _),iX,jQ,qh⟩
    case round =>
     obtain ⟨i,c,rfl,rfl,hi,hc1,hc2,HN,aT,HX,qh⟩:=hrel;clear jQ iX;have rF:=af HX.out 4 _ rfl;by_cases hp:i<es.length
     ·have q1:decide ((i:Int)<(es.length:Int))=true:=decide_eq_true (by omega);by_cases hc:0<=c
      ·have q2:decide (c>=0)=true:=decide_eq_true hc;obtain ⟨t1,ht1⟩:∃t1,es[i]?=some t1:=⟨_,List.getElem?_eq_getElem hp⟩;obtain ⟨b,off,dh,hC⟩:=dB.out i t1 ht1;subst dh;obtain ⟨d0,k1,x1,gm,n1,u1,z1,a1,hd0,g0,g1,g2,g3,g4,g5,g6,hV⟩:=Jd hC;have y0:=ag aT.out g0;have y1:=ag aT.out g1;have y2:=ag aT.out g2;have y3:=ag aT.out g3;have y4:=ag aT.out g4;have y5:=ag aT.out g5;have y6:=ag aT.out g6;have hw1:=fO hp HL.out;have bP:=ae (fT.out d0 hd0 wr t1 _ (deep+1) c (hV.but (bF.of aT.out)) (by omega) hc hc2);rw [show ((deep+1:Nat):Int)=(deep:Int)+1 by omega] at bP;have HST:=ae (fun (r:Int) (hf:few d0 t1)=>(HN.out hc).step ht1 hd0 hf);clear hd0 hV g0 g1 g2 g3 g4 g5 g6 hC ht1 HN;go_wp2_with fail;refine Calls.mono (show Calls _ _ _ _ _ from bP.out) ?_;rintro e w3 ⟨r,rfl,hb3,hr1,hr2,hr3⟩;have aD:=ae (ax aT.out hb3);have bZ:=ae ((hb3.block _ (Array.getElem?_eq_some_iff.1 HX.out).1).trans HX.out);have rG:=ae (fun (h:0<=r)=>HST.out r (hr3 h));clear hb3 hr3 bP HX aT rF HST y0 y1 y2 y3 y4 y5 y6;go_wp2;go_roundw
       case rel=>exact ⟨i+1,r,by first|rfl|(congr 1),rfl,hp,hr1,hr2,rG,aD,bZ,ae (fun _=>qh.out hc)⟩
       case measure=>simp;omega
      ·have q2:decide (c>=0)=false:=decide_eq_false hc;clear HN hi;go_wp2;go_ret;exact ⟨c,rfl,aT.out,hc1,hc2,fun h=>absurd h (by omega)⟩
     ·have q1:decide ((i:Int)<(es.length:Int))=false:=decide_eq_false (by omega);have HD:=ae (fun (h:0<=c)=>(HN.out h).all (by omega));clear HN hi;go_wp2;go_ret;exact ⟨c,rfl,aT.out,hc1,hc2,fun h=>Fa hle Ol (HD.out h) (qh.out h)⟩
theorem WJ (d:Nat) (w:World) (t v:Value) (h:iU 0 d w t v):Calls Tryz.prog 35 #[v] w fun e w'=>∃b:Bool,e=.returned (.bool b)/\Below w.heap.size w w'/\(b=false->few d t):=by
 obtain ⟨k,x,y,nn,es,ps,a,u,z,rfl,rfl,hr,iA⟩:=h;obtain ⟨oR,cR,hu,_⟩:=bz hr;have hou:u.oneCell'=true:=by rw [hu];rfl
 obtain ⟨oP,cP,hz,_⟩:=bz iA;have hoz:z.oneCell'=true:=by rw [hz];rfl
 obtain ⟨W,hW⟩:∃W,W=w.alloc (.cells #[.int .i64 k,.string x,.string y,.int .i64 nn,u,z,.int .i64 a] 27):=⟨_,rfl⟩;have jw:Below w.heap.size w W:=by rw [hW];exact bN _ _
 have HX:Hid (W.heap[w.heap.size]?=some (.cells #[.int .i64 k,.string x,.string y,.int .i64 nn,u,z,.int .i64 a] 27 (0,0))):=ae (by rw [hW];exact heap_alloc_new w _);have hV:iU 0 d w (nd k x y nn es ps a) (.agg #[.int .i64 k,.string x,.string y,.int .i64 nn,u,z,.int .i64 a]):=⟨k,x,y,nn,es,ps,a,u,z,rfl,rfl,hr,iA⟩;have H:=ae (WG d W (nd k x y nn es ps a) (.agg #[.int .i64 k,.string x,.string y,.int .i64 nn,u,z,.int .i64 a]) 0 0 (hV.but (bF.of jw)) (by omega) (by omega) (by omega));rw [show ((0:Nat):Int)=0 by omega] at H;have iX:=ae jw;generalize nd k x y nn es ps a=t at *;have c0:=af HX.out 0 _ rfl;have c1:=af HX.out 1 _ rfl;have c2:=af HX.out 2 _ rfl;have c3:=af HX.out 3 _ rfl;have c4:=af HX.out 4 _ rfl;have c5:=af HX.out 5 _ rfl;have c6:=af HX.out 6 _ rfl;clear hr iA hz hu hV jw;go_enter Tryz.func35,Tryz.ntmps35;go_upto_region 1 with fail;rw [<- hW];clear hW;go_wp2_with fail;refine Calls.mono (show Calls _ _ _ _ _ from H.out) ?_;rintro e w' ⟨r,rfl,hb,h1,h2,h3⟩;have HB:=ae (ax iX.out hb);have H3:=ae h3;clear hb h3 H HX c0 c1 c2 c3 c4 c5 c6;by_cases hr:r<0
 ·have q:decide (r<0)=true:=decide_eq_true hr;clear H3;go_wp2;go_ret;exact ⟨true,rfl,HB.out,fun h=>by cases h⟩
 ·have q:decide (r<0)=false:=decide_eq_false hr;go_wp2;go_ret;exact ⟨false,rfl,HB.out,fun _=>H3.out (by omega)⟩
namespace Pz
def lU (B:Nat) (o:Option Nat) (F:World->Prop) (u:World):Prop:=∀w',(∀k,B<=k->k<u.heap.size->o≠some k->w'.heap[k]?=u.heap[k]?)->F w'
theorem lU.out {B:Nat} {o:Option Nat} {F:World->Prop} {u:World} (h:lU B o F u):F u:=h u fun _ _ _ _=>rfl
theorem lU.on {B:Nat} {o:Option Nat} {F:World->Prop} {u u':World} (h:lU B o F u) (hb:Below u.heap.size u u'):lU B o F u':=fun w' hw=>h w' fun k hB hk ho=>(hw k hB (Nat.lt_of_lt_of_le hk hb.size) ho).trans (hb.block k hk)
def gB (V:Value->Value->World->Prop) (B:Nat) (e:TypeId) (sz:Nat) (u:World) (v:Value) (ts:List Value):Prop :=
 ∃xs,u.ownsRow B e sz v ts.length xs/\∀k t,ts[k]?=some t->∃cs:Array Value,cs.size=sz/\lU B v.ownBlock (V t (.agg cs)) u/\∀j c,cs[j]?=some c->xs[k*sz+j]?=some c
section
variable {V:Value->Value->World->Prop} {B:Nat} {e:TypeId} {sz:Nat} {u u':World} {v v':Value} {ts:List Value} {t:Value}
theorem gB.nil (V:Value->Value->World->Prop) (B:Nat) (e:TypeId) (sz:Nat) (u:World):gB V B e sz u (.slice none 0 0) []:=⟨[],⟨by simp,.inl ⟨rfl,rfl⟩⟩,fun k t h=>(by simp at h)⟩
theorem gB.sl (h:gB V B e sz u v ts):∃o c,v=.slice o ts.length c:=by
 obtain ⟨xs,h1,_⟩:=h;exact qY h1
theorem gB.on (h:gB V B e sz u v ts) (hb:Below u.heap.size u u'):gB V B e sz u' v ts:=by
 obtain ⟨xs,⟨hl,h1⟩,h3⟩:=h;refine ⟨xs,⟨hl,?_⟩,fun k t hk=>?_⟩
 ·rcases h1 with h1|⟨g,cap,cur,rfl,hB,hg,hr⟩
  ·exact .inl h1
  ·exact .inr ⟨g,cap,cur,rfl,hB,by rw [hb.block g (Array.getElem?_eq_some_iff.1 hg).1];exact hg,hr⟩
 ·obtain ⟨cs,hc,hs',hj⟩:=h3 k t hk;exact ⟨cs,hc,hs'.on hb,hj⟩
theorem gB.app {xs:List Value} {cs:Array Value} (hown:u.ownsRow B e sz v ts.length xs) (hx:∀k t,ts[k]?=some t->∃cs:Array Value,cs.size=sz/\lU B v.ownBlock (V t (.agg cs)) u/\∀j c,cs[j]?=some c->xs[k*sz+j]?=some c)
  (hown':u'.ownsRow B e sz v' (ts.length+1) (xs++cs.toList)) (hg:u.grownBy u' v.ownBlock) (hv:v'.ownBlock=v.ownBlock\/v'.ownBlock=some u.heap.size) (hc:cs.size=sz) (ht:lU B v.ownBlock (V t (.agg cs)) u):gB V B e sz u' v' (ts++[t]):=by
 have hst:∀(F:World->Prop),lU B v.ownBlock F u->lU B v'.ownBlock F u':=fun F hF w' hw=>hF w' fun k hB hk ho=>(hw k hB (Nat.lt_of_lt_of_le hk hg.size) (by
  rcases hv with h|h
  ·rw [h];exact ho
  ·rw [h];intro e;injection e with e;omega)).trans (hg.block k hk fun h=>ho h.symm)
 refine ⟨xs++cs.toList,by simpa using hown',fun k s hk=>?_⟩;by_cases hlt:k<ts.length
 ·rw [List.getElem?_append_left hlt] at hk;obtain ⟨ds,hd,hq,hj⟩:=hx k s hk;refine ⟨ds,hd,hst _ hq,fun j c hc'=>?_⟩
  have:=hj j c hc'
  rw [List.getElem?_append_left (List.getElem?_eq_some_iff.1 this).1];exact this
 ·rw [List.getElem?_append_right (by omega)] at hk
  have hke:k=ts.length:=by
   have:=(List.getElem?_eq_some_iff.1 hk).1;simp at this;omega
  subst hke;simp at hk;subst hk;refine ⟨cs,hc,hst _ ht,fun j c hj=>?_⟩;rw [List.getElem?_append_right (by rw [hown.1];omega),hown.1,Nat.add_sub_cancel_left];simpa using hj
theorem gB.row {F:World->Nat->Nat->Nat->Value->Prop} (hF:∀w d b o t,F w d b o t->F w (d+1) b o t) (h:gB V B e sz u v ts) (hn:ts.length<=9223372036854775807)
  (hV:∀(w:World) (t:Value) (cs:Array Value) (b o:Nat),V t (.agg cs) w->B<=b->(∀j u,cs[j]?=some u->w.cell? ⟨b,o+j,none⟩=some u)->∃d,F w d b o t):∃d,Row sz (F u d) v ts:=by
 obtain ⟨xs,hown,hx⟩:=h;rcases hown.2 with ⟨rfl,h0⟩|⟨g,cap,cur,rfl,hB,hg,hcp,AK,hcs,htk⟩
 ·exact ⟨0,hn,.inl ⟨List.eq_nil_of_length_eq_zero h0,none,0,rfl⟩⟩
 ·obtain ⟨d,hd⟩:=DU (ts:=ts) (P:=fun d k t=>F u d g (k*sz) t) (fun d e k t hde hp=>qq (hF u) hde hp) ts.length fun k t _ hk=>by
   obtain ⟨cs,hc,hr,hj⟩:=hx k t hk;refine hV u t cs g (k*sz) hr.out hB fun j c hc'=>af hg _ c ?_
   have:=hj j c hc'
   rw [<- htk] at this;have h2:=(List.getElem?_eq_some_iff.1 this).1;rw [List.getElem?_take_of_lt (by rw [List.length_take] at h2;omega)] at this;simpa using this
  exact ⟨d,hn,.inr ⟨g,0,cap,rfl,fun k t hk=>by rw [Nat.zero_add];exact hd k t (List.getElem?_eq_some_iff.1 hk).1 hk⟩⟩
end
def nD (d:Nat) (l:List Value):Prop:=l.length<=200010/\Fw d l.length l
theorem Il {d:Nat} {k:Int} {x y:ByteArray} {n:Int} {es ps:List Value} {a:Int} (h:few d (nd k x y n es ps a)):nD d es/\nD d ps:=by
 cases d with
 | zero =>
  have h1:es = []:=h.2.1;have h2:ps = []:=h.2.2;subst h1;subst h2;exact ⟨⟨by simp,Fw.nil _ _⟩,⟨by simp,Fw.nil _ _⟩⟩
 | succ d =>
  have h1:es.length<=200010:=h.2.1;have h2:ps.length<=200010:=h.2.2.1;have h3:∀x ∈ es,few d x:=h.2.2.2.1;have h4:∀x ∈ ps,few d x:=h.2.2.2.2;exact ⟨⟨h1,fun j x _ hx=>⟨d,rfl,h3 x (List.mem_of_getElem? hx)⟩⟩,⟨h2,fun j x _ hx=>⟨d,rfl,h4 x (List.mem_of_getElem? hx)⟩⟩⟩
theorem Vj {d b o:Nat} {w:World} {t:Value} (h:dw 0 w d b o t):∃d0 k x n es u,d=d0+1/\t=nd k x e0 n es [] 0/\w.cell? ⟨b,o,none⟩=some (.int .i64 k)/\w.cell? ⟨b,o+1,none⟩=some (.string x)/\w.cell? ⟨b,o+2,none⟩=some (.int .i64 n)/\w.cell? ⟨b,o+3,none⟩=some u/\Row 4 (dw 0 w d0) u es:=by
 cases d with
 | zero=>exact h.elim
 | succ d =>
  obtain ⟨hp,k,x,n,es,v,h0,h1,h2,h3,h4,h5⟩:=h;exact ⟨d,k,x,n,es,v,rfl,h0,h1,h2,h3,h4,h5⟩
theorem Vl {d b o:Nat} {w:World} {t:Value} (h:bR 0 w d b o t):∃d0 k x n es a u,d=d0+1/\t=nd k x e0 n es [] a/\w.cell? ⟨b,o,none⟩=some (.int .i64 k)/\w.cell? ⟨b,o+1,none⟩=some (.string x)/\w.cell? ⟨b,o+2,none⟩=some (.int .i64 n)/\w.cell? ⟨b,o+3,none⟩=some u/\w.cell? ⟨b,o+4,none⟩=some (.int .i64 a)/\Row 5 (bR 0 w d0) u es:=by
 cases d with
 | zero=>exact h.elim
 | succ d =>
  obtain ⟨hp,k,x,n,es,a,v,h0,h1,h2,h3,h4,h5,h6⟩:=h;exact ⟨d,k,x,n,es,a,v,rfl,h0,h1,h2,h3,h4,h5,h6⟩
theorem aar {d b o:Nat} {w:World} {t:Value} (h:cf 0 w d b o t):∃d0 k x y n es ps a u z,d=d0+1/\t=nd k x y n es ps a/\w.cell? ⟨b,o,none⟩=some (.int .i64 k)/\w.cell? ⟨b,o+1,none⟩=some (.string x)/\w.cell? ⟨b,o+2,none⟩=some (.string y)/\w.cell? ⟨b,o+3,none⟩=some (.int .i64 n)/\w.cell? ⟨b,o+4,none⟩=some u/\w.cell? ⟨b,o+5,none⟩=some z/\w.cell? ⟨b,o+6,none⟩=some (.int .i64 a)/\Row 7 (cf 0 w d0) u es/\Row 5 (bR 0 w d0) z ps:=by
 cases d with
 | zero=>exact h.elim
 | succ d =>
  obtain ⟨hp,k,x,y,n,es,ps,a,v,u,h0,h1,h2,h3,h4,h5,h6,h7,h8,h9⟩:=h;exact ⟨d,k,x,y,n,es,ps,a,v,u,rfl,h0,h1,h2,h3,h4,h5,h6,h7,h8,h9⟩
theorem iz.sl {B:Nat} {v:Value} {l:List Value} {w:World} (h:iz B v l w):∃o c,v=.slice o l.length c:=by obtain ⟨d,h⟩:=h;exact Row.len h
theorem iM.sl {B:Nat} {v:Value} {l:List Value} {w:World} (h:iM B v l w):∃o c,v=.slice o l.length c:=by obtain ⟨d,h⟩:=h;exact Row.len h
theorem iZ.sl {B:Nat} {v:Value} {l:List Value} {w:World} (h:iZ B v l w):∃o c,v=.slice o l.length c:=by obtain ⟨d,h⟩:=h;exact Row.len h
theorem Nq {B p:Nat} {o:Option Nat} {F:World->Prop} {wr u1 u2 u3 u4:World} (hp:p=wr.heap.size) (h1:Below wr.heap.size wr u1) (hs1:u1.heap.size=p+1) (h2:Below u1.heap.size u1 u2) (nE:u3.heap.size=u2.heap.size) (h3:∀k,k≠p->u3.heap[k]?=u2.heap[k]?) (h4:Below u3.heap.size u3 u4)
  (ho:∀k,o=some k->k<wr.heap.size) (hB:B<=p) (hF:∀w',bF (p+1) u2 w'->F w'):lU B o F u4:=fun w' hw=>hF w' fun k hk hl=>by
 have hl4:u3.heap.size<=u4.heap.size:=h4.size;rw [hw k (by omega) (by omega) (fun e=>by have:=ho k e;omega),h4.block k (by omega),h3 k (by omega)]
end Pz
end Go.Proofs.YtkdbgopgjbfhbaaGreatDoor
