/- Texts that the claim needs. -/
import Derived.Test.YtkdbgopgjbfhbaaGreatDoorQPW26
namespace Go.Proofs.YtkdbgopgjbfhbaaGreatDoor
open Go.RowKit Lx Pz bq
set_option linter.unusedVariables false
set_option maxRecDepth 100000
set_option maxHeartbeats 8000000
namespace Pz
def dE:Value->List Value
 | .agg c=>match (c:Array Value)[4]? with
  | some (Value.agg a)=>a.toList
  | _=>[]
 | _=>[]
def gV:Value->List Value
 | .agg c=>match (c:Array Value)[5]? with
  | some (Value.agg a)=>a.toList
  | _=>[]
 | _=>[]
theorem ko (k:Int) (x y:ByteArray) (n:Int) (es ps:List Value) (a:Int):dE (nd k x y n es ps a)=es:=rfl
theorem qI (k:Int) (x y:ByteArray) (n:Int) (es ps:List Value) (a:Int):gV (nd k x y n es ps a)=ps:=rfl
def mr:Nat->Value->Bool
 | 0,_=>true
 | m+1,t=>(dE t).any (mr m)
def iK:Nat->List Value->Bool
 | 0,l=>l.any (fun _=>true)
 | m+1,l=>l.any (fun t=>iK m (dE t))
def lI:Nat->Value->Bool
 | 0,_=>true
 | m+1,t=>(dE t).any (lI m) || iK m (gV t)
theorem cF {α:Type} {sz:Nat} {f:Nat->Nat->α->Prop} {v:Value} {l:List α} (h:Row sz f v l):∃o c,v=.slice o l.length c/\∀i x,l[i]?=some x->∃b off,o=some ⟨b,off,none⟩/\f b (off+i*sz) x:=by
 rcases h with ⟨_,⟨rfl,o,cap,rfl⟩|⟨b,off,cap,rfl,hc⟩⟩
 ·exact ⟨o,cap,rfl,fun i x hx=>(by simp at hx)⟩
 ·exact ⟨_,cap,rfl,fun i x hx=>⟨b,off,rfl,hc i x hx⟩⟩
theorem LI {B d b o:Nat} {w:World} {t:Value} (h:eM B w d b o t):∃k x n u es,t=nd k x e0 n es [] 0/\w.cell? ⟨b,o,none⟩=some (.int .i64 k)/\w.cell? ⟨b,o+1,none⟩=some (.string x)/\w.cell? ⟨b,o+2,none⟩=some (.int .i64 n)/\w.cell? ⟨b,o+3,none⟩=some u/\u.oneCell'=true/\fE B t (.agg #[.int .i64 k,.string x,.int .i64 n,u]) w:=by
 cases d with
 | zero=>exact h.elim
 | succ d =>
  obtain ⟨hp,k,x,n,es,v,h0,h1,h2,h3,h4,h5⟩:=h;obtain ⟨o',c',hv⟩:=h5.len;exact ⟨k,x,n,v,es,h0,h1,h2,h3,h4,by rw [hv];rfl,d,k,x,n,es,v,h0,rfl,h5⟩
theorem LS {B d b o:Nat} {w:World} {t:Value} (h:di B w d b o t):∃k x n u a es,t=nd k x e0 n es [] a/\w.cell? ⟨b,o,none⟩=some (.int .i64 k)/\w.cell? ⟨b,o+1,none⟩=some (.string x)/\w.cell? ⟨b,o+2,none⟩=some (.int .i64 n)/\w.cell? ⟨b,o+3,none⟩=some u/\w.cell? ⟨b,o+4,none⟩=some (.int .i64 a)/\u.oneCell'=true/\cW B t (.agg #[.int .i64 k,.string x,.int .i64 n,u,.int .i64 a]) w/\kz B u es w:=by
 cases d with
 | zero=>exact h.elim
 | succ d =>
  obtain ⟨hp,k,x,n,es,a,v,h0,h1,h2,h3,h4,h5,h6⟩:=h;obtain ⟨o',c',hv⟩:=h6.len;exact ⟨k,x,n,v,a,es,h0,h1,h2,h3,h4,h5,by rw [hv];rfl,⟨d,k,x,n,es,a,v,h0,rfl,h6⟩,d,h6⟩
theorem JV {B d b o:Nat} {w:World} {t:Value} (h:dW B w d b o t):∃k x y n u z a,w.cell? ⟨b,o,none⟩=some (.int .i64 k)/\w.cell? ⟨b,o+1,none⟩=some (.string x)/\w.cell? ⟨b,o+2,none⟩=some (.string y)/\w.cell? ⟨b,o+3,none⟩=some (.int .i64 n)/\w.cell? ⟨b,o+4,none⟩=some u/\w.cell? ⟨b,o+5,none⟩=some z/\w.cell? ⟨b,o+6,none⟩=some (.int .i64 a)/\u.oneCell'=true/\z.oneCell'=true/\aX B t (.agg #[.int .i64 k,.string x,.string y,.int .i64 n,u,z,.int .i64 a]) w:=by
 cases d with
 | zero=>exact h.elim
 | succ d =>
  obtain ⟨hp,k,x,y,n,es,ps,a,v,u,h0,h1,h2,h3,h4,h5,h6,h7,h8,h9⟩:=h;obtain ⟨o',c',hv⟩:=h8.len;obtain ⟨o2,c2,hu⟩:=h9.len;exact ⟨k,x,y,n,v,u,a,h1,h2,h3,h4,h5,h6,h7,by rw [hv];rfl,by rw [hu];rfl,d,k,x,y,n,es,ps,a,v,u,h0,rfl,h8,h9⟩
theorem kz.on {B C:Nat} {v:Value} {ts:List Value} {w w':World} (h:kz C v ts w) (hb:bX C w w') (hc:B<=C):kz B v ts w':=by
 obtain ⟨d,hd⟩:=h;exact ⟨d,hd.imp fun b o t _ ht=>di.lo hc d b o t (di.but hb d b o t ht)⟩
theorem sx {α:Type} {l:List α} {f:α->Bool} {i:Nat} {x:α} (hx:l[i]?=some x):(l.drop i).any f=(f x || (l.drop (i+1)).any f):=by
 have hi:=(List.getElem?_eq_some_iff.1 hx).1;rw [List.drop_eq_getElem_cons hi,List.any_cons,(List.getElem?_eq_some_iff.1 hx).2]
theorem LU {m:Nat} (hm:m<=1000):wrap64 (((m+1:Nat):Int)-1)=(m:Int):=by unfold wrap64;omega
theorem nM {i n:Nat} (h:i<n) (hn:n<=9223372036854775807):wrap64 ((i:Int)+1)=((i+1:Nat):Int):=by unfold wrap64;omega
end Pz
theorem TD:∀(m:Nat) (t v:Value) (w:World),m<=1000->fE 0 t v w->Calls Tryz.prog 65 #[v,.int .i64 m] w fun e w'=>e=.returned (.bool (mr m t))/\Below w.heap.size w w'
 | 0,t,v,w,hm,h=>by
  obtain ⟨k,x,n,u,rfl,o1⟩:=h.val;have HB:=ae (dF w (.cells #[.int .i64 k,.string x,.int .i64 n,u] 79));clear h;go_enter Tryz.func65,Tryz.ntmps65;go_wp2;go_ret;exact ⟨rfl,HB.out⟩
 | m+1,t,v,w,hm,h=>by
  have ih:=fun t v w' h'=>TD m t v w' (by omega) h';obtain ⟨d,k,x,n,es,u,rfl,rfl,hrow⟩:=h;obtain ⟨oR,cR,rfl,hel⟩:=cF hrow;obtain ⟨R,hR⟩:∃R,R=mr (m+1) (nd k x e0 n es [] 0):=⟨_,rfl⟩;rw [<- hR];have st0:Hid ((es.drop 0).any (mr m)=R):=ae (by rw [hR];rfl);have HL:=ae hrow.1;have HB:=ae (dF w (.cells #[.int .i64 k,.string x,.int .i64 n,.slice oR es.length cR] 79));have iT:=ae hel;have nG:=ae ih;have hq0:((((m+1:Nat):Int)) == 0)=false:=beq_eq_false_iff_ne.2 (by omega);have hq1:=LU (show m<=1000 by omega);obtain ⟨K,hK⟩:∃K:Int,K=((m+1:Nat):Int):=⟨_,rfl⟩;rw [<- hK] at hq0 hq1 ⊢;clear hR hrow hel ih hK hm;go_enter Tryz.func65,Tryz.ntmps65;go_wp2_with fail;go_loopw [12] (fun a wr=>∃i:Nat,a=.int .i64 i/\i<=es.length/\Hid ((es.drop i).any (mr m)=R)/\Hid (Below w.heap.size w wr)) (fun a _=>match a with | .int _ i=>es.length-i.toNat|_=>0)
  case atStart=>exact ⟨0,rfl,Nat.zero_le _,st0,HB⟩
  case round =>
   obtain ⟨i,rfl,hi,HN,HB2⟩:=hrel;clear st0 HB;by_cases hp:i<es.length
   ·obtain ⟨t1,ht1⟩:∃t1,es[i]?=some t1:=⟨_,List.getElem?_eq_getElem hp⟩;obtain ⟨b,off,gH,hC⟩:=iT.out i t1 ht1;subst gH;obtain ⟨k1,x1,n1,u1,es1,h0,h1,h2,h3,h4,o1,hT⟩:=LI hC;have y0:=ai HB2.out h1;have y1:=ai HB2.out h2;have y2:=ai HB2.out h3;have y3:=ai HB2.out h4;have q1:decide ((i:Int)<(es.length:Int))=true:=decide_eq_true (by omega);have hw1:=nM hp HL.out;have hd:=sx (f:=mr m) ht1;rw [HN.out] at hd;obtain ⟨W,hW,hth,hbk,hbw⟩:=kW wr 79 nR #[.int .i64 k1,.string x1,.int .i64 n1,u1] rfl;have eP:=ae (nG.out t1 _ W ((hT.on (B:=0) (C:=0) (fun kk _ hl=>(HB2.out.block kk hl)) (Nat.le_refl _)).on (fun kk _ hl=>hbw.block kk hl) (Nat.le_refl _)));have HW:=ae hW;have aC:=ae hth;have au:=ae hbk;have bZ:=ae (aB HB2.out hbw);have z0:=ak au.out 0 _ rfl;have z1:=ak au.out 1 _ rfl;have z2:=ak au.out 2 _ rfl;have z3:=ak au.out 3 _ rfl;clear hC h0 h1 h2 h3 h4 hT hW hth hbk hbw ht1 HN HB2;cases hb:mr m t1 with
    | true =>
     rw [hb] at hd eP;have HS:Hid (R=true):=ae hd;clear hb hd;go_wp2_with (refine wpList_store_mid rfl 79 (.tmp 6) (.tmp 15) rfl wr.heap.size 0 #[.int .i64 k1,.string x1,.int .i64 n1,u1] rfl rfl aC.out jH (by simp [Value.oneCell'] at o1 ⊢;exact o1) ?_;rw [HW.out]);refine Calls.mono (show Calls _ _ _ _ _ from eP.out) ?_;rintro e w3 ⟨rfl,hb3⟩;have bb:=ae (aB bZ.out hb3);clear hb3 z0 z1 z2 z3 y0 y1 y2 y3;go_wp2;go_ret;exact ⟨bf HS.out.symm,bb.out⟩
    | false =>
     rw [hb] at hd eP;have HS:Hid ((es.drop (i+1)).any (mr m)=R):=ae hd.symm;clear hb hd;go_wp2_with (refine wpList_store_mid rfl 79 (.tmp 6) (.tmp 15) rfl wr.heap.size 0 #[.int .i64 k1,.string x1,.int .i64 n1,u1] rfl rfl aC.out jH (by simp [Value.oneCell'] at o1 ⊢;exact o1) ?_;rw [HW.out]);refine Calls.mono (show Calls _ _ _ _ _ from eP.out) ?_;rintro e w3 ⟨rfl,hb3⟩;have bb:=ae (aB bZ.out hb3);clear hb3 z0 z1 z2 z3 y0 y1 y2 y3;go_wp2;go_roundw
     case rel=>exact ⟨i+1,by first|rfl|(congr 1),hp,HS,bb⟩
     case measure=>simp;omega
   ·have q1:decide ((i:Int)<(es.length:Int))=false:=decide_eq_false (by omega);have HS:Hid (R=false):=ae (by rw [<- HN.out,List.drop_eq_nil_of_le (by omega)];rfl);clear HN;go_wp2;go_ret;exact ⟨bf HS.out.symm,HB2.out⟩
theorem aco  (l:List Value) (v:Value) (w:World) (h:kz 0 v l w):Calls Tryz.prog 131 #[v,.int .i64 ((0:Nat):Int)] w fun e w'=>e=.returned (.bool (iK (0) l))/\Below w.heap.size w w':=by
 obtain ⟨d,hrow⟩:=h;obtain ⟨oR,cR,rfl,hel⟩:=cF hrow;obtain ⟨R,hR⟩:∃R,R=iK (0) l:=⟨_,rfl⟩;rw [<- hR];have st0:Hid ((l.drop 0).any (fun _=>true)=R):=ae (by rw [hR];rfl);have HL:=ae hrow.1;have iT:=ae hel;have hq0:(((0:Nat):Int) == 0)=true:=rfl;obtain ⟨K,hK⟩:∃K:Int,K=((0:Nat):Int):=⟨_,rfl⟩;rw [<- hK] at hq0 ⊢;clear hR hrow hel hK;go_enter Tryz.func131,Tryz.ntmps131;go_wp2_with fail;go_loopw [9] (fun a wr=>∃i:Nat,a=.int .i64 i/\i<=l.length/\Hid ((l.drop i).any (fun _=>true)=R)/\Hid (Below w.heap.size w wr)) (fun a _=>match a with | .int _ i=>l.length-i.toNat|_=>0)
 case atStart=>exact ⟨0,rfl,Nat.zero_le _,st0,ae (Below.refl _ _)⟩
 case round =>
  obtain ⟨i,rfl,hi,HN,HB2⟩:=hrel;clear st0;by_cases hp:i<l.length
  ·obtain ⟨t1,ht1⟩:∃t1,l[i]?=some t1:=⟨_,List.getElem?_eq_getElem hp⟩;obtain ⟨b,off,gH,hC⟩:=iT.out i t1 ht1;subst gH;obtain ⟨k1,x1,n1,u1,a1,es1,h0,h1,h2,h3,h4,h5,o1,hT,G3⟩:=LS hC;have y0:=ai HB2.out h1;have y1:=ai HB2.out h2;have y2:=ai HB2.out h3;have y3:=ai HB2.out h4;have y4:=ai HB2.out h5;have q1:decide ((i:Int)<(l.length:Int))=true:=decide_eq_true (by omega);have hw1:=nM hp HL.out;have hd:=sx (f:=(fun _=>true)) ht1;rw [HN.out] at hd;obtain ⟨W,hW,hth,hbk,hbw⟩:=kW wr 101 iz #[.int .i64 k1,.string x1,.int .i64 n1,u1,.int .i64 a1] rfl;have HW:=ae hW;have aC:=ae hth;have bZ:=ae (aB HB2.out hbw);have z3:=ak hbk 3 _ rfl;have HS:Hid (R=true):=ae hd;clear hC h0 h1 h2 h3 h4 h5 hT hW hth hbk hbw ht1 HN HB2 hd G3;go_wp2_with (refine wpList_store_mid rfl 101 (.tmp 6) (.tmp 12) rfl wr.heap.size 0 #[.int .i64 k1,.string x1,.int .i64 n1,u1,.int .i64 a1] rfl rfl aC.out jk (by simp [Value.oneCell'] at o1 ⊢;exact o1) ?_;rw [HW.out]);go_ret;exact ⟨bf HS.out.symm,bZ.out⟩
  ·have q1:decide ((i:Int)<(l.length:Int))=false:=decide_eq_false (by omega);have HS:Hid (R=false):=ae (by rw [<- HN.out,List.drop_eq_nil_of_le (by omega)];rfl);clear HN;go_wp2;go_ret;exact ⟨bf HS.out.symm,HB2.out⟩
theorem acp (m:Nat) (hm:m<=1000) (ih:∀l v w,kz 0 v l w->Calls Tryz.prog 131 #[v,.int .i64 (m:Int)] w fun e w'=>e=.returned (.bool (iK m l))/\Below w.heap.size w w') (l:List Value) (v:Value) (w:World) (h:kz 0 v l w):Calls Tryz.prog 131 #[v,.int .i64 ((m+1:Nat):Int)] w fun e w'=>e=.returned (.bool (iK (m+1) l))/\Below w.heap.size w w':=by
 obtain ⟨d,hrow⟩:=h;obtain ⟨oR,cR,rfl,hel⟩:=cF hrow;obtain ⟨R,hR⟩:∃R,R=iK (m+1) l:=⟨_,rfl⟩;rw [<- hR];have st0:Hid ((l.drop 0).any (fun t=>iK m (dE t))=R):=ae (by rw [hR];rfl);have HL:=ae hrow.1;have iT:=ae hel;have hq0:(((m+1:Nat):Int) == 0)=false:=beq_eq_false_iff_ne.2 (by omega);have hq1:=LU hm;have nG:=ae ih;clear ih;obtain ⟨K,hK⟩:∃K:Int,K=((m+1:Nat):Int):=⟨_,rfl⟩;rw [<- hK] at hq0 hq1 ⊢;clear hR hrow hel hK;go_enter Tryz.func131,Tryz.ntmps131;go_wp2_with fail;go_loopw [9] (fun a wr=>∃i:Nat,a=.int .i64 i/\i<=l.length/\Hid ((l.drop i).any (fun t=>iK m (dE t))=R)/\Hid (Below w.heap.size w wr)) (fun a _=>match a with | .int _ i=>l.length-i.toNat|_=>0)
 case atStart=>exact ⟨0,rfl,Nat.zero_le _,st0,ae (Below.refl _ _)⟩
 case round =>
  obtain ⟨i,rfl,hi,HN,HB2⟩:=hrel;clear st0;by_cases hp:i<l.length
  ·obtain ⟨t1,ht1⟩:∃t1,l[i]?=some t1:=⟨_,List.getElem?_eq_getElem hp⟩;obtain ⟨b,off,gH,hC⟩:=iT.out i t1 ht1;subst gH;obtain ⟨k1,x1,n1,u1,a1,es1,h0,h1,h2,h3,h4,h5,o1,hT,G3⟩:=LS hC;have y0:=ai HB2.out h1;have y1:=ai HB2.out h2;have y2:=ai HB2.out h3;have y3:=ai HB2.out h4;have y4:=ai HB2.out h5;have q1:decide ((i:Int)<(l.length:Int))=true:=decide_eq_true (by omega);have hw1:=nM hp HL.out;have hd:=sx (f:=(fun t=>iK m (dE t))) ht1;rw [HN.out] at hd;obtain ⟨W,hW,hth,hbk,hbw⟩:=kW wr 101 iz #[.int .i64 k1,.string x1,.int .i64 n1,u1,.int .i64 a1] rfl;have HW:=ae hW;have aC:=ae hth;have bZ:=ae (aB HB2.out hbw);have z3:=ak hbk 3 _ rfl;have TW:=ae ((G3.on (B:=0) (fun kk _ hl=>HB2.out.block kk hl) (Nat.le_refl _)).on (B:=0) (fun kk _ hl=>hbw.block kk hl) (Nat.le_refl _));have TZ:dE t1=es1:=by rw [h0];rfl
   have eP:=ae (nG.out es1 _ W TW.out);rw [TZ] at hd;clear hC h0 h1 h2 h3 h4 h5 hT hW hth hbk hbw ht1 HN HB2 G3 TZ TW;cases hb:iK m es1 with
   | true =>
    rw [hb] at hd eP;have HS:Hid (R=true):=ae hd;clear hb hd;go_wp2_with (refine wpList_store_mid rfl 101 (.tmp 6) (.tmp 12) rfl wr.heap.size 0 #[.int .i64 k1,.string x1,.int .i64 n1,u1,.int .i64 a1] rfl rfl aC.out jk (by simp [Value.oneCell'] at o1 ⊢;exact o1) ?_;rw [HW.out]);refine Calls.mono (show Calls _ _ _ _ _ from eP.out) ?_;rintro e w3 ⟨rfl,hb3⟩;have bb:=ae (aB bZ.out hb3);clear hb3 z3 y0 y1 y2 y3 y4;go_wp2;go_ret;exact ⟨bf HS.out.symm,bb.out⟩
   | false =>
    rw [hb] at hd eP;have HS:Hid ((l.drop (i+1)).any (fun t=>iK m (dE t))=R):=ae hd.symm;clear hb hd;go_wp2_with (refine wpList_store_mid rfl 101 (.tmp 6) (.tmp 12) rfl wr.heap.size 0 #[.int .i64 k1,.string x1,.int .i64 n1,u1,.int .i64 a1] rfl rfl aC.out jk (by simp [Value.oneCell'] at o1 ⊢;exact o1) ?_;rw [HW.out]);refine Calls.mono (show Calls _ _ _ _ _ from eP.out) ?_;rintro e w3 ⟨rfl,hb3⟩;have bb:=ae (aB bZ.out hb3);clear hb3 z3 y0 y1 y2 y3 y4;go_wp2;go_roundw
    case rel=>exact ⟨i+1,by first|rfl|(congr 1),hp,HS,bb⟩
    case measure=>simp;omega
  ·have q1:decide ((i:Int)<(l.length:Int))=false:=decide_eq_false (by omega);have HS:Hid (R=false):=ae (by rw [<- HN.out,List.drop_eq_nil_of_le (by omega)];rfl);clear HN;go_wp2;go_ret;exact ⟨bf HS.out.symm,HB2.out⟩
theorem T9:∀(m:Nat) (l:List Value) (v:Value) (w:World),m<=1000->kz 0 v l w->Calls Tryz.prog 131 #[v,.int .i64 (m:Int)] w fun e w'=>e=.returned (.bool (iK m l))/\Below w.heap.size w w'
 | 0,l,v,w,_,h=>aco l v w h
 | m+1,l,v,w,hm,h=>acp m (by omega) (fun l v w h=>T9 m l v w (by omega) h) l v w h
theorem TE:∀(m:Nat) (t v:Value) (w:World),m<=1000->aX 0 t v w->Calls Tryz.prog 66 #[v,.int .i64 (m:Int)] w fun e w'=>e=.returned (.bool (lI m t))/\Below w.heap.size w w'
 | 0,t,v,w,hm,h=>by
  obtain ⟨k,x,y,n,u,z,a,rfl,o1,o2⟩:=h.val;have HB:=ae (dF w (.cells #[.int .i64 k,.string x,.string y,.int .i64 n,u,z,.int .i64 a] 27));clear h;go_enter Tryz.func66,Tryz.ntmps66;go_wp2;go_ret;exact ⟨rfl,HB.out⟩
 | m+1,t,v,w,hm,h=>by
  have ih:=fun t v w' h'=>TE m t v w' (by omega) h';obtain ⟨d,k,x,y,n,es,ps,a,u,z,rfl,rfl,hrow,nE⟩:=h;obtain ⟨oR,cR,rfl,hel⟩:=cF hrow;obtain ⟨oP,cP,rfl,_⟩:=cF nE;obtain ⟨R,hR⟩:∃R,R=lI (m+1) (nd k x y n es ps a):=⟨_,rfl⟩;rw [<- hR];have st0:Hid (((es.drop 0).any (lI m) || iK m ps)=R):=ae (by rw [hR];rfl);have HL:=ae hrow.1;have HB:=ae (dF w (.cells #[.int .i64 k,.string x,.string y,.int .i64 n,.slice oR es.length cR,.slice oP ps.length cP,.int .i64 a] 27));have Ua:=ae (heap_alloc_new w (.cells #[.int .i64 k,.string x,.string y,.int .i64 n,.slice oR es.length cR,.slice oP ps.length cP,.int .i64 a] 27));have iT:=ae hel;have nG:=ae ih;have tG:=ae (fun w' (hb:Below w.heap.size w w')=>T9 m ps (.slice oP ps.length cP) w' (by omega) (kz.on (C:=0) (w:=w) ⟨d,nE⟩ (fun kk _ hl=>hb.block kk hl) (Nat.le_refl _)));have hq0:((((m+1:Nat):Int)) == 0)=false:=beq_eq_false_iff_ne.2 (by omega);have hq1:=LU (show m<=1000 by omega);obtain ⟨K,hK⟩:∃K:Int,K=((m+1:Nat):Int):=⟨_,rfl⟩;rw [<- hK] at hq0 hq1 ⊢;clear hR hrow hel ih hK hm nE;go_enter Tryz.func66,Tryz.ntmps66;go_wp2_with fail;go_loopw [12] (fun aa wr=>∃i:Nat,aa=.int .i64 i/\i<=es.length/\Hid (((es.drop i).any (lI m) || iK m ps)=R)/\Hid (Below w.heap.size w wr)/\Hid (wr.heap[w.heap.size]?=some (.cells #[.int .i64 k,.string x,.string y,.int .i64 n,.slice oR es.length cR,.slice oP ps.length cP,.int .i64 a] 27 (0,0)))) (fun aa _=>match aa with | .int _ i=>es.length-i.toNat|_=>0)
  case atStart=>exact ⟨0,rfl,Nat.zero_le _,st0,HB,Ua⟩
  case round =>
   obtain ⟨i,rfl,hi,HN,HB2,bD⟩:=hrel;clear st0 HB Ua;by_cases hp:i<es.length
   ·obtain ⟨t1,ht1⟩:∃t1,es[i]?=some t1:=⟨_,List.getElem?_eq_getElem hp⟩;obtain ⟨b,off,gH,hC⟩:=iT.out i t1 ht1;subst gH;obtain ⟨k1,x1,qZ,n1,u1,z1,a1,h1,h2,h3,h4,h5,h6,h7,o1,o2,hT⟩:=JV hC;have y0:=ai HB2.out h1;have y1:=ai HB2.out h2;have y2:=ai HB2.out h3;have y3:=ai HB2.out h4;have y4:=ai HB2.out h5;have y5:=ai HB2.out h6;have y6:=ai HB2.out h7;have q1:decide ((i:Int)<(es.length:Int))=true:=decide_eq_true (by omega);have hw1:=nM hp HL.out;have hd:=sx (f:=lI m) ht1;have hN:=HN.out;rw [hd,Bool.or_assoc] at hN;obtain ⟨W,hW,hth,hbk,hbw⟩:=kW wr 27 bO #[.int .i64 k1,.string x1,.string qZ,.int .i64 n1,u1,z1,.int .i64 a1] rfl;have hwl:=(Array.getElem?_eq_some_iff.1 bD.out).1;have eP:=ae (nG.out t1 _ W ((hT.on (B:=0) (C:=0) (fun kk _ hl=>(HB2.out.block kk hl)) (Nat.le_refl _)).on (fun kk _ hl=>hbw.block kk hl) (Nat.le_refl _)));have HW:=ae hW;have aC:=ae hth;have au:=ae hbk;have bZ:=ae (aB HB2.out hbw);have LV:Hid (W.heap[w.heap.size]?=some (.cells #[.int .i64 k,.string x,.string y,.int .i64 n,.slice (some ⟨b,off,none⟩) es.length cR,.slice oP ps.length cP,.int .i64 a] 27 (0,0))):=ae (by rw [hbw.block _ hwl];exact bD.out);have r0:=ak au.out 0 _ rfl;have r1:=ak au.out 1 _ rfl;have r2:=ak au.out 2 _ rfl;have r3:=ak au.out 3 _ rfl;have r4:=ak au.out 4 _ rfl;have r5:=ak au.out 5 _ rfl;have r6:=ak au.out 6 _ rfl;clear hC h1 h2 h3 h4 h5 h6 h7 hT hW hth hbk hbw ht1 HN HB2 bD hd hwl;cases hb:lI m t1 with
    | true =>
     rw [hb,Bool.true_or] at hN;rw [hb] at eP;have HS:Hid (R=true):=ae hN.symm;clear hb hN;go_wp2_with (refine wpList_store_mid rfl 27 (.tmp 6) (.tmp 15) rfl wr.heap.size 0 #[.int .i64 k1,.string x1,.string qZ,.int .i64 n1,u1,z1,.int .i64 a1] rfl rfl aC.out cO (by simp [Value.oneCell'] at o1 o2 ⊢;exact ⟨o1,o2⟩) ?_;rw [HW.out]);refine Calls.mono (show Calls _ _ _ _ _ from eP.out) ?_;rintro e w3 ⟨rfl,hb3⟩;have bb:=ae (aB bZ.out hb3);clear hb3 r0 r1 r2 r3 r4 r5 r6 y0 y1 y2 y3 y4 y5 y6;go_wp2;go_ret;exact ⟨bf HS.out.symm,bb.out⟩
    | false =>
     rw [hb,Bool.false_or] at hN;rw [hb] at eP;have HS:=ae hN;clear hb hN;go_wp2_with (refine wpList_store_mid rfl 27 (.tmp 6) (.tmp 15) rfl wr.heap.size 0 #[.int .i64 k1,.string x1,.string qZ,.int .i64 n1,u1,z1,.int .i64 a1] rfl rfl aC.out cO (by simp [Value.oneCell'] at o1 o2 ⊢;exact ⟨o1,o2⟩) ?_;rw [HW.out]);refine Calls.mono (show Calls _ _ _ _ _ from eP.out) ?_;rintro e w3 ⟨rfl,hb3⟩;have bb:=ae (aB bZ.out hb3);have eX:=ae ((hb3.block _ (Array.getElem?_eq_some_iff.1 LV.out).1).trans LV.out);clear hb3 r0 r1 r2 r3 r4 r5 r6 y0 y1 y2 y3 y4 y5 y6 LV;go_wp2;go_roundw
     case rel=>exact ⟨i+1,by first|rfl|(congr 1),hp,HS,bb,eX⟩
     case measure=>simp;omega
   ·have q1:decide ((i:Int)<(es.length:Int))=false:=decide_eq_false (by omega);have HS:Hid (R=iK m ps):=ae (by rw [<- HN.out,List.drop_eq_nil_of_le (by omega)];rfl);have r5:=ak bD.out 5 _ rfl;have HP:=ae (tG.out wr HB2.out);clear HN tG;go_wp2_with fail;refine Calls.mono (show Calls _ _ _ _ _ from HP.out) ?_;rintro e w3 ⟨rfl,hb3⟩;have bb:=ae (aB HB2.out hb3);clear hb3 r5 HP;go_wp2;go_ret;exact ⟨bf HS.out.symm,bb.out⟩
namespace Pz
theorem mf.on {B C:Nat} {v:Value} {ts:List Value} {w w':World} (h:mf C v ts w) (hb:bX C w w') (hc:B<=C):mf B v ts w':=by
 obtain ⟨d,hd⟩:=h;exact ⟨d,hd.imp fun b o t _ ht=>dW.lo hc d b o t (dW.but hb d b o t ht)⟩
theorem aax {B b o:Nat} {w:World} {t:Value} (h:zJ B w b o t):∃x u z a,w.cell? ⟨b,o,none⟩=some (.string x)/\w.cell? ⟨b,o+1,none⟩=some u/\w.cell? ⟨b,o+2,none⟩=some z/\w.cell? ⟨b,o+3,none⟩=some (.int .i64 a)/\lj B t (.agg #[.string x,u,z,.int .i64 a]) w:=by
 obtain ⟨hB,x,ps,cs,a,u,z,h0,h1,h2,h3,h4,h5,h6⟩:=h;exact ⟨x,u,z,a,h1,h2,h3,h4,x,ps,cs,a,u,z,h0,rfl,h5,h6⟩
theorem aay {B b o:Nat} {w:World} {t:Value} (h:tC B w b o t):∃x u,w.cell? ⟨b,o,none⟩=some (.string x)/\w.cell? ⟨b,o+1,none⟩=some u/\jU B t (.agg #[.string x,u]) w:=by
 obtain ⟨hB,x,ts,u,h0,h1,h2,h3⟩:=h;exact ⟨x,u,h1,h2,x,ts,u,h0,rfl,h3⟩
theorem aaz {d b o:Nat} {w:World} {t:Value} (h:dW 0 w d b o t):∃k x y n u z a,w.cell? ⟨b,o,none⟩=some (.int .i64 k)/\w.cell? ⟨b,o+1,none⟩=some (.string x)/\w.cell? ⟨b,o+2,none⟩=some (.string y)/\w.cell? ⟨b,o+3,none⟩=some (.int .i64 n)/\w.cell? ⟨b,o+4,none⟩=some u/\w.cell? ⟨b,o+5,none⟩=some z/\w.cell? ⟨b,o+6,none⟩=some (.int .i64 a)/\∃d0,d=d0+1/\ji 0 d0 w t (.agg #[.int .i64 k,.string x,.string y,.int .i64 n,u,z,.int .i64 a]):=by
 cases d with
 | zero=>exact h.elim
 | succ d =>
  obtain ⟨hp,k,x,y,n,es,ps,a,v,u,h0,h1,h2,h3,h4,h5,h6,h7,h8,h9⟩:=h;exact ⟨k,x,y,n,v,u,a,h1,h2,h3,h4,h5,h6,h7,d,rfl,k,x,y,n,es,ps,a,v,u,h0,rfl,h8,h9⟩
theorem aaA {d b o:Nat} {w:World} {t:Value} (h:di 0 w d b o t):∃k x n u a,w.cell? ⟨b,o,none⟩=some (.int .i64 k)/\w.cell? ⟨b,o+1,none⟩=some (.string x)/\w.cell? ⟨b,o+2,none⟩=some (.int .i64 n)/\w.cell? ⟨b,o+3,none⟩=some u/\w.cell? ⟨b,o+4,none⟩=some (.int .i64 a)/\∃d0,d=d0+1/\lu 0 d0 w t (.agg #[.int .i64 k,.string x,.int .i64 n,u,.int .i64 a]):=by
 cases d with
 | zero=>exact h.elim
 | succ d =>
  obtain ⟨hp,k,x,n,es,a,v,h0,h1,h2,h3,h4,h5,h6⟩:=h;exact ⟨k,x,n,v,a,h1,h2,h3,h4,h5,d,rfl,k,x,n,es,a,v,h0,rfl,h6⟩
end Pz
theorem aaB (g:Value->Bool) (l:List Value) (v:Value) (w:World) (h:Row 4 (zJ 0 w) v l) (HF:∀t v w',t ∈ l->lj 0 t v w'->Below w.heap.size w w'->Calls Tryz.prog 63 #[v] w' fun e w2=>e=.returned (.bool (g t))/\Below w'.heap.size w' w2) :
  Calls Tryz.prog 125 #[v,.func (.func 63) #[] #[]] w fun e w'=>(∃r:Int,e=.returned (.int .i64 r)/\decide (r>=0)=l.any g)/\Below w.heap.size w w':=by
 obtain ⟨oR,cR,rfl,hel⟩:=cF h;obtain ⟨R,hR⟩:∃R,R=l.any g:=⟨_,rfl⟩;rw [<- hR];have st0:Hid ((l.drop 0).any g=R):=ae (by rw [hR];rfl);have HL:=ae h.1;have iT:=ae hel;have zR:=ae HF;clear hR h hel HF;go_enter Tryz.func125,Tryz.ntmps125;go_wp2_with fail;go_loopw [8] (fun a wr=>∃i:Nat,a=.int .i64 i/\i<=l.length/\Hid ((l.drop i).any g=R)/\Hid (Below w.heap.size w wr)) (fun a _=>match a with | .int _ i=>l.length-i.toNat|_=>0)
 case atStart=>exact ⟨0,rfl,Nat.zero_le _,st0,ae (Below.refl _ _)⟩
 case round =>
  obtain ⟨i,rfl,hi,HN,HB2⟩:=hrel;clear st0;by_cases hp:i<l.length
  ·obtain ⟨t1,ht1⟩:∃t1,l[i]?=some t1:=⟨_,List.getElem?_eq_getElem hp⟩;obtain ⟨b,off,gH,hC⟩:=iT.out i t1 ht1;subst gH;obtain ⟨dx,du,dz,da,h1,h2,h3,h4,hT⟩:=aax hC;have y0:=ai HB2.out h1;have y1:=ai HB2.out h2;have y2:=ai HB2.out h3;have y3:=ai HB2.out h4;have q1:decide ((i:Int)<(l.length:Int))=true:=decide_eq_true (by omega);have hw1:=nM hp HL.out;have hd:=sx (f:=g) ht1;rw [HN.out] at hd;have eP:=ae (zR.out t1 _ wr (List.mem_of_getElem? ht1) (hT.on (B:=0) (C:=0) (fun kk _ hl=>(HB2.out.block kk hl)) (Nat.le_refl _)) HB2.out);clear hC h1 h2 h3 h4 hT ht1 HN;generalize g t1=Bt at *;cases Bt with
   | true =>
    have HS:Hid (R=true):=ae hd;clear hd;go_wp2_with fail;refine Calls.mono (show Calls _ _ _ _ _ from eP.out) ?_;rintro e w3 ⟨rfl,hb3⟩;have bb:=ae (aB HB2.out hb3);clear hb3 y0 y1 y2 y3;go_wp2;go_ret;exact ⟨⟨i,rfl,by rw [HS.out];exact decide_eq_true (by omega)⟩,bb.out⟩
   | false =>
    have HS:Hid ((l.drop (i+1)).any g=R):=ae hd.symm;clear hd;go_wp2_with fail;refine Calls.mono (show Calls _ _ _ _ _ from eP.out) ?_;rintro e w3 ⟨rfl,hb3⟩;have bb:=ae (aB HB2.out hb3);clear hb3 y0 y1 y2 y3;go_wp2;go_roundw
    case rel=>exact ⟨i+1,by first|rfl|(congr 1),hp,HS,bb⟩
    case measure=>simp;omega
  ·have q1:decide ((i:Int)<(l.length:Int))=false:=decide_eq_false (by omega);have HS:Hid (R=false):=ae (by rw [<- HN.out,List.drop_eq_nil_of_le (by omega)];rfl);clear HN;go_wp2;go_ret;exact ⟨⟨-1,rfl,by rw [HS.out];rfl⟩,HB2.out⟩
theorem aaC (g:Value->Bool) (l:List Value) (v:Value) (w:World) (h:Row 4 (zJ 0 w) v l) (HF:∀t v w',t ∈ l->lj 0 t v w'->Below w.heap.size w w'->Calls Tryz.prog 63 #[v] w' fun e w2=>e=.returned (.bool (g t))/\Below w'.heap.size w' w2) :
  Calls Tryz.prog 62 #[v,.func (.func 63) #[] #[]] w fun e w'=>e=.returned (.bool (l.any g))/\Below w.heap.size w w':=by
 have H:=ae (aaB g l v w h HF);obtain ⟨oR,cR,rfl,_⟩:=cF h;clear h HF;go_enter Tryz.func62,Tryz.ntmps62;go_wp2_with fail;refine Calls.mono (show Calls _ _ _ _ _ from H.out) ?_;rintro e w1 ⟨⟨r,rfl,hr⟩,hb⟩;have HB:=ae hb;have HR:=ae hr;clear hb H hr;go_wp2;go_ret;exact ⟨bf HR.out,HB.out⟩
theorem aaD (g:Value->Bool) (l:List Value) (v:Value) (w:World) (h:Row 2 (tC 0 w) v l) (HF:∀t v w',t ∈ l->jU 0 t v w'->Below w.heap.size w w'->Calls Tryz.prog 127 #[v] w' fun e w2=>e=.returned (.bool (g t))/\Below w'.heap.size w' w2) :
  Calls Tryz.prog 159 #[v,.func (.func 127) #[] #[]] w fun e w'=>(∃r:Int,e=.returned (.int .i64 r)/\decide (r>=0)=l.any g)/\Below w.heap.size w w':=by
 obtain ⟨oR,cR,rfl,hel⟩:=cF h;obtain ⟨R,hR⟩:∃R,R=l.any g:=⟨_,rfl⟩;rw [<- hR];have st0:Hid ((l.drop 0).any g=R):=ae (by rw [hR];rfl);have HL:=ae h.1;have iT:=ae hel;have zR:=ae HF;clear hR h hel HF;go_enter Tryz.func159,Tryz.ntmps159;go_wp2_with fail;go_loopw [8] (fun a wr=>∃i:Nat,a=.int .i64 i/\i<=l.length/\Hid ((l.drop i).any g=R)/\Hid (Below w.heap.size w wr)) (fun a _=>match a with | .int _ i=>l.length-i.toNat|_=>0)
 case atStart=>exact ⟨0,rfl,Nat.zero_le _,st0,ae (Below.refl _ _)⟩
 case round =>
  obtain ⟨i,rfl,hi,HN,HB2⟩:=hrel;clear st0;by_cases hp:i<l.length
  ·obtain ⟨t1,ht1⟩:∃t1,l[i]?=some t1:=⟨_,List.getElem?_eq_getElem hp⟩;obtain ⟨b,off,gH,hC⟩:=iT.out i t1 ht1;subst gH;obtain ⟨dx,du,h1,h2,hT⟩:=aay hC;have y0:=ai HB2.out h1;have y1:=ai HB2.out h2;have q1:decide ((i:Int)<(l.length:Int))=true:=decide_eq_true (by omega);have hw1:=nM hp HL.out;have hd:=sx (f:=g) ht1;rw [HN.out] at hd;have eP:=ae (zR.out t1 _ wr (List.mem_of_getElem? ht1) (hT.on (B:=0) (C:=0) (fun kk _ hl=>(HB2.out.block kk hl)) (Nat.le_refl _)) HB2.out);clear hC h1 h2 hT ht1 HN;generalize g t1=Bt at *;cases Bt with
   | true =>
    have HS:Hid (R=true):=ae hd;clear hd;go_wp2_with fail;refine Calls.mono (show Calls _ _ _ _ _ from eP.out) ?_;rintro e w3 ⟨rfl,hb3⟩;have bb:=ae (aB HB2.out hb3);clear hb3 y0 y1;go_wp2;go_ret;exact ⟨⟨i,rfl,by rw [HS.out];exact decide_eq_true (by omega)⟩,bb.out⟩
   | false =>
    have HS:Hid ((l.drop (i+1)).any g=R):=ae hd.symm;clear hd;go_wp2_with fail;refine Calls.mono (show Calls _ _ _ _ _ from eP.out) ?_;rintro e w3 ⟨rfl,hb3⟩;have bb:=ae (aB HB2.out hb3);clear hb3 y0 y1;go_wp2;go_roundw
    case rel=>exact ⟨i+1,by first|rfl|(congr 1),hp,HS,bb⟩
    case measure=>simp;omega
  ·have q1:decide ((i:Int)<(l.length:Int))=false:=decide_eq_false (by omega);have HS:Hid (R=false):=ae (by rw [<- HN.out,List.drop_eq_nil_of_le (by omega)];rfl);clear HN;go_wp2;go_ret;exact ⟨⟨-1,rfl,by rw [HS.out];rfl⟩,HB2.out⟩
theorem Xt (g:Value->Bool) (l:List Value) (v:Value) (w:World) (h:Row 2 (tC 0 w) v l) (HF:∀t v w',t ∈ l->jU 0 t v w'->Below w.heap.size w w'->Calls Tryz.prog 127 #[v] w' fun e w2=>e=.returned (.bool (g t))/\Below w'.heap.size w' w2) :
  Calls Tryz.prog 126 #[v,.func (.func 127) #[] #[]] w fun e w'=>e=.returned (.bool (l.any g))/\Below w.heap.size w w':=by
 have H:=ae (aaD g l v w h HF);obtain ⟨oR,cR,rfl,_⟩:=cF h;clear h HF;go_enter Tryz.func126,Tryz.ntmps126;go_wp2_with fail;refine Calls.mono (show Calls _ _ _ _ _ from H.out) ?_;rintro e w1 ⟨⟨r,rfl,hr⟩,hb⟩;have HB:=ae hb;have HR:=ae hr;clear hb H hr;go_wp2;go_ret;exact ⟨bf HR.out,HB.out⟩
theorem aaE (g:Value->Bool) (l:List Value) (v:Value) (w:World) (d:Nat) (h:Row 7 (dW 0 w d) v l) (HF:∀t v w',t ∈ l->(∃d0,d=d0+1/\ji 0 d0 w' t v)->Below w.heap.size w w'->Calls Tryz.prog 64 #[v] w' fun e w2=>e=.returned (.bool (g t))/\Below w'.heap.size w' w2) :
  Calls Tryz.prog 160 #[v,.func (.func 64) #[] #[]] w fun e w'=>(∃r:Int,e=.returned (.int .i64 r)/\decide (r>=0)=l.any g)/\Below w.heap.size w w':=by
 obtain ⟨oR,cR,rfl,hel⟩:=cF h;obtain ⟨R,hR⟩:∃R,R=l.any g:=⟨_,rfl⟩;rw [<- hR];have st0:Hid ((l.drop 0).any g=R):=ae (by rw [hR];rfl);have HL:=ae h.1;have iT:=ae hel;have zR:=ae HF;clear hR h hel HF;go_enter Tryz.func160,Tryz.ntmps160;go_wp2_with fail;go_loopw [8] (fun a wr=>∃i:Nat,a=.int .i64 i/\i<=l.length/\Hid ((l.drop i).any g=R)/\Hid (Below w.heap.size w wr)) (fun a _=>match a with | .int _ i=>l.length-i.toNat|_=>0)
 case atStart=>exact ⟨0,rfl,Nat.zero_le _,st0,ae (Below.refl _ _)⟩
 case round =>
  obtain ⟨i,rfl,hi,HN,HB2⟩:=hrel;clear st0;by_cases hp:i<l.length
  ·obtain ⟨t1,ht1⟩:∃t1,l[i]?=some t1:=⟨_,List.getElem?_eq_getElem hp⟩;obtain ⟨b,off,gH,hC⟩:=iT.out i t1 ht1;subst gH;obtain ⟨dk,dx,dy,dn,du,dz,da,h1,h2,h3,h4,h5,h6,h7,hT⟩:=aaz hC;have y0:=ai HB2.out h1;have y1:=ai HB2.out h2;have y2:=ai HB2.out h3;have y3:=ai HB2.out h4;have y4:=ai HB2.out h5;have y5:=ai HB2.out h6;have y6:=ai HB2.out h7;have q1:decide ((i:Int)<(l.length:Int))=true:=decide_eq_true (by omega);have hw1:=nM hp HL.out;have hd:=sx (f:=g) ht1;rw [HN.out] at hd;have eP:=ae (zR.out t1 _ wr (List.mem_of_getElem? ht1) (by obtain ⟨d0,e0,hh⟩:=hT;exact ⟨d0,e0,hh.but (fun kk _ hl=>(HB2.out.block kk hl))⟩) HB2.out);clear hC h1 h2 h3 h4 h5 h6 h7 hT ht1 HN;generalize g t1=Bt at *;cases Bt with
   | true =>
    have HS:Hid (R=true):=ae hd;clear hd;go_wp2_with fail;refine Calls.mono (show Calls _ _ _ _ _ from eP.out) ?_;rintro e w3 ⟨rfl,hb3⟩;have bb:=ae (aB HB2.out hb3);clear hb3 y0 y1 y2 y3 y4 y5 y6;go_wp2;go_ret;exact ⟨⟨i,rfl,by rw [HS.out];exact decide_eq_true (by omega)⟩,bb.out⟩
   | false =>
    have HS:Hid ((l.drop (i+1)).any g=R):=ae hd.symm;clear hd;go_wp2_with fail;refine Calls.mono (show Calls _ _ _ _ _ from eP.out) ?_;rintro e w3 ⟨rfl,hb3⟩;have bb:=ae (aB HB2.out hb3);clear hb3 y0 y1 y2 y3 y4 y5 y6;go_wp2;go_roundw
    case rel=>exact ⟨i+1,by first|rfl|(congr 1),hp,HS,bb⟩
    case measure=>simp;omega
  ·have q1:decide ((i:Int)<(l.length:Int))=false:=decide_eq_false (by omega);have HS:Hid (R=false):=ae (by rw [<- HN.out,List.drop_eq_nil_of_le (by omega)];rfl);clear HN;go_wp2;go_ret;exact ⟨⟨-1,rfl,by rw [HS.out];rfl⟩,HB2.out⟩
theorem OH (g:Value->Bool) (l:List Value) (v:Value) (w:World) (d:Nat) (h:Row 7 (dW 0 w d) v l) (HF:∀t v w',t ∈ l->(∃d0,d=d0+1/\ji 0 d0 w' t v)->Below w.heap.size w w'->Calls Tryz.prog 64 #[v] w' fun e w2=>e=.returned (.bool (g t))/\Below w'.heap.size w' w2) :
  Calls Tryz.prog 128 #[v,.func (.func 64) #[] #[]] w fun e w'=>e=.returned (.bool (l.any g))/\Below w.heap.size w w':=by
 have H:=ae (aaE g l v w d h HF);obtain ⟨oR,cR,rfl,_⟩:=cF h;clear h HF;go_enter Tryz.func128,Tryz.ntmps128;go_wp2_with fail;refine Calls.mono (show Calls _ _ _ _ _ from H.out) ?_;rintro e w1 ⟨⟨r,rfl,hr⟩,hb⟩;have HB:=ae hb;have HR:=ae hr;clear hb H hr;go_wp2;go_ret;exact ⟨bf HR.out,HB.out⟩
theorem aaF (g:Value->Bool) (l:List Value) (v:Value) (w:World) (d:Nat) (h:Row 5 (di 0 w d) v l) (HF:∀t v w',t ∈ l->(∃d0,d=d0+1/\lu 0 d0 w' t v)->Below w.heap.size w w'->Calls Tryz.prog 130 #[v] w' fun e w2=>e=.returned (.bool (g t))/\Below w'.heap.size w' w2) :
  Calls Tryz.prog 161 #[v,.func (.func 130) #[] #[]] w fun e w'=>(∃r:Int,e=.returned (.int .i64 r)/\decide (r>=0)=l.any g)/\Below w.heap.size w w':=by
 obtain ⟨oR,cR,rfl,hel⟩:=cF h;obtain ⟨R,hR⟩:∃R,R=l.any g:=⟨_,rfl⟩;rw [<- hR];have st0:Hid ((l.drop 0).any g=R):=ae (by rw [hR];rfl);have HL:=ae h.1;have iT:=ae hel;have zR:=ae HF;clear hR h hel HF;go_enter Tryz.func161,Tryz.ntmps161;go_wp2_with fail;go_loopw [8] (fun a wr=>∃i:Nat,a=.int .i64 i/\i<=l.length/\Hid ((l.drop i).any g=R)/\Hid (Below w.heap.size w wr)) (fun a _=>match a with | .int _ i=>l.length-i.toNat|_=>0)
 case atStart=>exact ⟨0,rfl,Nat.zero_le _,st0,ae (Below.refl _ _)⟩
 case round =>
  obtain ⟨i,rfl,hi,HN,HB2⟩:=hrel;clear st0;by_cases hp:i<l.length
  ·obtain ⟨t1,ht1⟩:∃t1,l[i]?=some t1:=⟨_,List.getElem?_eq_getElem hp⟩;obtain ⟨b,off,gH,hC⟩:=iT.out i t1 ht1;subst gH;obtain ⟨dk,dx,dn,du,da,h1,h2,h3,h4,h5,hT⟩:=aaA hC;have y0:=ai HB2.out h1;have y1:=ai HB2.out h2;have y2:=ai HB2.out h3;have y3:=ai HB2.out h4;have y4:=ai HB2.out h5;have q1:decide ((i:Int)<(l.length:Int))=true:=decide_eq_true (by omega);have hw1:=nM hp HL.out;have hd:=sx (f:=g) ht1;rw [HN.out] at hd;have eP:=ae (zR.out t1 _ wr (List.mem_of_getElem? ht1) (by obtain ⟨d0,e0,hh⟩:=hT;exact ⟨d0,e0,hh.but (fun kk _ hl=>(HB2.out.block kk hl))⟩) HB2.out);clear hC h1 h2 h3 h4 h5 hT ht1 HN;generalize g t1=Bt at *;cases Bt with
   | true =>
    have HS:Hid (R=true):=ae hd;clear hd;go_wp2_with fail;refine Calls.mono (show Calls _ _ _ _ _ from eP.out) ?_;rintro e w3 ⟨rfl,hb3⟩;have bb:=ae (aB HB2.out hb3);clear hb3 y0 y1 y2 y3 y4;go_wp2;go_ret;exact ⟨⟨i,rfl,by rw [HS.out];exact decide_eq_true (by omega)⟩,bb.out⟩
   | false =>
    have HS:Hid ((l.drop (i+1)).any g=R):=ae hd.symm;clear hd;go_wp2_with fail;refine Calls.mono (show Calls _ _ _ _ _ from eP.out) ?_;rintro e w3 ⟨rfl,hb3⟩;have bb:=ae (aB HB2.out hb3);clear hb3 y0 y1 y2 y3 y4;go_wp2;go_roundw
    case rel=>exact ⟨i+1,by first|rfl|(congr 1),hp,HS,bb⟩
    case measure=>simp;omega
  ·have q1:decide ((i:Int)<(l.length:Int))=false:=decide_eq_false (by omega);have HS:Hid (R=false):=ae (by rw [<- HN.out,List.drop_eq_nil_of_le (by omega)];rfl);clear HN;go_wp2;go_ret;exact ⟨⟨-1,rfl,by rw [HS.out];rfl⟩,HB2.out⟩
theorem E5 (g:Value->Bool) (l:List Value) (v:Value) (w:World) (d:Nat) (h:Row 5 (di 0 w d) v l) (HF:∀t v w',t ∈ l->(∃d0,d=d0+1/\lu 0 d0 w' t v)->Below w.heap.size w w'->Calls Tryz.prog 130 #[v] w' fun e w2=>e=.returned (.bool (g t))/\Below w'.heap.size w' w2) :
  Calls Tryz.prog 129 #[v,.func (.func 130) #[] #[]] w fun e w'=>e=.returned (.bool (l.any g))/\Below w.heap.size w w':=by
 have H:=ae (aaF g l v w d h HF);obtain ⟨oR,cR,rfl,_⟩:=cF h;clear h HF;go_enter Tryz.func129,Tryz.ntmps129;go_wp2_with fail;refine Calls.mono (show Calls _ _ _ _ _ from H.out) ?_;rintro e w1 ⟨⟨r,rfl,hr⟩,hb⟩;have HB:=ae hb;have HR:=ae hr;clear hb H hr;go_wp2;go_ret;exact ⟨bf HR.out,HB.out⟩
end Go.Proofs.YtkdbgopgjbfhbaaGreatDoor
