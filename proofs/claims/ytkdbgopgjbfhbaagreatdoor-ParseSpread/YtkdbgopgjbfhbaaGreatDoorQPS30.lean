/- Texts that the claim needs. -/
import Derived.Test.YtkdbgopgjbfhbaaGreatDoorQPS29
namespace Go.Proofs.YtkdbgopgjbfhbaaGreatDoor
open Go.RowKit Lx Pz bb
set_option linter.unusedVariables false
set_option maxRecDepth 100000
set_option maxHeartbeats 8000000
namespace Pz
def dw:Value->List Value
 | .agg c=>match (c:Array Value)[4]? with
  | some (Value.agg a)=>a.toList
  | _=>[]
 | _=>[]
def iH:Value->List Value
 | .agg c=>match (c:Array Value)[5]? with
  | some (Value.agg a)=>a.toList
  | _=>[]
 | _=>[]
theorem ko (k:Int) (x y:ByteArray) (n:Int) (es ps:List Value) (a:Int):dw (nd k x y n es ps a)=es:=rfl
theorem p8 (k:Int) (x y:ByteArray) (n:Int) (es ps:List Value) (a:Int):iH (nd k x y n es ps a)=ps:=rfl
def l7:Nat->Value->Bool
 | 0,_=>true
 | m+1,t=>(dw t).any (l7 m)
def iO:Nat->List Value->Bool
 | 0,l=>l.any (fun _=>true)
 | m+1,l=>l.any (fun t=>iO m (dw t))
def lG:Nat->Value->Bool
 | 0,_=>true
 | m+1,t=>(dw t).any (lG m) || iO m (iH t)
theorem cF {α:Type} {sz:Nat} {f:Nat->Nat->α->Prop} {v:Value} {l:List α} (h:Row sz f v l):∃o c,v=.slice o l.length c/\∀i x,l[i]?=some x->∃b off,o=some ⟨b,off,none⟩/\f b (off+i*sz) x:=by
 rcases h with ⟨_,⟨rfl,o,cap,rfl⟩|⟨b,off,cap,rfl,hc⟩⟩
 ·exact ⟨o,cap,rfl,fun i x hx=>(by simp at hx)⟩
 ·exact ⟨_,cap,rfl,fun i x hx=>⟨b,off,rfl,hc i x hx⟩⟩
theorem Lj {B d b o:Nat} {w:World} {t:Value} (h:eG B w d b o t):∃k x n u es,t=nd k x e0 n es [] 0/\w.cell? ⟨b,o,none⟩=some (.int .i64 k)/\w.cell? ⟨b,o+1,none⟩=some (.string x)/\w.cell? ⟨b,o+2,none⟩=some (.int .i64 n)/\w.cell? ⟨b,o+3,none⟩=some u/\u.oneCell'=true/\fC B t (.agg #[.int .i64 k,.string x,.int .i64 n,u]) w:=by
 cases d with
 | zero=>exact h.elim
 | succ d =>
  obtain ⟨hp,k,x,n,es,v,h0,h1,h2,h3,h4,h5⟩:=h;obtain ⟨o',c',hv⟩:=h5.len;exact ⟨k,x,n,v,es,h0,h1,h2,h3,h4,by rw [hv];rfl,d,k,x,n,es,v,h0,rfl,h5⟩
theorem LB {B d b o:Nat} {w:World} {t:Value} (h:cW B w d b o t):∃k x n u a es,t=nd k x e0 n es [] a/\w.cell? ⟨b,o,none⟩=some (.int .i64 k)/\w.cell? ⟨b,o+1,none⟩=some (.string x)/\w.cell? ⟨b,o+2,none⟩=some (.int .i64 n)/\w.cell? ⟨b,o+3,none⟩=some u/\w.cell? ⟨b,o+4,none⟩=some (.int .i64 a)/\u.oneCell'=true/\cG B t (.agg #[.int .i64 k,.string x,.int .i64 n,u,.int .i64 a]) w/\lC B u es w:=by
 cases d with
 | zero=>exact h.elim
 | succ d =>
  obtain ⟨hp,k,x,n,es,a,v,h0,h1,h2,h3,h4,h5,h6⟩:=h;obtain ⟨o',c',hv⟩:=h6.len;exact ⟨k,x,n,v,a,es,h0,h1,h2,h3,h4,h5,by rw [hv];rfl,⟨d,k,x,n,es,a,v,h0,rfl,h6⟩,d,h6⟩
theorem J0 {B d b o:Nat} {w:World} {t:Value} (h:dR B w d b o t):∃k x y n u z a,w.cell? ⟨b,o,none⟩=some (.int .i64 k)/\w.cell? ⟨b,o+1,none⟩=some (.string x)/\w.cell? ⟨b,o+2,none⟩=some (.string y)/\w.cell? ⟨b,o+3,none⟩=some (.int .i64 n)/\w.cell? ⟨b,o+4,none⟩=some u/\w.cell? ⟨b,o+5,none⟩=some z/\w.cell? ⟨b,o+6,none⟩=some (.int .i64 a)/\u.oneCell'=true/\z.oneCell'=true/\aY B t (.agg #[.int .i64 k,.string x,.string y,.int .i64 n,u,z,.int .i64 a]) w:=by
 cases d with
 | zero=>exact h.elim
 | succ d =>
  obtain ⟨hp,k,x,y,n,es,ps,a,v,u,h0,h1,h2,h3,h4,h5,h6,h7,h8,h9⟩:=h;obtain ⟨o',c',hv⟩:=h8.len;obtain ⟨o2,c2,hu⟩:=h9.len;exact ⟨k,x,y,n,v,u,a,h1,h2,h3,h4,h5,h6,h7,by rw [hv];rfl,by rw [hu];rfl,d,k,x,y,n,es,ps,a,v,u,h0,rfl,h8,h9⟩
theorem lC.on {B C:Nat} {v:Value} {ts:List Value} {w w':World} (h:lC C v ts w) (hb:bT C w w') (hc:B<=C):lC B v ts w':=by
 obtain ⟨d,hd⟩:=h;exact ⟨d,hd.imp fun b o t _ ht=>cW.lo hc d b o t (cW.but hb d b o t ht)⟩
theorem rM {α:Type} {l:List α} {f:α->Bool} {i:Nat} {x:α} (hx:l[i]?=some x):(l.drop i).any f=(f x || (l.drop (i+1)).any f):=by
 have hi:=(List.getElem?_eq_some_iff.1 hx).1;rw [List.drop_eq_getElem_cons hi,List.any_cons,(List.getElem?_eq_some_iff.1 hx).2]
theorem LC {m:Nat} (hm:m<=1000):wrap64 (((m+1:Nat):Int)-1)=(m:Int):=by unfold wrap64;omega
theorem mZ {i n:Nat} (h:i<n) (hn:n<=9223372036854775807):wrap64 ((i:Int)+1)=((i+1:Nat):Int):=by unfold wrap64;omega
end Pz
theorem TJ:∀(m:Nat) (t v:Value) (w:World),m<=1000->fC 0 t v w->Calls Tryz.prog 65 #[v,.int .i64 m] w fun e w'=>e=.returned (.bool (l7 m t))/\Below w.heap.size w w'
 | 0,t,v,w,hm,h=>by
  obtain ⟨k,x,n,u,rfl,o1⟩:=h.val;have HB:=ae (dh w (.cells #[.int .i64 k,.string x,.int .i64 n,u] 79));clear h;go_enter Tryz.func65,Tryz.ntmps65;go_wp2;go_ret;exact ⟨rfl,HB.out⟩
 | m+1,t,v,w,hm,h=>by
  have ih:=fun t v w' h'=>TJ m t v w' (by omega) h';obtain ⟨d,k,x,n,es,u,rfl,rfl,hrow⟩:=h;obtain ⟨oR,cR,rfl,hel⟩:=cF hrow;obtain ⟨R,hR⟩:∃R,R=l7 (m+1) (nd k x e0 n es [] 0):=⟨_,rfl⟩;rw [<- hR];have st0:Hid ((es.drop 0).any (l7 m)=R):=ae (by rw [hR];rfl);have HL:=ae hrow.1;have HB:=ae (dh w (.cells #[.int .i64 k,.string x,.int .i64 n,.slice oR es.length cR] 79));have iU:=ae hel;have lT:=ae ih;have hq0:((((m+1:Nat):Int)) == 0)=false:=beq_eq_false_iff_ne.2 (by omega);have hq1:=LC (show m<=1000 by omega);obtain ⟨K,hK⟩:∃K:Int,K=((m+1:Nat):Int):=⟨_,rfl⟩;rw [<- hK] at hq0 hq1 ⊢;clear hR hrow hel ih hK hm;go_enter Tryz.func65,Tryz.ntmps65;go_wp2_with fail;go_loopw [12] (fun a wr=>∃i:Nat,a=.int .i64 i/\i<=es.length/\Hid ((es.drop i).any (l7 m)=R)/\Hid (Below w.heap.size w wr)) (fun a _=>match a with | .int _ i=>es.length-i.toNat|_=>0)
  case atStart=>exact ⟨0,rfl,Nat.zero_le _,st0,HB⟩
  case round =>
   obtain ⟨i,rfl,hi,HN,HB2⟩:=hrel;clear st0 HB;by_cases hp:i<es.length
   ·obtain ⟨t1,ht1⟩:∃t1,es[i]?=some t1:=⟨_,List.getElem?_eq_getElem hp⟩;obtain ⟨b,off,gF,hC⟩:=iU.out i t1 ht1;subst gF;obtain ⟨k1,x1,n1,u1,es1,h0,h1,h2,h3,h4,o1,hT⟩:=Lj hC;have y0:=ah HB2.out h1;have y1:=ah HB2.out h2;have y2:=ah HB2.out h3;have y3:=ah HB2.out h4;have q1:decide ((i:Int)<(es.length:Int))=true:=decide_eq_true (by omega);have hw1:=mZ hp HL.out;have hd:=rM (f:=l7 m) ht1;rw [HN.out] at hd;obtain ⟨W,hW,hth,hbk,hbw⟩:=l4 wr 79 nz #[.int .i64 k1,.string x1,.int .i64 n1,u1] rfl;have eH:=ae (lT.out t1 _ W ((hT.on (B:=0) (C:=0) (fun kk _ hl=>(HB2.out.block kk hl)) (Nat.le_refl _)).on (fun kk _ hl=>hbw.block kk hl) (Nat.le_refl _)));have HW:=ae hW;have ax:=ae hth;have aj:=ae hbk;have cf:=ae (az HB2.out hbw);have z0:=af aj.out 0 _ rfl;have z1:=af aj.out 1 _ rfl;have z2:=af aj.out 2 _ rfl;have z3:=af aj.out 3 _ rfl;clear hC h0 h1 h2 h3 h4 hT hW hth hbk hbw ht1 HN HB2;cases hb:l7 m t1 with
    | true =>
     rw [hb] at hd eH;have HS:Hid (R=true):=ae hd;clear hb hd;go_wp2_with (refine wpList_store_mid rfl 79 (.tmp 6) (.tmp 15) rfl wr.heap.size 0 #[.int .i64 k1,.string x1,.int .i64 n1,u1] rfl rfl ax.out jK (by simp [Value.oneCell'] at o1 ⊢;exact o1) ?_;rw [HW.out]);refine Calls.mono (show Calls _ _ _ _ _ from eH.out) ?_;rintro e w3 ⟨rfl,hb3⟩;have aW:=ae (az cf.out hb3);clear hb3 z0 z1 z2 z3 y0 y1 y2 y3;go_wp2;go_ret;exact ⟨ba HS.out.symm,aW.out⟩
    | false =>
     rw [hb] at hd eH;have HS:Hid ((es.drop (i+1)).any (l7 m)=R):=ae hd.symm;clear hb hd;go_wp2_with (refine wpList_store_mid rfl 79 (.tmp 6) (.tmp 15) rfl wr.heap.size 0 #[.int .i64 k1,.string x1,.int .i64 n1,u1] rfl rfl ax.out jK (by simp [Value.oneCell'] at o1 ⊢;exact o1) ?_;rw [HW.out]);refine Calls.mono (show Calls _ _ _ _ _ from eH.out) ?_;rintro e w3 ⟨rfl,hb3⟩;have aW:=ae (az cf.out hb3);clear hb3 z0 z1 z2 z3 y0 y1 y2 y3;go_wp2;go_roundw
     case rel=>exact ⟨i+1,by first|rfl|(congr 1),hp,HS,aW⟩
     case measure=>simp;omega
   ·have q1:decide ((i:Int)<(es.length:Int))=false:=decide_eq_false (by omega);have HS:Hid (R=false):=ae (by rw [<- HN.out,List.drop_eq_nil_of_le (by omega)];rfl);clear HN;go_wp2;go_ret;exact ⟨ba HS.out.symm,HB2.out⟩
theorem acK  (l:List Value) (v:Value) (w:World) (h:lC 0 v l w):Calls Tryz.prog 131 #[v,.int .i64 ((0:Nat):Int)] w fun e w'=>e=.returned (.bool (iO (0) l))/\Below w.heap.size w w':=by
 obtain ⟨d,hrow⟩:=h;obtain ⟨oR,cR,rfl,hel⟩:=cF hrow;obtain ⟨R,hR⟩:∃R,R=iO (0) l:=⟨_,rfl⟩;rw [<- hR];have st0:Hid ((l.drop 0).any (fun _=>true)=R):=ae (by rw [hR];rfl);have HL:=ae hrow.1;have iU:=ae hel;have hq0:(((0:Nat):Int) == 0)=true:=rfl;obtain ⟨K,hK⟩:∃K:Int,K=((0:Nat):Int):=⟨_,rfl⟩;rw [<- hK] at hq0 ⊢;clear hR hrow hel hK;go_enter Tryz.func131,Tryz.ntmps131;go_wp2_with fail;go_loopw [9] (fun a wr=>∃i:Nat,a=.int .i64 i/\i<=l.length/\Hid ((l.drop i).any (fun _=>true)=R)/\Hid (Below w.heap.size w wr)) (fun a _=>match a with | .int _ i=>l.length-i.toNat|_=>0)
 case atStart=>exact ⟨0,rfl,Nat.zero_le _,st0,ae (Below.refl _ _)⟩
 case round =>
  obtain ⟨i,rfl,hi,HN,HB2⟩:=hrel;clear st0;by_cases hp:i<l.length
  ·obtain ⟨t1,ht1⟩:∃t1,l[i]?=some t1:=⟨_,List.getElem?_eq_getElem hp⟩;obtain ⟨b,off,gF,hC⟩:=iU.out i t1 ht1;subst gF;obtain ⟨k1,x1,n1,u1,a1,es1,h0,h1,h2,h3,h4,h5,o1,hT,GV⟩:=LB hC;have y0:=ah HB2.out h1;have y1:=ah HB2.out h2;have y2:=ah HB2.out h3;have y3:=ah HB2.out h4;have y4:=ah HB2.out h5;have q1:decide ((i:Int)<(l.length:Int))=true:=decide_eq_true (by omega);have hw1:=mZ hp HL.out;have hd:=rM (f:=(fun _=>true)) ht1;rw [HN.out] at hd;obtain ⟨W,hW,hth,hbk,hbw⟩:=l4 wr 101 iA #[.int .i64 k1,.string x1,.int .i64 n1,u1,.int .i64 a1] rfl;have HW:=ae hW;have ax:=ae hth;have cf:=ae (az HB2.out hbw);have z3:=af hbk 3 _ rfl;have HS:Hid (R=true):=ae hd;clear hC h0 h1 h2 h3 h4 h5 hT hW hth hbk hbw ht1 HN HB2 hd GV;go_wp2_with (refine wpList_store_mid rfl 101 (.tmp 6) (.tmp 12) rfl wr.heap.size 0 #[.int .i64 k1,.string x1,.int .i64 n1,u1,.int .i64 a1] rfl rfl ax.out jk (by simp [Value.oneCell'] at o1 ⊢;exact o1) ?_;rw [HW.out]);go_ret;exact ⟨ba HS.out.symm,cf.out⟩
  ·have q1:decide ((i:Int)<(l.length:Int))=false:=decide_eq_false (by omega);have HS:Hid (R=false):=ae (by rw [<- HN.out,List.drop_eq_nil_of_le (by omega)];rfl);clear HN;go_wp2;go_ret;exact ⟨ba HS.out.symm,HB2.out⟩
theorem acL (m:Nat) (hm:m<=1000) (ih:∀l v w,lC 0 v l w->Calls Tryz.prog 131 #[v,.int .i64 (m:Int)] w fun e w'=>e=.returned (.bool (iO m l))/\Below w.heap.size w w') (l:List Value) (v:Value) (w:World) (h:lC 0 v l w):Calls Tryz.prog 131 #[v,.int .i64 ((m+1:Nat):Int)] w fun e w'=>e=.returned (.bool (iO (m+1) l))/\Below w.heap.size w w':=by
 obtain ⟨d,hrow⟩:=h;obtain ⟨oR,cR,rfl,hel⟩:=cF hrow;obtain ⟨R,hR⟩:∃R,R=iO (m+1) l:=⟨_,rfl⟩;rw [<- hR];have st0:Hid ((l.drop 0).any (fun t=>iO m (dw t))=R):=ae (by rw [hR];rfl);have HL:=ae hrow.1;have iU:=ae hel;have hq0:(((m+1:Nat):Int) == 0)=false:=beq_eq_false_iff_ne.2 (by omega);have hq1:=LC hm;have lT:=ae ih;clear ih;obtain ⟨K,hK⟩:∃K:Int,K=((m+1:Nat):Int):=⟨_,rfl⟩;rw [<- hK] at hq0 hq1 ⊢;clear hR hrow hel hK;go_enter Tryz.func131,Tryz.ntmps131;go_wp2_with fail;go_loopw [9] (fun a wr=>∃i:Nat,a=.int .i64 i/\i<=l.length/\Hid ((l.drop i).any (fun t=>iO m (dw t))=R)/\Hid (Below w.heap.size w wr)) (fun a _=>match a with | .int _ i=>l.length-i.toNat|_=>0)
 case atStart=>exact ⟨0,rfl,Nat.zero_le _,st0,ae (Below.refl _ _)⟩
 case round =>
  obtain ⟨i,rfl,hi,HN,HB2⟩:=hrel;clear st0;by_cases hp:i<l.length
  ·obtain ⟨t1,ht1⟩:∃t1,l[i]?=some t1:=⟨_,List.getElem?_eq_getElem hp⟩;obtain ⟨b,off,gF,hC⟩:=iU.out i t1 ht1;subst gF;obtain ⟨k1,x1,n1,u1,a1,es1,h0,h1,h2,h3,h4,h5,o1,hT,GV⟩:=LB hC;have y0:=ah HB2.out h1;have y1:=ah HB2.out h2;have y2:=ah HB2.out h3;have y3:=ah HB2.out h4;have y4:=ah HB2.out h5;have q1:decide ((i:Int)<(l.length:Int))=true:=decide_eq_true (by omega);have hw1:=mZ hp HL.out;have hd:=rM (f:=(fun t=>iO m (dw t))) ht1;rw [HN.out] at hd;obtain ⟨W,hW,hth,hbk,hbw⟩:=l4 wr 101 iA #[.int .i64 k1,.string x1,.int .i64 n1,u1,.int .i64 a1] rfl;have HW:=ae hW;have ax:=ae hth;have cf:=ae (az HB2.out hbw);have z3:=af hbk 3 _ rfl;have Ub:=ae ((GV.on (B:=0) (fun kk _ hl=>HB2.out.block kk hl) (Nat.le_refl _)).on (B:=0) (fun kk _ hl=>hbw.block kk hl) (Nat.le_refl _));have Uc:dw t1=es1:=by rw [h0];rfl
   have eH:=ae (lT.out es1 _ W Ub.out);rw [Uc] at hd;clear hC h0 h1 h2 h3 h4 h5 hT hW hth hbk hbw ht1 HN HB2 GV Uc Ub;cases hb:iO m es1 with
   | true =>
    rw [hb] at hd eH;have HS:Hid (R=true):=ae hd;clear hb hd;go_wp2_with (refine wpList_store_mid rfl 101 (.tmp 6) (.tmp 12) rfl wr.heap.size 0 #[.int .i64 k1,.string x1,.int .i64 n1,u1,.int .i64 a1] rfl rfl ax.out jk (by simp [Value.oneCell'] at o1 ⊢;exact o1) ?_;rw [HW.out]);refine Calls.mono (show Calls _ _ _ _ _ from eH.out) ?_;rintro e w3 ⟨rfl,hb3⟩;have aW:=ae (az cf.out hb3);clear hb3 z3 y0 y1 y2 y3 y4;go_wp2;go_ret;exact ⟨ba HS.out.symm,aW.out⟩
   | false =>
    rw [hb] at hd eH;have HS:Hid ((l.drop (i+1)).any (fun t=>iO m (dw t))=R):=ae hd.symm;clear hb hd;go_wp2_with (refine wpList_store_mid rfl 101 (.tmp 6) (.tmp 12) rfl wr.heap.size 0 #[.int .i64 k1,.string x1,.int .i64 n1,u1,.int .i64 a1] rfl rfl ax.out jk (by simp [Value.oneCell'] at o1 ⊢;exact o1) ?_;rw [HW.out]);refine Calls.mono (show Calls _ _ _ _ _ from eH.out) ?_;rintro e w3 ⟨rfl,hb3⟩;have aW:=ae (az cf.out hb3);clear hb3 z3 y0 y1 y2 y3 y4;go_wp2;go_roundw
    case rel=>exact ⟨i+1,by first|rfl|(congr 1),hp,HS,aW⟩
    case measure=>simp;omega
  ·have q1:decide ((i:Int)<(l.length:Int))=false:=decide_eq_false (by omega);have HS:Hid (R=false):=ae (by rw [<- HN.out,List.drop_eq_nil_of_le (by omega)];rfl);clear HN;go_wp2;go_ret;exact ⟨ba HS.out.symm,HB2.out⟩
theorem Ud:∀(m:Nat) (l:List Value) (v:Value) (w:World),m<=1000->lC 0 v l w->Calls Tryz.prog 131 #[v,.int .i64 (m:Int)] w fun e w'=>e=.returned (.bool (iO m l))/\Below w.heap.size w w'
 | 0,l,v,w,_,h=>acK l v w h
 | m+1,l,v,w,hm,h=>acL m (by omega) (fun l v w h=>Ud m l v w (by omega) h) l v w h
theorem TK:∀(m:Nat) (t v:Value) (w:World),m<=1000->aY 0 t v w->Calls Tryz.prog 66 #[v,.int .i64 (m:Int)] w fun e w'=>e=.returned (.bool (lG m t))/\Below w.heap.size w w'
 | 0,t,v,w,hm,h=>by
  obtain ⟨k,x,y,n,u,z,a,rfl,o1,o2⟩:=h.val;have HB:=ae (dh w (.cells #[.int .i64 k,.string x,.string y,.int .i64 n,u,z,.int .i64 a] 27));clear h;go_enter Tryz.func66,Tryz.ntmps66;go_wp2;go_ret;exact ⟨rfl,HB.out⟩
 | m+1,t,v,w,hm,h=>by
  have ih:=fun t v w' h'=>TK m t v w' (by omega) h';obtain ⟨d,k,x,y,n,es,ps,a,u,z,rfl,rfl,hrow,mQ⟩:=h;obtain ⟨oR,cR,rfl,hel⟩:=cF hrow;obtain ⟨oP,cP,rfl,_⟩:=cF mQ;obtain ⟨R,hR⟩:∃R,R=lG (m+1) (nd k x y n es ps a):=⟨_,rfl⟩;rw [<- hR];have st0:Hid (((es.drop 0).any (lG m) || iO m ps)=R):=ae (by rw [hR];rfl);have HL:=ae hrow.1;have HB:=ae (dh w (.cells #[.int .i64 k,.string x,.string y,.int .i64 n,.slice oR es.length cR,.slice oP ps.length cP,.int .i64 a] 27));have Ue:=ae (heap_alloc_new w (.cells #[.int .i64 k,.string x,.string y,.int .i64 n,.slice oR es.length cR,.slice oP ps.length cP,.int .i64 a] 27));have iU:=ae hel;have lT:=ae ih;have vI:=ae (fun w' (hb:Below w.heap.size w w')=>Ud m ps (.slice oP ps.length cP) w' (by omega) (lC.on (C:=0) (w:=w) ⟨d,mQ⟩ (fun kk _ hl=>hb.block kk hl) (Nat.le_refl _)));have hq0:((((m+1:Nat):Int)) == 0)=false:=beq_eq_false_iff_ne.2 (by omega);have hq1:=LC (show m<=1000 by omega);obtain ⟨K,hK⟩:∃K:Int,K=((m+1:Nat):Int):=⟨_,rfl⟩;rw [<- hK] at hq0 hq1 ⊢;clear hR hrow hel ih hK hm mQ;go_enter Tryz.func66,Tryz.ntmps66;go_wp2_with fail;go_loopw [12] (fun aa wr=>∃i:Nat,aa=.int .i64 i/\i<=es.length/\Hid (((es.drop i).any (lG m) || iO m ps)=R)/\Hid (Below w.heap.size w wr)/\Hid (wr.heap[w.heap.size]?=some (.cells #[.int .i64 k,.string x,.string y,.int .i64 n,.slice oR es.length cR,.slice oP ps.length cP,.int .i64 a] 27 (0,0)))) (fun aa _=>match aa with | .int _ i=>es.length-i.toNat|_=>0)
  case atStart=>exact ⟨0,rfl,Nat.zero_le _,st0,HB,Ue⟩
  case round =>
   obtain ⟨i,rfl,hi,HN,HB2,bu⟩:=hrel;clear st0 HB Ue;by_cases hp:i<es.length
   ·obtain ⟨t1,ht1⟩:∃t1,es[i]?=some t1:=⟨_,List.getElem?_eq_getElem hp⟩;obtain ⟨b,off,gF,hC⟩:=iU.out i t1 ht1;subst gF;obtain ⟨k1,x1,qi,n1,u1,z1,a1,h1,h2,h3,h4,h5,h6,h7,o1,o2,hT⟩:=J0 hC;have y0:=ah HB2.out h1;have y1:=ah HB2.out h2;have y2:=ah HB2.out h3;have y3:=ah HB2.out h4;have y4:=ah HB2.out h5;have y5:=ah HB2.out h6;have y6:=ah HB2.out h7;have q1:decide ((i:Int)<(es.length:Int))=true:=decide_eq_true (by omega);have hw1:=mZ hp HL.out;have hd:=rM (f:=lG m) ht1;have hN:=HN.out;rw [hd,Bool.or_assoc] at hN;obtain ⟨W,hW,hth,hbk,hbw⟩:=l4 wr 27 bK #[.int .i64 k1,.string x1,.string qi,.int .i64 n1,u1,z1,.int .i64 a1] rfl;have hwl:=(Array.getElem?_eq_some_iff.1 bu.out).1;have eH:=ae (lT.out t1 _ W ((hT.on (B:=0) (C:=0) (fun kk _ hl=>(HB2.out.block kk hl)) (Nat.le_refl _)).on (fun kk _ hl=>hbw.block kk hl) (Nat.le_refl _)));have HW:=ae hW;have ax:=ae hth;have aj:=ae hbk;have cf:=ae (az HB2.out hbw);have LD:Hid (W.heap[w.heap.size]?=some (.cells #[.int .i64 k,.string x,.string y,.int .i64 n,.slice (some ⟨b,off,none⟩) es.length cR,.slice oP ps.length cP,.int .i64 a] 27 (0,0))):=ae (by rw [hbw.block _ hwl];exact bu.out);have r0:=af aj.out 0 _ rfl;have r1:=af aj.out 1 _ rfl;have r2:=af aj.out 2 _ rfl;have r3:=af aj.out 3 _ rfl;have r4:=af aj.out 4 _ rfl;have r5:=af aj.out 5 _ rfl;have r6:=af aj.out 6 _ rfl;clear hC h1 h2 h3 h4 h5 h6 h7 hT hW hth hbk hbw ht1 HN HB2 bu hd hwl;cases hb:lG m t1 with
    | true =>
     rw [hb,Bool.true_or] at hN;rw [hb] at eH;have HS:Hid (R=true):=ae hN.symm;clear hb hN;go_wp2_with (refine wpList_store_mid rfl 27 (.tmp 6) (.tmp 15) rfl wr.heap.size 0 #[.int .i64 k1,.string x1,.string qi,.int .i64 n1,u1,z1,.int .i64 a1] rfl rfl ax.out cz (by simp [Value.oneCell'] at o1 o2 ⊢;exact ⟨o1,o2⟩) ?_;rw [HW.out]);refine Calls.mono (show Calls _ _ _ _ _ from eH.out) ?_;rintro e w3 ⟨rfl,hb3⟩;have aW:=ae (az cf.out hb3);clear hb3 r0 r1 r2 r3 r4 r5 r6 y0 y1 y2 y3 y4 y5 y6;go_wp2;go_ret;exact ⟨ba HS.out.symm,aW.out⟩
    | false =>
     rw [hb,Bool.false_or] at hN;rw [hb] at eH;have HS:=ae hN;clear hb hN;go_wp2_with (refine wpList_store_mid rfl 27 (.tmp 6) (.tmp 15) rfl wr.heap.size 0 #[.int .i64 k1,.string x1,.string qi,.int .i64 n1,u1,z1,.int .i64 a1] rfl rfl ax.out cz (by simp [Value.oneCell'] at o1 o2 ⊢;exact ⟨o1,o2⟩) ?_;rw [HW.out]);refine Calls.mono (show Calls _ _ _ _ _ from eH.out) ?_;rintro e w3 ⟨rfl,hb3⟩;have aW:=ae (az cf.out hb3);have dZ:=ae ((hb3.block _ (Array.getElem?_eq_some_iff.1 LD.out).1).trans LD.out);clear hb3 r0 r1 r2 r3 r4 r5 r6 y0 y1 y2 y3 y4 y5 y6 LD;go_wp2;go_roundw
     case rel=>exact ⟨i+1,by first|rfl|(congr 1),hp,HS,aW,dZ⟩
     case measure=>simp;omega
   ·have q1:decide ((i:Int)<(es.length:Int))=false:=decide_eq_false (by omega);have HS:Hid (R=iO m ps):=ae (by rw [<- HN.out,List.drop_eq_nil_of_le (by omega)];rfl);have r5:=af bu.out 5 _ rfl;have HP:=ae (vI.out wr HB2.out);clear HN vI;go_wp2_with fail;refine Calls.mono (show Calls _ _ _ _ _ from HP.out) ?_;rintro e w3 ⟨rfl,hb3⟩;have aW:=ae (az HB2.out hb3);clear hb3 r5 HP;go_wp2;go_ret;exact ⟨ba HS.out.symm,aW.out⟩
namespace Pz
theorem pG.on {B C:Nat} {v:Value} {ts:List Value} {w w':World} (h:pG C v ts w) (hb:bT C w w') (hc:B<=C):pG B v ts w':=by
 obtain ⟨d,hd⟩:=h;exact ⟨d,hd.imp fun b o t _ ht=>dR.lo hc d b o t (dR.but hb d b o t ht)⟩
theorem aaU {B b o:Nat} {w:World} {t:Value} (h:zx B w b o t):∃x u z a,w.cell? ⟨b,o,none⟩=some (.string x)/\w.cell? ⟨b,o+1,none⟩=some u/\w.cell? ⟨b,o+2,none⟩=some z/\w.cell? ⟨b,o+3,none⟩=some (.int .i64 a)/\lg B t (.agg #[.string x,u,z,.int .i64 a]) w:=by
 obtain ⟨hB,x,ps,cs,a,u,z,h0,h1,h2,h3,h4,h5,h6⟩:=h;exact ⟨x,u,z,a,h1,h2,h3,h4,x,ps,cs,a,u,z,h0,rfl,h5,h6⟩
theorem aaV {B b o:Nat} {w:World} {t:Value} (h:sH B w b o t):∃x u,w.cell? ⟨b,o,none⟩=some (.string x)/\w.cell? ⟨b,o+1,none⟩=some u/\jU B t (.agg #[.string x,u]) w:=by
 obtain ⟨hB,x,ts,u,h0,h1,h2,h3⟩:=h;exact ⟨x,u,h1,h2,x,ts,u,h0,rfl,h3⟩
theorem aaW {d b o:Nat} {w:World} {t:Value} (h:dR 0 w d b o t):∃k x y n u z a,w.cell? ⟨b,o,none⟩=some (.int .i64 k)/\w.cell? ⟨b,o+1,none⟩=some (.string x)/\w.cell? ⟨b,o+2,none⟩=some (.string y)/\w.cell? ⟨b,o+3,none⟩=some (.int .i64 n)/\w.cell? ⟨b,o+4,none⟩=some u/\w.cell? ⟨b,o+5,none⟩=some z/\w.cell? ⟨b,o+6,none⟩=some (.int .i64 a)/\∃d0,d=d0+1/\jH 0 d0 w t (.agg #[.int .i64 k,.string x,.string y,.int .i64 n,u,z,.int .i64 a]):=by
 cases d with
 | zero=>exact h.elim
 | succ d =>
  obtain ⟨hp,k,x,y,n,es,ps,a,v,u,h0,h1,h2,h3,h4,h5,h6,h7,h8,h9⟩:=h;exact ⟨k,x,y,n,v,u,a,h1,h2,h3,h4,h5,h6,h7,d,rfl,k,x,y,n,es,ps,a,v,u,h0,rfl,h8,h9⟩
theorem aaX {d b o:Nat} {w:World} {t:Value} (h:cW 0 w d b o t):∃k x n u a,w.cell? ⟨b,o,none⟩=some (.int .i64 k)/\w.cell? ⟨b,o+1,none⟩=some (.string x)/\w.cell? ⟨b,o+2,none⟩=some (.int .i64 n)/\w.cell? ⟨b,o+3,none⟩=some u/\w.cell? ⟨b,o+4,none⟩=some (.int .i64 a)/\∃d0,d=d0+1/\ll 0 d0 w t (.agg #[.int .i64 k,.string x,.int .i64 n,u,.int .i64 a]):=by
 cases d with
 | zero=>exact h.elim
 | succ d =>
  obtain ⟨hp,k,x,n,es,a,v,h0,h1,h2,h3,h4,h5,h6⟩:=h;exact ⟨k,x,n,v,a,h1,h2,h3,h4,h5,d,rfl,k,x,n,es,a,v,h0,rfl,h6⟩
end Pz
theorem aaY (g:Value->Bool) (l:List Value) (v:Value) (w:World) (h:Row 4 (zx 0 w) v l) (HF:∀t v w',t ∈ l->lg 0 t v w'->Below w.heap.size w w'->Calls Tryz.prog 63 #[v] w' fun e w2=>e=.returned (.bool (g t))/\Below w'.heap.size w' w2) :
  Calls Tryz.prog 125 #[v,.func (.func 63) #[] #[]] w fun e w'=>(∃r:Int,e=.returned (.int .i64 r)/\decide (r>=0)=l.any g)/\Below w.heap.size w w':=by
 obtain ⟨oR,cR,rfl,hel⟩:=cF h;obtain ⟨R,hR⟩:∃R,R=l.any g:=⟨_,rfl⟩;rw [<- hR];have st0:Hid ((l.drop 0).any g=R):=ae (by rw [hR];rfl);have HL:=ae h.1;have iU:=ae hel;have zH:=ae HF;clear hR h hel HF;go_enter Tryz.func125,Tryz.ntmps125;go_wp2_with fail;go_loopw [8] (fun a wr=>∃i:Nat,a=.int .i64 i/\i<=l.length/\Hid ((l.drop i).any g=R)/\Hid (Below w.heap.size w wr)) (fun a _=>match a with | .int _ i=>l.length-i.toNat|_=>0)
 case atStart=>exact ⟨0,rfl,Nat.zero_le _,st0,ae (Below.refl _ _)⟩
 case round =>
  obtain ⟨i,rfl,hi,HN,HB2⟩:=hrel;clear st0;by_cases hp:i<l.length
  ·obtain ⟨t1,ht1⟩:∃t1,l[i]?=some t1:=⟨_,List.getElem?_eq_getElem hp⟩;obtain ⟨b,off,gF,hC⟩:=iU.out i t1 ht1;subst gF;obtain ⟨dx,du,dz,da,h1,h2,h3,h4,hT⟩:=aaU hC;have y0:=ah HB2.out h1;have y1:=ah HB2.out h2;have y2:=ah HB2.out h3;have y3:=ah HB2.out h4;have q1:decide ((i:Int)<(l.length:Int))=true:=decide_eq_true (by omega);have hw1:=mZ hp HL.out;have hd:=rM (f:=g) ht1;rw [HN.out] at hd;have eH:=ae (zH.out t1 _ wr (List.mem_of_getElem? ht1) (hT.on (B:=0) (C:=0) (fun kk _ hl=>(HB2.out.block kk hl)) (Nat.le_refl _)) HB2.out);clear hC h1 h2 h3 h4 hT ht1 HN;generalize g t1=Bt at *;cases Bt with
   | true =>
    have HS:Hid (R=true):=ae hd;clear hd;go_wp2_with fail;refine Calls.mono (show Calls _ _ _ _ _ from eH.out) ?_;rintro e w3 ⟨rfl,hb3⟩;have aW:=ae (az HB2.out hb3);clear hb3 y0 y1 y2 y3;go_wp2;go_ret;exact ⟨⟨i,rfl,by rw [HS.out];exact decide_eq_true (by omega)⟩,aW.out⟩
   | false =>
    have HS:Hid ((l.drop (i+1)).any g=R):=ae hd.symm;clear hd;go_wp2_with fail;refine Calls.mono (show Calls _ _ _ _ _ from eH.out) ?_;rintro e w3 ⟨rfl,hb3⟩;have aW:=ae (az HB2.out hb3);clear hb3 y0 y1 y2 y3;go_wp2;go_roundw
    case rel=>exact ⟨i+1,by first|rfl|(congr 1),hp,HS,aW⟩
    case measure=>simp;omega
  ·have q1:decide ((i:Int)<(l.length:Int))=false:=decide_eq_false (by omega);have HS:Hid (R=false):=ae (by rw [<- HN.out,List.drop_eq_nil_of_le (by omega)];rfl);clear HN;go_wp2;go_ret;exact ⟨⟨-1,rfl,by rw [HS.out];rfl⟩,HB2.out⟩
theorem aaZ (g:Value->Bool) (l:List Value) (v:Value) (w:World) (h:Row 4 (zx 0 w) v l) (HF:∀t v w',t ∈ l->lg 0 t v w'->Below w.heap.size w w'->Calls Tryz.prog 63 #[v] w' fun e w2=>e=.returned (.bool (g t))/\Below w'.heap.size w' w2) :
  Calls Tryz.prog 62 #[v,.func (.func 63) #[] #[]] w fun e w'=>e=.returned (.bool (l.any g))/\Below w.heap.size w w':=by
 have H:=ae (aaY g l v w h HF);obtain ⟨oR,cR,rfl,_⟩:=cF h;clear h HF;go_enter Tryz.func62,Tryz.ntmps62;go_wp2_with fail;refine Calls.mono (show Calls _ _ _ _ _ from H.out) ?_;rintro e w1 ⟨⟨r,rfl,hr⟩,hb⟩;have HB:=ae hb;have HR:=ae hr;clear hb H hr;go_wp2;go_ret;exact ⟨ba HR.out,HB.out⟩
theorem aa0 (g:Value->Bool) (l:List Value) (v:Value) (w:World) (h:Row 2 (sH 0 w) v l) (HF:∀t v w',t ∈ l->jU 0 t v w'->Below w.heap.size w w'->Calls Tryz.prog 127 #[v] w' fun e w2=>e=.returned (.bool (g t))/\Below w'.heap.size w' w2) :
  Calls Tryz.prog 159 #[v,.func (.func 127) #[] #[]] w fun e w'=>(∃r:Int,e=.returned (.int .i64 r)/\decide (r>=0)=l.any g)/\Below w.heap.size w w':=by
 obtain ⟨oR,cR,rfl,hel⟩:=cF h;obtain ⟨R,hR⟩:∃R,R=l.any g:=⟨_,rfl⟩;rw [<- hR];have st0:Hid ((l.drop 0).any g=R):=ae (by rw [hR];rfl);have HL:=ae h.1;have iU:=ae hel;have zH:=ae HF;clear hR h hel HF;go_enter Tryz.func159,Tryz.ntmps159;go_wp2_with fail;go_loopw [8] (fun a wr=>∃i:Nat,a=.int .i64 i/\i<=l.length/\Hid ((l.drop i).any g=R)/\Hid (Below w.heap.size w wr)) (fun a _=>match a with | .int _ i=>l.length-i.toNat|_=>0)
 case atStart=>exact ⟨0,rfl,Nat.zero_le _,st0,ae (Below.refl _ _)⟩
 case round =>
  obtain ⟨i,rfl,hi,HN,HB2⟩:=hrel;clear st0;by_cases hp:i<l.length
  ·obtain ⟨t1,ht1⟩:∃t1,l[i]?=some t1:=⟨_,List.getElem?_eq_getElem hp⟩;obtain ⟨b,off,gF,hC⟩:=iU.out i t1 ht1;subst gF;obtain ⟨dx,du,h1,h2,hT⟩:=aaV hC;have y0:=ah HB2.out h1;have y1:=ah HB2.out h2;have q1:decide ((i:Int)<(l.length:Int))=true:=decide_eq_true (by omega);have hw1:=mZ hp HL.out;have hd:=rM (f:=g) ht1;rw [HN.out] at hd;have eH:=ae (zH.out t1 _ wr (List.mem_of_getElem? ht1) (hT.on (B:=0) (C:=0) (fun kk _ hl=>(HB2.out.block kk hl)) (Nat.le_refl _)) HB2.out);clear hC h1 h2 hT ht1 HN;generalize g t1=Bt at *;cases Bt with
   | true =>
    have HS:Hid (R=true):=ae hd;clear hd;go_wp2_with fail;refine Calls.mono (show Calls _ _ _ _ _ from eH.out) ?_;rintro e w3 ⟨rfl,hb3⟩;have aW:=ae (az HB2.out hb3);clear hb3 y0 y1;go_wp2;go_ret;exact ⟨⟨i,rfl,by rw [HS.out];exact decide_eq_true (by omega)⟩,aW.out⟩
   | false =>
    have HS:Hid ((l.drop (i+1)).any g=R):=ae hd.symm;clear hd;go_wp2_with fail;refine Calls.mono (show Calls _ _ _ _ _ from eH.out) ?_;rintro e w3 ⟨rfl,hb3⟩;have aW:=ae (az HB2.out hb3);clear hb3 y0 y1;go_wp2;go_roundw
    case rel=>exact ⟨i+1,by first|rfl|(congr 1),hp,HS,aW⟩
    case measure=>simp;omega
  ·have q1:decide ((i:Int)<(l.length:Int))=false:=decide_eq_false (by omega);have HS:Hid (R=false):=ae (by rw [<- HN.out,List.drop_eq_nil_of_le (by omega)];rfl);clear HN;go_wp2;go_ret;exact ⟨⟨-1,rfl,by rw [HS.out];rfl⟩,HB2.out⟩
theorem Xu (g:Value->Bool) (l:List Value) (v:Value) (w:World) (h:Row 2 (sH 0 w) v l) (HF:∀t v w',t ∈ l->jU 0 t v w'->Below w.heap.size w w'->Calls Tryz.prog 127 #[v] w' fun e w2=>e=.returned (.bool (g t))/\Below w'.heap.size w' w2) :
  Calls Tryz.prog 126 #[v,.func (.func 127) #[] #[]] w fun e w'=>e=.returned (.bool (l.any g))/\Below w.heap.size w w':=by
 have H:=ae (aa0 g l v w h HF);obtain ⟨oR,cR,rfl,_⟩:=cF h;clear h HF;go_enter Tryz.func126,Tryz.ntmps126;go_wp2_with fail;refine Calls.mono (show Calls _ _ _ _ _ from H.out) ?_;rintro e w1 ⟨⟨r,rfl,hr⟩,hb⟩;have HB:=ae hb;have HR:=ae hr;clear hb H hr;go_wp2;go_ret;exact ⟨ba HR.out,HB.out⟩
theorem aa1 (g:Value->Bool) (l:List Value) (v:Value) (w:World) (d:Nat) (h:Row 7 (dR 0 w d) v l) (HF:∀t v w',t ∈ l->(∃d0,d=d0+1/\jH 0 d0 w' t v)->Below w.heap.size w w'->Calls Tryz.prog 64 #[v] w' fun e w2=>e=.returned (.bool (g t))/\Below w'.heap.size w' w2) :
  Calls Tryz.prog 160 #[v,.func (.func 64) #[] #[]] w fun e w'=>(∃r:Int,e=.returned (.int .i64 r)/\decide (r>=0)=l.any g)/\Below w.heap.size w w':=by
 obtain ⟨oR,cR,rfl,hel⟩:=cF h;obtain ⟨R,hR⟩:∃R,R=l.any g:=⟨_,rfl⟩;rw [<- hR];have st0:Hid ((l.drop 0).any g=R):=ae (by rw [hR];rfl);have HL:=ae h.1;have iU:=ae hel;have zH:=ae HF;clear hR h hel HF;go_enter Tryz.func160,Tryz.ntmps160;go_wp2_with fail;go_loopw [8] (fun a wr=>∃i:Nat,a=.int .i64 i/\i<=l.length/\Hid ((l.drop i).any g=R)/\Hid (Below w.heap.size w wr)) (fun a _=>match a with | .int _ i=>l.length-i.toNat|_=>0)
 case atStart=>exact ⟨0,rfl,Nat.zero_le _,st0,ae (Below.refl _ _)⟩
 case round =>
  obtain ⟨i,rfl,hi,HN,HB2⟩:=hrel;clear st0;by_cases hp:i<l.length
  ·obtain ⟨t1,ht1⟩:∃t1,l[i]?=some t1:=⟨_,List.getElem?_eq_getElem hp⟩;obtain ⟨b,off,gF,hC⟩:=iU.out i t1 ht1;subst gF;obtain ⟨dk,dx,dy,dn,du,dz,da,h1,h2,h3,h4,h5,h6,h7,hT⟩:=aaW hC;have y0:=ah HB2.out h1;have y1:=ah HB2.out h2;have y2:=ah HB2.out h3;have y3:=ah HB2.out h4;have y4:=ah HB2.out h5;have y5:=ah HB2.out h6;have y6:=ah HB2.out h7;have q1:decide ((i:Int)<(l.length:Int))=true:=decide_eq_true (by omega);have hw1:=mZ hp HL.out;have hd:=rM (f:=g) ht1;rw [HN.out] at hd;have eH:=ae (zH.out t1 _ wr (List.mem_of_getElem? ht1) (by obtain ⟨d0,e0,hh⟩:=hT;exact ⟨d0,e0,hh.but (fun kk _ hl=>(HB2.out.block kk hl))⟩) HB2.out);clear hC h1 h2 h3 h4 h5 h6 h7 hT ht1 HN;generalize g t1=Bt at *;cases Bt with
   | true =>
    have HS:Hid (R=true):=ae hd;clear hd;go_wp2_with fail;refine Calls.mono (show Calls _ _ _ _ _ from eH.out) ?_;rintro e w3 ⟨rfl,hb3⟩;have aW:=ae (az HB2.out hb3);clear hb3 y0 y1 y2 y3 y4 y5 y6;go_wp2;go_ret;exact ⟨⟨i,rfl,by rw [HS.out];exact decide_eq_true (by omega)⟩,aW.out⟩
   | false =>
    have HS:Hid ((l.drop (i+1)).any g=R):=ae hd.symm;clear hd;go_wp2_with fail;refine Calls.mono (show Calls _ _ _ _ _ from eH.out) ?_;rintro e w3 ⟨rfl,hb3⟩;have aW:=ae (az HB2.out hb3);clear hb3 y0 y1 y2 y3 y4 y5 y6;go_wp2;go_roundw
    case rel=>exact ⟨i+1,by first|rfl|(congr 1),hp,HS,aW⟩
    case measure=>simp;omega
  ·have q1:decide ((i:Int)<(l.length:Int))=false:=decide_eq_false (by omega);have HS:Hid (R=false):=ae (by rw [<- HN.out,List.drop_eq_nil_of_le (by omega)];rfl);clear HN;go_wp2;go_ret;exact ⟨⟨-1,rfl,by rw [HS.out];rfl⟩,HB2.out⟩
theorem Ot (g:Value->Bool) (l:List Value) (v:Value) (w:World) (d:Nat) (h:Row 7 (dR 0 w d) v l) (HF:∀t v w',t ∈ l->(∃d0,d=d0+1/\jH 0 d0 w' t v)->Below w.heap.size w w'->Calls Tryz.prog 64 #[v] w' fun e w2=>e=.returned (.bool (g t))/\Below w'.heap.size w' w2) :
  Calls Tryz.prog 128 #[v,.func (.func 64) #[] #[]] w fun e w'=>e=.returned (.bool (l.any g))/\Below w.heap.size w w':=by
 have H:=ae (aa1 g l v w d h HF);obtain ⟨oR,cR,rfl,_⟩:=cF h;clear h HF;go_enter Tryz.func128,Tryz.ntmps128;go_wp2_with fail;refine Calls.mono (show Calls _ _ _ _ _ from H.out) ?_;rintro e w1 ⟨⟨r,rfl,hr⟩,hb⟩;have HB:=ae hb;have HR:=ae hr;clear hb H hr;go_wp2;go_ret;exact ⟨ba HR.out,HB.out⟩
theorem aa2 (g:Value->Bool) (l:List Value) (v:Value) (w:World) (d:Nat) (h:Row 5 (cW 0 w d) v l) (HF:∀t v w',t ∈ l->(∃d0,d=d0+1/\ll 0 d0 w' t v)->Below w.heap.size w w'->Calls Tryz.prog 130 #[v] w' fun e w2=>e=.returned (.bool (g t))/\Below w'.heap.size w' w2) :
  Calls Tryz.prog 161 #[v,.func (.func 130) #[] #[]] w fun e w'=>(∃r:Int,e=.returned (.int .i64 r)/\decide (r>=0)=l.any g)/\Below w.heap.size w w':=by
 obtain ⟨oR,cR,rfl,hel⟩:=cF h;obtain ⟨R,hR⟩:∃R,R=l.any g:=⟨_,rfl⟩;rw [<- hR];have st0:Hid ((l.drop 0).any g=R):=ae (by rw [hR];rfl);have HL:=ae h.1;have iU:=ae hel;have zH:=ae HF;clear hR h hel HF;go_enter Tryz.func161,Tryz.ntmps161;go_wp2_with fail;go_loopw [8] (fun a wr=>∃i:Nat,a=.int .i64 i/\i<=l.length/\Hid ((l.drop i).any g=R)/\Hid (Below w.heap.size w wr)) (fun a _=>match a with | .int _ i=>l.length-i.toNat|_=>0)
 case atStart=>exact ⟨0,rfl,Nat.zero_le _,st0,ae (Below.refl _ _)⟩
 case round =>
  obtain ⟨i,rfl,hi,HN,HB2⟩:=hrel;clear st0;by_cases hp:i<l.length
  ·obtain ⟨t1,ht1⟩:∃t1,l[i]?=some t1:=⟨_,List.getElem?_eq_getElem hp⟩;obtain ⟨b,off,gF,hC⟩:=iU.out i t1 ht1;subst gF;obtain ⟨dk,dx,dn,du,da,h1,h2,h3,h4,h5,hT⟩:=aaX hC;have y0:=ah HB2.out h1;have y1:=ah HB2.out h2;have y2:=ah HB2.out h3;have y3:=ah HB2.out h4;have y4:=ah HB2.out h5;have q1:decide ((i:Int)<(l.length:Int))=true:=decide_eq_true (by omega);have hw1:=mZ hp HL.out;have hd:=rM (f:=g) ht1;rw [HN.out] at hd;have eH:=ae (zH.out t1 _ wr (List.mem_of_getElem? ht1) (by obtain ⟨d0,e0,hh⟩:=hT;exact ⟨d0,e0,hh.but (fun kk _ hl=>(HB2.out.block kk hl))⟩) HB2.out);clear hC h1 h2 h3 h4 h5 hT ht1 HN;generalize g t1=Bt at *;cases Bt with
   | true =>
    have HS:Hid (R=true):=ae hd;clear hd;go_wp2_with fail;refine Calls.mono (show Calls _ _ _ _ _ from eH.out) ?_;rintro e w3 ⟨rfl,hb3⟩;have aW:=ae (az HB2.out hb3);clear hb3 y0 y1 y2 y3 y4;go_wp2;go_ret;exact ⟨⟨i,rfl,by rw [HS.out];exact decide_eq_true (by omega)⟩,aW.out⟩
   | false =>
    have HS:Hid ((l.drop (i+1)).any g=R):=ae hd.symm;clear hd;go_wp2_with fail;refine Calls.mono (show Calls _ _ _ _ _ from eH.out) ?_;rintro e w3 ⟨rfl,hb3⟩;have aW:=ae (az HB2.out hb3);clear hb3 y0 y1 y2 y3 y4;go_wp2;go_roundw
    case rel=>exact ⟨i+1,by first|rfl|(congr 1),hp,HS,aW⟩
    case measure=>simp;omega
  ·have q1:decide ((i:Int)<(l.length:Int))=false:=decide_eq_false (by omega);have HS:Hid (R=false):=ae (by rw [<- HN.out,List.drop_eq_nil_of_le (by omega)];rfl);clear HN;go_wp2;go_ret;exact ⟨⟨-1,rfl,by rw [HS.out];rfl⟩,HB2.out⟩
theorem EU (g:Value->Bool) (l:List Value) (v:Value) (w:World) (d:Nat) (h:Row 5 (cW 0 w d) v l) (HF:∀t v w',t ∈ l->(∃d0,d=d0+1/\ll 0 d0 w' t v)->Below w.heap.size w w'->Calls Tryz.prog 130 #[v] w' fun e w2=>e=.returned (.bool (g t))/\Below w'.heap.size w' w2) :
  Calls Tryz.prog 129 #[v,.func (.func 130) #[] #[]] w fun e w'=>e=.returned (.bool (l.any g))/\Below w.heap.size w w':=by
 have H:=ae (aa2 g l v w d h HF);obtain ⟨oR,cR,rfl,_⟩:=cF h;clear h HF;go_enter Tryz.func129,Tryz.ntmps129;go_wp2_with fail;refine Calls.mono (show Calls _ _ _ _ _ from H.out) ?_;rintro e w1 ⟨⟨r,rfl,hr⟩,hb⟩;have HB:=ae hb;have HR:=ae hr;clear hb H hr;go_wp2;go_ret;exact ⟨ba HR.out,HB.out⟩
end Go.Proofs.YtkdbgopgjbfhbaaGreatDoor
