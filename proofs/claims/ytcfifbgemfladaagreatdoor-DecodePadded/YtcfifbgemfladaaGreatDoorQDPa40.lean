/- Texts that the claim needs. -/
import Derived.Test.YtcfifbgemfladaaGreatDoorQDPa4
import Derived.Test.YtcfifbgemfladaaGreatDoorQDPa2
import Derived.Deep.CutRange
import Derived.Test.YtcfifbgemfladaaGreatDoorQDPa6
namespace Go.Proofs.YtcfifbgemfladaaGreatDoor
open Go.RowKit au Go.Proofs.Tryz
set_option linter.unusedVariables false
set_option maxRecDepth 100000
set_option maxHeartbeats 8000000
namespace au
theorem kg (n:Nat):few (n:Int)=true↔n<=4096:=by
 unfold few;rw [decide_eq_true_iff];omega
theorem Zj (n:Nat):Gz (n:Int)=true↔n<=1:=by
 unfold Gz;rw [decide_eq_true_iff];omega
theorem Zk {d:Nat} (f:fF d):JM f=true↔f.locals.length<=256:=by
 unfold JM;rw [decide_eq_true_iff];omega
theorem Zl {d:Nat} (m:Mod d):qW m=true ↔
  (m.types.length<=4096/\m.imports.length<=4096/\m.funcs.length<=4096/\m.tables.length<=4096/\m.aF.length<=4096/\m.globals.length<=4096/\m.exports.length<=4096/\m.elems.length<=4096/\m.aA.length<=4096/\m.start.length<=1) /\
  (∀x ∈ m.types,x.params.length<=4096/\x.results.length<=4096)/\(∀x ∈ m.funcs,x.locals.length<=256)/\(∀x ∈ m.elems,x.funcs.length<=4096)/\room 262144 m.aA=true:=by
 unfold qW;simp only [bH,dN,List.all_cons,List.all_nil,len,GA,GD,Zk,Zj,kg,and_true];constructor
 ·rintro ⟨⟨a,b,c,e,f⟩,⟨g,h,i,j⟩,k,l,p,q,r⟩;exact ⟨⟨a,b,c,e,f,g,h,i,j,k⟩,l,p,q,r⟩
 rintro ⟨⟨a,b,c,e,f,g,h,i,j,k⟩,l,p,q,r⟩;exact ⟨⟨a,b,c,e,f⟩,⟨g,h,i,j⟩,k,l,p,q,r⟩
theorem JN {α:Type} {l:List α} {p:α->Prop} {j:Nat} {x:α} (h:∀t y,t<j->l[t]?=some y->p y) (hx:l[j]?=some x) (hp:p x):∀t y,t<j+1->l[t]?=some y->p y:=λt y ht hy=>by
 by_cases h2:t<j
 ·exact h t y h2 hy
 obtain rfl:t=j:=by omega
 obtain rfl:x=y:=Option.some.inj (hx.symm.trans hy);exact hp
theorem JO {α:Type} {l:List α} {p:α->Prop} {n:Nat} (hn:l.length=n) (h:∀t y,t<n->l[t]?=some y->p y):∀x ∈ l,p x:=λx hx=>by
 obtain ⟨i,hi,rfl⟩:=List.getElem_of_mem hx;exact h i _ (by omega) (bG hi)
end au
theorem Zm (d:Nat) (v0 v1 v2 v3 v4 v5 v6 v7 v8 v9:Value) (m:Mod d) (w:AG) (hM:iG w d v0 v1 v2 v3 v4 v5 v6 v7 v8 v9 m) (hsz:∀x ∈ m.aA,x.bytes.size<=4611686018427387904) :
  Calls prog 31 #[.agg #[v0,v1,v2,v3,v4,v5,v6,v7,v8,v9]] w λe w'=>e=.returned (.bool (!qW m))/\AS w w':=by
 have l0:=hM.types.1;have l1:=hM.imports.1;have l2:=hM.funcs.1;have l3:=hM.tables.1;have l4:=hM.aF.1;have l5:=hM.globals.1;have l6:=hM.exports.1;have l7:=hM.start.1;have l8:=hM.elems.1;have l9:=hM.aA.1;have HM:=aa hM;have HZ:=aa hsz;obtain ⟨o0,c0,rfl⟩:=Row.len hM.types;obtain ⟨o1,c1,rfl⟩:=Row.len hM.imports;obtain ⟨o2,c2,rfl⟩:=Row.len hM.funcs;obtain ⟨o3,c3,rfl⟩:=Row.len hM.tables;obtain ⟨o4,c4,rfl⟩:=Row.len hM.aF;obtain ⟨o5,c5,rfl⟩:=Row.len hM.globals;obtain ⟨o6,c6,rfl⟩:=Row.len hM.exports;obtain ⟨o7,c7,rfl⟩:=Row.len hM.start;obtain ⟨o8,c8,rfl⟩:=Row.len hM.elems;obtain ⟨o9,c9,rfl⟩:=Row.len hM.aA;have aL:=aa (jC.start w 32 (.slice o0 m.types.length c0) (.slice o1 m.imports.length c1) (.slice o2 m.funcs.length c2) (.slice o3 m.tables.length c3) (.slice o4 m.aF.length c4) (.slice o5 m.globals.length c5) (.slice o6 m.exports.length c6) (.slice o7 m.start.length c7) (.slice o8 m.elems.length c8) (.slice o9 m.aA.length c9));obtain ⟨R,hR⟩:∃R,R = !qW m:=⟨_,rfl⟩;rw [<- hR];have RT:Hid (¬ qW m=true->R=true):=aa (λh=>by rw [hR,Bool.eq_false_iff.2 h];rfl);have RF:Hid (qW m=true->R=false):=aa (λh=>by rw [hR,h];rfl);have rX:=aa (Zl m);clear hM hsz hR;generalize hn0:m.types.length=n0 at *;generalize ju:m.imports.length=n1 at *;generalize fV:m.funcs.length=n2 at *;generalize lW:m.tables.length=n3 at *;generalize jQ:m.aF.length=n4 at *;generalize lK:m.globals.length=n5 at *;generalize lL:m.exports.length=n6 at *;generalize jd:m.start.length=n7 at *;generalize lh:m.elems.length=n8 at *;generalize lM:m.aA.length=n9 at *;go_enter func31,ntmps31;go_upto_region 1 with fail;obtain ⟨wb,hwb⟩:∃wb,wb=w.alloc (.cells #[.slice o0 n0 c0,.slice o1 n1 c1,.slice o2 n2 c2,.slice o3 n3 c3,.slice o4 n4 c4,.slice o5 n5 c5,.slice o6 n6 c6,.slice o7 n7 c7,.slice o8 n8 c8,.slice o9 n9 c9] 32):=⟨_,rfl⟩;rw [<- hwb] at aL ⊢;clear hwb;obtain ⟨q0,q1,q2,q3,q4,q5,q6,q7,q8,q9,qb⟩:=aL.out;have QB:=aa qb;clear qb;obtain ⟨B,hB⟩:∃B:Bool,B=decide (4096<n0\/4096<n1\/4096<n2\/4096<n3\/4096<n4\/4096<n5\/4096<n6\/4096<n8\/4096<n9\/1<n7):=⟨_,rfl⟩;have cn:=aa hB;clear hB;go_cut [65] from 8 to 65 (λc wx=>c=.bool B/\wx=wb)
 case first =>
  by_cases g0:4096<n0
  ·obtain rfl:B=true:=cn.out.trans (ay (by omega));have t0:decide ((4096:Int)<(n0:Int))=true:=ay;go_wp2_with fail
   go_meet
   exact ⟨rfl,rfl⟩
  have t0:decide ((4096:Int)<(n0:Int))=false:=aj;by_cases g1:4096<n1
  ·obtain rfl:B=true:=cn.out.trans (ay (by omega));have t1:decide ((4096:Int)<(n1:Int))=true:=ay;go_wp2_with fail
   go_meet
   exact ⟨rfl,rfl⟩
  have t1:decide ((4096:Int)<(n1:Int))=false:=aj;by_cases g2:4096<n2
  ·obtain rfl:B=true:=cn.out.trans (ay (by omega));have t2:decide ((4096:Int)<(n2:Int))=true:=ay;go_wp2_with fail
   go_meet
   exact ⟨rfl,rfl⟩
  have t2:decide ((4096:Int)<(n2:Int))=false:=aj;by_cases g3:4096<n3
  ·obtain rfl:B=true:=cn.out.trans (ay (by omega));have t3:decide ((4096:Int)<(n3:Int))=true:=ay;go_wp2_with fail
   go_meet
   exact ⟨rfl,rfl⟩
  have t3:decide ((4096:Int)<(n3:Int))=false:=aj;by_cases g4:4096<n4
  ·obtain rfl:B=true:=cn.out.trans (ay (by omega));have t4:decide ((4096:Int)<(n4:Int))=true:=ay;go_wp2_with fail
   go_meet
   exact ⟨rfl,rfl⟩
  have t4:decide ((4096:Int)<(n4:Int))=false:=aj;by_cases g5:4096<n5
  ·obtain rfl:B=true:=cn.out.trans (ay (by omega));have t5:decide ((4096:Int)<(n5:Int))=true:=ay;go_wp2_with fail
   go_meet
   exact ⟨rfl,rfl⟩
  have t5:decide ((4096:Int)<(n5:Int))=false:=aj;by_cases g6:4096<n6
  ·obtain rfl:B=true:=cn.out.trans (ay (by omega));have t6:decide ((4096:Int)<(n6:Int))=true:=ay;go_wp2_with fail
   go_meet
   exact ⟨rfl,rfl⟩
  have t6:decide ((4096:Int)<(n6:Int))=false:=aj;by_cases g8:4096<n8
  ·obtain rfl:B=true:=cn.out.trans (ay (by omega));have t8:decide ((4096:Int)<(n8:Int))=true:=ay;go_wp2_with fail
   go_meet
   exact ⟨rfl,rfl⟩
  have t8:decide ((4096:Int)<(n8:Int))=false:=aj;by_cases g9:4096<n9
  ·obtain rfl:B=true:=cn.out.trans (ay (by omega));have t9:decide ((4096:Int)<(n9:Int))=true:=ay;go_wp2_with fail
   go_meet
   exact ⟨rfl,rfl⟩
  have t9:decide ((4096:Int)<(n9:Int))=false:=aj;by_cases g7:1<n7
  ·obtain rfl:B=true:=cn.out.trans (ay (by omega));have t7:decide ((1:Int)<(n7:Int))=true:=ay;go_wp2_with fail
   go_meet
   exact ⟨rfl,rfl⟩
  have t7:decide ((1:Int)<(n7:Int))=false:=aj;obtain rfl:B=false:=cn.out.trans (aj (by omega));go_wp2_with fail
  go_meet
  exact ⟨rfl,rfl⟩
 obtain ⟨rfl,hwc⟩:=hcut;obtain rfl:wb=wc:=hwc.symm;cases B with
 | true =>
  have hB:=of_decide_eq_true cn.out.symm;obtain rfl:=RT.out (λh=>by have:=(rX.out.1 h).1;omega);clear RT RF rX hB;go_wp2;go_ret;exact ⟨rfl,QB.out⟩
 | false =>
 have hB:=of_decide_eq_false cn.out.symm;have Be:Hid (n0<=4096/\n1<=4096/\n2<=4096/\n3<=4096/\n4<=4096/\n5<=4096/\n6<=4096/\n8<=4096/\n9<=4096/\n7<=1):=aa (by omega);have g0:n0<=4096:=by omega
 have g2:n2<=4096:=by omega
 have g8:n8<=4096:=by omega
 have g9:n9<=4096:=by omega
 clear hB cn;go_wp2_with fail;go_loopw [3] (λi wr=>∃j:Nat,j<=n0/\i=.int .i64 j/\Hid (∀t y,t<j->m.types[t]?=some y->y.params.length<=4096/\y.results.length<=4096)/\wr=wb) (λi _=>n0-(RowKit.intOf i).toNat)
 case atStart=>exact ⟨0,by omega,rfl,aa (λt y ht=>by omega),rfl⟩
 case round =>
  obtain ⟨j,hj,rfl,HF,rfl⟩:=hrel;by_cases hgo:j<n0
  ·obtain ⟨b,off,cap2,hv2,hx⟩:=Row.some ((HM.out.on QB.out).types) (by omega);injection hv2 with ho h2 h3;subst ho;obtain ⟨x,hxk⟩:∃x,m.types[j]?=some x:=⟨_,bG (by omega)⟩;have hI:=hx j x hxk;have pV:=aa (iF hxk);obtain ⟨vp,kp,ip⟩:=hI.params
   obtain ⟨op',vO,OP,rfl,vP⟩:∃ol nl cl,vp=.slice ol nl cl/\nl=x.params.length:=by
    obtain ⟨ol,cl,h⟩:=Row.len ip;exact ⟨ol,_,cl,h,rfl⟩
   have DD:=ip.1;rw [<- vP] at DD;obtain ⟨vr,kr,ir⟩:=hI.results
   obtain ⟨or',JP,cr',rfl,hnr⟩:∃ol nl cl,vr=.slice ol nl cl/\nl=x.results.length:=by
    obtain ⟨ol,cl,h⟩:=Row.len ir;exact ⟨ol,_,cl,h,rfl⟩
   have Zn:=ir.1;rw [<- hnr] at Zn;have NP:=aa vP;have NR:=aa hnr;have pW:=aa hxk;clear hx h2 h3 hxk vP hnr ip ir;by_cases hb1:4096<vO
   ·have t1:decide ((4096:Int)<(vO:Int))=true:=ay;obtain rfl:=RT.out (λh=>by have:=(rX.out.1 h).2.1 x pV.out;rw [<- NP.out] at this;omega);clear RT RF rX pV;go_wp2;go_ret;exact ⟨rfl,QB.out⟩
   have t1:decide ((4096:Int)<(vO:Int))=false:=aj;by_cases hb2:4096<JP
   ·have t2:decide ((4096:Int)<(JP:Int))=true:=ay;obtain rfl:=RT.out (λh=>by have:=(rX.out.1 h).2.1 x pV.out;rw [<- NR.out] at this;omega);clear RT RF rX pV;go_wp2;go_ret;exact ⟨rfl,QB.out⟩
   have t2:decide ((4096:Int)<(JP:Int))=false:=aj;have pX:=aa (JN (p:=λx=>x.params.length<=4096/\x.results.length<=4096) HF.out pW.out ⟨by rw [<- NP.out];omega,by rw [<- NR.out];omega⟩);clear HF NP NR pW pV hI;go_wp2;go_roundw
   case rel=>exact ⟨j+1,by omega,by go_num,pX,trivial⟩
   case measure=>simp [RowKit.intOf];omega
  obtain rfl:n0=j:=by omega
  obtain ⟨wb,rfl⟩:∃wb,wb=wr:=⟨_,rfl⟩;have F1:=HF;clear HF;go_wp2_with fail;go_loopw [4] (λi wr=>∃j:Nat,j<=n8/\i=.int .i64 j/\Hid (∀t y,t<j->m.elems[t]?=some y->y.funcs.length<=4096)/\wr=wb) (λi _=>n8-(RowKit.intOf i).toNat)
  case atStart=>exact ⟨0,by omega,rfl,aa (λt y ht=>by omega),rfl⟩
  case round =>
   obtain ⟨j2,hj2,rfl,HF,rfl⟩:=hrel;by_cases hgo:j2<n8
   ·obtain ⟨b,off,cap2,hv2,hx⟩:=Row.some ((HM.out.on QB.out).elems) (by omega);injection hv2 with ho h2 h3;subst ho;obtain ⟨x,hxk⟩:∃x,m.elems[j2]?=some x:=⟨_,bG (by omega)⟩;have hI:=hx j2 x hxk;have pV:=aa (iF hxk);obtain ⟨vp,kp,ip⟩:=hI.funcs
    obtain ⟨op',vO,OP,rfl,vP⟩:∃ol nl cl,vp=.slice ol nl cl/\nl=x.funcs.length:=by
     obtain ⟨ol,cl,h⟩:=Row.len ip;exact ⟨ol,_,cl,h,rfl⟩
    have DD:=ip.1;rw [<- vP] at DD;have NP:=aa vP;have pW:=aa hxk;clear hx h2 h3 hxk vP ip;by_cases hb1:4096<vO
    ·have t1:decide ((4096:Int)<(vO:Int))=true:=ay;obtain rfl:=RT.out (λh=>by have:=(rX.out.1 h).2.2.2.1 x pV.out;rw [<- NP.out] at this;omega);clear RT RF rX pV;go_wp2;go_ret;exact ⟨rfl,QB.out⟩
    have t1:decide ((4096:Int)<(vO:Int))=false:=aj;have pX:=aa (JN (p:=λx=>x.funcs.length<=4096) HF.out pW.out (by rw [<- NP.out];omega));clear HF NP pW pV hI;go_wp2;go_roundw
    case rel=>exact ⟨j2+1,by omega,by go_num,pX,trivial⟩
    case measure=>simp [RowKit.intOf];omega
   obtain rfl:n8=j2:=by omega
   obtain ⟨wb,rfl⟩:∃wb,wb=wr:=⟨_,rfl⟩;have F2:=HF;clear HF;go_wp2_with fail;go_loopw [5,6] (λc i wr=>∃j s:Nat,j<=n9/\s<=262144/\i=.int .i64 j/\c=.int .i64 s/\Hid (room 262144 m.aA=room (262144-s) (m.aA.drop j))/\wr=wb) (λ_ i _=>n9-(RowKit.intOf i).toNat)
   case atStart=>exact ⟨0,0,by omega,by omega,rfl,rfl,aa rfl,rfl⟩
   case round =>
    obtain ⟨j3,s,hj3,hs,rfl,rfl,HF,rfl⟩:=hrel;by_cases hgo:j3<n9
    ·obtain ⟨b,off,cap2,hv2,hx⟩:=Row.some ((HM.out.on QB.out).aA) (by omega);injection hv2 with ho h2 h3;subst ho;obtain ⟨x,hxk⟩:∃x,m.aA[j3]?=some x:=⟨_,bG (by omega)⟩;have hI:=hx j3 x hxk;have pV:=aa (iF hxk);have kb:=hI.bytes;have hz:=HZ.out x pV.out;have GF:=aa (HF.out.trans (Zo hxk));clear hx h2 h3 hxk hI HF;generalize hsx:x.bytes.size=sx at *;by_cases hb1:262144<s+sx
     ·have HN:Hid (room 262144 m.aA=false):=aa (by rw [GF.out,aj (by omega)];rfl);obtain rfl:=RT.out (λh=>by have:=(rX.out.1 h).2.2.2.2;rw [HN.out] at this;cases this);clear RT RF rX pV GF HN;go_wp2;go_ret;exact ⟨rfl,QB.out⟩
     have pX:Hid (room 262144 m.aA=room (262144-(s+sx)) (m.aA.drop (j3+1))):=aa (by rw [GF.out,ay (by omega),jk,show 262144-s-sx=262144-(s+sx) by omega]);clear GF pV;go_wp2;go_roundw
     case rel=>exact ⟨j3+1,s+sx,by omega,by omega,by go_num,by go_num,pX,trivial⟩
     case measure=>simp [RowKit.intOf];omega
    obtain rfl:n9=j3:=by omega
    obtain ⟨wb,rfl⟩:∃wb,wb=wr:=⟨_,rfl⟩;have F3:Hid (room 262144 m.aA=true):=aa (by rw [HF.out,room_end (by omega)]);clear HF;go_wp2_with fail;go_loopw [7] (λi wr=>∃j:Nat,j<=n2/\i=.int .i64 j/\Hid (∀t y,t<j->m.funcs[t]?=some y->y.locals.length<=256)/\wr=wb) (λi _=>n2-(RowKit.intOf i).toNat)
    case atStart=>exact ⟨0,by omega,rfl,aa (λt y ht=>by omega),rfl⟩
    case round =>
     obtain ⟨j4,hj4,rfl,HF,rfl⟩:=hrel;by_cases hgo:j4<n2
     ·obtain ⟨b,off,cap2,hv2,hx⟩:=Row.some ((HM.out.on QB.out).funcs) (by omega);injection hv2 with ho h2 h3;subst ho;obtain ⟨x,hxk⟩:∃x,m.funcs[j4]?=some x:=⟨_,bG (by omega)⟩;have hI:=hx j4 x hxk;have pV:=aa (iF hxk);obtain ⟨vp,kp,ip⟩:=hI.locals
      obtain ⟨op',vO,OP,rfl,vP⟩:∃ol nl cl,vp=.slice ol nl cl/\nl=x.locals.length:=by
       obtain ⟨ol,cl,h⟩:=Row.len ip;exact ⟨ol,_,cl,h,rfl⟩
      have DD:=ip.1;rw [<- vP] at DD;have NP:=aa vP;have pW:=aa hxk;clear hx h2 h3 hxk vP ip;by_cases hb1:256<vO
      ·have t1:decide ((256:Int)<(vO:Int))=true:=ay;obtain rfl:=RT.out (λh=>by have:=(rX.out.1 h).2.2.1 x pV.out;rw [<- NP.out] at this;omega);clear RT RF rX pV;go_wp2;go_ret;exact ⟨rfl,QB.out⟩
      have t1:decide ((256:Int)<(vO:Int))=false:=aj;have pX:=aa (JN (p:=λx=>x.locals.length<=256) HF.out pW.out (by rw [<- NP.out];omega));clear HF NP pW pV hI;go_wp2;go_roundw
      case rel=>exact ⟨j4+1,by omega,by go_num,pX,trivial⟩
      case measure=>simp [RowKit.intOf];omega
     obtain rfl:n2=j4:=by omega
     have hfin:qW m=true:=rX.out.2 ⟨by have:=Be.out;omega,JO hn0 F1.out,JO fV HF.out,JO lh F2.out,F3.out⟩;obtain rfl:=RF.out hfin;clear hfin HF RT RF rX;go_wp2;go_ret;exact ⟨rfl,QB.out⟩
namespace au
theorem RH {α:Type} {p:α->Bool} {l:List α} {j:Nat} {x:α} {R:Bool} (hx:l[j]?=some x) (h:R=(l.drop j).all p):R=(p x&&(l.drop (j+1)).all p):=by
 have hl:j<l.length:=(gq.1 hx).1;have he:l[j]=x:=(gq.1 hx).2;rw [h,nN hl,he];rfl
theorem adj {α:Type} {p:α->Bool} {l:List α} {j:Nat} {R:Bool} (hj:l.length<=j) (h:R=(l.drop j).all p):R=true:=by
 rw [h,List.drop_of_length_le hj];rfl
end au
theorem RI (v:Value) (l:List gu) (w:AG) (hAt:Row 3 (mG w) v l) :
  Calls prog 59 #[v] w λe w'=>e=.returned (.bool (l.all cu))/\w'=w:=by
 have hlen:=hAt.1;obtain ⟨o,cap,hv⟩:=Row.len hAt;have HA:=aa hAt;subst hv;obtain ⟨R,hR⟩:∃R,R=l.all cu:=⟨_,rfl⟩;rw [<- hR];have HR:Hid (R=(l.drop 0).all cu):=hR;clear hAt hR;generalize hn:l.length=n at *;go_enter func59,ntmps59;go_wp2_with fail;go_loopw [3] (λi wr=>∃j:Nat,j<=n/\i=.int .i64 j/\Hid (R=(l.drop j).all cu)/\wr=w) (λi _=>n-(RowKit.intOf i).toNat)
 case atStart=>exact ⟨0,by omega,rfl,HR,rfl⟩
 case round =>
  obtain ⟨j,hj,rfl,HK,rfl⟩:=hrel;by_cases hgo:j<n
  ·obtain ⟨b,off,cap2,hv2,hx⟩:=Row.some HA.out (by omega);injection hv2 with ho h2 h3;subst ho;obtain ⟨x,hxk⟩:∃x,l[j]?=some x:=⟨_,bG (by omega)⟩;have hI:=hx j x hxk;have k0:=hI.min;have k1:=hI.max;have k2:=hI.has;have HN:Hid (R=(cu x&&(l.drop (j+1)).all cu)):=aa (RH hxk HK.out);have Su:Hid (cu x=((idx x.min&&(idx x.max&&true))&&(x.has || x.max==0))):=aa rfl;clear hx hxk hI h2 h3 HK;rw [Su.out] at HN;clear Su;go_wp2_with fail;refine (mf _ _).mono ?_;rintro e u ⟨rfl,rfl⟩;generalize idx x.min=t1 at *;cases t1 with
   | false =>
    obtain rfl:R=false:=HN.out;clear HN;go_wp2;go_ret;exact ⟨rfl,rfl⟩
   | true =>
    go_wp2_with fail;refine (mf _ _).mono ?_;rintro e u ⟨rfl,rfl⟩;generalize idx x.max=t2 at *;cases t2 with
    | false =>
     obtain rfl:R=false:=HN.out;clear HN;go_wp2;go_ret;exact ⟨rfl,rfl⟩
    | true =>
     generalize hxh:x.has=hs at *;generalize hxm:x.max=mx at *;cases hs with
     | true =>
      have cH:Hid (R=(l.drop (j+1)).all cu):=aa (by rw [HN.out];rfl);clear HN;go_wp2;go_roundw
      case rel=>exact ⟨j+1,by omega,by go_num,cH,trivial⟩
      case measure=>simp [RowKit.intOf];omega
     | false =>
      by_cases hm:mx=0
      ·subst hm;have cH:Hid (R=(l.drop (j+1)).all cu):=aa (by rw [HN.out];rfl);clear HN;go_wp2;go_roundw
       case rel=>exact ⟨j+1,by omega,by go_num,cH,trivial⟩
       case measure=>simp [RowKit.intOf];omega
      have P7:(mx==0)=false:=by rw [wY];exact hm
      have hmt:(mx != 0)=true:=by rw [bne_iff_ne];exact hm
      obtain rfl:R=false:=by rw [HN.out,P7];rfl
      clear HN;go_wp2;go_ret;exact ⟨rfl,rfl⟩
  obtain rfl:R=true:=adj (by omega) HK.out;clear HK;go_wp2;go_ret;exact ⟨rfl,rfl⟩
end Go.Proofs.YtcfifbgemfladaaGreatDoor
