/- Texts that the claim needs. -/
import Derived.Test.YtmfcojpjpgldhaaGreatDoorQEBy44
import Derived.Test.YtmfcojpjpgldhaaGreatDoorQEBy40
import Derived.Test.YtmfcojpjpgldhaaGreatDoorQEBy35
import Derived.Test.YtmfcojpjpgldhaaGreatDoorQEBy22
import Derived.Test.YtmfcojpjpgldhaaGreatDoorQEBy36
import Derived.Test.YtmfcojpjpgldhaaGreatDoorQEBy7
namespace Go.Proofs.YtmfcojpjpgldhaaGreatDoor
open Go.RowKit aA
namespace aA
theorem Er {α:Type} (f:α->Nat->Nat) (l:List (Ins α)):oz f l 65537=65537:=by cases l<;>rfl
theorem UR:∀(d:Nat) (l:IL d),cnt d l 65537=65537
 | 0,_=>rfl
 | d+1,l=>Er (cnt d) l
theorem yC {p:Prop} [Decidable p] {α:Type} {a:α} {β:Type} (f:α->Option β):(if p then some a else none).bind f=if p then f a else none:=by split<;>rfl
theorem KT {α:Type} (f:α->Nat->Nat) (hf:∀x,f x 65537=65537) (hb:∀x c,f x c<=max c 65537) (sub:α->Nat->Option Nat) (hs:∀y c,c<=65536->sub y c=if f y c<=65536 then some (f y c) else none)
  (st:Nat->Ins α->Option Nat) (hst:∀c x,st c x=if c+1<=65536 then some (c+1) else none) :
  ∀(l:List (Ins α)) (c:Nat),c<=65536->uK st sub l c=if oz f l c<=65536 then some (oz f l c) else none
 | [],c,hc=>by
  show some c=if c<=65536 then some c else none;rw [if_pos hc]
 | x :: r,c,hc=>by
  have e:oz f (x :: r) c=oz f r (f x.els (f x.body (c+1))):=if_pos hc;show (st c x).bind _=_;rw [hst,e,yC];by_cases h1:c+1<=65536
  ·rw [if_pos h1,hs _ _ h1,yC];by_cases h2:f x.body (c+1)<=65536
   ·rw [if_pos h2,hs _ _ h2,yC];by_cases h3:f x.els (f x.body (c+1))<=65536
    ·rw [if_pos h3];exact KT f hf hb sub hs st hst r _ h3
    have h4:f x.els (f x.body (c+1))=65537:=by have:=hb x.els (f x.body (c+1));omega
    rw [if_neg h3,h4,Er];rfl
   have h4:f x.body (c+1)=65537:=by have:=hb x.body (c+1);omega
   rw [if_neg h2,h4,hf,Er];rfl
  have h4:c+1=65537:=by omega
  rw [if_neg h1,h4,hf,hf,Er];rfl
theorem KU:∀(d:Nat) (l:IL d) (k c:Nat),c<=65536->jC kG d l k c=if cnt d l c<=65536 then some (cnt d l c) else none
 | 0,_,_,c,hc=>by
  show some c=if c<=65536 then some c else none;rw [if_pos hc]
 | d+1,l,k,c,hc=>KT (cnt d) (UR d) (AR d) _ (λy c hc=>KU d y (k+1) c hc) _ (λ_ _=>rfl) l c hc
theorem KV (d:Nat):∀(l:List (gy d)) (c:Nat),c<=65536->fJ kG d l c=if cntF d l c<=65536 then some (cntF d l c) else none
 | [],c,hc=>by
  show some c=if c<=65536 then some c else none;rw [if_pos hc]
 | x :: r,c,hc=>by
  have e:cntF d (x :: r) c=cntF d r (cnt d x.body c):=if_pos hc;show (jC kG d x.body 0 c).bind _=_;rw [KU d _ _ _ hc,e,yC];by_cases h1:cnt d x.body c<=65536
  ·rw [if_pos h1];exact KV d r _ h1
  have h4:cnt d x.body c=65537:=by have:=AR d x.body c;omega
  rw [if_neg h1,h4]
  have:cntF d r 65537=65537:=by cases r<;>rfl
  rw [this];rfl
def AU {α:Type} (p:Ins α->Bool) (sub:α->Bool) (l:List (Ins α)):Bool:=l.all λx=>p x&&(sub x.body&&sub x.els)
def allI (p:Sn->Nat->Bool):(d:Nat)->IL d->Nat->Bool
 | 0,_,_=>true
 | d+1,l,k=>AU (λx=>p (sn x) k) (λy=>allI p d y (k+1)) l
theorem AV {α:Type} (p:Ins α->Bool) (sub:α->Bool) (st:Unit->Ins α->Option Unit) (hst:∀u x,st u x=if p x=true then some () else none) (su:α->Unit->Option Unit) (hsu:∀y u,su y u=if sub y=true then some () else none) :
  ∀(l:List (Ins α)) (u:Unit),uK st su l u=if AU p sub l=true then some () else none
 | [],_=>rfl
 | x :: r,u=>by
  show (st u x).bind _=_;have e:AU p sub (x :: r)=((p x&&(sub x.body&&sub x.els))&&AU p sub r):=rfl;rw [hst,e,yC];cases p x
  ·rfl
  rw [if_pos rfl,hsu,yC];cases sub x.body
  ·rfl
  rw [if_pos rfl,hsu,yC];cases sub x.els
  ·rfl
  rw [if_pos rfl,AV p sub st hst su hsu r];rfl
theorem KW (p:Sn->Nat->Bool) (st:Unit->Sn->Nat->Option Unit) (hst:∀u x k,st u x k=if p x k=true then some () else none):∀(d:Nat) (l:IL d) (k:Nat) (u:Unit),jC st d l k u=if allI p d l k=true then some () else none
 | 0,_,_,_=>rfl
 | d+1,l,k,u=>AV (λx=>p (sn x) k) (λy=>allI p d y (k+1)) _ (λu x=>hst u (sn x) k) _ (λy u=>KW p st hst d y (k+1) u) l u
theorem yD (p:Sn->Nat->Bool) (st:Unit->Sn->Nat->Option Unit) (hst:∀u x k,st u x k=if p x k=true then some () else none) (d:Nat):∀(l:List (gy d)) (u:Unit),fJ st d l u=if (l.all λf=>allI p d f.body 0)=true then some () else none
 | [],_=>rfl
 | x :: r,u=>by
  show (jC st d x.body 0 u).bind _=_;rw [KW p st hst,yC,List.all_cons];cases allI p d x.body 0
  ·rfl
  rw [if_pos rfl,yD p st hst d r];rfl
theorem Gu:∀(d:Nat) (l:IL d) (k:Nat),allI (λx _=>rH x) d l k=qh d l
 | 0,_,_=>rfl
 | d+1,l,k=>by
  show AU _ _ l=List.all (α:=Ins (IL d)) l _;unfold AU;congr 1
  funext x
  show (rH (sn x)&&(allI (λx _=>rH x) d x.body (k+1)&&allI (λx _=>rH x) d x.els (k+1)))=_;rw [Gu d x.body (k+1),Gu d x.els (k+1)]
theorem CG {α:Type} {p q:α->Bool} (h:∀x,p x = !q x):∀l:List α,l.any p = !l.all q
 | []=>rfl
 | x :: r=>by rw [List.any_cons,List.all_cons,h x,CG h r,Bool.not_and]
theorem UT (n:Nat):decide (4096<n) = !few (n:Int):=by
 unfold few;by_cases h:4096<n
 ·rw [aC h,au (by omega)];rfl
 rw [au h,aC (by omega)];rfl
theorem Gv:∀(d:Nat) (l:IL d) (k:Nat),lab d l = !allI (λx _=>few x.labels.length) d l k
 | 0,_,_=>rfl
 | d+1,l,k=>by
  refine CG (λx=>?_) l;show (decide (4096<x.labels.length) || lab d x.body || lab d x.els) = !(few x.labels.length&&(allI _ d x.body (k+1)&&allI _ d x.els (k+1)));rw [UT,Gv d x.body (k+1),Gv d x.els (k+1),Bool.not_and,Bool.not_and,Bool.or_assoc]
theorem Gw:∀(d:Nat) (l:IL d) (k:Nat),dp d l k = !allI (λ_ k=>decide (k<=64)) d l k
 | 0,_,_=>rfl
 | d+1,l,k=>by
  show ((decide (0<List.length (α:=Ins (IL d)) l)&&decide (64<k)) || List.any (α:=Ins (IL d)) l λx=>dp d x.body (k+1) || dp d x.els (k+1)) = !List.all (α:=Ins (IL d)) l _
  have hd:∀x:Ins (IL d),(dp d x.body (k+1) || dp d x.els (k+1)) = !(allI (λ_ k=>decide (k<=64)) d x.body (k+1)&&allI (λ_ k=>decide (k<=64)) d x.els (k+1)):=λx=>by
   rw [Gw d x.body (k+1),Gw d x.els (k+1),Bool.not_and]
  by_cases hk:k<=64
  ·rw [au (by omega:¬ 64<k),Bool.and_false,Bool.false_or];refine CG (λx=>?_) l;show _ = !(decide (k<=64)&&_);rw [aC hk,fN];exact hd x
  rw [aC (by omega:64<k),Bool.and_true];cases l with
  | nil=>rfl
  | cons x r =>
   have e:List.all (α:=Ins (IL d)) (x :: r) (λx=>decide (k<=64)&&(allI (λ_ k=>decide (k<=64)) d x.body (k+1)&&allI (λ_ k=>decide (k<=64)) d x.els (k+1)))=false:=by
    rw [List.all_cons,au hk,Bool.false_and,Bool.false_and]
   have e0:decide (0<List.length (α:=Ins (IL d)) (x :: r))=true:=by simp
   rw [e0,Bool.true_or];exact (congrArg (λb=>!b) e).symm
end aA
end Go.Proofs.YtmfcojpjpgldhaaGreatDoor
namespace Go.Proofs.YtmfcojpjpgldhaaGreatDoor
open Go.RowKit aA Go.Proofs.Tryz
set_option linter.unusedVariables false
set_option maxRecDepth 100000
set_option maxHeartbeats 4000000
namespace aA
theorem Xt (s:ByteArray):tV s=nm s:=rfl
theorem Xu {d:Nat} (m:Mod d):Bf m=(uJ m&&m.funcs.all λf=>qh d f.body):=by
 rw [Bool.eq_iff_iff];unfold Bf uJ;simp only [gm,iF,dT,dI,dF,dG,dE,dL,dD,dC,AP,vJ,rM,cB,nP,mg,dX,rH,sn,Xt,List.mem_append,List.mem_singleton,forall_eq,decide_eq_true_iff,and_true];constructor
 ·rintro ⟨h1,h2,h3,h4,h5,h6,h7,h8,h9,h10⟩;refine ⟨⟨h1,λx hx=>?_,λx hx=>?_,λx hx=>?_,h4,λx hx=>?_,h10,h6,h7⟩,λx hx=>(h3 x hx).2.2⟩
  ·obtain ⟨a,b,c⟩:=h2 x hx;exact ⟨⟨b,c⟩,a⟩
  ·obtain ⟨a,b,c⟩:=h3 x hx;exact ⟨a,b⟩
  ·rcases hx with hx|hx
   ·exact h8 x hx
   exact h9 x hx
  obtain ⟨a,b,c⟩:=h5 x hx;exact ⟨a,b,c⟩
 rintro ⟨⟨h1,h2,h3,h4,h5,h6,h7,h8,h9⟩,h10⟩;refine ⟨h1,λx hx=>?_,λx hx=>?_,h5,λx hx=>?_,h8,h9,λx hx=>h4 x (.inl hx),λx hx=>h4 x (.inr hx),h7⟩
 ·obtain ⟨⟨a,b⟩,c⟩:=h2 x hx;exact ⟨c,a,b⟩
 ·obtain ⟨a,b⟩:=h3 x hx;exact ⟨a,b,h10 x hx⟩
 obtain ⟨a,b,c⟩:=h6 x hx;exact ⟨a,b,c⟩
def ES {d:Nat} (m:Mod d):Int :=
 if nO m=false then 3 else if 65536<cntF d m.funcs 0 then 3 else if (m.funcs.any λf=>lab d f.body)=true then 3 else if (m.funcs.any λf=>dp d f.body 0)=true then 4 else if Bf m=false then 30 else 0
theorem Xv {d:Nat} (m:Mod d):ES m=mF m:=by
 unfold ES mF
 rw [KV d m.funcs 0 (by omega),yD (λx _=>few x.labels.length) vW (λ_ _ _=>rfl),yD (λ_ k=>decide (k<=64)) yR (λ_ _ k=>by unfold yR;by_cases h:k<=64<;>simp [h]),yD (λx _=>rH x) vI (λ_ _ _=>rfl),
  CG (λf:gy d=>Gv d f.body 0),CG (λf:gy d=>Gw d f.body 0),Xu]
 have e:(m.funcs.all λf=>allI (λx _=>rH x) d f.body 0)=m.funcs.all λf=>qh d f.body:=by
  congr 1
  funext f
  exact Gu d f.body 0
 rw [e];cases nO m
 ·rfl
 simp only [Bool.true_eq_false,if_false,if_true];by_cases hc:65536<cntF d m.funcs 0
 ·have e2:(if cntF d m.funcs 0<=65536 then some (cntF d m.funcs 0) else none)=none:=if_neg (by omega);rw [if_pos hc,e2]
 have e2:(if cntF d m.funcs 0<=65536 then some (cntF d m.funcs 0) else none)=some (cntF d m.funcs 0):=if_pos (by omega);rw [if_neg hc,e2];cases (m.funcs.all λf=>allI (λx _=>few x.labels.length) d f.body 0)
 ·rfl
 cases (m.funcs.all λf=>allI (λ_ k=>decide (k<=64)) d f.body 0)
 ·rfl
 cases uJ m
 ·rfl
 cases (m.funcs.all λf=>qh d f.body)
 ·rfl
 rfl
theorem Mh {α:Type} {p:α->Bool} {l:List α} {j:Nat} {x:α} {R:Bool} (hx:l[j]?=some x) (h:R=(l.drop j).any p):R=(p x || (l.drop (j+1)).any p):=by
 have hl:j<l.length:=(fZ.1 hx).1;have he:l[j]=x:=(fZ.1 hx).2;rw [h,lX hl,he];rfl
theorem Mi {α:Type} {p:α->Bool} {l:List α} {j:Nat} {R:Bool} (hj:l.length<=j) (h:R=(l.drop j).any p):R=false:=by
 rw [h,List.drop_of_length_le hj];rfl
end aA
theorem Xw (d:Nat) (v0 v1 v2 v3 v4 v5 v6 v7 v8 v9:Value) (m:Mod d) (w:World) (hM:da w d v0 v1 v2 v3 v4 v5 v6 v7 v8 v9 m) (hX:zF m) (hsz:∀x ∈ m.ax,x.bytes.size<=4611686018427387904) :
  Calls prog 16 #[.agg #[v0,v1,v2,v3,v4,v5,v6,v7,v8,v9]] w λe w'=>e=.returned (.int .i64 (mF m))/\Below w.heap.size w w':=by
 have l2:=hM.funcs.1;have HM:=aa hM;have Mj:=aa λ(w':World) (h:Below w.heap.size w w')=>UY d v0 v1 v2 v3 v4 v5 v6 v7 v8 v9 m w' (hM.on h) hsz;have CR:=aa λ(w':World) (h:Below w.heap.size w w')=>VP d v0 v1 v2 v3 v4 v5 v6 v7 v8 v9 m.funcs w' (hM.on h).funcs hM.ten;have Ml:=aa λ(w':World) (h:Below w.heap.size w w')=>Xx d v0 v1 v2 v3 v4 v5 v6 v7 v8 v9 m w' (hM.on h) hX;have HS:=aa (dN.start w 32 v0 v1 v2 v3 v4 v5 v6 v7 v8 v9);obtain ⟨R,hR⟩:∃R,R=ES m:=⟨_,rfl⟩;rw [<- Xv,<- hR];unfold ES at hR;have HR:=aa hR;obtain ⟨o2,c2,rfl⟩:=Row.len hM.funcs;obtain ⟨⟨o0,n0,c0,rfl⟩,⟨o1,n1,c1,rfl⟩,⟨o3,n3,c3,rfl⟩,⟨o4,n4,c4,rfl⟩,⟨o5,n5,c5,rfl⟩,⟨o6,n6,c6,rfl⟩,⟨o7,n7,c7,rfl⟩,⟨o8,n8,c8,rfl⟩,⟨o9,n9,c9,rfl⟩⟩:=hM.ten;clear hM hX hsz hR;generalize gW:m.funcs.length=n2 at *;generalize nO m=r1 at *;generalize cntF d m.funcs 0=r2 at *;generalize Bf m=r5 at *;obtain ⟨r3,hr3⟩:∃r3,r3=m.funcs.any λf=>lab d f.body:=⟨_,rfl⟩;obtain ⟨r4,hr4⟩:∃r4,r4=m.funcs.any λf=>dp d f.body 0:=⟨_,rfl⟩;rw [<- hr3,<- hr4] at HR;have HR3:Hid (r3=(m.funcs.drop 0).any λf=>lab d f.body):=hr3;have HR4:Hid (r4=(m.funcs.drop 0).any λf=>dp d f.body 0):=hr4;clear hr3 hr4;go_enter func16,ntmps16;go_upto_region 1 with fail;obtain ⟨wb,hwb⟩:∃wb,wb=w.alloc (.cells #[.slice o0 n0 c0,.slice o1 n1 c1,.slice o2 n2 c2,.slice o3 n3 c3,.slice o4 n4 c4,.slice o5 n5 c5,.slice o6 n6 c6,.slice o7 n7 c7,.slice o8 n8 c8,.slice o9 n9 c9] 32):=⟨_,rfl⟩;rw [<- hwb] at HS ⊢;clear hwb;obtain ⟨q0,q1,q2,q3,q4,q5,q6,q7,q8,q9,qb⟩:=HS.out;clear qb;go_wp2_with fail;refine (Mj.out _ HS.out.aL).mono ?_;rintro e u1 ⟨rfl,hb⟩;have HS:=aa (HS.out.on hb);clear hb q0 q1 q2 q3 q4 q5 q6 q7 q8 q9 Mj;cases r1 with
 | false =>
  obtain rfl:R=3:=HR.out;clear HR;go_wp2;go_ret;exact ⟨rfl,HS.out.aL⟩
 | true =>
 obtain ⟨q0,q1,q2,q3,q4,q5,q6,q7,q8,q9,qb⟩:=HS.out;clear qb;go_wp2_with fail;refine (CR.out _ HS.out.aL).mono ?_;rintro e u2 ⟨rfl,hb⟩;have HS:=aa (HS.out.on hb);clear hb q0 q1 q2 q3 q4 q5 q6 q7 q8 q9 CR;obtain ⟨r2',hr2'⟩:∃r2':Nat,r2'=min r2 65537:=⟨_,rfl⟩;rw [<- hr2'];have hle:r2'<=65537:=by omega
 by_cases hc:65536<r2
 ·have hc':65536<r2':=by omega
  obtain rfl:R=3:=by rw [HR.out,if_neg (by simp),if_pos hc]
  clear HR;go_wp2;go_ret;exact ⟨rfl,HS.out.aL⟩
 have hc':¬ 65536<r2':=by omega
 have ET:Hid (R=if r3=true then 3 else if r4=true then 4 else if r5=false then 30 else 0):=aa (by rw [HR.out,if_neg (by simp),if_neg hc]);clear HR hr2';obtain ⟨q0,q1,q2,q3,q4,q5,q6,q7,q8,q9,qb⟩:=HS.out;clear qb q0 q1 q3 q4 q5 q6 q7 q8 q9;go_wp2_with fail;clear q2;go_loopw [3] (λi wr=>∃j:Nat,j<=n2/\i=.int .i64 j/\Hid (r3=(m.funcs.drop j).any λf=>lab d f.body)/\wr=u2) (λi _=>n2-(RowKit.intOf i).toNat)
 case atStart=>exact ⟨0,by omega,rfl,HR3,rfl⟩
 case round =>
  obtain ⟨j,hj,rfl,HK,rfl⟩:=hrel;obtain ⟨q0,q1,q2,q3,q4,q5,q6,q7,q8,q9,qb⟩:=HS.out;clear qb q0 q1 q3 q4 q5 q6 q7 q8 q9;by_cases hgo:j<n2
  ·obtain ⟨b,off,cap2,hv2,hx⟩:=Row.some ((HM.out.on HS.out.aL).funcs) (by omega);injection hv2 with ho h2 h3;subst ho;obtain ⟨x,hxk⟩:∃x,m.funcs[j]?=some x:=⟨_,aY (by omega)⟩;have hI:=hx j x hxk;obtain ⟨vb,k2,ab⟩:=hI.body;obtain ⟨ob,cb,rfl⟩:=At.len d vb _ ab;have AB:=aa ab;have HN:=aa (Mh hxk HK.out);clear hx hxk h2 h3 HK hI ab;go_wp2_with fail;refine (K8 d _ x.body _ AB.out).mono ?_;rintro e u ⟨rfl,hu⟩;obtain rfl:wr=u:=hu.symm;generalize lab d x.body=t at *;cases t with
   | true =>
    obtain rfl:r3=true:=HN.out;obtain rfl:R=3:=ET.out;clear ET HN;go_wp2;go_ret;exact ⟨rfl,HS.out.aL⟩
   | false =>
    have dQ:Hid (r3=(m.funcs.drop (j+1)).any λf=>lab d f.body):=aa (by rw [HN.out,Bool.false_or]);clear HN;go_wp2;go_roundw
    case rel=>exact ⟨j+1,by omega,by go_num,dQ,trivial⟩
    case measure=>simp [RowKit.intOf];omega
  obtain rfl:n2=j:=by omega
  obtain rfl:r3=false:=Mi (by omega) HK.out;have ui:Hid (R=if r4=true then 4 else if r5=false then 30 else 0):=ET;clear ET HK;go_wp2_with fail;clear q2;obtain ⟨u2,rfl⟩:∃u2,u2=wr:=⟨_,rfl⟩;go_loopw [4] (λi wr=>∃j:Nat,j<=n2/\i=.int .i64 j/\Hid (r4=(m.funcs.drop j).any λf=>dp d f.body 0)/\wr=u2) (λi _=>n2-(RowKit.intOf i).toNat)
  case atStart=>exact ⟨0,by omega,rfl,HR4,rfl⟩
  case round =>
   obtain ⟨j,hj,rfl,HK,rfl⟩:=hrel;by_cases hgo:j<n2
   ·obtain ⟨q0,q1,q2,q3,q4,q5,q6,q7,q8,q9,qb⟩:=HS.out;clear qb q0 q1 q3 q4 q5 q6 q7 q8 q9;obtain ⟨b,off,cap2,hv2,hx⟩:=Row.some ((HM.out.on HS.out.aL).funcs) (by omega);injection hv2 with ho h2 h3;subst ho;obtain ⟨x,hxk⟩:∃x,m.funcs[j]?=some x:=⟨_,aY (by omega)⟩;have hI:=hx j x hxk;obtain ⟨vb,k2,ab⟩:=hI.body;obtain ⟨ob,cb,rfl⟩:=At.len d vb _ ab;have AB:=aa ab;have HN:=aa (Mh hxk HK.out);clear hx hxk h2 h3 HK hI ab;go_wp2_with fail;refine (Lc d _ x.body 0 _ AB.out (by omega)).mono ?_;rintro e u ⟨rfl,hu⟩;obtain rfl:wr=u:=hu.symm;generalize dp d x.body 0=t at *;cases t with
    | true =>
     obtain rfl:r4=true:=HN.out;obtain rfl:R=4:=ui.out;clear ui HN;go_wp2;go_ret;exact ⟨rfl,HS.out.aL⟩
    | false =>
     have dQ:Hid (r4=(m.funcs.drop (j+1)).any λf=>dp d f.body 0):=aa (by rw [HN.out,Bool.false_or]);clear HN;go_wp2;go_roundw
     case rel=>exact ⟨j+1,by omega,by go_num,dQ,trivial⟩
     case measure=>simp [RowKit.intOf];omega
   obtain rfl:n2=j:=by omega
   obtain rfl:r4=false:=Mi (by omega) HK.out;have EU:Hid (R=if r5=false then 30 else 0):=ui;clear ui HK;obtain ⟨q0,q1,q2,q3,q4,q5,q6,q7,q8,q9,qb⟩:=HS.out;clear qb;go_wp2_with fail;refine (Ml.out _ HS.out.aL).mono ?_;rintro e u5 ⟨rfl,hb⟩;have HS:=aa (HS.out.on hb);clear hb q0 q1 q2 q3 q4 q5 q6 q7 q8 q9 Ml;cases r5 with
   | false =>
    obtain rfl:R=30:=EU.out;clear EU;go_wp2;go_ret;exact ⟨rfl,HS.out.aL⟩
   | true =>
    obtain rfl:R=0:=EU.out;clear EU;go_wp2;go_ret;exact ⟨rfl,HS.out.aL⟩
end Go.Proofs.YtmfcojpjpgldhaaGreatDoor
namespace Go.Proofs.YtmfcojpjpgldhaaGreatDoor
open Go.RowKit aA Enc Go.Lib Go.Proofs.Tryz
set_option linter.unusedVariables false
set_option maxRecDepth 100000
set_option maxHeartbeats 8000000
namespace Enc
theorem Yb (bs:List Int):∃S E,told bs=.tuple #[.string S,.int .i64 E]:=⟨_,_,GF bs⟩
end Enc
theorem Vf (d:Nat) (v0 v1 v2 v3 v4 v5 v6 v7 v8 v9:Value) (m:Mod d) (w:World) (hM:da w d v0 v1 v2 v3 v4 v5 v6 v7 v8 v9 m) (hX:zF m) (hsz:∀x ∈ m.ax,x.bytes.size<=4611686018427387904) (W:mF m=0->Wr m) :
  Calls prog 8 #[.agg #[v0,v1,v2,v3,v4,v5,v6,v7,v8,v9]] w λe w'=>e=.returned (AY m)/\Below w.heap.size w w':=by
 obtain ⟨o0,k0,rfl⟩:=Row.len hM.types;obtain ⟨o1,k1,rfl⟩:=Row.len hM.imports;obtain ⟨o2,k2,rfl⟩:=Row.len hM.funcs;obtain ⟨o3,k3,rfl⟩:=Row.len hM.tables;obtain ⟨o4,k4,rfl⟩:=Row.len hM.aD;obtain ⟨o5,k5,rfl⟩:=Row.len hM.globals;obtain ⟨o6,k6,rfl⟩:=Row.len hM.exports;obtain ⟨o7,k7,rfl⟩:=Row.len hM.start;obtain ⟨o8,k8,rfl⟩:=Row.len hM.elems;obtain ⟨o9,k9,rfl⟩:=Row.len hM.ax;obtain ⟨u1,hu1⟩:∃u1,u1=w.alloc (.cells #[.slice o0 m.types.length k0,.slice o1 m.imports.length k1,.slice o2 m.funcs.length k2,.slice o3 m.tables.length k3,.slice o4 m.aD.length k4,.slice o5 m.globals.length k5,.slice o6 m.exports.length k6,.slice o7 m.start.length k7,.slice o8 m.elems.length k8,.slice o9 m.ax.length k9] 32):=⟨_,rfl⟩;have hb:Below w.heap.size w u1:=by rw [hu1];exact aU w _
 have cg:Hid (Bx u1 w.heap.size 32 #[.slice o0 m.types.length k0,.slice o1 m.imports.length k1,.slice o2 m.funcs.length k2,.slice o3 m.tables.length k3,.slice o4 m.aD.length k4,.slice o5 m.globals.length k5,.slice o6 m.exports.length k6,.slice o7 m.start.length k7,.slice o8 m.elems.length k8,.slice o9 m.ax.length k9]):=aa (by rw [hu1];exact Bx.new rfl);have HC:=aa (Xw d _ _ _ _ _ _ _ _ _ _ m u1 (hM.on hb) hX hsz);have HM:=aa hM;have HB:=aa hb;have HW:=aa W;have HU:=aa hu1;unfold AY;clear hM hX hsz W hb hu1;generalize m.types.length=n0 at *;generalize m.imports.length=n1 at *;generalize m.funcs.length=n2 at *;generalize m.tables.length=n3 at *;generalize m.aD.length=n4 at *;generalize m.globals.length=n5 at *;generalize m.exports.length=n6 at *;generalize m.start.length=n7 at *;generalize m.elems.length=n8 at *;generalize m.ax.length=n9 at *;obtain ⟨q0,q1,q2,q3,q4,q5,q6,q7,q8,q9⟩:=cg.out.mE;by_cases h0:mF m=0
 ·rw [if_pos h0];have Mt:=aa (HW.out h0);rw [h0] at HC;clear HW;obtain ⟨id,hid⟩:∃id,sQ m=id:=⟨_,rfl⟩;rw [hid];have Mv:Hid (jI++aH (sb m) 11=id):=aa (by rw [<- hid,Mb]);clear hid;obtain ⟨S,E,vQ⟩:=Yb id;rw [vQ];have xy:=aa vQ;clear vQ;go_enter func8,ntmps8;go_upto_region 1 with fail;rw [<- HU.out];clear HU;go_wp2_with fail;refine HC.out.mono ?_;rintro e w1 ⟨rfl,hb1⟩;have hb2:=HB.out.trans (hb1.mono HB.out.size);have iU:Hid (PS w w1.heap.size false (.slice none 0 0) [] (w1.alloc (.cells #[.slice none 0 0,.bool false] 72))):=aa ((PS.new w1).mono hb2)
  have CX:Hid (Bx (w1.alloc (.cells #[.slice none 0 0,.bool false] 72)) w.heap.size 32 #[.slice o0 n0 k0,.slice o1 n1 k1,.slice o2 n2 k2,.slice o3 n3 k3,.slice o4 n4 k4,.slice o5 n5 k5,.slice o6 n6 k6,.slice o7 n7 k7,.slice o8 n8 k8,.slice o9 n9 k9]):=aa (by
   unfold Bx;rw [(aU w1 _).block _ (nH cg.out.lt hb1.size),hb1.block _ cg.out.lt];exact cg.out)
  have bH:Hid (w.heap.size≠w1.heap.size):=aa (by have:=hb1.size;have:=cg.out.lt;omega);clear hb1 hb2 HC HB cg q0 q1 q2 q3 q4 q5 q6 q7 q8 q9;have HC:=aa (Bd w w1.heap.size false _ [] [] ⟨#[0,97,115,109,1,0,0,0]⟩ _ iU.out St.nil (by decide));rw [ed,show nums ⟨#[0,97,115,109,1,0,0,0]⟩=jI from rfl] at HC;go_wp2_with fail;refine HC.out.mono ?_;rintro e w2 ⟨cQ,v2,b2,rfl,h2,s2,k2⟩;have Mw:=(k2.bx CX.out bH.out (by simp [Value.ownBlock])).1;obtain ⟨q0,q1,q2,q3,q4,q5,q6,q7,q8,q9⟩:=Mw.mE;have cz:=aa (R9 w w1.heap.size cQ v2 b2 jI d _ _ _ _ _ _ _ _ _ _ m w2 h2 s2 HM.out Mt.out);rw [Mv.out] at cz;clear Mw h2 s2 k2 HC iU CX bH Mv HM Mt;go_wp2_with fail;refine cz.out.mono ?_;rintro e w3 ⟨bw,v3,b3,rfl,h3,s3,k3⟩;have ko:=h3.tK;have kc:=h3.cell;have hcv:=LR h3.own;obtain ⟨o3,c3,rfl⟩:=h3.slice;have eX:=aa h3.below;have hf3:=h3.few;clear cz k3 h3 q0 q1 q2 q3 q4 q5 q6 q7 q8 q9;rcases s3 with ⟨rfl,hb3⟩|⟨rfl,hl⟩
  ·rw [<- hb3] at xy;clear hb3;by_cases hbig:262144<b3.length
   ·have HT:Hid (told b3=.tuple #[.string ⟨#[]⟩,.int .i64 2]):=aa (by unfold told;rw [if_pos hbig]);generalize hbl:b3.length=bl at *;have hd2:(262144:Int)<(bl:Int):=by omega
    clear hcv hbl hf3;go_wp2;go_ret2;exact ⟨congrArg Ending.returned (HT.out.symm.trans xy.out),eX.out⟩
   have HT:Hid (told b3=.tuple #[.string (strOfNums b3),.int .i64 0]):=aa (by unfold told;rw [if_neg hbig]);generalize strOfNums b3=S0 at *;generalize hbl:b3.length=bl at *;have hd2:¬ (262144:Int)<(bl:Int):=by omega
   clear hbl hf3 hbig;go_wp2;go_ret2;exact ⟨congrArg Ending.returned (HT.out.symm.trans xy.out),eX.out⟩
  have HT:Hid (told id=.tuple #[.string ⟨#[]⟩,.int .i64 2]):=aa (by unfold told;rw [if_pos (by omega)]);generalize b3.length=bl at *;clear hcv hl hf3;go_wp2;go_ret2;exact ⟨congrArg Ending.returned (HT.out.symm.trans xy.out),eX.out⟩
 rw [if_neg h0];clear HW HM;generalize mF m=r at *;go_enter func8,ntmps8;go_upto_region 1 with fail;rw [<- HU.out];clear HU;go_wp2_with fail;refine HC.out.mono ?_;rintro e w1 ⟨rfl,hb1⟩;have HB1:=aa (HB.out.trans (hb1.mono HB.out.size));clear hb1 HB HC cg q0 q1 q2 q3 q4 q5 q6 q7 q8 q9;go_wp2;go_ret2;exact ⟨rfl,HB1.out⟩
namespace Enc
def ze:Mod 0:={ types:=[⟨[],[]⟩],imports:=[],funcs:=[],tables:=[],aD:=[],globals:=[],exports:=[],start:=[],elems:=[],ax:=[] }
theorem vq {α:Type} {k:Nat} {f:Nat->Nat->α->Prop}:Row k f (.slice none 0 0) []:=⟨by simp,.inl ⟨rfl,none,0,rfl⟩⟩
theorem aaw:mF ze=0:=by decide
theorem aax:Wr ze:=⟨λx hx=>by rw [List.mem_singleton.1 hx];exact ⟨by decide,by decide⟩,λx hx=>(by cases hx),λx hx=>(by cases hx),λx hx=>(by cases hx),λx hx=>(by cases hx),λx hx=>(by cases hx),λx hx=>(by cases hx),λx hx=>(by cases hx),λx hx=>(by cases hx),λx hx=>(by cases hx),by decide,by decide,λx hx=>(by cases hx),by decide⟩
theorem aay:told (sQ ze)=.tuple #[.string ⟨#[0,97,115,109,1,0,0,0,1,4,1,96,0,0]⟩,.int .i64 0]:=by
 have h:sQ ze = [0,97,115,109,1,0,0,0,1,4,1,96,0,0]:=by decide
 rw [h];unfold told;rw [if_neg (by decide)];rfl
end Enc
theorem LA {I:World->Prop} (C:vF I) (w:World) (hI:I w):Calls prog 5 #[] w λe w'=>e=.returned (.bool true)/\Below w.heap.size w w':=by
 have hb:=aU w (.cells #[.slice none 0 0,.slice none 0 0] 47);have hx:=Bx.new (w:=w) (b:=w.heap.size) (t:=47) (cs:=#[.slice none 0 0,.slice none 0 0]) rfl
 have hM:da (w.alloc (.cells #[.slice none 0 0,.slice none 0 0] 47)) 0 (.slice (some ⟨w.heap.size,0,none⟩) 1 1) (.slice none 0 0) (.slice none 0 0) (.slice none 0 0) (.slice none 0 0) (.slice none 0 0) (.slice none 0 0) (.slice none 0 0) (.slice none 0 0) (.slice none 0 0) ze :=
  ⟨⟨by show 1<=_;omega,.inr ⟨w.heap.size,0,1,rfl,λi x hi=>by
   match i,hi with
   | 0,hi =>
    obtain rfl:(⟨[],[]⟩:FT)=x:=by simpa [ze] using hi
    exact ⟨⟨_,hx.cell 0 _ rfl,vq⟩,⟨_,hx.cell 1 _ rfl,vq⟩⟩
   | i+1,hi=>simp [ze] at hi⟩⟩,vq,vq,vq,vq,vq,vq,vq,vq,vq⟩
 have hC:=Oi C 0 _ _ _ _ _ _ _ _ _ _ ze _ (C.keep hb hI) hM ⟨by omega,λx hx=>(by cases hx),⟨λx hx=>(by cases hx),λx hx=>(by cases hx)⟩,λn c h=>(by injection h with _ _ h;exact h.symm),λn c h=>(by injection h with _ _ h;exact h.symm)⟩ aaw aax;rw [aay] at hC;have HC:=aa hC;have HB:=aa hb;clear hC hM hx hb hI;go_enter func5,ntmps5;go_wp2_with fail;refine HC.out.mono ?_;rintro e w1 ⟨rfl,hb1⟩;have HB1:=aa (HB.out.trans (hb1.mono HB.out.size));clear hb1 HB HC;go_wp2;go_ret;exact ⟨rfl,HB1.out⟩
end Go.Proofs.YtmfcojpjpgldhaaGreatDoor
namespace Go.Proofs.YtmfcojpjpgldhaaGreatDoor
open Go.RowKit aA Enc Go.Lib
set_option linter.unusedVariables false
namespace Enc
def r9 {α:Type} (rec:α->Prop) (x:Ins α):Prop:=(-9223372036854775808<=x.n/\x.n<=9223372036854775807)/\rec x.body/\rec x.els
def NR:(d:Nat)->IL d->Prop
 | 0,_=>True
 | d+1,l=>∀x,x ∈ (show List (Ins (IL d)) from l)->r9 (NR d) x
theorem AV {α:Type} {step:Unit->Ins α->Option Unit} {sub:α->Unit->Option Unit}:∀(l:List (Ins α)),uK step sub l ()=some ()->∀x ∈ l,step () x=some ()/\sub x.body ()=some ()/\sub x.els ()=some ()
 | [],_,x,hx=>by cases hx
 | y :: r,h,x,hx=>by
  have h':((step () y).bind λs1=>(sub y.body s1).bind λs2=>(sub y.els s2).bind λs3=>uK step sub r s3)=some ():=h;obtain ⟨s1,e1,h1⟩:=Option.bind_eq_some_iff.1 h';obtain ⟨s2,e2,h2⟩:=Option.bind_eq_some_iff.1 h1;obtain ⟨s3,e3,h3⟩:=Option.bind_eq_some_iff.1 h2;rcases pR.1 hx with rfl|hx
  ·exact ⟨e1,e2,e3⟩
  exact AV r h3 x hx
theorem tX {n:Int} (h:idx n=true):0<=n/\n<=4294967295:=of_decide_eq_true h
theorem MH {α:Type} {rec:α->Prop} {x:Ins α} {nb ne:Nat} (hok:okF (form x.op) x.op x.a x.b x.n x.labels nb ne=true) (hf:x.labels.length<=4096) (hn:-9223372036854775808<=x.n/\x.n<=9223372036854775807) (hb:rec x.body) (he:rec x.els):dM rec x:=by
 unfold okF at hok;refine ⟨λh4 h8=>?_,λh8=>?_,λ_=>hn,λh5=>?_,by omega,hb,he⟩
 ·rw [if_neg (by omega),if_neg (by omega),if_neg (by omega)] at hok;by_cases h:form x.op=4\/form x.op=6\/form x.op=7
  ·rw [if_pos h,gm] at hok;exact tX hok.1
  rw [if_neg h] at hok;by_cases h5:form x.op=5
  ·rw [if_pos h5,gm,gm] at hok;exact tX hok.1.1
  rw [if_neg h5,if_pos (by omega),gm,gm] at hok;exact tX hok.1.1
 ·rw [if_neg (by omega),if_neg (by omega),if_neg (by omega),if_neg (by omega),if_neg (by omega),if_pos h8,gm,gm] at hok;exact tX hok.1.2
 rw [if_neg (by omega),if_neg (by omega),if_neg (by omega),if_neg (by omega),if_pos h5,gm,gm] at hok;intro y hy;exact tX (iF.1 hok.1.2 y hy)
theorem rg_of:∀(d:Nat) (l:IL d) (k:Nat),jC vI d l k ()=some ()->jC vW d l k ()=some ()->NR d l->Rg d l
 | 0,_,_,_,_,_=>trivial
 | d+1,l,k,hF,hL,hN=>by
  intro x hx;obtain ⟨f1,f2,f3⟩:=AV (show List (Ins (IL d)) from l) hF x hx;obtain ⟨g1,g2,g3⟩:=AV (show List (Ins (IL d)) from l) hL x hx;obtain ⟨n1,n2,n3⟩:=hN x hx
  have hok:rH (sn x)=true:=by
   unfold vI at f1;by_cases h:rH (sn x)=true
   ·exact h
   rw [if_neg h] at f1;cases f1
  have hfw:x.labels.length<=4096:=by
   unfold vW at g1;by_cases h:few (sn x).labels.length=true
   ·have:=of_decide_eq_true (p:=(((sn x).labels.length:Int)<=4096)) h
    have e:(sn x).labels=x.labels:=rfl;rw [e] at this;omega
   rw [if_neg h] at g1;cases g1
  exact MH hok hfw n1 (rg_of d x.body (k+1) f2 g2 n2) (rg_of d x.els (k+1) f3 g3 n3)
def Bh {α:Type} (f:α->Nat):List (Ins α)->Nat
 | []=>0
 | x :: r=>1+f x.body+f x.els+Bh f r
def tot:(d:Nat)->IL d->Nat
 | 0,_=>0
 | d+1,l=>Bh (tot d) l
theorem MI {α:Type} {f:α->Nat} {step:Nat->Ins α->Option Nat} {sub:α->Nat->Option Nat} (hstep:∀c x c',step c x=some c'->c'=c+1) (hsub:∀y c c',sub y c=some c'->c'=c+f y):∀(l:List (Ins α)) (c c':Nat),uK step sub l c=some c'->c'=c+Bh f l
 | [],c,c',h=>by injection h with h;rw [<- h];rfl
 | y :: r,c,c',h=>by
  have h':((step c y).bind λs1=>(sub y.body s1).bind λs2=>(sub y.els s2).bind λs3=>uK step sub r s3)=some c':=h;obtain ⟨s1,e1,h1⟩:=Option.bind_eq_some_iff.1 h';obtain ⟨s2,e2,h2⟩:=Option.bind_eq_some_iff.1 h1;obtain ⟨s3,e3,h3⟩:=Option.bind_eq_some_iff.1 h2;have a1:=hstep _ _ _ e1;have a2:=hsub _ _ _ e2;have a3:=hsub _ _ _ e3;have a4:=MI hstep hsub r s3 c' h3;show c'=c+(1+f y.body+f y.els+Bh f r);omega
theorem MJ:∀(d:Nat) (l:IL d) (k c c':Nat),jC kG d l k c=some c'->c'=c+tot d l
 | 0,_,_,c,c',h=>by injection h with h;rw [<- h];rfl
 | d+1,l,k,c,c',h=>MI (f:=tot d) (λc x c' h=>by
   unfold kG at h;split at h
   ·injection h with h;exact h.symm
   cases h) (λy c c' h=>MJ d y (k+1) c c' h) (show List (Ins (IL d)) from l) c c' h
theorem Hk:∀(d:Nat) (l:IL d) (k c c':Nat),c<=65536->jC kG d l k c=some c'->c'<=65536
 | 0,_,_,c,c',hc,h=>by injection h with h;omega
 | d+1,l,k,c,c',hc,h=>by
  have key:∀(l:List (Ins (IL d))) (c c':Nat),c<=65536->uK (λs x=>kG s (sn x) k) (λy s=>jC kG d y (k+1) s) l c=some c'->c'<=65536:=by
   intro l
   induction l with
   | nil=>intro c c' hc h;injection h with h;omega
   | cons y r ih =>
    intro c c' hc h;have h':((kG c (sn y) k).bind λs1=>(jC kG d y.body (k+1) s1).bind λs2=>(jC kG d y.els (k+1) s2).bind λs3=>uK (λs x=>kG s (sn x) k) (λy s=>jC kG d y (k+1) s) r s3)=some c':=h;obtain ⟨s1,e1,h1⟩:=Option.bind_eq_some_iff.1 h';obtain ⟨s2,e2,h2⟩:=Option.bind_eq_some_iff.1 h1;obtain ⟨s3,e3,h3⟩:=Option.bind_eq_some_iff.1 h2
    have b1:s1<=65536:=by
     unfold kG at e1;split at e1
     ·injection e1 with e1;omega
     cases e1
    exact ih s3 c' (Hk d _ _ _ _ (Hk d _ _ _ _ b1 e2) e3) h3
  exact key (show List (Ins (IL d)) from l) c c' hc h
theorem MK {α:Type} {rec:α->List Int} {sz:α->Nat} {P:α->Prop} {x:Ins α} (r:dM P x):(cn rec sz x).length<=100000100+(rec x.body).length+(rec x.els).length:=by
 unfold cn;have ha:4<=form x.op->form x.op<=8->(ak.uB x.a).length<=10:=λh1 h2=>ak.gT (r.a h1 h2).1 (by have:=(r.a h1 h2).2;omega);have hb:form x.op=8->(ak.uB x.b).length<=10:=λh=>ak.gT (r.b h).1 (by have:=(r.b h).2;omega);have hn:form x.op=9->(ak.sB x.n).length<=10:=λh=>ak.Ck (r.n h).1 (r.n h).2
 have hi:form x.op=5->(kv x.labels).length<=100000010:=λh=>by
  have h1:=ak.gT (n:=(x.labels.length:Int)) (by omega) (by have:=r.few;omega);have h2:=CY (f:=ak.uB) 10 x.labels λy hy=>ak.gT (r.labels h y hy).1 (by have:=(r.labels h y hy).2;omega);have h3:=r.few;unfold kv;rw [aB];omega
 rw [aB];simp only [bI,bP];split
 ·split<;>simp<;>omega
 split
 ·simp only [aB,bI,bP];have e1:(if x.a=0 then [64] else [x.a%256]:List Int).length=1:=by split<;>rfl
  have e2:(if 0<sz x.els then 5 :: ([]++rec x.els) else []:List Int).length<=1+(rec x.els).length:=by split<;>simp<;>omega
  have e3:(if 0<sz x.els then [5]++rec x.els else []:List Int).length<=1+(rec x.els).length:=by split<;>simp<;>omega
  omega
 split
 ·have:=ha (by omega) (by omega);omega
 split
 ·rw [aB];have:=ha (by omega) (by omega);have:=hi (by omega);omega
 split
 ·rw [aB];have:=ha (by omega) (by omega);simp only [bI,bP];omega
 split
 ·rw [aB];have:=ha (by omega) (by omega);have:=hb (by omega);omega
 split
 ·have:=hn (by omega);omega
 simp;omega
theorem Hl:∀(d:Nat) (l:IL d),Rg d l->(aQ d l).length<=tot d l*100000100
 | 0,_,_=>by show 0<=_;omega
 | d+1,l,hR=>by
  have key:∀(l:List (Ins (IL d))),(∀x ∈ l,dM (Rg d) x)->(iX (aQ d) (size d) l).length<=Bh (tot d) l*100000100:=by
   intro l
   induction l with
   | nil=>intro _;show 0<=_;omega
   | cons y r ih =>
    intro h;have h1:=ih λx hx=>h x (List.mem_cons_of_mem _ hx);have r:=h y (List.mem_cons_self ..);have h2:=MK (rec:=aQ d) (sz:=size d) r;have h3:=Hl d y.body r.body;have h4:=Hl d y.els r.els;show (cn (aQ d) (size d) y++iX (aQ d) (size d) _).length<=(1+tot d y.body+tot d y.els+Bh (tot d) _)*100000100;rw [aB];omega
  exact key (show List (Ins (IL d)) from l) hR
theorem YH {d:Nat} {m:Mod d} (h:mF m=0):nO m=true/\(∃c,fJ kG d m.funcs 0=some c)/\fJ vW d m.funcs ()=some ()/\uJ m=true/\fJ vI d m.funcs ()=some ():=by
 unfold mF at h;split at h
 ·rename_i h0;split at h
  ·cases h
  rename_i c hc;split at h
  ·cases h
  rename_i u1 h1;split at h
  ·cases h
  split at h
  ·rename_i h3;split at h
   ·cases h
   rename_i u2 h4;exact ⟨h0,⟨c,hc⟩,h1,h3,h4⟩
  cases h
 cases h
end Enc
end Go.Proofs.YtmfcojpjpgldhaaGreatDoor
namespace Go.Proofs.YtmfcojpjpgldhaaGreatDoor
open Go.RowKit aA Enc Go.Lib Go.Proofs.Tryz
set_option linter.unusedVariables false
namespace Enc
theorem Qw:∀(d:Nat) (l:IL d),size d l=0->NR d l
 | 0,_,_=>trivial
 | d+1,l,h=>by
  intro x hx
  have:(show List (Ins (IL d)) from l) = []:=mM.1 h
  rw [this] at hx;cases hx
theorem Cf {w:World}:∀(d e:Nat) (v:Value) (l:IL d) (k:IL e),At w d v l->At w e v k->NR e k->NR d l
 | 0,_,_,_,_,_,_,_=>trivial
 | d+1,0,v,l,k,hl,hk,_=>by
  obtain ⟨o,cap,rfl⟩:=hk;obtain ⟨o',cap',h⟩:=At.len (d+1) _ _ hl;injection h with _ h2 _;exact Qw (d+1) l h2.symm
 | d+1,e+1,v,l,k,hl,hk,hN=>by
  intro x hx;have hl':Row 7 (fA w (At w d)) v (show List (Ins (IL d)) from l):=hl;have hk':Row 7 (fA w (At w e)) v (show List (Ins (IL e)) from k):=hk;obtain ⟨i,hi,rfl⟩:=List.getElem_of_mem hx;obtain ⟨b,off,cap,hv,hc⟩:=Row.some hl' (by omega);obtain ⟨o2,cap2,hv2⟩:=Row.len hk';rw [hv] at hv2;injection hv2 with _ hlen _;obtain ⟨b',off',cap',hv',hc'⟩:=Row.some hk' (by omega);rw [hv] at hv';injection hv' with ha _ _;injection ha with ha;injection ha with hb ho _;subst hb ho;obtain ⟨y,hy⟩:∃y,(show List (Ins (IL e)) from k)[i]?=some y:=⟨_,aY (by omega)⟩;have hX:=hc i _ (aY hi);have hY:=hc' i y hy;obtain ⟨n1,n2,n3⟩:=hN y (dK hy);obtain ⟨v5,c5,a5⟩:=hX.body;obtain ⟨v6,c6,a6⟩:=hX.els;obtain ⟨u5,d5,b5⟩:=hY.body;obtain ⟨u6,d6,b6⟩:=hY.els;have e5:v5=u5:=by rw [c5] at d5;exact Option.some.inj d5
  have e6:v6=u6:=by rw [c6] at d6;exact Option.some.inj d6
  have en:((show List (Ins (IL d)) from l)[i]).n=y.n:=by
   have h1:=hX.n;rw [hY.n] at h1;injection h1 with h1;injection h1 with _ h1;exact h1.symm
  refine ⟨by rw [en];exact n1,?_,?_⟩
  ·exact Cf d e v5 _ y.body a5 (e5 ▸ b5) n2
  exact Cf d e v6 _ y.els a6 (e6 ▸ b6) n3
end Enc
section Of
variable {H:Type} {enc:TypeId × Value->H} {w:World} {base:Nat} {spare:Nat->Bool} {held:Bool}
theorem JZ {n d:Nat} {cs:List Value} {y:DataW H × List MemPlace} {b o:Nat} (hy:DataW.trod enc prog w base spare held n 49 cs=some y) (hc:∀j,j<7->w.cell? ⟨b,o+j,none⟩=cs[j]?)
  (ih:∀m v x,n=m+1->DataW.trod enc prog w base spare held m 43 [v]=some x->∃l:IL d,At w d v l/\NR d l):∃z:Ins (IL d),fA w (At w d) b o z/\r9 (NR d) z:=by
 obtain ⟨xs,m,rfl,_,_,hxl,hall⟩:=DataW.trod_struct underlying49 hy;obtain ⟨y0,g0⟩:=ij hxl hall 0 _ rfl;obtain ⟨y1,g1⟩:=ij hxl hall 1 _ rfl;obtain ⟨y2,g2⟩:=ij hxl hall 2 _ rfl;obtain ⟨y3,g3⟩:=ij hxl hall 3 _ rfl;obtain ⟨y4,g4⟩:=ij hxl hall 4 _ rfl;obtain ⟨y5,g5⟩:=ij hxl hall 5 _ rfl;obtain ⟨y6,g6⟩:=ij hxl hall 6 _ rfl;obtain ⟨z0,e0,_⟩:=uA underlying3 tN g0;obtain ⟨z1,e1,_⟩:=uA underlying3 tN g1;obtain ⟨z2,e2,_⟩:=uA underlying3 tN g2;obtain ⟨z3,e3,hw0⟩:=uA underlying3 tN g3;have hw:-9223372036854775808<=z3/\z3<=9223372036854775807:=by have:=bounds_i64 hw0;omega
 obtain ⟨v4,e4,t4⟩:=oO underlying28 Cg g4;obtain ⟨v5,e5,t5⟩:=oO underlying43 FQ g5;obtain ⟨v6,e6,t6⟩:=oO underlying43 FQ g6;obtain ⟨l4,h4⟩:=Ar t4;obtain ⟨l5,h5,r5⟩:=ih m v5 _ rfl t5;obtain ⟨l6,h6,r6⟩:=ih m v6 _ rfl t6;exact ⟨⟨z0,z1,z2,z3,l4,l5,l6⟩,⟨(hc 0 (by omega)).trans e0,(hc 1 (by omega)).trans e1,(hc 2 (by omega)).trans e2,(hc 3 (by omega)).trans e3,⟨v4,(hc 4 (by omega)).trans e4,h4⟩,⟨v5,(hc 5 (by omega)).trans e5,h5⟩,⟨v6,(hc 6 (by omega)).trans e6,h6⟩⟩,hw,r5,r6⟩
theorem J0 (fuel:Nat):∀(d:Nat) (v:Value) (x:DataW H × List MemPlace),fuel<=d->DataW.trod enc prog w base spare held fuel 43 [v]=some x->∃l:IL d,At w d v l/\NR d l:=by
 induction fuel using Nat.strongRecOn with
 | _ fuel ih =>
  intro d v x hd h;cases d with
  | zero =>
   obtain rfl:fuel=0:=by omega
   simp [DataW.trod] at h
  | succ d =>
   obtain ⟨⟨l,hl⟩,_⟩:=uC (α:=Ins (IL d)) 7 (by omega) (λb o z=>fA w (At w d) b o z/\r9 (NR d) z) underlying43 DZ h λn cs y b o hn hy _ hc =>
    JZ hy hc λm' v x hm hx=>ih m' (by omega) d v x (by omega) hx
   exact ⟨l,hl.imp λ_ _ _ _ h=>h.1,wQ hl⟩
end Of
end Go.Proofs.YtmfcojpjpgldhaaGreatDoor
