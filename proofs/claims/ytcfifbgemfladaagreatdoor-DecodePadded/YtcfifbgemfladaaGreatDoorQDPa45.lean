/- Texts that the claim needs. -/
import Derived.Test.YtcfifbgemfladaaGreatDoorQDPa44
import Derived.Test.YtcfifbgemfladaaGreatDoorQDPa40
import Derived.Test.YtcfifbgemfladaaGreatDoorQDPa39
import Derived.Test.YtcfifbgemfladaaGreatDoorQDPa8
namespace Go.Proofs.YtcfifbgemfladaaGreatDoor
open Go.RowKit au
namespace au
theorem Gw {α:Type} (f:α->Nat->Nat) (l:List (Ins α)):nZ f l 65537=65537:=by cases l<;>rfl
theorem Zh:∀(d:Nat) (l:IL d),cnt d l 65537=65537
 | 0,_=>rfl
 | d+1,l=>Gw (cnt d) l
theorem zq {p:Prop} [Decidable p] {α:Type} {a:α} {β:Type} (f:α->Option β):(if p then some a else none).bind f=if p then f a else none:=by split<;>rfl
theorem OJ {α:Type} (f:α->Nat->Nat) (hf:∀x,f x 65537=65537) (hb:∀x c,f x c<=max c 65537) (sub:α->Nat->Option Nat) (hs:∀y c,c<=65536->sub y c=if f y c<=65536 then some (f y c) else none)
  (st:Nat->Ins α->Option Nat) (hst:∀c x,st c x=if c+1<=65536 then some (c+1) else none) :
  ∀(l:List (Ins α)) (c:Nat),c<=65536->vK st sub l c=if nZ f l c<=65536 then some (nZ f l c) else none
 | [],c,hc=>by
  show some c=if c<=65536 then some c else none;rw [AE hc]
 | x :: r,c,hc=>by
  have e:nZ f (x :: r) c=nZ f r (f x.els (f x.body (c+1))):=AE hc;show (st c x).bind _=_;rw [hst,e,zq];by_cases h1:c+1<=65536
  ·rw [AE h1,hs _ _ h1,zq];by_cases h2:f x.body (c+1)<=65536
   ·rw [AE h2,hs _ _ h2,zq];by_cases h3:f x.els (f x.body (c+1))<=65536
    ·rw [AE h3];exact OJ f hf hb sub hs st hst r _ h3
    have h4:f x.els (f x.body (c+1))=65537:=by have:=hb x.els (f x.body (c+1));omega
    rw [AD h3,h4,Gw];rfl
   have h4:f x.body (c+1)=65537:=by have:=hb x.body (c+1);omega
   rw [AD h2,h4,hf,Gw];rfl
  have h4:c+1=65537:=by omega
  rw [AD h1,h4,hf,hf,Gw];rfl
theorem OL:∀(d:Nat) (l:IL d) (k c:Nat),c<=65536->lj og d l k c=if cnt d l c<=65536 then some (cnt d l c) else none
 | 0,_,_,c,hc=>by
  show some c=if c<=65536 then some c else none;rw [AE hc]
 | d+1,l,k,c,hc=>OJ (cnt d) (Zh d) (Ce d) _ (λy c hc=>OL d y (k+1) c hc) _ (λ_ _=>rfl) l c hc
theorem OM (d:Nat):∀(l:List (fF d)) (c:Nat),c<=65536->pU og d l c=if cntF d l c<=65536 then some (cntF d l c) else none
 | [],c,hc=>by
  show some c=if c<=65536 then some c else none;rw [AE hc]
 | x :: r,c,hc=>by
  have e:cntF d (x :: r) c=cntF d r (cnt d x.body c):=AE hc;show (lj og d x.body 0 c).bind _=_;rw [OL d _ _ _ hc,e,zq];by_cases h1:cnt d x.body c<=65536
  ·rw [AE h1];exact OM d r _ h1
  have h4:cnt d x.body c=65537:=by have:=Ce d x.body c;omega
  rw [AD h1,h4]
  have:cntF d r 65537=65537:=by cases r<;>rfl
  rw [this];rfl
def Cf {α:Type} (p:Ins α->Bool) (sub:α->Bool) (l:List (Ins α)):Bool:=l.all λx=>p x&&(sub x.body&&sub x.els)
def allI (p:Sn->Nat->Bool):(d:Nat)->IL d->Nat->Bool
 | 0,_,_=>true
 | d+1,l,k=>Cf (λx=>p (sn x) k) (λy=>allI p d y (k+1)) l
theorem wJ {α:Type} (p:Ins α->Bool) (sub:α->Bool) (st:Unit->Ins α->Option Unit) (hst:∀u x,st u x=if p x=true then some () else none) (su:α->Unit->Option Unit) (hsu:∀y u,su y u=if sub y=true then some () else none) :
  ∀(l:List (Ins α)) (u:Unit),vK st su l u=if Cf p sub l=true then some () else none
 | [],_=>rfl
 | x :: r,u=>by
  show (st u x).bind _=_;have e:Cf p sub (x :: r)=((p x&&(sub x.body&&sub x.els))&&Cf p sub r):=rfl;rw [hst,e,zq];cases p x
  ·rfl
  rw [AE rfl,hsu,zq];cases sub x.body
  ·rfl
  rw [AE rfl,hsu,zq];cases sub x.els
  ·rfl
  rw [AE rfl,wJ p sub st hst su hsu r];rfl
theorem OO (p:Sn->Nat->Bool) (st:Unit->Sn->Nat->Option Unit) (hst:∀u x k,st u x k=if p x k=true then some () else none):∀(d:Nat) (l:IL d) (k:Nat) (u:Unit),lj st d l k u=if allI p d l k=true then some () else none
 | 0,_,_,_=>rfl
 | d+1,l,k,u=>wJ (λx=>p (sn x) k) (λy=>allI p d y (k+1)) _ (λu x=>hst u (sn x) k) _ (λy u=>OO p st hst d y (k+1) u) l u
theorem vL (p:Sn->Nat->Bool) (st:Unit->Sn->Nat->Option Unit) (hst:∀u x k,st u x k=if p x k=true then some () else none) (d:Nat):∀(l:List (fF d)) (u:Unit),pU st d l u=if (l.all λf=>allI p d f.body 0)=true then some () else none
 | [],_=>rfl
 | x :: r,u=>by
  show (lj st d x.body 0 u).bind _=_;rw [OO p st hst,zq,List.all_cons];cases allI p d x.body 0
  ·rfl
  rw [AE rfl,vL p st hst d r];rfl
theorem JI:∀(d:Nat) (l:IL d) (k:Nat),allI (λx _=>nO x) d l k=mq d l
 | 0,_,_=>rfl
 | d+1,l,k=>by
  show Cf _ _ l=List.all (α:=Ins (IL d)) l _;unfold Cf;congr 1
  funext x
  show (nO (sn x)&&(allI (λx _=>nO x) d x.body (k+1)&&allI (λx _=>nO x) d x.els (k+1)))=_;rw [JI d x.body (k+1),JI d x.els (k+1)]
theorem DC {α:Type} {p q:α->Bool} (h:∀x,p x = !q x):∀l:List α,l.any p = !l.all q
 | []=>rfl
 | x :: r=>by rw [List.any_cons,List.all_cons,h x,DC h r,Bool.not_and]
theorem Zi (n:Nat):decide (4096<n) = !few (n:Int):=by
 unfold few;by_cases h:4096<n
 ·rw [ay h,aj (by omega)];rfl
 rw [aj h,ay (by omega)];rfl
theorem JJ:∀(d:Nat) (l:IL d) (k:Nat),lab d l = !allI (λx _=>few x.labels.length) d l k
 | 0,_,_=>rfl
 | d+1,l,k=>by
  refine DC (λx=>?_) l;show (decide (4096<x.labels.length) || lab d x.body || lab d x.els) = !(few x.labels.length&&(allI _ d x.body (k+1)&&allI _ d x.els (k+1)));rw [Zi,JJ d x.body (k+1),JJ d x.els (k+1),Bool.not_and,Bool.not_and,Bool.or_assoc]
theorem JK:∀(d:Nat) (l:IL d) (k:Nat),dp d l k = !allI (λ_ k=>decide (k<=64)) d l k
 | 0,_,_=>rfl
 | d+1,l,k=>by
  show ((decide (0<List.length (α:=Ins (IL d)) l)&&decide (64<k)) || List.any (α:=Ins (IL d)) l λx=>dp d x.body (k+1) || dp d x.els (k+1)) = !List.all (α:=Ins (IL d)) l _
  have hd:∀x:Ins (IL d),(dp d x.body (k+1) || dp d x.els (k+1)) = !(allI (λ_ k=>decide (k<=64)) d x.body (k+1)&&allI (λ_ k=>decide (k<=64)) d x.els (k+1)):=λx=>by
   rw [JK d x.body (k+1),JK d x.els (k+1),Bool.not_and]
  by_cases hk:k<=64
  ·rw [aj (by omega:¬ 64<k),Bool.and_false,Bool.false_or];refine DC (λx=>?_) l;show _ = !(decide (k<=64)&&_);rw [ay hk,jk];exact hd x
  rw [ay (by omega:64<k),Bool.and_true];cases l with
  | nil=>rfl
  | cons x r =>
   have e:List.all (α:=Ins (IL d)) (x :: r) (λx=>decide (k<=64)&&(allI (λ_ k=>decide (k<=64)) d x.body (k+1)&&allI (λ_ k=>decide (k<=64)) d x.els (k+1)))=false:=by
    rw [List.all_cons,aj hk,Bool.false_and,Bool.false_and]
   have e0:decide (0<List.length (α:=Ins (IL d)) (x :: r))=true:=by simp
   rw [e0,Bool.true_or];exact (congrArg (λb=>!b) e).symm
end au
end Go.Proofs.YtcfifbgemfladaaGreatDoor
namespace Go.Proofs.YtcfifbgemfladaaGreatDoor
open Go.RowKit au Go.Proofs.Tryz
set_option linter.unusedVariables false
set_option maxRecDepth 100000
set_option maxHeartbeats 4000000
namespace au
theorem abn (s:AH):uM s=nm s:=rfl
theorem abo {d:Nat} (m:Mod d):Cq m=(zC m&&m.funcs.all λf=>mq d f.body):=by
 rw [Bool.eq_iff_iff];unfold Cq zC;simp only [bH,dN,dT,dI,dF,dG,dE,dL,dD,dC,G9,D7,Bq,cu,D8,D9,ui,nO,sn,abn,List.mem_append,List.mem_singleton,forall_eq,decide_eq_true_iff,and_true];constructor
 ·rintro ⟨h1,h2,h3,h4,h5,h6,h7,h8,h9,h10⟩;refine ⟨⟨h1,λx hx=>?_,λx hx=>?_,λx hx=>?_,h4,λx hx=>?_,h10,h6,h7⟩,λx hx=>(h3 x hx).2.2⟩
  ·obtain ⟨a,b,c⟩:=h2 x hx;exact ⟨⟨b,c⟩,a⟩
  ·obtain ⟨a,b,c⟩:=h3 x hx;exact ⟨a,b⟩
  ·rcases hx with hx|hx
   ·exact h8 x hx
   exact h9 x hx
  obtain ⟨a,b,c⟩:=h5 x hx;exact ⟨a,b,c⟩
 rintro ⟨⟨h1,h2,h3,h4,h5,h6,h7,h8,h9⟩,h10⟩;refine ⟨h1,λx hx=>?_,λx hx=>?_,h5,λx hx=>?_,h8,h9,λx hx=>h4 x (.inl hx),λx hx=>h4 x (.inr hx),h7⟩
 ·obtain ⟨⟨a,b⟩,c⟩:=h2 x hx;exact ⟨c,a,b⟩
 ·obtain ⟨a,b⟩:=h3 x hx;exact ⟨a,b,h10 x hx⟩
 obtain ⟨a,b,c⟩:=h6 x hx;exact ⟨a,b,c⟩
def Ha {d:Nat} (m:Mod d):Int :=
 if qW m=false then 3 else if 65536<cntF d m.funcs 0 then 3 else if (m.funcs.any λf=>lab d f.body)=true then 3 else if (m.funcs.any λf=>dp d f.body 0)=true then 4 else if Cq m=false then 30 else 0
theorem abp {d:Nat} (m:Mod d):Ha m=ny m:=by
 unfold Ha ny
 rw [OM d m.funcs 0 (by omega),vL (λx _=>few x.labels.length) Br (λ_ _ _=>rfl),vL (λ_ k=>decide (k<=64)) Cr (λ_ _ k=>by unfold Cr;by_cases h:k<=64<;>simp [h]),vL (λx _=>nO x) sZ (λ_ _ _=>rfl),
  DC (λf:fF d=>JJ d f.body 0),DC (λf:fF d=>JK d f.body 0),abo]
 have e:(m.funcs.all λf=>allI (λx _=>nO x) d f.body 0)=m.funcs.all λf=>mq d f.body:=by
  congr 1
  funext f
  exact JI d f.body 0
 rw [e];cases qW m
 ·rfl
 simp only [Bool.true_eq_false,if_false,if_true];by_cases hc:65536<cntF d m.funcs 0
 ·have e2:(if cntF d m.funcs 0<=65536 then some (cntF d m.funcs 0) else none)=none:=AD (by omega);rw [AE hc,e2]
 have e2:(if cntF d m.funcs 0<=65536 then some (cntF d m.funcs 0) else none)=some (cntF d m.funcs 0):=AE (by omega);rw [AD hc,e2];cases (m.funcs.all λf=>allI (λx _=>few x.labels.length) d f.body 0)
 ·rfl
 cases (m.funcs.all λf=>allI (λ_ k=>decide (k<=64)) d f.body 0)
 ·rfl
 cases zC m
 ·rfl
 cases (m.funcs.all λf=>mq d f.body)
 ·rfl
 rfl
theorem Qb {α:Type} {p:α->Bool} {l:List α} {j:Nat} {x:α} {R:Bool} (hx:l[j]?=some x) (h:R=(l.drop j).any p):R=(p x || (l.drop (j+1)).any p):=by
 have hl:j<l.length:=(gq.1 hx).1;have he:l[j]=x:=(gq.1 hx).2;rw [h,nN hl,he];rfl
theorem Qc {α:Type} {p:α->Bool} {l:List α} {j:Nat} {R:Bool} (hj:l.length<=j) (h:R=(l.drop j).any p):R=false:=by
 rw [h,List.drop_of_length_le hj];rfl
end au
theorem abq (d:Nat) (v0 v1 v2 v3 v4 v5 v6 v7 v8 v9:Value) (m:Mod d) (w:AG) (hM:iG w d v0 v1 v2 v3 v4 v5 v6 v7 v8 v9 m) (hX:BO m) (hsz:∀x ∈ m.aA,x.bytes.size<=4611686018427387904) :
  Calls prog 17 #[.agg #[v0,v1,v2,v3,v4,v5,v6,v7,v8,v9]] w λe w'=>e=.returned (.int .i64 (ny m))/\Below w.heap.size w w':=by
 have l2:=hM.funcs.1;have HM:=aa hM;have Qd:=aa λ(w':AG) (h:Below w.heap.size w w')=>Zm d v0 v1 v2 v3 v4 v5 v6 v7 v8 v9 m w' (hM.on h) hsz;have Qe:=aa λ(w':AG) (h:Below w.heap.size w w')=>aaj d v0 v1 v2 v3 v4 v5 v6 v7 v8 v9 m.funcs w' (hM.on h).funcs hM.ten;have Qf:=aa λ(w':AG) (h:Below w.heap.size w w')=>abr d v0 v1 v2 v3 v4 v5 v6 v7 v8 v9 m w' (hM.on h) hX;have HS:=aa (jC.start w 32 v0 v1 v2 v3 v4 v5 v6 v7 v8 v9);obtain ⟨R,hR⟩:∃R,R=Ha m:=⟨_,rfl⟩;rw [<- abp,<- hR];unfold Ha at hR;have HR:=aa hR;obtain ⟨o2,c2,rfl⟩:=Row.len hM.funcs;obtain ⟨⟨o0,n0,c0,rfl⟩,⟨o1,n1,c1,rfl⟩,⟨o3,n3,c3,rfl⟩,⟨o4,n4,c4,rfl⟩,⟨o5,n5,c5,rfl⟩,⟨o6,n6,c6,rfl⟩,⟨o7,n7,c7,rfl⟩,⟨o8,n8,c8,rfl⟩,⟨o9,n9,c9,rfl⟩⟩:=hM.ten;clear hM hX hsz hR;generalize fV:m.funcs.length=n2 at *;generalize qW m=r1 at *;generalize cntF d m.funcs 0=r2 at *;generalize Cq m=r5 at *;obtain ⟨r3,hr3⟩:∃r3,r3=m.funcs.any λf=>lab d f.body:=⟨_,rfl⟩;obtain ⟨r4,hr4⟩:∃r4,r4=m.funcs.any λf=>dp d f.body 0:=⟨_,rfl⟩;rw [<- hr3,<- hr4] at HR;have HR3:Hid (r3=(m.funcs.drop 0).any λf=>lab d f.body):=hr3;have HR4:Hid (r4=(m.funcs.drop 0).any λf=>dp d f.body 0):=hr4;clear hr3 hr4;go_enter func17,ntmps17;go_upto_region 1 with fail;obtain ⟨wb,hwb⟩:∃wb,wb=w.alloc (.cells #[.slice o0 n0 c0,.slice o1 n1 c1,.slice o2 n2 c2,.slice o3 n3 c3,.slice o4 n4 c4,.slice o5 n5 c5,.slice o6 n6 c6,.slice o7 n7 c7,.slice o8 n8 c8,.slice o9 n9 c9] 32):=⟨_,rfl⟩;rw [<- hwb] at HS ⊢;clear hwb;obtain ⟨q0,q1,q2,q3,q4,q5,q6,q7,q8,q9,qb⟩:=HS.out;clear qb;go_wp2_with fail;refine (Qd.out _ HS.out.bQ).mono ?_;rintro e u1 ⟨rfl,hb⟩;have HS:=aa (HS.out.on hb);clear hb q0 q1 q2 q3 q4 q5 q6 q7 q8 q9 Qd;cases r1 with
 | false =>
  obtain rfl:R=3:=HR.out;clear HR;go_wp2;go_ret;exact ⟨rfl,HS.out.bQ⟩
 | true =>
 obtain ⟨q0,q1,q2,q3,q4,q5,q6,q7,q8,q9,qb⟩:=HS.out;clear qb;go_wp2_with fail;refine (Qe.out _ HS.out.bQ).mono ?_;rintro e u2 ⟨rfl,hb⟩;have HS:=aa (HS.out.on hb);clear hb q0 q1 q2 q3 q4 q5 q6 q7 q8 q9 Qe;obtain ⟨r2',hr2'⟩:∃r2':Nat,r2'=min r2 65537:=⟨_,rfl⟩;rw [<- hr2'];have hle:r2'<=65537:=by omega
 by_cases hc:65536<r2
 ·have hc':65536<r2':=by omega
  obtain rfl:R=3:=by rw [HR.out,AD (by simp),AE hc]
  clear HR;go_wp2;go_ret;exact ⟨rfl,HS.out.bQ⟩
 have hc':¬ 65536<r2':=by omega
 have Hb:Hid (R=if r3=true then 3 else if r4=true then 4 else if r5=false then 30 else 0):=aa (by rw [HR.out,AD (by simp),AD hc]);clear HR hr2';obtain ⟨q0,q1,q2,q3,q4,q5,q6,q7,q8,q9,qb⟩:=HS.out;clear qb q0 q1 q3 q4 q5 q6 q7 q8 q9;go_wp2_with fail;clear q2;go_loopw [3] (λi wr=>∃j:Nat,j<=n2/\i=.int .i64 j/\Hid (r3=(m.funcs.drop j).any λf=>lab d f.body)/\wr=u2) (λi _=>n2-(RowKit.intOf i).toNat)
 case atStart=>exact ⟨0,by omega,rfl,HR3,rfl⟩
 case round =>
  obtain ⟨j,hj,rfl,HK,rfl⟩:=hrel;obtain ⟨q0,q1,q2,q3,q4,q5,q6,q7,q8,q9,qb⟩:=HS.out;clear qb q0 q1 q3 q4 q5 q6 q7 q8 q9;by_cases hgo:j<n2
  ·obtain ⟨b,off,cap2,hv2,hx⟩:=Row.some ((HM.out.on HS.out.bQ).funcs) (by omega);injection hv2 with ho h2 h3;subst ho;obtain ⟨x,hxk⟩:∃x,m.funcs[j]?=some x:=⟨_,bG (by omega)⟩;have hI:=hx j x hxk;obtain ⟨vb,k2,ab⟩:=hI.body;obtain ⟨ob,cb,rfl⟩:=At.len d vb _ ab;have AB:=aa ab;have HN:=aa (Qb hxk HK.out);clear hx hxk h2 h3 HK hI ab;go_wp2_with fail;refine (O2 d _ x.body _ AB.out).mono ?_;rintro e u ⟨rfl,hu⟩;obtain rfl:wr=u:=hu.symm;generalize lab d x.body=t at *;cases t with
   | true =>
    obtain rfl:r3=true:=HN.out;obtain rfl:R=3:=Hb.out;clear Hb HN;go_wp2;go_ret;exact ⟨rfl,HS.out.bQ⟩
   | false =>
    have cH:Hid (r3=(m.funcs.drop (j+1)).any λf=>lab d f.body):=aa (by rw [HN.out,Bool.false_or]);clear HN;go_wp2;go_roundw
    case rel=>exact ⟨j+1,by omega,by go_num,cH,trivial⟩
    case measure=>simp [RowKit.intOf];omega
  obtain rfl:n2=j:=by omega
  obtain rfl:r3=false:=Qc (by omega) HK.out;have uT:Hid (R=if r4=true then 4 else if r5=false then 30 else 0):=Hb;clear Hb HK;go_wp2_with fail;clear q2;obtain ⟨u2,rfl⟩:∃u2,u2=wr:=⟨_,rfl⟩;go_loopw [4] (λi wr=>∃j:Nat,j<=n2/\i=.int .i64 j/\Hid (r4=(m.funcs.drop j).any λf=>dp d f.body 0)/\wr=u2) (λi _=>n2-(RowKit.intOf i).toNat)
  case atStart=>exact ⟨0,by omega,rfl,HR4,rfl⟩
  case round =>
   obtain ⟨j,hj,rfl,HK,rfl⟩:=hrel;by_cases hgo:j<n2
   ·obtain ⟨q0,q1,q2,q3,q4,q5,q6,q7,q8,q9,qb⟩:=HS.out;clear qb q0 q1 q3 q4 q5 q6 q7 q8 q9;obtain ⟨b,off,cap2,hv2,hx⟩:=Row.some ((HM.out.on HS.out.bQ).funcs) (by omega);injection hv2 with ho h2 h3;subst ho;obtain ⟨x,hxk⟩:∃x,m.funcs[j]?=some x:=⟨_,bG (by omega)⟩;have hI:=hx j x hxk;obtain ⟨vb,k2,ab⟩:=hI.body;obtain ⟨ob,cb,rfl⟩:=At.len d vb _ ab;have AB:=aa ab;have HN:=aa (Qb hxk HK.out);clear hx hxk h2 h3 HK hI ab;go_wp2_with fail;refine (O5 d _ x.body 0 _ AB.out (by omega)).mono ?_;rintro e u ⟨rfl,hu⟩;obtain rfl:wr=u:=hu.symm;generalize dp d x.body 0=t at *;cases t with
    | true =>
     obtain rfl:r4=true:=HN.out;obtain rfl:R=4:=uT.out;clear uT HN;go_wp2;go_ret;exact ⟨rfl,HS.out.bQ⟩
    | false =>
     have cH:Hid (r4=(m.funcs.drop (j+1)).any λf=>dp d f.body 0):=aa (by rw [HN.out,Bool.false_or]);clear HN;go_wp2;go_roundw
     case rel=>exact ⟨j+1,by omega,by go_num,cH,trivial⟩
     case measure=>simp [RowKit.intOf];omega
   obtain rfl:n2=j:=by omega
   obtain rfl:r4=false:=Qc (by omega) HK.out;have Hd:Hid (R=if r5=false then 30 else 0):=uT;clear uT HK;obtain ⟨q0,q1,q2,q3,q4,q5,q6,q7,q8,q9,qb⟩:=HS.out;clear qb;go_wp2_with fail;refine (Qf.out _ HS.out.bQ).mono ?_;rintro e u5 ⟨rfl,hb⟩;have HS:=aa (HS.out.on hb);clear hb q0 q1 q2 q3 q4 q5 q6 q7 q8 q9 Qf;cases r5 with
   | false =>
    obtain rfl:R=30:=Hd.out;clear Hd;go_wp2;go_ret;exact ⟨rfl,HS.out.bQ⟩
   | true =>
    obtain rfl:R=0:=Hd.out;clear Hd;go_wp2;go_ret;exact ⟨rfl,HS.out.bQ⟩
end Go.Proofs.YtcfifbgemfladaaGreatDoor
namespace Go.Proofs.YtcfifbgemfladaaGreatDoor
open Go.RowKit au Enc Go.Lib Go.Proofs.Tryz
set_option linter.unusedVariables false
set_option maxRecDepth 100000
set_option maxHeartbeats 8000000
namespace Enc
theorem acf (bs:List Int):∃S E,told bs=.tuple #[.string S,.int .i64 E]:=⟨_,_,Jq bs⟩
end Enc
theorem XT (d:Nat) (v0 v1 v2 v3 v4 v5 v6 v7 v8 v9:Value) (m:Mod d) (w:AG) (hM:iG w d v0 v1 v2 v3 v4 v5 v6 v7 v8 v9 m) (hX:BO m) (hsz:∀x ∈ m.aA,x.bytes.size<=4611686018427387904) (W:ny m=0->Wr m) :
  Calls prog 7 #[.agg #[v0,v1,v2,v3,v4,v5,v6,v7,v8,v9]] w λe w'=>e=.returned (BU m)/\Below w.heap.size w w':=by
 obtain ⟨o0,k0,rfl⟩:=Row.len hM.types;obtain ⟨o1,k1,rfl⟩:=Row.len hM.imports;obtain ⟨o2,k2,rfl⟩:=Row.len hM.funcs;obtain ⟨o3,k3,rfl⟩:=Row.len hM.tables;obtain ⟨o4,k4,rfl⟩:=Row.len hM.aF;obtain ⟨o5,k5,rfl⟩:=Row.len hM.globals;obtain ⟨o6,k6,rfl⟩:=Row.len hM.exports;obtain ⟨o7,k7,rfl⟩:=Row.len hM.start;obtain ⟨o8,k8,rfl⟩:=Row.len hM.elems;obtain ⟨o9,k9,rfl⟩:=Row.len hM.aA;obtain ⟨u1,hu1⟩:∃u1,u1=w.alloc (.cells #[.slice o0 m.types.length k0,.slice o1 m.imports.length k1,.slice o2 m.funcs.length k2,.slice o3 m.tables.length k3,.slice o4 m.aF.length k4,.slice o5 m.globals.length k5,.slice o6 m.exports.length k6,.slice o7 m.start.length k7,.slice o8 m.elems.length k8,.slice o9 m.aA.length k9] 32):=⟨_,rfl⟩;have hb:Below w.heap.size w u1:=by rw [hu1];exact aQ w _
 have bI:Hid (Bx u1 w.heap.size 32 #[.slice o0 m.types.length k0,.slice o1 m.imports.length k1,.slice o2 m.funcs.length k2,.slice o3 m.tables.length k3,.slice o4 m.aF.length k4,.slice o5 m.globals.length k5,.slice o6 m.exports.length k6,.slice o7 m.start.length k7,.slice o8 m.elems.length k8,.slice o9 m.aA.length k9]):=aa (by rw [hu1];exact Bx.new rfl);have HC:=aa (abq d _ _ _ _ _ _ _ _ _ _ m u1 (hM.on hb) hX hsz);have HM:=aa hM;have HB:=aa hb;have HW:=aa W;have HU:=aa hu1;unfold BU;clear hM hX hsz W hb hu1;generalize m.types.length=n0 at *;generalize m.imports.length=n1 at *;generalize m.funcs.length=n2 at *;generalize m.tables.length=n3 at *;generalize m.aF.length=n4 at *;generalize m.globals.length=n5 at *;generalize m.exports.length=n6 at *;generalize m.start.length=n7 at *;generalize m.elems.length=n8 at *;generalize m.aA.length=n9 at *;obtain ⟨q0,q1,q2,q3,q4,q5,q6,q7,q8,q9⟩:=bI.out.nW;by_cases h0:ny m=0
 ·rw [AE h0];have Qr:=aa (HW.out h0);rw [h0] at HC;clear HW;obtain ⟨id,hid⟩:∃id,mR m=id:=⟨_,rfl⟩;rw [hid];have Qs:Hid (Bp++fA (sb m) 11=id):=aa (by rw [<- hid,abg]);clear hid;obtain ⟨S,E,AX⟩:=acf id;rw [AX];have xY:=aa AX;clear AX;go_enter func7,ntmps7;go_upto_region 1 with fail;rw [<- HU.out];clear HU;go_wp2_with fail;refine HC.out.mono ?_;rintro e w1 ⟨rfl,hb1⟩;have hb2:=HB.out.trans (hb1.mono HB.out.size);have gQ:Hid (PS w w1.heap.size false (.slice none 0 0) [] (w1.alloc (.cells #[.slice none 0 0,.bool false] 70))):=aa ((PS.new w1).mono hb2)
  have Qt:Hid (Bx (w1.alloc (.cells #[.slice none 0 0,.bool false] 70)) w.heap.size 32 #[.slice o0 n0 k0,.slice o1 n1 k1,.slice o2 n2 k2,.slice o3 n3 k3,.slice o4 n4 k4,.slice o5 n5 k5,.slice o6 n6 k6,.slice o7 n7 k7,.slice o8 n8 k8,.slice o9 n9 k9]):=aa (by
   unfold Bx;rw [(aQ w1 _).block _ (jg bI.out.lt hb1.size),hb1.block _ bI.out.lt];exact bI.out)
  have bE:Hid (w.heap.size≠w1.heap.size):=aa (by have:=hb1.size;have:=bI.out.lt;omega);clear hb1 hb2 HC HB bI q0 q1 q2 q3 q4 q5 q6 q7 q8 q9;have HC:=aa (Ck w w1.heap.size false _ [] [] ⟨#[0,97,115,109,1,0,0,0]⟩ _ gQ.out St.nil (by decide));rw [fN,show nums ⟨#[0,97,115,109,1,0,0,0]⟩=Bp from rfl] at HC;go_wp2_with fail;refine HC.out.mono ?_;rintro e w2 ⟨bX,v2,b2,rfl,h2,s2,k2⟩;have Qu:=(k2.bx Qt.out bE.out (by simp [Value.ownBlock])).1;obtain ⟨q0,q1,q2,q3,q4,q5,q6,q7,q8,q9⟩:=Qu.nW;have bg:=aa (Wy w w1.heap.size bX v2 b2 Bp d _ _ _ _ _ _ _ _ _ _ m w2 h2 s2 HM.out Qr.out);rw [Qs.out] at bg;clear Qu h2 s2 k2 HC gQ Qt bE Qs HM Qr;go_wp2_with fail;refine bg.out.mono ?_;rintro e w3 ⟨aV,v3,b3,rfl,h3,s3,k3⟩;have ko:=h3.uo;have kc:=h3.cell;have hcv:=PM h3.own;obtain ⟨o3,c3,rfl⟩:=h3.slice;have lS:=aa h3.below;have hf3:=h3.few;clear bg k3 h3 q0 q1 q2 q3 q4 q5 q6 q7 q8 q9;rcases s3 with ⟨rfl,hb3⟩|⟨rfl,hl⟩
  ·rw [<- hb3] at xY;clear hb3;by_cases hbig:262144<b3.length
   ·have HT:Hid (told b3=.tuple #[.string ⟨#[]⟩,.int .i64 2]):=aa (by unfold told;rw [AE hbig]);generalize hbl:b3.length=bl at *;have hd2:(262144:Int)<(bl:Int):=by omega
    clear hcv hbl hf3;go_wp2;go_ret2;exact ⟨congrArg Ending.returned (HT.out.symm.trans xY.out),lS.out⟩
   have HT:Hid (told b3=.tuple #[.string (strOfNums b3),.int .i64 0]):=aa (by unfold told;rw [AD hbig]);generalize strOfNums b3=S0 at *;generalize hbl:b3.length=bl at *;have hd2:¬ (262144:Int)<(bl:Int):=by omega
   clear hbl hf3 hbig;go_wp2;go_ret2;exact ⟨congrArg Ending.returned (HT.out.symm.trans xY.out),lS.out⟩
  have HT:Hid (told id=.tuple #[.string ⟨#[]⟩,.int .i64 2]):=aa (by unfold told;rw [AE (by omega)]);generalize b3.length=bl at *;clear hcv hl hf3;go_wp2;go_ret2;exact ⟨congrArg Ending.returned (HT.out.symm.trans xY.out),lS.out⟩
 rw [AD h0];clear HW HM;generalize ny m=r at *;go_enter func7,ntmps7;go_upto_region 1 with fail;rw [<- HU.out];clear HU;go_wp2_with fail;refine HC.out.mono ?_;rintro e w1 ⟨rfl,hb1⟩;have HB1:=aa (HB.out.trans (hb1.mono HB.out.size));clear hb1 HB HC bI q0 q1 q2 q3 q4 q5 q6 q7 q8 q9;go_wp2;go_ret2;exact ⟨rfl,HB1.out⟩
end Go.Proofs.YtcfifbgemfladaaGreatDoor
