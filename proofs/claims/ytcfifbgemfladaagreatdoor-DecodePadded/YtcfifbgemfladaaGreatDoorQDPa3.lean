/- Texts that the claim needs. -/
import Derived.Test.YtcfifbgemfladaaGreatDoorQDPa2
import Derived.Deep.RegionWith
import Derived.Deep.Cut
import Derived.Test.YtcfifbgemfladaaGreatDoorQDPa1
import Derived.Lib.AppendStr
import Derived.Orders
namespace Go.Proofs.YtcfifbgemfladaaGreatDoor
open Go.RowKit au Go.Proofs.Tryz
set_option linter.unusedVariables false
set_option maxHeartbeats 2000000
theorem bU {p:Prop} (h:p):Hid p:=h
namespace au
def CJ:(d:Nat)->IL d
 | 0=>()
 | d+1=>([]:List (Ins (IL d)))
theorem TH (w:AG) (o:Option Addr) (cap:Nat):∀d,At w d (.slice o 0 cap) (CJ d)
 | 0=>⟨o,cap,rfl⟩
 | _+1=>⟨by simp [CJ],.inl ⟨rfl,o,cap,rfl⟩⟩
def Fz {α:Type} (p:α->Prop) (l:List (Ins α)):Prop:=l.length<=1500/\∀x ∈ l,x.labels.length<=15010/\p x.body/\p x.els
def Lb:(d:Nat)->IL d->Prop
 | 0,_=>True
 | d+1,l=>Fz (Lb d) l
theorem TI:∀d,Lb d (CJ d)
 | 0=>trivial
 | _+1=>⟨by simp [CJ],λx hx=>by cases hx⟩
def Fit (w:AG) (k bk o:Nat):Prop:=∃z:Ins (IL k),fM w (At w k) bk o z/\z.labels.length<=15010/\Lb k z.body/\Lb k z.els
def uh (w:AG) (k:Nat) (v:Value):Prop:=∃l:IL k,At w k v l/\Lb k l
theorem CK (w:AG) (k:Nat) (o:Option Addr) (cap:Nat):uh w k (.slice o 0 cap):=⟨CJ k,TH w o cap k,TI k⟩
theorem LZ (w:AG) (k b off n cap:Nat) (hn:n<=1500) (h:∀t,t<n->Fit w k b (off+t*7)):uh w (k+1) (.slice (some ⟨b,off,none⟩) n cap):=by
 obtain ⟨l,hl,hf⟩:=Hy n (λt (z:Ins (IL k))=>fM w (At w k) b (off+t*7) z/\z.labels.length<=15010/\Lb k z.body/\Lb k z.els) h
 have hL:Fz (Lb k) l:=⟨by omega,λx hx=>by
  obtain ⟨i,hi,rfl⟩:=List.getElem_of_mem hx;exact (hf i _ (bG hi)).2⟩
 exact ⟨l,⟨by omega,.inr ⟨b,off,cap,by rw [hl],λi x hi=>(hf i x hi).1⟩⟩,hL⟩
theorem Hz {w:AG} {k b o:Nat} {op a bb n:Int} {v4 v5 v6:Value} {ls:List Int} (c0:w.cell? ⟨b,o,none⟩=some (.int .i64 op)) (c1:w.cell? ⟨b,o+1,none⟩=some (.int .i64 a)) (c2:w.cell? ⟨b,o+2,none⟩=some (.int .i64 bb)) (c3:w.cell? ⟨b,o+3,none⟩=some (.int .i64 n))
  (c4:w.cell? ⟨b,o+4,none⟩=some v4) (i4:Ints w v4 ls) (hl:ls.length<=15010) (c5:w.cell? ⟨b,o+5,none⟩=some v5) (c6:w.cell? ⟨b,o+6,none⟩=some v6) (h5:uh w k v5) (h6:uh w k v6):Fit w k b o:=by
 obtain ⟨l5,a5,b5⟩:=h5;obtain ⟨l6,a6,b6⟩:=h6;exact ⟨⟨op,a,bb,n,ls,l5,l6⟩,⟨c0,c1,c2,c3,⟨v4,c4,i4⟩,⟨v5,c5,a5⟩,⟨v6,c6,a6⟩⟩,hl,b5,b6⟩
theorem At.xD {w:AG}:∀(d:Nat) (v:Value) (l:IL d),At w d v l->∃o n cap,v=.slice o n cap/\n=size d l:=λd v l h=>by
 obtain ⟨o,cap,rfl⟩:=At.len d v l h;exact ⟨o,_,cap,rfl,rfl⟩
def jG {α:Type} (sz:α->Nat) (f:α->Int->Int) (x:Ins α) (c:Int):Int :=
 if 1500<c+(1+(x.labels.length:Int) / 10) then -1
 else
  let r1:=if sz x.body=0 then c+(1+(x.labels.length:Int) / 10) else f x.body (c+(1+(x.labels.length:Int) / 10))
  if r1<0 then r1 else if sz x.els=0 then r1 else f x.els r1
def fZ {α:Type} (sz:α->Nat) (f:α->Int->Int):List (Ins α)->Int->Int
 | [],c=>c
 | x :: r,c=>if c<0 then c else fZ sz f r (jG sz f x c)
def fH:(d:Nat)->IL d->Nat->Int->Int
 | 0,_,deep,n=>if n<0\/80<deep then -1 else n
 | d+1,l,deep,n=>if n<0\/80<deep then -1 else fZ (size d) (λy c=>fH d y (deep+1) c) l n
theorem zU {α:Type} {sz:α->Nat} {f:α->Int->Int} (l:List (Ins α)) {c:Int} (h:c<0):fZ sz f l c=c:=by
 cases l with
 | nil=>rfl
 | cons x r=>show (if c<0 then c else _)=c;rw [AE h]
def Good {α:Type} (f:α->Int->Int):Prop:=∀y c,-1<=c->-1<=f y c/\(f y c<=c\/f y c<=1500)/\(0<=f y c->c<=f y c)
theorem H9 {α:Type} {sz:α->Nat} {f:α->Int->Int} (hf:Good f) (x:Ins α) (c:Int) (h:0<=c):-1<=jG sz f x c/\jG sz f x c<=1500/\(0<=jG sz f x c->c+1<=jG sz f x c):=by
 unfold jG;obtain ⟨c2,hc2⟩:∃c2,c2=c+(1+(x.labels.length:Int) / 10):=⟨_,rfl⟩;rw [<- hc2];have h2:c+1<=c2:=by omega
 by_cases h3:1500<c2
 ·simp [h3]
 simp only [h3,if_false];obtain ⟨r1,hr1⟩:∃r1,r1=if sz x.body=0 then c2 else f x.body c2:=⟨_,rfl⟩;rw [<- hr1]
 have g1:-1<=r1/\r1<=1500/\(0<=r1->c2<=r1):=by
  rw [hr1];split
  ·omega
  have:=hf x.body c2 (by omega);omega
 clear hr1;by_cases h4:r1<0
 ·simp only [h4,if_true];omega
 simp only [h4,if_false];split
 ·omega
 have:=hf x.els r1 (by omega);omega
theorem L6 {α:Type} {sz:α->Nat} {f:α->Int->Int} (hf:Good f):∀(l:List (Ins α)) (c:Int),-1<=c->-1<=fZ sz f l c/\(fZ sz f l c<=c\/fZ sz f l c<=1500)/\(0<=fZ sz f l c->c<=fZ sz f l c)
 | [],c,h=>by show -1<=c/\(c<=c\/c<=1500)/\(0<=c->c<=c);omega
 | x :: r,c,h=>by
  by_cases hc:c<0
  ·rw [zU _ hc];omega
  show -1<=(if c<0 then c else fZ sz f r (jG sz f x c))/\((if c<0 then c else fZ sz f r (jG sz f x c))<=c\/(if c<0 then c else fZ sz f r (jG sz f x c))<=1500)/\(0<=(if c<0 then c else fZ sz f r (jG sz f x c))->c<=(if c<0 then c else fZ sz f r (jG sz f x c)));rw [AD hc];have h1:=H9 (sz:=sz) hf x c (by omega);have h2:=L6 (sz:=sz) hf r (jG sz f x c) h1.1;generalize jG sz f x c=s at *;by_cases hs:s<0
  ·rw [zU _ hs] at *;omega
  omega
theorem zV:∀(d deep:Nat),Good (λ(y:IL d) c=>fH d y deep c)
 | 0,deep=>λy c h=>by
  show -1<=(if c<0\/80<deep then -1 else c)/\((if c<0\/80<deep then -1 else c)<=c\/(if c<0\/80<deep then -1 else c)<=1500)/\(0<=(if c<0\/80<deep then -1 else c)->c<=(if c<0\/80<deep then -1 else c));split<;>omega
 | d+1,deep=>λy c h=>by
  have h2:=L6 (sz:=size d) (zV d (deep+1)) y c h;show -1<=(if c<0\/80<deep then -1 else fZ (size d) (λy c=>fH d y (deep+1) c) y c)/\((if c<0\/80<deep then -1 else fZ (size d) (λy c=>fH d y (deep+1) c) y c)<=c\/(if c<0\/80<deep then -1 else fZ (size d) (λy c=>fH d y (deep+1) c) y c)<=1500)/\(0<=(if c<0\/80<deep then -1 else fZ (size d) (λy c=>fH d y (deep+1) c) y c)->c<=(if c<0\/80<deep then -1 else fZ (size d) (λy c=>fH d y (deep+1) c) y c));split
  ·omega
  exact h2
theorem L8 {α:Type} {sz:α->Nat} {f:α->Int->Int} (hf:Good f):∀(l:List (Ins α)) (c:Int),-1<=c->0<=fZ sz f l c ->
  (l = []\/(l.length:Int)+c<=1500)/\∀x ∈ l,x.labels.length<=15010/\(sz x.body=0\/∃c',0<=c'/\0<=f x.body c')/\(sz x.els=0\/∃c',0<=c'/\0<=f x.els c')
 | [],c,_,_=>⟨.inl rfl,λx hx=>by cases hx⟩
 | x :: r,c,h0,h=>by
  by_cases hc:c<0
  ·rw [zU _ hc] at h;omega
  have e:fZ sz f (x :: r) c=fZ sz f r (jG sz f x c):=by show (if c<0 then c else _)=_;rw [AD hc]
  rw [e] at h;have h1:=H9 (sz:=sz) hf x c (by omega)
  have hs:0<=jG sz f x c:=by
   by_cases hs:jG sz f x c<0
   ·rw [zU _ hs] at h;exact h
   omega
  have h2:=L8 hf r (jG sz f x c) h1.1 h;refine ⟨.inr ?_,λy hy=>?_⟩
  ·rcases h2.1 with rfl|h3
   ·simp only [ik,mQ];omega
   simp only [ik];omega
  rcases lI.1 hy with rfl|hy
  ·unfold jG at hs;obtain ⟨c2,hc2⟩:∃c2,c2=c+(1+(y.labels.length:Int) / 10):=⟨_,rfl⟩;rw [<- hc2] at hs;by_cases h3:1500<c2
   ·simp [h3] at hs
   simp only [h3,if_false] at hs;refine ⟨by omega,?_,?_⟩
   ·by_cases hb:sz y.body=0
    ·exact .inl hb
    refine .inr ⟨c2,by omega,?_⟩;simp only [hb,if_false] at hs;by_cases h4:f y.body c2<0
    ·simp only [h4,if_true] at hs;exact hs
    omega
   by_cases hb:sz y.els=0
   ·exact .inl hb
   obtain ⟨r1,hr1⟩:∃r1,r1=if sz y.body=0 then c2 else f y.body c2:=⟨_,rfl⟩;rw [<- hr1] at hs;by_cases h4:r1<0
   ·simp only [h4,if_true] at hs;omega
   simp only [h4,hb,if_false] at hs;exact .inr ⟨r1,by omega,hs⟩
  exact h2.2 y hy
theorem CL {w:AG}:∀(d:Nat) (v:Value) (l:IL d) (deep:Nat) (n:Int),At w d v l->-1<=n->0<=fH d l deep n->uh w (81-deep) v
 | 0,v,l,deep,n,⟨o,cap,hv⟩,_,_=>by subst hv;exact CK w _ o cap
 | d+1,v,l,deep,n,hAt,hn,h=>by
  by_cases hneg:n<0\/80<deep
  ·have:fH (d+1) l deep n=-1:=by show (if n<0\/80<deep then -1 else _)=_;rw [AE hneg]
   omega
  have e:fH (d+1) l deep n=fZ (size d) (λy c=>fH d y (deep+1) c) l n:=by show (if n<0\/80<deep then -1 else _)=_;rw [AD hneg]
  rw [e] at h;obtain ⟨h1,h2⟩:=L8 (zV d (deep+1)) l n hn h;have hR:Row 7 (fM w (At w d)) v l:=hAt;rcases hR with ⟨hl,⟨hnil,o,cap,rfl⟩|⟨b,off,cap,rfl,hx⟩⟩
  ·exact CK w _ o cap
  rw [show 81-deep=(80-deep)+1 by omega];refine LZ w (80-deep) b off _ cap ?_ λt ht=>?_
  ·rcases h1 with rfl|h1
   ·show 0<=1500;omega
   have:(List.length l:Int)+n<=1500:=h1
   omega
  obtain ⟨x,hxt⟩:∃x,getElem? (coll:=List (Ins (IL d))) l t=some x:=⟨_,bG ht⟩;have hI:=hx t x hxt;obtain ⟨g1,g2,g3⟩:=h2 x (iF hxt);obtain ⟨v4,q4,i4⟩:=hI.labels;obtain ⟨v5,q5,a5⟩:=hI.body;obtain ⟨v6,q6,a6⟩:=hI.els
  have key:∀(v:Value) (y:IL d),At w d v y->(size d y=0\/∃c',0<=c'/\0<=fH d y (deep+1) c')->uh w (80-deep) v:=λv y hA hy=>by
   rcases hy with hy|⟨c',k1,k2⟩
   ·obtain ⟨o,cap,rfl⟩:=At.len d v y hA;rw [hy];exact CK w _ o cap
   have:=CL d v y (deep+1) c' hA (by omega) k2
   rwa [show 81-(deep+1)=80-deep by omega] at this
  exact Hz hI.op hI.a hI.b hI.n q4 i4 g1 q5 q6 (key _ _ a5 g2) (key _ _ a6 g3)
theorem TJ {α:Type} {sz:α->Nat} {f:α->Int->Int} {l:List (Ins α)} {k:Nat} {c r:Int} {x:Ins α} (hx:l[k]?=some x) (hc:0<=c) (h:r=fZ sz f (l.drop k) c):r=fZ sz f (l.drop (k+1)) (jG sz f x c):=by
 have hl:k<l.length:=(gq.1 hx).1;have he:l[k]=x:=(gq.1 hx).2;rw [h,nN hl,he];show (if c<0 then c else _)=_;rw [AD (by omega)]
end au
def L9 (d:Nat):Prop:=∀(v:Value) (l:IL d) (deep:Nat) (n:Int) (w:AG),At w d v l->deep<=81->-1<=n->n<=2305843009213693952 ->
  Calls prog 16 #[v,.int .i64 deep,.int .i64 n] w λe w'=>e=.returned (.int .i64 (fH d l deep n))/\w'=w
theorem Ma (v:Value) (o:Option Addr) (m cap:Nat) (hv:v=.slice o m cap) (deep:Nat) (n:Int) (w:AG) (hd:deep<=81) (h:n<0\/80<deep) (h1:-1<=n) :
  Calls prog 16 #[v,.int .i64 deep,.int .i64 n] w λe w'=>e=.returned (.int .i64 (-1))/\w'=w:=by
 subst hv;by_cases hn:n<0
 ·go_enter func16,ntmps16;go_wp2;go_ret;exact ⟨rfl,rfl⟩
 have hd:80<deep:=by omega
 go_enter func16,ntmps16;go_wp2;go_ret;exact ⟨rfl,rfl⟩
theorem Mb (o:Option Addr) (cap deep:Nat) (n:Int) (w:AG) (hd:deep<=80) (hn:0<=n) (fV:n<=2305843009213693952) :
  Calls prog 16 #[.slice o 0 cap,.int .i64 deep,.int .i64 n] w λe w'=>e=.returned (.int .i64 n)/\w'=w:=by
 go_enter func16,ntmps16;go_wp2_with fail;go_loopw [2,7] (λu i wr=>u=.int .i64 n/\i=.int .i64 0/\wr=w) (λ_ _ _=>0)
 case atStart=>exact ⟨rfl,rfl,rfl⟩
 case round =>
  obtain ⟨rfl,rfl,rfl⟩:=hrel;go_wp2;go_ret;exact ⟨rfl,rfl⟩
theorem TK (d:Nat) (IH:L9 d) (v:Value) (l:List (Ins (IL d))) (deep:Nat) (n:Int) (w:AG) (hAt:Row 7 (fM w (At w d)) v l) (hd:deep<=81) (ju:-1<=n) (fV:n<=2305843009213693952) :
  Calls prog 16 #[v,.int .i64 deep,.int .i64 n] w λe w'=>e=.returned (.int .i64 (if n<0\/80<deep then -1 else fZ (size d) (λy c=>fH d y (deep+1) c) l n))/\w'=w:=by
 have hlen:=hAt.1;by_cases hneg:n<0\/80<deep
 ·obtain ⟨o,cap,hv⟩:=hAt.len;rw [AE hneg];exact Ma v o _ cap hv deep n w hd hneg ju
 rw [AD hneg];by_cases hz:l.length=0
 ·obtain ⟨o,cap,rfl⟩:=hAt.len;rw [hz];obtain rfl:l = []:=iZ.1 hz;exact Mb o cap deep n w (by omega) (by omega) fV
 obtain ⟨b,off,cap,rfl,hx⟩:=hAt.some (by omega);have HX:=bU hx;clear hx hAt;obtain ⟨R,hR⟩:∃R,R=fZ (size d) (λy c=>fH d y (deep+1) c) l n:=⟨_,rfl⟩;rw [<- hR];have HR:Hid (R=fZ (size d) (λy c=>fH d y (deep+1) c) (l.drop 0) n):=hR;clear hR;have HG:=bU (zV d (deep+1));generalize xE:l.length=m at *;have afg:deep<=80:=by omega
 have hn0:0<=n:=by omega
 clear hneg ju;go_enter func16,ntmps16;go_wp2_with fail;go_loopw [2,7] (λu i wr=>∃(j:Nat) (c:Int),j<=m/\i=.int .i64 j/\u=.int .i64 c/\-1<=c/\(c<=n\/c<=1500)/\Hid (R=fZ (size d) (λy c=>fH d y (deep+1) c) (l.drop j) c)/\wr=w) (λ_ i _=>m-(RowKit.intOf i).toNat)
 case atStart=>exact ⟨0,n,by omega,rfl,rfl,by omega,by omega,HR,rfl⟩
 case round =>
  obtain ⟨j,c,hj,rfl,rfl,hc1,hc2,HK,rfl⟩:=hrel;by_cases hgo:j<m
  ·by_cases hc0:0<=c
   ·obtain ⟨x,hxk⟩:∃x,l[j]?=some x:=⟨_,bG (by omega)⟩;have hI:=HX.out j x hxk;obtain ⟨v4,q4,i4⟩:=hI.labels;obtain ⟨vb,q5,a5⟩:=hI.body;obtain ⟨ve,q6,a6⟩:=hI.els;have TL:=i4.1
    obtain ⟨o4,n4,c4,rfl,jQ⟩:∃o4 n4 c4,v4=.slice o4 n4 c4/\n4=x.labels.length:=by
     obtain ⟨o4,c4,h⟩:=Row.len i4;exact ⟨o4,_,c4,h,rfl⟩
    obtain ⟨ob,nb,cb,rfl,hnb⟩:=At.xD _ _ _ a5;obtain ⟨oe,ne,ce,rfl,hne⟩:=At.xD _ _ _ a6;have hbb:=At.bound _ _ _ a5;have hbe:=At.bound _ _ _ a6;rw [<- jQ] at TL;rw [<- hnb] at hbb;rw [<- hne] at hbe;have HN:=bU (TJ hxk hc0 HK.out);have hG:=H9 (sz:=size d) HG.out x c hc0;have HS:Hid (∃s,s=jG (size d) (λy c=>fH d y (deep+1) c) x c):=bU ⟨_,rfl⟩;have IB:=bU (λ(c:Int) (h1:-1<=c) (h2:c<=2305843009213693952)=>IH _ x.body (deep+1) c wr a5 (by omega) h1 h2);have IE:=bU (λ(c:Int) (h1:-1<=c) (h2:c<=2305843009213693952)=>IH _ x.els (deep+1) c wr a6 (by omega) h1 h2);rw [show ((deep+1:Nat):Int)=(deep:Int)+1 by omega] at IB IE;obtain ⟨s,hs⟩:=HS.out;rw [<- hs] at hG HN;unfold jG at hs;rw [<- jQ,<- hnb,<- hne] at hs;obtain ⟨fb,zW⟩:∃fb:Int->Int,∀c,fH d x.body (deep+1) c=fb c:=⟨_,λ_=>rfl⟩;obtain ⟨fe,hfe⟩:∃fe:Int->Int,∀c,fH d x.els (deep+1) c=fe c:=⟨_,λ_=>rfl⟩;have G1:∀c,-1<=c->-1<=fb c/\(fb c<=c\/fb c<=1500)/\(0<=fb c->c<=fb c):=λc h=>by rw [<- zW];exact HG.out x.body c h
    have G2:∀c,-1<=c->-1<=fe c/\(fe c<=c\/fe c<=1500)/\(0<=fe c->c<=fe c):=λc h=>by rw [<- hfe];exact HG.out x.els c h
    simp only [zW,hfe] at IB IE hs;clear zW hfe;have yV:=bU hs;clear hI hxk i4 a5 a6 hnb hne jQ HK hs HS;go_upto_region 7 with fail;obtain ⟨c2,Ia⟩:∃c2:Int,c2=c+(1+(n4:Int) / 10):=⟨_,rfl⟩;have bg:=bU Ia;rw [<- Ia];have hb1:c+1<=c2:=by omega
    have hb3:c2<=4611686018427387904:=by omega
    clear Ia;rw [<- bg.out] at yV;by_cases Mc:1500<c2
    ·have HF:R=-1:=by rw [HN.out,yV.out,AE Mc,zU _ (by omega)]
     subst HF;clear HN yV;go_wp2;go_ret;exact ⟨rfl,rfl⟩
    rw [AD Mc] at yV;by_cases hb0:nb=0
    ·obtain ⟨r1,hr1⟩:∃r1,r1=c2:=⟨_,rfl⟩;have BH:Hid (s=if r1<0 then r1 else if ne=0 then r1 else fe r1):=bU (by rw [yV.out,hr1];simp [hb0]);rw [<- hr1];subst hb0;have hm1:0<=r1/\r1<=1500:=by omega
     clear hr1 yV hG;have hr:¬ r1<0:=by omega
     by_cases he0:ne=0
     ·have cH:Hid (R=fZ (size d) (λy c=>fH d y (deep+1) c) (l.drop (j+1)) r1):=bU (by rw [HN.out,BH.out];simp [hr,he0]);subst he0;go_wp2;go_roundw
      case rel=>exact ⟨j+1,r1,by omega,by go_num,rfl,by omega,by omega,cH,trivial⟩
      case measure=>simp [RowKit.intOf];omega
     have cH:Hid (R=fZ (size d) (λy c=>fH d y (deep+1) c) (l.drop (j+1)) (fe r1)):=bU (by rw [HN.out,BH.out];simp [hr,he0]);have g2:=G2 r1 (by omega);go_wp2_with fail;refine (IE.out r1 (by omega) (by omega)).mono ?_;rintro e u ⟨rfl,hu⟩;obtain rfl:wr=u:=hu.symm;generalize fe r1=r2 at *;go_wp2;go_roundw
     case rel=>exact ⟨j+1,r2,by omega,by go_num,rfl,by omega,by omega,cH,trivial⟩
     case measure=>simp [RowKit.intOf];omega
    have BH:Hid (s=if fb c2<0 then fb c2 else if ne=0 then fb c2 else fe (fb c2)):=bU (by rw [yV.out];simp [hb0]);have g1:=G1 c2 (by omega);clear yV hG;go_upto_region 11 with (first|(go_at_call 16;refine (IB.out c2 (by omega) (by omega)).mono ?_;rintro e u ⟨rfl,hu⟩;obtain rfl:wr=u:=hu.symm))
    generalize fb c2=r1 at *;by_cases hr:r1<0
    ·have cH:Hid (R=fZ (size d) (λy c=>fH d y (deep+1) c) (l.drop (j+1)) r1):=bU (by rw [HN.out,BH.out];simp [hr]);go_wp2;go_roundw
     case rel=>exact ⟨j+1,r1,by omega,by go_num,rfl,by omega,by omega,cH,trivial⟩
     case measure=>simp [RowKit.intOf];omega
    by_cases he0:ne=0
    ·have cH:Hid (R=fZ (size d) (λy c=>fH d y (deep+1) c) (l.drop (j+1)) r1):=bU (by rw [HN.out,BH.out];simp [hr,he0]);subst he0;go_wp2;go_roundw
     case rel=>exact ⟨j+1,r1,by omega,by go_num,rfl,by omega,by omega,cH,trivial⟩
     case measure=>simp [RowKit.intOf];omega
    have cH:Hid (R=fZ (size d) (λy c=>fH d y (deep+1) c) (l.drop (j+1)) (fe r1)):=bU (by rw [HN.out,BH.out];simp [hr,he0]);have g2:=G2 r1 (by omega);go_wp2_with fail;refine (IE.out r1 (by omega) (by omega)).mono ?_;rintro e u ⟨rfl,hu⟩;obtain rfl:wr=u:=hu.symm;generalize fe r1=r2 at *;go_wp2;go_roundw
    case rel=>exact ⟨j+1,r2,by omega,by go_num,rfl,by omega,by omega,cH,trivial⟩
    case measure=>simp [RowKit.intOf];omega
   have HF:R=c:=by rw [HK.out,zU _ (by omega)]
   subst HF;clear HK;go_wp2;go_ret;exact ⟨rfl,rfl⟩
  have HF:R=c:=by rw [HK.out,List.drop_of_length_le (by omega)];rfl
  subst HF;clear HK;go_wp2
  all_goals (go_ret;exact ⟨rfl,rfl⟩)
theorem CM:∀(d:Nat),L9 d
 | 0=>λv l deep n w ⟨o,cap,hv⟩ hd h1 h2=>by
  subst hv;show Calls _ _ _ _ λe w'=>e=.returned (.int .i64 (if n<0\/80<deep then -1 else n))/\w'=w;by_cases hneg:n<0\/80<deep
  ·rw [AE hneg];exact Ma _ o _ cap rfl deep n w hd hneg h1
  rw [AD hneg];exact Mb o cap deep n w (by omega) (by omega) h2
 | d+1=>λv l deep n w hAt hd h1 h2=>TK d (CM d) v l deep n w hAt hd h1 h2
end Go.Proofs.YtcfifbgemfladaaGreatDoor

namespace Go.Proofs.YtcfifbgemfladaaGreatDoor
open Go.RowKit au Go.Proofs.Tryz
set_option linter.unusedVariables false
namespace Enc
theorem Uv:(prog.info? 5).map (λi=>(i.zero,i.size,i.bytes))=some (some (.int .u8 0),1,1):=by kernel_rfl
def cells (bs:List Int):List Value:=bs.map (Value.int .u8)
section
variable {w0 w w':AG} {p:Nat} {c:Nat->Value} {v:Value} {bs:List Int}
theorem Uw {B:Nat} {e:TypeId} {size:Nat} {v:Value} {n:Nat} {xs:List Value} (h:w.ownsRow B e size v n xs) (hb:AS w w'):w'.ownsRow B e size v n xs :=
 ⟨h.1,h.2.imp id λ⟨g,cap,cur,h1,h2,h3,h4⟩=>⟨g,cap,cur,h1,h2,by rw [hb.block g (gX.1 h3).1];exact h3,h4⟩⟩
end
def wL (bs add bs':List Int):Prop:=bs'=bs++add\/(262144<bs'.length/\262144<bs.length+add.length/\bs.length<=bs'.length)
theorem wL.le {bs add bs':List Int} (h:wL bs add bs'):bs.length<=bs'.length:=by
 rcases h with rfl|⟨_,_,h⟩
 ·rw [aT];omega
 exact h
theorem wL.refl (bs:List Int):wL bs [] bs:=.inl (by simp)
theorem wL.trans {a b c x y:List Int} (h:wL a x b) (h':wL b y c):wL a (x++y) c:=by
 rcases h with rfl|⟨h1,h2,h5⟩
 ·rcases h' with rfl|⟨h3,h4,h6⟩
  ·exact .inl (by rw [bw])
  exact .inr ⟨h3,by rw [aT] at h4 ⊢;omega,by rw [aT] at h6;omega⟩
 rcases h' with rfl|⟨h3,h4,h6⟩
 ·exact .inr ⟨by rw [aT];omega,by rw [aT];omega,by rw [aT];omega⟩
 exact .inr ⟨h3,by rw [aT];omega,by omega⟩
structure Kept (p:Nat) (v:Value) (w:AG) (v':Value) (w':AG):Prop where
 size:w.heap.size<=w'.heap.size
 block:∀k,k<w.heap.size->k≠p->some k≠v.ownBlock->w'.heap[k]?=w.heap[k]?
 own:∀k,v'.ownBlock=some k->v.ownBlock=some k\/w.heap.size<=k
theorem Kept.refl (p:Nat) (v:Value) (w:AG):Kept p v w v w:=⟨aC _,λ_ _ _ _=>rfl,λk h=>.inl h⟩
theorem Kept.trans {p:Nat} {v v1 v2:Value} {w w1 w2:AG} (h:Kept p v w v1 w1) (h':Kept p v1 w1 v2 w2):Kept p v w v2 w2 :=
 ⟨eU h.size h'.size,λk hk hp hv=>by
  rw [h'.block k (jg hk h.size) hp (λe=>?_),h.block k hk hp hv];rcases h.own k e.symm with h1|h1
  ·exact hv h1.symm
  ·omega,λk hk=>by
  rcases h'.own k hk with h1|h1
  ·exact h.own k h1
  exact .inr (eU h.size h1)⟩
theorem Kept.below {p:Nat} {v:Value} {w w1:AG} (hb:AS w w1):Kept p v w v w1:=⟨hb.size,λk hk _ _=>hb.block k hk,λk h=>.inl h⟩
theorem Kept.store {p i:Nat} {v v':Value} {w w9:AG} (hg:w.grownBy w9 v.ownBlock) (hv:v'.ownBlock=v.ownBlock\/v'.ownBlock=some w.heap.size) (u:Value):Kept p v w v' (w9.setCell ⟨p,i,none⟩ u) :=
 ⟨by simpa using hg.size,λk hk hp ho=>by rw [Below.heap_setCell _ _ _ _ (by show k≠p;exact hp),hg.block k hk ho],λk hk=>by
  rcases hv with h|h
  ·exact .inl (h ▸ hk)
  rw [h] at hk;injection hk with hk;exact .inr (by omega)⟩
end Enc
open Enc
theorem wrap_u8 (b:Int):IntKind.u8.wrap b=b%256:=by simp [IntKind.wrap,IntKind.signed,IntKind.bits]
end Go.Proofs.YtcfifbgemfladaaGreatDoor
namespace Go.Proofs.YtcfifbgemfladaaGreatDoor
open Go.RowKit au
set_option linter.unusedVariables false
theorem count_set {l:Array Bool} {i:Nat} (h:l.getD i true=false):(l.setIfInBounds i true).toList.count false+1=l.toList.count false:=by
 have hi:i<l.size:=by
  rcases Nat.lt_or_ge i l.size with h'|h'
  ·exact h'
  simp [Array.getD,Nat.not_lt.2 h'] at h
 have he:l[i]=false:=by simpa [Array.getD,hi] using h
 have hl:l.toList=l.toList.take i++false :: l.toList.drop (i+1):=by
  rw [<- he]
  have:i<l.toList.length:=by simpa using hi
  conv=>lhs;rw [<- List.take_append_drop i l.toList,nN this]
  simp
 have hs:(l.setIfInBounds i true).toList=l.toList.take i++true :: l.toList.drop (i+1):=by
  rw [Array.toList_setIfInBounds,List.set_eq_take_append_cons_drop,AE (by simpa using hi)]
 have e1:=congrArg (List.count false) hl;have e2:=congrArg (List.count false) hs;rw [List.count_append,List.count_cons_self] at e1;rw [List.count_append,List.count_cons_of_ne (by simp)] at e2;omega
theorem abQ {P:Program} {md:Region.Mode} {ops:Array Oper} {Q:Exit->Act->AG->Prop} (Inv:Array Bool->Act->AG->Prop)
  (hstep:∀listed i a w,i ∈ Region.ready md ops listed->Inv listed a w->wpOp P ops Q i (Inv (listed.setIfInBounds i true)) a w)
  (hdone:∀listed a w,Region.ready md ops listed = []->Inv listed a w->Q .normal a w) :
  ∀(fuel:Nat) (listed:Array Bool) (a:Act) (w:AG),listed.toList.count false<=fuel->Inv listed a w->wpAny P md ops Q fuel listed a w:=by
 intro fuel
 induction fuel with
 | zero =>
  intro listed a w hc hI
  have hr:Region.ready md ops listed = []:=by
   cases hrr:Region.ready md ops listed with
   | nil=>rfl
   | cons i r =>
    have hm:i ∈ Region.ready md ops listed:=by rw [hrr];simp
    have:=count_set (mem_ready.1 hm).1
    omega
  exact ⟨hr,hdone _ _ _ hr hI⟩
 | succ fuel ih =>
  intro listed a w hc hI;refine ⟨λhr=>hdone _ _ _ hr hI,λi hi=>?_⟩;refine wpOp_mono (λa' w' h=>ih _ a' w' ?_ h) (hstep listed i a w hi hI)
  have:=count_set (mem_ready.1 hi).1
  omega
theorem Ka {P:Program} {ops:Array Oper} {Q:Exit->Act->AG->Prop} {id:Nat} {a:Act} {w:AG} (Inv:Array Bool->Act->AG->Prop) (hm:P.follows .mixedOrders=true)
  (hstep:∀listed i a w,i ∈ Region.ready .any ops listed->Inv listed a w->wpOp P ops Q i (Inv (listed.setIfInBounds i true)) a w)
  (hdone:∀listed a w,Region.ready .any ops listed = []->Inv listed a w->Q .normal a w)
  (h0:Inv (Array.replicate ops.size false) a { w with drawn:=w.drawn+1 }):(Code.region id ops true).wp P Q a w :=
 wp_region_any hm (abQ Inv hstep hdone _ _ _ _ (by simp) h0)
namespace ai
def deps (o:Oper):List Nat:=(o.after.toList.filter (λe=>Region.binds .any e)).map (·.on)
def pz (ops:Array Oper) (i:Nat):List Nat:=match ops[i]? with
 | some o=>deps o
 | none=>[]
def CE (ops:Array Oper):List Nat->Nat->List Nat
 | acc,0=>acc
 | acc,i+1=>CE ops (if acc.any (λm=>(pz ops m).contains i) then i :: acc else acc) i
def CF (ops:Array Oper) (n:Nat):Bool :=
 decide (n<ops.size)&&(List.range ops.size).all (λi=>(pz ops i).all (λj=>decide (j<i))&&(decide (i<n) || (List.range i).all (λj=>(CE ops [i] i).contains j)))
def Closed (ops:Array Oper) (L:Array Bool):Prop:=∀i,L.getD i false=true->∀j ∈ pz ops i,L.getD j false=true
theorem Ll {ops:Array Oper} {L:Array Bool} {k:Nat} (hc:Closed ops L) (hk:∀j ∈ pz ops k,L.getD j false=true):∀(i:Nat) (acc:List Nat),(∀m ∈ acc,m=k\/L.getD m false=true)->∀m ∈ CE ops acc i,m=k\/L.getD m false=true
 | 0,acc,h=>h
 | i+1,acc,h=>by
  unfold CE;refine Ll hc hk i _ ?_;split
  ·rename_i ha;intro m hm;rcases lI.1 hm with rfl|hm
   ·obtain ⟨q,hq,hqi⟩:=List.any_eq_true.1 ha;have Sd:m ∈ pz ops q:=by simpa using hqi
    rcases h q hq with rfl|hL
    ·exact .inr (hk _ Sd)
    exact .inr (hc q hL _ Sd)
   exact h m hm
  exact h
theorem tV (L:Array Bool) (i j:Nat) (hi:i<L.size):(L.setIfInBounds i true).getD j false=if j=i then true else L.getD j false:=by
 by_cases h:j=i
 ·subst h;rw [AE rfl];simp [Array.getD,hi]
 rw [AD h];simp only [Array.getD,Array.size_setIfInBounds];split
 ·rename_i hj;exact Array.getElem_setIfInBounds_ne (xs:=L) hj (λe=>h e.symm)
 rfl
theorem Kc {L:Array Bool} {i:Nat} (h:L.getD i true=false):i<L.size/\L.getD i false=false:=by
 have hi:i<L.size:=by
  rcases Nat.lt_or_ge i L.size with h'|h'
  ·exact h'
  simp [Array.getD,Nat.not_lt.2 h'] at h
 refine ⟨hi,?_⟩;simpa [Array.getD,hi] using h
structure Fr (a0:Act) (dst:Nat->Nat) (n:Nat) (a:Act):Prop where
 defers:a.defers=a0.defers
 size:a.tmps.size=a0.tmps.size
 rest:∀k,(∀i,i<n->dst i≠k)->a.tmps[k]?=a0.tmps[k]?
theorem Fr.eval {a0:Act} {dst:Nat->Nat} {n:Nat} {a:Act} (h:Fr a0 dst n a) (k:Nat) (hk:∀i,i<n->dst i≠k):a.eval (.tmp k)=a0.eval (.tmp k):=by
 show a.tmps.getD k undef=a0.tmps.getD k undef;rw [Array.getD_eq_getD_getElem?,Array.getD_eq_getD_getElem?,h.rest k hk]
theorem Fr.put {a0:Act} {dst:Nat->Nat} {n i:Nat} {a:Act} (h:Fr a0 dst n a) (hi:i<n) (v:Value):Fr a0 dst n (a.put (some (dst i)) v):=by
 refine ⟨h.defers,?_,λk hk=>?_⟩
 ·show (a.tmps.setIfInBounds (dst i) v).size=_;rw [Array.size_setIfInBounds,h.size]
 show (a.tmps.setIfInBounds (dst i) v)[k]?=_;rw [Array.getElem?_setIfInBounds_ne (hk i hi),h.rest k hk]
theorem Fr.mono {a0:Act} {dst:Nat->Nat} {n n':Nat} {a:Act} (h:Fr a0 dst n a) (hn:n<=n'):Fr a0 dst n' a:=⟨h.defers,h.size,λk hk=>h.rest k λi hi=>hk i (by omega)⟩
theorem GM {a:Act} {k:Nat} (v:Value) (hk:k<a.tmps.size):(a.put (some k) v).eval (.tmp k)=v:=by
 show (a.tmps.setIfInBounds k v).getD k undef=v;simp [Array.getD,hk]
theorem GN {a:Act} {k j:Nat} (v:Value) (hk:k≠j):(a.put (some k) v).eval (.tmp j)=a.eval (.tmp j):=by
 show (a.tmps.setIfInBounds k v).getD j undef=a.tmps.getD j undef;rw [Array.getD_eq_getD_getElem?,Array.getD_eq_getD_getElem?,Array.getElem?_setIfInBounds_ne hk]
theorem aB {a:Act} {k:Nat} {v:Value} (h:a.eval (.tmp k)=v):a.tmps[k]?.getD undef=v:=by
 rw [<- Array.getD_eq_getD_getElem?];exact h
def Se (ops:Array Oper) (n:Nat) (dst:Nat->Nat) (size:Nat):Bool :=
 (List.range n).all λi=>match ops[i]? with
  | some o=>o.dst==some (dst i)&&o.guard.isNone&&decide (dst i<size)
  | none=>false
theorem lJ {ops:Array Oper} {n:Nat} {dst:Nat->Nat} {size:Nat} (h:Se ops n dst size=true):∀i,i<n->∃o,ops[i]?=some o/\o.dst=some (dst i)/\o.guard=none/\dst i<size:=λi hi=>by
 unfold Se at h
 have:=(dN.1 h) i (List.mem_range.2 hi)
 cases ho:ops[i]? with
 | none=>rw [ho] at this;cases this
 | some o =>
  rw [ho] at this;simp only [bH,beq_iff_eq,decide_eq_true_eq,Option.isNone_iff_eq_none] at this;exact ⟨o,rfl,this.1.1,this.1.2,this.2⟩
theorem aO {P:Program} {o:Oper} {a:Act} {w:AG} {R:Act->AG->Prop} {Q:Exit->Act->AG->Prop} (h:∀K:Act->AG->Prop,(∀a w,R a w->K a w)->o.wp P a w K Q):o.wp P a w R Q:=h R (λ_ _ h=>h)
theorem Fr.lit {l:List Value} {ds:List Deferred} {n lo:Nat} {a:Act} (hF:Fr ⟨l.toArray,ds⟩ (λi=>lo+i) n a) (hlo:lo+n<=l.length) :
  ∃x:List Value,x.length=n/\a=⟨(l.take lo++x++l.drop (lo+n)).toArray,ds⟩/\∀i,i<n->a.eval (.tmp (lo+i))=x.getD i undef:=by
 obtain ⟨t,d⟩:=a;obtain ⟨h1,h2,h3⟩:=hF;have h1':d=ds:=h1;subst h1';have h2':t.size=l.length:=by simpa using h2
 refine ⟨(t.toList.drop lo).take n,by rw [yY,List.length_drop,Array.length_toList];omega,?_,λi hi=>?_⟩
 ·congr 1;apply Array.ext';apply List.ext_getElem?;intro k;have hx:((t.toList.drop lo).take n).length=n:=by rw [yY,List.length_drop,Array.length_toList];omega
  have hlt:(l.take lo).length=lo:=by rw [yY];omega
  have Lm:=h3 k;simp only [gz] at Lm;rw [Array.getElem?_toList];show t[k]?=(l.take lo++(t.toList.drop lo).take n++l.drop (lo+n))[k]?;rcases Nat.lt_or_ge k lo with hk|hk
  ·rw [bw,vB (by omega),List.getElem?_take,AE hk];exact Lm λi _=>by omega
  rcases Nat.lt_or_ge k (lo+n) with hk2|hk2
  ·rw [bw,uV (by omega),vB (by omega),List.getElem?_take,AE (by omega),List.getElem?_drop,hlt,Array.getElem?_toList];congr 1;omega
  rw [uV (by rw [aT];omega),List.getElem?_drop,aT,hlt,hx,show lo+n+(k-(lo+n))=k by omega];exact Lm λi _=>by omega
 show t.getD (lo+i) undef=_;rw [Array.getD_eq_getD_getElem?,List.getD_eq_getElem?_getD,List.getElem?_take,AE hi,List.getElem?_drop,Array.getElem?_toList]
section
variable {P:Program} {ops:Array Oper} {Q:Exit->Act->AG->Prop} {id:Nat} {a0:Act} {w0:AG}
def Ahead (ops:Array Oper) (a0:Act) (w0:AG) (n:Nat) (dst:Nat->Nat) (G:Nat->Value->AG->Prop) (L:Array Bool) (a:Act) (w:AG):Prop :=
 (∀k,n<=k->L.getD k false=false)/\Fr a0 dst n a/\AS w0 w/\∀i,i<n->L.getD i false=true->G i (a.eval (.tmp (dst i))) w
def Behind (P:Program) (ops:Array Oper) (Q:Exit->Act->AG->Prop) (n:Nat) (L:Array Bool) (a:Act) (w:AG):Prop :=
 ∃k,n<=k/\(∀i,i<k->L.getD i false=true)/\(∀i,k<=i->L.getD i false=false)/\wpList P ops Q (ops.toList.drop k) a w
theorem Bj {o:Oper} {i:Nat} (h:ops[i]?=some o):pz ops i=deps o:=by unfold pz;rw [h]
theorem Kb {L:Array Bool} {i:Nat} (h:i ∈ Region.ready .any ops L):L.getD i true=false/\∃o,ops[i]?=some o/\∀j ∈ deps o,L.getD j false=true:=by
 obtain ⟨h1,o,ho,hd⟩:=mem_ready.1 h;refine ⟨h1,o,ho,λj hj=>?_⟩;obtain ⟨e,he,rfl⟩:=List.mem_map.1 hj;obtain ⟨he1,he2⟩:=List.mem_filter.1 he;exact hd e (by simpa using he1) he2
theorem Ps {L:Array Bool} {i:Nat} {o:Oper} (ho:ops[i]?=some o) (h1:L.getD i true=false) (hd:∀j ∈ deps o,L.getD j false=true):i ∈ Region.ready .any ops L:=by
 refine mem_ready.2 ⟨h1,o,ho,λe he hb=>hd _ ?_⟩;exact List.mem_map.2 ⟨e,List.mem_filter.2 ⟨by simpa using he,hb⟩,rfl⟩
theorem Hq {L:Array Bool} {n:Nat} (hT:CF ops n=true) (hsz:L.size=ops.size) (hr:Region.ready .any ops L = []) (k:Nat) (hk:k<ops.size):L.getD k false=true:=by
 have hlow:∀i,i<ops.size->∀j ∈ pz ops i,j<i:=λi hi j hj=>by
  unfold CF at hT;rw [bH,dN] at hT
  have:=hT.2 i (List.mem_range.2 hi)
  rw [bH,dN] at this;exact of_decide_eq_true (this.1 j hj)
 induction k using Nat.strongRecOn with
 | _ k ih =>
  cases hL:L.getD k false with
  | true=>rfl
  | false =>
   obtain ⟨o,ho⟩:∃o,ops[k]?=some o:=⟨_,wU hk⟩
   have hm:k ∈ Region.ready .any ops L:=by
    refine Ps ho ?_ λj hj=>?_
    ·have:k<L.size:=by omega
     simp only [Array.getD,this] at hL ⊢;exact hL
    have hj':j ∈ pz ops k:=by rw [Bj ho];exact hj
    have:=hlow k hk j hj'
    exact ih j this (by omega)
   rw [hr] at hm;cases hm
theorem oQ (n:Nat) (dst:Nat->Nat) (G:Nat->Value->AG->Prop) (hm:P.follows .mixedOrders=true) (hT:CF ops n=true)
  (hinj:∀i j,i<n->j<n->dst i=dst j->i=j)
  (hdst:∀i,i<n->∃o,ops[i]?=some o/\o.dst=some (dst i)/\o.guard=none/\dst i<a0.tmps.size)
  (tQ:∀i v w w',i<n->G i v w->AS w w'->G i v w')
  (hstep:∀i o a w,i<n->ops[i]?=some o->Fr a0 dst n a->AS w0 w->(∀j ∈ deps o,G j (a.eval (.tmp (dst j))) w)->o.wp P a w (λa' w'=>∃v,a'=a.put o.dst v/\AS w w'/\G i v w') Q)
  (cO:∀a w,Fr a0 dst n a->AS w0 w->(∀i,i<n->G i (a.eval (.tmp (dst i))) w)->wpList P ops Q (ops.toList.drop n) a w) :
  (Code.region id ops true).wp P Q a0 w0:=by
 have uf:=hT;unfold CF at uf;rw [bH,dN,decide_eq_true_eq] at uf;obtain ⟨hn,uf⟩:=uf
 have hlow:∀i,i<ops.size->∀j ∈ pz ops i,j<i:=λi hi j hj=>by
  have:=uf i (List.mem_range.2 hi)
  rw [bH,dN] at this;exact of_decide_eq_true (this.1 j hj)
 have hbig:∀(L:Array Bool) i,n<=i->i<ops.size->Closed ops L->(∀j ∈ pz ops i,L.getD j false=true)->∀j,j<i->L.getD j false=true:=λL i hi hs hc hd j hj=>by
  have:=uf i (List.mem_range.2 hs)
  rw [bH,Bool.or_eq_true,decide_eq_true_eq] at this;rcases this.2 with h|h
  ·omega
  have hjm:j ∈ CE ops [i] i:=by simpa using (dN.1 h) j (List.mem_range.2 hj)
  rcases Ll hc hd i [i] (λm hm=>.inl (List.mem_singleton.1 hm)) j hjm with h|h
  ·omega
  exact h
 refine Ka (λL a w=>L.size=ops.size/\Closed ops L/\(Ahead ops a0 w0 n dst G L a w\/Behind P ops Q n L a w)) hm ?_ ?_ ?_
 ·rintro L i a w hi ⟨hsz,hc,Lp⟩;obtain ⟨vS,o,ho,hd⟩:=Kb hi;obtain ⟨qX,vT⟩:=Kc vS;have hd':∀j ∈ pz ops i,L.getD j false=true:=by rw [Bj ho];exact hd
  have hsz':(L.setIfInBounds i true).size=ops.size:=by rw [Array.size_setIfInBounds,hsz]
  have hc':Closed ops (L.setIfInBounds i true):=λm hm j hj=>by
   rw [tV L i _ qX] at hm ⊢;split
   ·rfl
   by_cases he:m=i
   ·subst he;exact hd' j hj
   rw [AD he] at hm;exact hc m hm j hj
  have low:∀k,n<=k->(∀j,j<k->L.getD j false=true)->(∀j,k<=j->L.getD j false=false)->n<=i->i=k:=λk hnk hk1 hk2 hni=>by
   have h1:=hbig L i hni (by omega) hc hd';rcases Nat.lt_trichotomy i k with h|h|h
   ·rw [hk1 i h] at vT;cases vT
   ·exact h
   have:=h1 k h;rw [hk2 k (aC _)] at this;cases this
  have Fg:∀k,k=i->n<=k->(∀j,j<k->L.getD j false=true)->(∀j,k<=j->L.getD j false=false)->wpList P ops Q (ops.toList.drop k) a w->wpOp P ops Q i (λa w=>(L.setIfInBounds i true).size=ops.size/\Closed ops (L.setIfInBounds i true)/\(Ahead ops a0 w0 n dst G (L.setIfInBounds i true) a w\/Behind P ops Q n (L.setIfInBounds i true) a w)) a w:=by
   rintro k rfl hnk hk1 hk2 hwp;have hks:k<ops.size:=by omega
   have DT:ops.toList.drop k=o :: ops.toList.drop (k+1):=by
    rw [nN (by simpa using hks)];congr 1
    have:=wU hks
    rw [ho] at this;simpa using (Option.some.inj this).symm
   rw [DT] at hwp
   have up:∀a w,wpList P ops Q (ops.toList.drop (k+1)) a w->(L.setIfInBounds k true).size=ops.size/\Closed ops (L.setIfInBounds k true)/\(Ahead ops a0 w0 n dst G (L.setIfInBounds k true) a w\/Behind P ops Q n (L.setIfInBounds k true) a w):=λa w h =>
    ⟨hsz',hc',.inr ⟨k+1,by omega,λj hj=>by
     rw [tV L k _ qX];split
     ·rfl
     ·exact hk1 j (by omega),λj hj=>by
     rw [tV L k _ qX,AD (by omega)];exact hk2 j (by omega),h⟩⟩
   unfold wpOp;rw [ho];unfold wpList at hwp;show ite _ _ _;split
   ·rename_i hw;rw [AE hw] at hwp;exact hwp.imp (Oper.wp_mono up) (λh=>h)
   rename_i hw;rw [AD hw] at hwp;exact up _ _ hwp
  rcases Lp with ⟨hk,hF,hB,hG⟩|⟨k,hnk,hk1,hk2,hwp⟩
  ·by_cases hin:i<n
   ·obtain ⟨o',ho',vU,hog,hos⟩:=hdst i hin
    have:o'=o:=by rw [ho] at ho';exact (Option.some.inj ho').symm
    subst this;have hs:=hstep i o' a w hin ho hF hB (λj hj=>hG j (by have:=hlow i (by omega) j (by rw [Bj ho];exact hj);omega) (hd j hj));unfold wpOp;rw [ho];show ite _ _ _;rw [AE (by simp [Region.wanted,hog])];refine .inl (Oper.wp_mono ?_ hs);rintro a' w' ⟨v,rfl,hBw,Bl⟩;have Bm:dst i<a.tmps.size:=by rw [hF.size];exact hos
    refine ⟨hsz',hc',.inl ⟨λk hnk=>?_,by rw [vU];exact hF.put hin v,?_,λj hj tT=>?_⟩⟩
    ·rw [tV L i _ qX,AD (by omega)];exact hk k hnk
    ·exact hB.trans (hBw.mono hB.size)
    rw [vU];by_cases he:j=i
    ·subst he;rw [GM v Bm];exact Bl
    rw [tV L i _ qX,AD he] at tT;rw [GN v (λe=>he (hinj i j hin hj e).symm)];exact tQ j _ w w' hj (hG j hj tT) hBw
   have h1:=hbig L i (by omega) (by omega) hc hd'
   have Lr:n=i:=by
    rcases Nat.lt_or_ge n i with h|h
    ·have:=h1 n h;rw [hk n (aC _)] at this;cases this
    omega
   refine Fg n Lr (aC _) (λj hj=>h1 j (by omega)) hk (cO a w hF hB λj hj=>hG j hj (h1 j (by omega)))
  rcases Nat.lt_or_ge i n with h|h
  ·rw [hk1 i (by omega)] at vT;cases vT
  exact Fg k (low k hnk hk1 hk2 h).symm hnk hk1 hk2 hwp
 ·rintro L a w hr ⟨hsz,hc,⟨hk,_⟩|⟨k,hnk,hk1,hk2,hwp⟩⟩
  ·have:=Hq hT hsz hr n hn
   rw [hk n (aC _)] at this;cases this
  have:ops.size<=k:=by
   rcases Nat.lt_or_ge k ops.size with h|h
   ·have:=Hq hT hsz hr k h
    rw [hk2 k (aC _)] at this;cases this
   exact h
  rw [BJ (by simpa using this)] at hwp;exact hwp
 have hf:∀k,(Array.replicate ops.size false).getD k false=false:=λk=>by
  simp [Array.getD]
 refine ⟨by simp,λi hi=>?_,.inl ⟨λk _=>hf k,⟨rfl,rfl,λ_ _=>rfl⟩,⟨rfl,rfl,rfl,aC _,λ_ _=>rfl⟩,λi _ hL=>?_⟩⟩
 ·rw [hf] at hi;cases hi
 rw [hf] at hL;cases hL
end
end ai
namespace ai
section
variable {P:Program} {ops:Array Oper} {Q:Exit->Act->AG->Prop} {id:Nat} {a0:Act} {w0:AG}
end
end ai
end Go.Proofs.YtcfifbgemfladaaGreatDoor
