/- Texts that the claim needs. -/
import Derived.Test.YtcfifbgemfladaaGreatDoorQDPa1
import Derived.Test.YtcfifbgemfladaaGreatDoorQDPa8
import Derived.Test.YtcfifbgemfladaaGreatDoorRows
import Derived.Test.YtcfifbgemfladaaGreatDoorQDPa0
import Derived.WalkKit
import Derived.WalkSpells
import Derived.WalkSmall
import Derived.BigQuiet
import Derived.Deep.QuietTactic
namespace Go.Proofs.YtcfifbgemfladaaGreatDoor
open Go.RowKit au Enc aI Go.Lib
set_option linter.unusedVariables false
namespace aI
def Ls (s:AH) (i:Nat) (xs:List Int):Prop:=∀j,j<xs.length->af.bt s (i+j)=xs.getD j 0
theorem Ls.left {s:AH} {i:Nat} {xs ys:List Int} (h:Ls s i (xs++ys)):Ls s i xs:=λj hj=>by
 rw [h j (by rw [aT];omega)];simp [List.getD,vB hj]
theorem Ls.right {s:AH} {i:Nat} {xs ys:List Int} (h:Ls s i (xs++ys)):Ls s (i+xs.length) ys:=λj hj=>by
 have:=h (xs.length+j) (by rw [aT];omega)
 rw [Nat.add_assoc,this];simp [List.getD,uV]
theorem Ls.head {s:AH} {i:Nat} {x:Int} {xs:List Int} (h:Ls s i (x :: xs)):af.bt s i=x:=by simpa using h 0 (by simp)
theorem Ls.tail {s:AH} {i:Nat} {x:Int} {xs:List Int} (h:Ls s i (x :: xs)):Ls s (i+1) xs:=λj hj=>by
 have:=h (j+1) (by simp;omega)
 rw [show i+1+j=i+(j+1) by omega,this];simp
theorem vC {s:AH} {en i:Nat} {x:Int} {xs:List Int} (h:Ls s i (x :: xs)) (hi:i<en):nx s en i=.ok (x,i+1):=by
 unfold nx;rw [AE hi,h.head]
theorem ND {s:AH} {en i:Nat} {xs:List Int} (he:en<=s.size) (h:Ls s i xs) (hi:i+xs.length<=en):af.iE (af.from_ (s.extract 0 en) i) 0 xs:=af.Jk λj hj=>by
 rw [af.NF s en (i+j) (by omega) he];exact h j hj
theorem oZ {s:AH} {en i:Nat} {n:Int} (he:en<=s.size) (h0:0<=n) (h1:n<=4294967295) (h:Ls s i (af.uB n)) (hi:i+(af.uB n).length<=en):ru s en i=.ok (n,i+(af.uB n).length):=by
 have hz:(s.extract 0 en).size=en:=by rw [ByteArray.size_extract];omega
 have hL:=ND he h hi
 have h5:(af.uB n).length<=5:=by
  have e:(128:Int) ^ 5=34359738368:=by decide
  exact af.Gi 4 n h0 (by show n<128 ^ 5;rw [e];omega)
 have hp:=af.Dv n;have hg:=af.NG (af.from_ (s.extract 0 en) i) ((s.extract 0 en).size-i) n.toNat n 0 5 h0 (aC _) hL (by omega);rw [AE h5,Nat.zero_add] at hg;have hv:=af.NH (af.from_ (s.extract 0 en) i) n.toNat n 0 h0 (aC _) hL;rw [Nat.zero_add] at hv;have hv':af.val (af.from_ (s.extract 0 en) i) (af.uB n).length=n:=by rw [hv];simp [af.val]
 have hR:af.ig (s.extract 0 en) i 32=(n,(i:Int)+(af.uB n).length,0):=by
  have fQ:af.asks (s.extract 0 en).size i 32=true:=ay ⟨.inl rfl,by omega,by omega⟩;unfold af.ig;rw [AE fQ,Int.toNat_natCast];show af.mK _ (af.fO _ _ 5 0) _ 32=_;rw [hg];unfold af.mK;rw [hv',AD];rintro (h|⟨_,h⟩|⟨h,_⟩)<;>omega
 unfold ru;rw [hR,AE rfl];show (Except.ok (n,((i:Int)+((af.uB n).length:Int)).toNat):R Int)=_;rw [show ((i:Int)+((af.uB n).length:Int)).toNat=i+(af.uB n).length by omega]
theorem Xx {n:Int} (h0:-2147483648<=n) (h1:n<=2147483647):(af.sB n).length<=5:=by
 by_cases h:-64<=n/\n<=63
 ·rw [af.qx h];simp
 rw [af.wN h];by_cases h:-64<=n / 128/\n / 128<=63
 ·rw [af.qx h];simp
 rw [af.wN h];by_cases h:-64<=n / 128 / 128/\n / 128 / 128<=63
 ·rw [af.qx h];simp
 rw [af.wN h];by_cases h:-64<=n / 128 / 128 / 128/\n / 128 / 128 / 128<=63
 ·rw [af.qx h];simp
 rw [af.wN h,af.qx (n:=n / 128 / 128 / 128 / 128) (by omega)];simp
theorem Xy {s:AH} {en i:Nat} {n bits:Int} (he:en<=s.size) (hb:bits=32\/bits=64) (h0:-9223372036854775808<=n) (h1:n<=9223372036854775807) (h32:bits=32->-2147483648<=n/\n<=2147483647) (h:Ls s i (af.sB n)) (hi:i+(af.sB n).length<=en):rs s en bits i=.ok (n,i+(af.sB n).length):=by
 have hz:(s.extract 0 en).size=en:=by rw [ByteArray.size_extract];omega
 have hL:=ND he h hi
 have hm:(af.sB n).length<=af.most bits:=by
  rcases hb with rfl|rfl
  ·exact Xx (h32 rfl).1 (h32 rfl).2
  exact af.BR h0 h1
 have h10:=af.BR h0 h1;have hp:=af.Dw n;have hg:=af.Jl (af.from_ (s.extract 0 en) i) ((s.extract 0 en).size-i) n.natAbs n 0 (af.most bits) (aC _) hL (by omega);rw [AE hm,Nat.zero_add] at hg;have hv:=af.NI (af.from_ (s.extract 0 en) i) n.natAbs n 0 (aC _) hL;rw [Nat.zero_add] at hv;have hv':af.qC (af.from_ (s.extract 0 en) i) (af.sB n).length=n:=by show af.val _ _+_*af.sg _=_;rw [hv];simp [af.val]
 have hlast:=af.NJ (aC _) hL
 have hR:af.jW (s.extract 0 en) i bits=(n,(i:Int)+(af.sB n).length,0):=by
  rcases hb with rfl|rfl
  ·have fQ:af.asks (s.extract 0 en).size i 32=true:=ay ⟨.inl rfl,by omega,by omega⟩;unfold af.jW;rw [AE fQ,Int.toNat_natCast];show af.rV _ (af.fO _ _ (af.most 32) 0) _ 32=_;rw [hg];unfold af.rV;have Jm:(af.sB n).length<=5:=hm
   have:=h32 rfl
   rw [hv',AD];rintro (h|⟨_,h⟩|⟨h,_⟩)<;>omega
  have fQ:af.asks (s.extract 0 en).size i 64=true:=ay ⟨.inr rfl,by omega,by omega⟩;unfold af.jW;rw [AE fQ,Int.toNat_natCast];show af.rV _ (af.fO _ _ (af.most 64) 0) _ 64=_;rw [hg];refine af.NK _ _ _ _ hp h10 ?_ hv' h0 h1;by_cases hk:(af.sB n).length=10
  ·left;rw [hk] at hlast;exact ⟨(af.AO (s.extract 0 en) i 9).1,hlast⟩
  right;omega
 unfold rs;rw [hR,AE rfl];show (Except.ok (n,((i:Int)+((af.sB n).length:Int)).toNat):R Int)=_;rw [show ((i:Int)+((af.sB n).length:Int)).toNat=i+(af.sB n).length by omega]
theorem zh {s:AH} {en i:Nat} {x:Int} {xs:List Int} (h:Ls s i (x :: xs)) (hi:i<en):must s en x i=.ok ((),i+1):=by
 unfold must;rw [vC h hi,aK,AE rfl]
theorem NL {s:AH} {en:Nat} (he:en<=s.size):∀(l:List Int) (i:Nat),(∀y ∈ l,0<=y/\y<=4294967295)->Ls s i (l.flatMap af.uB)->i+(l.flatMap af.uB).length<=en->rep (ru s en) l.length i=.ok (l,i+(l.flatMap af.uB).length)
 | [],i,_,_,_=>rfl
 | x :: l,i,hb,h,hi=>by
  rw [List.flatMap_cons] at h hi ⊢;rw [aT] at hi ⊢;have hx:=hb x (List.mem_cons_self ..);show bd (ru s en i) _=_;rw [oZ he hx.1 hx.2 h.left (by omega),aK,NL he l _ (λy hy=>hb y (List.mem_cons_of_mem _ hy)) h.right (by omega),aK];congr 2;omega
theorem NM {s:AH} {en i:Nat} {l:List Int} (he:en<=s.size) (hl:l.length<=4096) (hb:∀y ∈ l,0<=y/\y<=4294967295) (h:Ls s i (mY l)) (hi:i+(mY l).length<=en):rl s en i=.ok (l,i+(mY l).length):=by
 unfold mY at h hi ⊢;rw [aT] at hi ⊢;unfold rl rc;rw [oZ he (by omega) (by omega) h.left (by omega),aK,AE (by omega),aK,Int.toNat_natCast,NL he l _ hb h.right (by omega)];congr 2;omega
structure xX {d:Nat} (x:Ins (IL d)):Prop where
 ok:Ib x
 few:x.labels.length<=4096
 rg:dK (λ_=>True) x
 c32:x.op=65->-2147483648<=x.n/\x.n<=2147483647
theorem zk {d:Nat} {x:Ins (IL d)} {a b n:Int} {l:List Int} {y z:IL d} (h1:x.a=a) (h2:x.b=b) (h3:x.n=n) (h4:x.labels=l) (h5:x.body=y) (h6:x.els=z):({ op:=x.op,a:=a,b:=b,n:=n,labels:=l,body:=y,els:=z }:Ins (IL d))=x:=by
 cases x;simp only at *;subst h1 h2 h3 h4 h5 h6;rfl
theorem Dx:∀d,size d (none_ d)=0
 | 0=>rfl
 | _+1=>rfl
theorem NN {d:Nat} {s:AH} {en i:Nat} {x:Ins (IL d)} (he:en<=s.size) (o:xX x) (h2:form x.op≠2) (h3:form x.op≠3) (h:Ls s i (qK (aW d) (size d) x)) (hi:i+(qK (aW d) (size d) x).length<=en):gh (none_ d) s en x.op i=.ok (x,i+(qK (aW d) (size d) x).length):=by
 have k:=o.ok;have fm:=k.fm;have eb:x.body=none_ d:=Da d _ _ (k.body h2 h3) (Dx d);have ee:x.els=none_ d:=Da d _ _ (k.els h3) (Dx d);unfold qK at h hi ⊢;unfold gh;simp only;by_cases f1:form x.op=1
 ·rw [AE f1] at h hi ⊢;rw [AE f1];have e:=zk (k.a (.inl f1)) (k.b (by omega)) (k.n (by omega)) (k.labels (by omega)) eb ee;by_cases hz:x.op=63\/x.op=64
  ·rw [AE hz] at h hi ⊢;rw [AE hz,zh h (by simp at hi;omega),aK,e];rfl
  rw [AD hz] at h hi ⊢;rw [AD hz,e];rfl
 have f23:¬ (form x.op=2\/form x.op=3):=by omega
 rw [AD f1,AD f23] at h hi;rw [AD f1,AD f1,AD f23];by_cases f4:form x.op=4\/form x.op=6
 ·rw [AE f4] at h hi ⊢;rw [AE f4];have ra:=o.rg.a (by omega) (by omega);rw [oZ he ra.1 ra.2 h hi,aK,zk rfl (k.b (by omega)) (k.n (by omega)) (k.labels (by omega)) eb ee]
 rw [AD f4] at h hi ⊢;rw [AD f4];by_cases f5:form x.op=5
 ·rw [AE f5] at h hi ⊢;rw [AE f5];rw [aT] at hi ⊢;have ra:=o.rg.a (by omega) (by omega);rw [NM he o.few (o.rg.labels f5) h.left (by omega),aK,oZ he ra.1 ra.2 h.right (by omega),aK,zk rfl (k.b (by omega)) (k.n (by omega)) rfl eb ee];congr 2;omega
 rw [AD f5] at h hi ⊢;rw [AD f5];by_cases f7:form x.op=7
 ·rw [AE f7] at h hi ⊢;rw [AE f7];rw [aT] at hi ⊢;have ra:=o.rg.a (by omega) (by omega);simp only [ik,mQ] at hi;rw [oZ he ra.1 ra.2 h.left (by omega),aK,zh h.right (by omega),aK,zk rfl (k.b (by omega)) (k.n (by omega)) (k.labels (by omega)) eb ee];rfl
 rw [AD f7] at h hi ⊢;rw [AD f7];by_cases f8:form x.op=8
 ·rw [AE f8] at h hi ⊢;rw [AE f8];rw [aT] at hi ⊢;have ra:=o.rg.a (by omega) (by omega);have rb:=o.rg.b f8;rw [oZ he ra.1 ra.2 h.left (by omega),aK,oZ he rb.1 rb.2 h.right (by omega),aK,zk rfl rfl (k.n (by omega)) (k.labels (by omega)) eb ee];congr 2;omega
 rw [AD f8] at h hi ⊢;rw [AD f8];have f9:form x.op=9:=by omega
 rw [AE f9] at h hi ⊢;rw [AE f9];have rn:=o.rg.n f9
 rw [Xy he (by split;exact .inl rfl;exact .inr rfl) rn.1 rn.2 (λe=>by
  by_cases BS:x.op=65
  ·exact o.c32 BS
  rw [AD BS] at e;cases e) h hi,aK,zk (k.a (.inr f9)) (k.b (by omega)) rfl (k.labels (by omega)) eb ee]
def VR:(d:Nat)->Nat->IL d->Prop
 | 0,_,_=>True
 | d+1,dep,l=>∀x,x ∈ (show List (Ins (IL d)) from l)->dep<=64/\xX x/\VR d (dep+1) x.body/\VR d (dep+1) x.els
def Jn (s:AH) (en d dep:Nat):Prop:=∀(l:IL d) (t:Int) (i n:Nat),(t=5\/t=11)->VR d dep l->n+tot d l<=65536->Ls s i (aW d l++[t])->i+(aW d l).length+1<=en->jX s en d dep i n=.ok ((l,t),i+(aW d l).length+1,n+tot d l)
theorem AP {α β:Type} (a:α) (i n:Nat) (f:α->Nat->Nat->R2 β):fU (.ok (a,i,n)) f=f a i n:=rfl
theorem AQ {α:Type} {a:α} {p p' q q':Nat} (h1:p=p') (h2:q=q'):(Except.ok (a,p,q):R2 α)=.ok (a,p',q'):=by rw [h1,h2]
theorem Xz {dep:Nat} {op:Int} {n:Nat} (h1:1<=form op/\form op<=9) (h2:n+1<=65536) (h3:dep<=64):tH dep op n=none:=by
 unfold tH;rw [AD (by omega),AD (by omega),AD (by omega),AD (by omega)]
theorem XA {d:Nat} {s:AH} {en dep i n:Nat} {x:Ins (IL d)} (he:en<=s.size) (IH:Jn s en d (dep+1)) (o:xX x) (hf:form x.op=2\/form x.op=3) (v1:VR d (dep+1) x.body) (v2:VR d (dep+1) x.els) (hc:n+tot d x.body+tot d x.els<=65536) (h:Ls s i (qK (aW d) (size d) x)) (hi:i+(qK (aW d) (size d) x).length<=en) :
  vD (none_ d) s en (jX s en d (dep+1)) x.op i n=.ok (x,i+(qK (aW d) (size d) x).length,n+tot d x.body+tot d x.els):=by
 have k:=o.ok;have ea:=k.a2 hf
 have htl:qK (aW d) (size d) x=(if x.a=0 then [64] else [x.a%256])++(aW d x.body++((if 0<size d x.els then [5]++aW d x.els else [])++[11])):=by
  unfold qK;rw [AD (by omega),AE hf];simp only [bw]
 rw [htl] at h hi ⊢
 have hres:AR s en i=.ok (x.a,i+1):=by
  unfold AR;by_cases a0:x.a=0
  ·rw [AE a0] at h hi;rw [vC h (by simp at hi;omega),aK,AE rfl,a0]
  rw [AD a0] at h hi;have e:x.a%256=x.a:=by omega
  rw [e] at h;rw [vC h (by simp at hi;omega),aK,AD (by omega)];unfold pg;rw [AD (by omega),AE (by omega)]
 have hone:(if x.a=0 then [64] else [x.a%256]:List Int).length=1:=by split<;>rfl
 have h2:=h.right;rw [aT,hone] at hi ⊢;rw [hone] at h2;unfold vD;rw [hres];show fU (jX s en d (dep+1) (i+1) n) _=_;by_cases hz:0<size d x.els
 ·rw [AE hz] at h2 hi ⊢;simp only [aT,ik,mQ] at hi ⊢;have h3:Ls s (i+1) (aW d x.body++[5]++(aW d x.els++[11])):=by simpa using h2
  rw [IH x.body 5 (i+1) n (.inl rfl) v1 (by omega) h3.left (by omega)]
  have hf3:form x.op=3:=by
   by_cases e:form x.op=3
   ·exact e
   have:=k.els e;omega
  rw [AP];dsimp only;rw [AE ⟨rfl,hf3⟩];have h4:=h3.right;simp only [aT,ik,mQ] at h4;rw [IH x.els 11 (i+1+(aW d x.body).length+1) (n+tot d x.body) (.inr rfl) v2 hc (by rw [show i+1+(aW d x.body).length+1=i+1+((aW d x.body).length+(0+1)) by omega];exact h4) (by omega)];rw [AP];dsimp only;rw [AE rfl,zk rfl (k.b (by omega)) (k.n (by omega)) (k.labels (by omega)) rfl rfl];exact AQ (by omega) (by omega)
 rw [AD hz] at h2 hi ⊢;simp only [aT,ik,mQ] at hi ⊢;have h3:Ls s (i+1) (aW d x.body++[11]):=by simpa using h2
 rw [IH x.body 11 (i+1) n (.inr rfl) v1 (by omega) h3 (by omega)];rw [AP];dsimp only;rw [AD (by omega)];have ez:size d x.els=0:=by omega
 have et:tot d x.els=0:=by
  have e:=Da d x.els (none_ d) ez (Dx d);rw [e];cases d<;>rfl
 rw [AE rfl,zk rfl (k.b (by omega)) (k.n (by omega)) (k.labels (by omega)) rfl (Da d _ _ ez (Dx d)),et];exact AQ (by omega) (by omega)
theorem NQ {d:Nat} {s:AH} {en dep:Nat} (he:en<=s.size) (IH:Jn s en d (dep+1)) (t:Int) (ht:t=5\/t=11):∀(l:List (Ins (IL d))) (f i n:Nat),(∀x ∈ l,dep<=64/\xX x/\VR d (dep+1) x.body/\VR d (dep+1) x.els)->n+wZ (tot d) l<=65536->Ls s i (mF (aW d) (size d) l++[t])->i+(mF (aW d) (size d) l).length+1<=en->en-i+1<=f ->
  jN (jX s en d (dep+1)) s en dep f i n=.ok ((l,t),i+(mF (aW d) (size d) l).length+1,n+wZ (tot d) l)
 | l,0,i,n,_,_,_,_,hf=>by omega
 | [],f+1,i,n,_,_,h,hi,_=>by
  have h:Ls s i [t]:=h;have hi:i+0+1<=en:=hi;unfold jN;rw [vC h (by omega)];show (if t=11\/t=5 then _ else _)=_;rw [AE (by omega)];rfl
 | x :: l,f+1,i,n,hv,hc,h,hi,hf=>by
  have e:mF (aW d) (size d) (x :: l)=fS (aW d) (size d) x++mF (aW d) (size d) l:=List.flatMap_cons;have ec:wZ (tot d) (x :: l)=1+tot d x.body+tot d x.els+wZ (tot d) l:=rfl;rw [e,Uu] at h hi ⊢;rw [ec] at hc ⊢;simp only [iy,ik,aT] at h hi ⊢;obtain ⟨hd,o,v1,v2⟩:=hv x (List.mem_cons_self ..);have hb:=Ut x.op o.ok.fm.1 o.ok.fm.2;have XB:x.op%256=x.op:=by omega
  rw [XB] at h;unfold jN;rw [vC h (by omega)];show (if x.op=11\/x.op=5 then _ else _)=_;rw [AD (by omega)];have h2:=h.tail;rw [bw] at h2
  have hr:pq (jX s en d (dep+1)) s en dep x.op (i+1) n=.ok (x,i+1+(qK (aW d) (size d) x).length,n+1+tot d x.body+tot d x.els):=by
   unfold pq;rw [Xz o.ok.fm (by omega) hd];show (if form x.op=2\/form x.op=3 then _ else _)=_;by_cases hf:form x.op=2\/form x.op=3
   ·rw [AE hf];exact XA he IH o hf v1 v2 (by omega) h2.left (by omega)
   rw [AD hf,NN he o (by omega) (by omega) h2.left (by omega)]
   have z:∀y:IL d,size d y=0->tot d y=0:=λy hy=>by
    rw [Da d y (none_ d) hy (Dx d)];cases d<;>rfl
   rw [z _ (o.ok.body (by omega) (by omega)),z _ (o.ok.els (by omega))];rfl
  rw [hr];show fU (jN (jX s en d (dep+1)) s en dep f (i+1+(qK (aW d) (size d) x).length) (n+1+tot d x.body+tot d x.els)) _=_;rw [NQ he IH t ht l f _ _ (λy hy=>hv y (List.mem_cons_of_mem _ hy)) (by omega) h2.right (by omega) (by omega)];show (Except.ok ((x :: l,t),_,_):R2 (List (Ins (IL d)) × Int))=_;exact AQ (by omega) (by omega)
theorem NS {s:AH} {en:Nat} (he:en<=s.size):∀(d dep:Nat),Jn s en d dep
 | 0,dep=>λl t i n ht _ _ h hi=>by
  have h:Ls s i [t]:=h;have hi:i+0+1<=en:=hi;show fU (lift (nx s en i) n) _=_;rw [vC h (by omega)];show (if t=11\/t=5 then _ else _)=_;rw [AE (by omega)];rfl
 | d+1,dep=>λl t i n ht hv hc h hi=>NQ he (NS he d (dep+1)) t ht (show List (Ins (IL d)) from l) (en-i+1) i n hv hc h hi (aC _)
end aI
end Go.Proofs.YtcfifbgemfladaaGreatDoor
namespace Go.Proofs.YtcfifbgemfladaaGreatDoor
open Go.RowKit Go.Proofs.Tryz
set_option maxHeartbeats 1000000
theorem ng {p:Prop} (h:p):Hid p:=h
theorem fP {p:Prop} (h:Hid p):p:=h
theorem adN {a b:Bool} (h:a=b):Ending.returned (.bool a)=.returned (.bool b):=by rw [h]
theorem Li {k:IntKind} {a b:Int} (h:a=b):Ending.returned (.int k a)=.returned (.int k b):=by rw [h]
theorem Di (s:AH) (a bits:Int) (w:AG) :
  Calls prog 29 #[.string s,.int .i64 a,.int .i64 bits] w λe w'=>e=.returned (.bool (af.asks s.size a bits))/\w'=w:=by
 go_enter func29,ntmps29;go_wp2
 all_goals go_ret
 all_goals refine ⟨adN ?_,rfl⟩
 all_goals (unfold af.asks;rw [Bool.eq_iff_iff];simp only [decide_eq_true_eq];first|omega|(simp;omega))
theorem BK (bits:Int) (w:AG) (h:bits=32\/bits=64) :
  Calls prog 118 #[.int .i64 bits] w λe w'=>e=.returned (.int .i64 (af.most bits))/\w'=w:=by
 rcases h with rfl|rfl
 all_goals
  go_enter func118,ntmps118;go_wp2;go_ret;exact ⟨rfl,rfl⟩
theorem IZ (s:AH) (a:Nat) (bits:Int) (w:AG) (hs:s.size<=140737488351232) (ha:a<=s.size) (h:bits=32\/bits=64) :
  Calls prog 30 #[.string s,.int .i64 a,.int .i64 bits] w λe w'=>e=.returned (.int .i64 (af.jh (af.from_ s a) (s.size-a) (af.most bits)))/\w'=w:=by
 have hg:=af.get_bt s;have hm:(bits+6) / 7=(af.most bits:Int)/\af.most bits<=10/\0<=bits/\bits<=64:=by rcases h with rfl|rfl<;>decide
 obtain ⟨hm1,hm2,yc,JB⟩:=hm;clear h;generalize af.most bits=M at *;go_enter func30,ntmps30;go_wp2
 go_loop [8] (λi=>∃k:Nat,k<=M/\k<=s.size-a/\i=.int .i64 k/\af.jh (af.from_ s a) (s.size-a) M=af.fO (af.from_ s a) (s.size-a) (M-k) k) (λi=>10-(RowKit.intOf i).toNat)
 case atStart=>exact ⟨0,by omega,by omega,rfl,rfl⟩
 case round =>
  obtain ⟨k,hk,hk2,rfl,hgr⟩:=hrel;have HG:Hid (af.jh (af.from_ s a) (s.size-a) M=af.fO (af.from_ s a) (s.size-a) (M-k) k):=hgr;clear hgr;by_cases h1:k<M
  ·by_cases h2:a+k<s.size
   ·have hf:af.from_ s a k=af.bt s (a+k):=rfl;have hbd:=af.xL s (a+k);by_cases h3:af.bt s (a+k)<128
    ·have hfin:af.jh (af.from_ s a) (s.size-a) M=k+1:=by rw [HG.out];exact af.Ai _ _ _ _ (by omega) (by omega) h3
     clear HG hf;go_wp2;go_ret;exact ⟨rfl,rfl⟩
    have hfin:af.jh (af.from_ s a) (s.size-a) M=af.fO (af.from_ s a) (s.size-a) (M-(k+1)) (k+1):=by rw [HG.out];exact af.zf _ _ _ _ (by omega) (by omega) h3
    have HF:Hid (af.jh (af.from_ s a) (s.size-a) M=af.fO (af.from_ s a) (s.size-a) (M-(k+1)) (k+1)):=hfin;clear HG hf hfin;go_wp2
    go_round
    case rel=>exact ⟨k+1,by omega,by omega,by go_num,HF.out⟩
    case measure=>simp [RowKit.intOf];omega
   have hfin:af.jh (af.from_ s a) (s.size-a) M=0:=by rw [HG.out];exact af.M0 _ _ _ _ (by omega)
   clear HG;go_wp2;go_ret;exact ⟨rfl,rfl⟩
  have hfin:af.jh (af.from_ s a) (s.size-a) M=0:=by rw [HG.out,show M-k=0 by omega];rfl
  clear HG;go_wp2;go_ret;exact ⟨rfl,rfl⟩
theorem start_eq {f:Nat->Int} {k:Nat} {V:Int} (h:af.val f k=V):af.val f k+128 ^ k*0=V:=by rw [Int.mul_zero,Int.add_zero];exact h
theorem adO (N b:Int):bits .or .u64 (IntKind.u64.wrap (af.eB N*128)) (b%128)=af.eB (N*128+b%128):=by
 have hb:0<=b%128/\b%128<128:=by omega
 have e:IntKind.u64.wrap (af.eB N*128)=af.eB (af.eB N*128):=by rw [IntKind.wrap_u64];rfl
 have h1:=af.GH (af.eB N*128);rw [e,af.acV 7 _ _ h1.1 h1.2 (af.Zr _) hb.1 (by simpa using hb.2) (by omega)];exact af.Zq N _ hb.1 hb.2
theorem Ke {k:IntKind} {a b c a' b' c':Int} (h:(a,b,c)=(a',b',c')):Ending.returned (.tuple #[.int k a,.int .i64 b,.int .i64 c])=.returned (.tuple #[.int k a',.int .i64 b',.int .i64 c']):=by
 simp only [Prod.mk.injEq] at h;rw [h.1,h.2.1,h.2.2]
theorem c15 (s : AH) (a bits : Int) (w : AG) (hs : s.size ≤ 140737488351232) :
    Calls prog 14 #[.string s, .int .i64 a, .int .i64 bits] w λe w' =>
      e = .returned (.tuple #[.int .u64 (af.ig s a bits).1, .int .i64 (af.ig s a bits).2.1, .int .i64 (af.ig s a bits).2.2]) ∧ w' = w := by
  by_cases fQ : af.asks s.size a bits = true
  · have hq := af.DJ fQ
    obtain ⟨oh, ha0, ha1⟩ := hq;obtain ⟨a, rfl⟩ := Int.eq_ofNat_of_zero_le ha0;have hread : af.ig s a bits = af.mK (af.from_ s a) (af.jh (af.from_ s a) (s.size - a) (af.most bits)) a bits := by unfold af.ig; rw [AE fQ, Int.toNat_natCast]; rfl
    rw [hread];have hg := af.get_bt s;have ha : a ≤ s.size := by omega
    have SF : Hid (af.asks s.size a bits = true) := fQ;have hks := af.DF (af.from_ s a) (s.size - a) (af.most bits);have SG := IZ s a bits w hs ha oh;clear hread ha0 ha1 fQ;generalize af.jh (af.from_ s a) (s.size - a) (af.most bits) = k at *;have hC := ng SG;clear SG;by_cases hbad : k = 0 ∨ (bits = 32 ∧ 4294967295 < af.val (af.from_ s a) k) ∨ (k = 10 ∧ 1 < af.from_ s a 9)
    · have hfin : af.mK (af.from_ s a) k a bits = (0, 0, 10) := by unfold af.mK; rw [AE hbad]
      rw [hfin]
      have qL : k = 0 ∨ (bits = 32 ∧ k = 5 ∧ 15 < af.bt s (a + 4) ∧ a + 4 < s.size) ∨ (bits = 64 ∧ k = 10 ∧ 1 < af.bt s (a + 9) ∧ a + 9 < s.size) := by
        by_cases hk0 : k = 0
        · exact .inl hk0
        obtain ⟨k1, k2, k3, k4, k5⟩ := hks hk0;rcases hbad with h | ⟨rfl, h⟩ | ⟨rfl, h⟩
        · exact .inl h
        · have hm : k ≤ 5 := k2
          have hk : k = 5 := by
            rcases Nat.lt_or_ge k 5 with h' | h'
            · have := af.OT (af.from_ s a) k (by omega); omega
            omega
          subst hk;have hbd := af.AO s a 4;exact .inr (.inl ⟨rfl, rfl, (af.OW _ hbd.1 k4).1 h, by omega⟩)
        rcases oh with rfl | rfl
        · exact absurd k2 (by decide)
        exact .inr (.inr ⟨rfl, rfl, h, by omega⟩)
      clear hbad hfin hks oh;rcases qL with rfl | ⟨rfl, rfl, h1, h2⟩ | ⟨rfl, rfl, h1, h2⟩
      all_goals
        go_enter func14, ntmps14;go_wp2_with fail;refine (Di _ _ _ _).mono ?_;rintro e w' ⟨rfl, rfl⟩;rw [SF.out];go_wp2_with fail;refine (fP hC).mono ?_;rintro e w' ⟨rfl, rfl⟩;go_wp2;go_ret3;exact ⟨rfl, rfl⟩
    have hfin : af.mK (af.from_ s a) k a bits = (af.val (af.from_ s a) k, (a : Int) + (k : Int), 0) := by unfold af.mK; rw [AD hbad]
    rw [hfin];have hk0 : k ≠ 0 := λh => hbad (.inl h);obtain ⟨k1, k2, k3, k4, k5⟩ := hks hk0;have hsum : (a : Int) + k ≤ s.size := by omega
    have vo : k ≤ 10 := by rcases oh with rfl | rfl <;> exact eU k2 (by decide)
    have hv : af.val (af.from_ s a) k ≤ 18446744073709551615 := by
      by_cases h10 : k = 10
      · subst h10
        have hbd := af.AO s a 9;exact af.OX _ hbd.1 (by have := λh => hbad (.inr (.inr ⟨rfl, h⟩)); omega)
      have := af.uZ (af.from_ s a) k (by omega); omega
    have qL : (bits = 32 ∧ ((k = 5 ∧ af.bt s (a + 4) ≤ 15 ∧ a + 4 < s.size) ∨ k < 5)) ∨ (bits = 64 ∧ (k = 5 ∨ (k = 10 ∧ af.bt s (a + 9) ≤ 1 ∧ a + 9 < s.size) ∨ ((k : Int) ≠ 5 ∧ (k : Int) ≠ 10))) := by
      rcases oh with rfl | rfl
      · have hm : k ≤ 5 := k2
        by_cases h5 : k = 5
        · subst h5
          have hbd := af.AO s a 4;have h4 : ¬ 15 < af.from_ s a 4 := λh => hbad (.inr (.inl ⟨rfl, (af.OW _ hbd.1 k4).2 h⟩))
          exact .inl ⟨rfl, .inl ⟨rfl, by have : af.from_ s a 4 = af.bt s (a + 4) := rfl
                                         omega, by omega⟩⟩
        exact .inl ⟨rfl, .inr (by omega)⟩
      by_cases h5 : k = 5
      · exact .inr ⟨rfl, .inl h5⟩
      by_cases h10 : k = 10
      · have h9 : ¬ 1 < af.from_ s a 9 := λh => hbad (.inr (.inr ⟨h10, h⟩))
        exact .inr ⟨rfl, .inr (.inl ⟨h10, by have : af.from_ s a 9 = af.bt s (a + 9) := rfl
                                             omega, by omega⟩)⟩
      exact .inr ⟨rfl, .inr (.inr (by omega))⟩
    clear hbad hfin hks oh k2 k4 k5;have afD : ((k : Int)==0) = false := by simp; omega
    have hv0 := (af.xf (af.from_ s a) k).1;generalize hV : af.val (af.from_ s a) k = V at *;have HV := ng hV;clear hV
    have adP : (bits = 32 ∧ ((k = 5 ∧ decide (15 < af.bt s (a + 4)) = false ∧ a + 4 < s.size) ∨ (((k : Int)==5) = false ∧ ((k : Int)==10) = false))) ∨ (bits = 64 ∧ (k = 5 ∨ (k = 10 ∧ decide (1 < af.bt s (a + 9)) = false ∧ a + 9 < s.size) ∨ (((k : Int)==5) = false ∧ ((k : Int)==10) = false))) := by
      simp only [decide_eq_false_iff_not, wY];omega
    clear qL hk0;rcases adP with ⟨rfl, ⟨rfl, h1, h2⟩ | ⟨h1, h2⟩⟩ | ⟨rfl, rfl | ⟨rfl, h1, h2⟩ | ⟨h1, h2⟩⟩
    all_goals
      go_enter func14, ntmps14;go_wp2_with fail;refine (Di _ _ _ _).mono ?_;rintro e w' ⟨rfl, rfl⟩;rw [SF.out];go_wp2_with fail;refine (fP hC).mono ?_;rintro e w' ⟨rfl, rfl⟩;go_wp2
      go_loop [10, 11] (λx i => ∃ (j : Nat) (N : Int), a + j ≤ s.size ∧ j ≤ 10 ∧ i = .int .i64 ((j : Int) - 1) ∧ x = .int .u64 (af.eB N) ∧ af.val (af.from_ s a) j + 128 ^ j * N = V) (λ_ i => (RowKit.intOf i + 1).toNat)
      case atStart =>
        refine ⟨_, 0, ?_, ?_, ?_, rfl, start_eq (fP HV)⟩
        · omega
        · omega
        go_num
      case round =>
        obtain ⟨j, N, hj1, hj2, rfl, rfl, hN⟩ := hrel;have HN := ng hN;clear hN;by_cases hj : j = 0
        · subst hj
          have SH := (fP HN);simp only [af.val, Int.pow_zero, Int.one_mul, Int.zero_add] at SH;subst SH;clear HN;go_wp2;go_ret3;exact ⟨Ke (by rw [af.Ah hv0 hv]), rfl⟩
        obtain ⟨j, rfl⟩ : ∃ j', j = j' + 1 := ⟨j - 1, by omega⟩;have hbd := af.xL s (a + j);have hmk := af.KG _ hbd.1 hbd.2;have hlow := af.GH N;go_wp2
        go_round
        case rel => exact ⟨j, N * 128 + af.bt s (a + j) % 128, by omega, by omega, rfl, by rw [adO], (af.DG (af.from_ s a) j N).symm.trans (fP HN)⟩
        case measure => simp [RowKit.intOf]
  have Bn : af.asks s.size a bits = false := by simpa using fQ
  have hread : af.ig s a bits = (0, 0, 1) := by unfold af.ig; rw [Bn]; rfl
  rw [hread];clear hread fQ;go_enter func14, ntmps14;go_wp2_with fail;refine (Di _ _ _ _).mono ?_;rintro e w' ⟨rfl, rfl⟩;go_wp2;go_ret3;exact ⟨rfl, rfl⟩
theorem adl {a b:Int} {p p' q q':Bool} (h:a=b) (h':p=p') (h'':q=q'):Ending.returned (.tuple #[.int .u8 a,.bool p,.bool q])=.returned (.tuple #[.int .u8 b,.bool p',.bool q']):=by rw [h,h',h'']
theorem UB (ba bs:Nat) (t:AH) (w:AG) (hs:w.cell? ⟨bs,0,none⟩=some (.string t)) (ha:w.cell? ⟨ba,0,none⟩=some (.int .i64 t.size)) :
  Calls prog 127 #[.pointer (some ⟨ba,0,none⟩),.pointer (some ⟨bs,0,none⟩)] w λe w'=>e=.returned (.tuple #[.int .u8 0,.bool false,.bool false])/\w'=w:=by
 go_enter func127,ntmps127;go_wp2;go_ret3;exact ⟨rfl,rfl⟩
theorem MZ (ba bs k:Nat) (t:AH) (q:Bool) (w:AG) (hlen:t.size<=140737488351232) (hs:w.cell? ⟨bs,0,none⟩=some (.string t)) (ha:w.cell? ⟨ba,0,none⟩=some (.int .i64 k)) (hf:w.frozen? ⟨ba,0,none⟩=false) (hk:k<t.size)
  (hq:decide (af.bt t k<128)=q) :
  Calls prog 127 #[.pointer (some ⟨ba,0,none⟩),.pointer (some ⟨bs,0,none⟩)] w λe w' =>
   e=.returned (.tuple #[.int .u8 (af.bt t k%128),.bool q,.bool true])/\w'=w.setCell ⟨ba,0,none⟩ (.int .i64 ((k:Int)+1)):=by
 have hg:=af.get_bt t;have hbd:=af.xL t k;have hmk:=af.KG _ hbd.1 hbd.2;have hne:((k:Int)==(t.size:Int))=false:=by simp;omega
 have HQ:=ng hq;clear hq;go_enter func127,ntmps127;go_wp2;go_ret3;exact ⟨adl rfl (fP HQ) rfl,rfl⟩
theorem Pw (s:AH) (a bits:Int) (w:AG) (fQ:af.asks s.size a bits=false) :
  Calls prog 106 #[.string s,.int .i64 a,.int .i64 bits] w λe w' =>
   e=.returned (.tuple #[.agg #[.int .u64 0,.int .i64 0,.int .u8 0],.int .i64 1])/\AS w w':=by
 have hno:=af.Zp fQ;clear fQ
 have qL:((bits != 32)=true/\(bits != 64)=true)\/(((bits != 32)=false\/((bits != 32)=true/\(bits != 64)=false))/\(a<0\/(0<=a/\(s.size:Int)<a))):=by
  simp only [bne_iff_ne,bne_eq_false_iff_eq];omega
 clear hno;rcases qL with ⟨h1,h2⟩|⟨h1|⟨h1,h2⟩,h3|⟨h3,h4⟩⟩
 all_goals
  go_enter func106,ntmps106;go_wp2;exact bodyPost_ret (v:=.tuple #[.agg #[.int .u64 0,.int .i64 0,.int .u8 0],.int .i64 1]) (by simp [results,results106,go_sem]) rfl ⟨rfl,by first|exact ((AC _ _).alloc (aC _) _)⟩
theorem IG (t:AH) (w:AG) :
  Calls prog 117 #[.string t] w λe w' =>
   e=.returned (.func (.func 127) #[] #[.pointer (some ⟨w.heap.size+1,0,none⟩),.pointer (some ⟨w.heap.size,0,none⟩)])/\w'=(w.alloc (.cells #[.string t] 9)).alloc (.cells #[.int .i64 0] 3):=by
 go_enter func117,ntmps117;go_wp2;go_ret;exact ⟨rfl,rfl⟩
theorem ZV (s:AH) (a i:Nat) (ha:a<=s.size):af.bt (s.extract a s.size) i=af.from_ s a i:=by
 unfold af.from_ af.bt;have hsz:(s.extract a s.size).size=s.size-a:=by simp [ByteArray.size_extract]
 by_cases h:a+i<s.size
 ·rw [dif_pos (by omega),dif_pos h];simp [ByteArray.getElem_extract]
 rw [dif_neg (by omega),dif_neg h]
theorem Ux (f:Nat->Int) (k:Nat) (hk:k<=9):Go.bits .or .u64 (af.val f k) (IntKind.u64.wrap (f k%128*2 ^ (7*k)))=af.eB (af.val f (k+1)):=by
 have hv:=af.xf f k;have hg:0<=f k%128/\f k%128<=127:=by omega
 have hkk:k=0\/k=1\/k=2\/k=3\/k=4\/k=5\/k=6\/k=7\/k=8\/k=9:=by omega
 have e:af.val f (k+1)=af.val f k+128 ^ k*(f k%128):=rfl;rw [e,IntKind.wrap_u64];unfold af.eB;generalize af.val f k=v at *;generalize f k%128=g at *;clear e;rcases hkk with rfl|rfl|rfl|rfl|rfl|rfl|rfl|rfl|rfl|rfl
 all_goals
  simp only [Int.reducePow,Nat.reduceMul,Int.mul_one,Int.one_mul] at hv ⊢
 ·rw [af.nJ 0 _ _ (by omega) (by omega) (by simp only [Int.reducePow];omega) (by omega) (by simp only [Int.reducePow];omega) (by omega)];omega
 ·rw [af.nJ 7 _ _ (by omega) (by omega) (by simp only [Int.reducePow];omega) (by omega) (by simp only [Int.reducePow];omega) (by omega)];omega
 ·rw [af.nJ 14 _ _ (by omega) (by omega) (by simp only [Int.reducePow];omega) (by omega) (by simp only [Int.reducePow];omega) (by omega)];omega
 ·rw [af.nJ 21 _ _ (by omega) (by omega) (by simp only [Int.reducePow];omega) (by omega) (by simp only [Int.reducePow];omega) (by omega)];omega
 ·rw [af.nJ 28 _ _ (by omega) (by omega) (by simp only [Int.reducePow];omega) (by omega) (by simp only [Int.reducePow];omega) (by omega)];omega
 ·rw [af.nJ 35 _ _ (by omega) (by omega) (by simp only [Int.reducePow];omega) (by omega) (by simp only [Int.reducePow];omega) (by omega)];omega
 ·rw [af.nJ 42 _ _ (by omega) (by omega) (by simp only [Int.reducePow];omega) (by omega) (by simp only [Int.reducePow];omega) (by omega)];omega
 ·rw [af.nJ 49 _ _ (by omega) (by omega) (by simp only [Int.reducePow];omega) (by omega) (by simp only [Int.reducePow];omega) (by omega)];omega
 ·rw [af.nJ 56 _ _ (by omega) (by omega) (by simp only [Int.reducePow];omega) (by omega) (by simp only [Int.reducePow];omega) (by omega)];omega
 rw [af.nJ 63 _ _ (by omega) (by omega) (by simp only [Int.reducePow];omega) (by omega) (by simp only [Int.reducePow];omega) (by omega)];omega
structure qp (B:Nat) (w wr:AG) (t:AH) (k:Nat) (l:Int):Prop where
 out:wr.heap[B]?=some (.cells #[.int .u64 0,.int .i64 0,.int .u8 0] 139 (0,0))
 str:wr.heap[B+1]?=some (.cells #[.string t] 9 (0,0))
 pos:wr.heap[B+1+1]?=some (.cells #[.int .i64 k] 3 (0,0))
 rd:wr.heap[B+1+1+1]?=some (.cells #[.int .u64 l,.int .i64 k,.int .u8 0] 139 (0,0))
 bQ:Below B w wr
theorem CG {w:AG} {b j:Nat} {u:Value} {cs:Array Value} {t:TypeId} (h:w.heap[b]?=some (.cells cs t (0,0))):(w.setCell ⟨b,j,none⟩ u).heap[b]?=some (.cells (cs.setIfInBounds j u) t (0,0)):=by
 simp [World.setCell,Array.getElem?_modify,h]
theorem pJ {w:AG} {b c j:Nat} {u:Value} {x:Obj} (h:w.heap[c]?=some x) (hne:c≠b):(w.setCell ⟨b,j,none⟩ u).heap[c]?=some x:=by
 rw [Below.heap_setCell _ _ _ _ hne];exact h
theorem qp.draws {B:Nat} {w wr:AG} {t:AH} {k:Nat} {l:Int} (h:qp B w wr t k l) (n:Nat):qp B w (wr.drewN n) t k l :=
 ⟨h.out,h.str,h.pos,h.rd,⟨h.bQ.os,h.bQ.tape,h.bQ.output,h.bQ.size,h.bQ.block⟩⟩
theorem qp.next {B:Nat} {w wr:AG} {t:AH} {k:Nat} {l:Int} (h:qp B w wr t k l) (l':Int) :
  qp B w (((wr.setCell ⟨B+1+1,0,none⟩ (.int .i64 ((k:Int)+1))).setCell ⟨B+1+1+1,0,none⟩ (.int .u64 l')).setCell ⟨B+1+1+1,1,none⟩ (.int .i64 ((k:Int)+1))) t (k+1) l' :=
 ⟨pJ (pJ (pJ h.out (by omega)) (by omega)) (by omega),pJ (pJ (pJ h.str (by omega)) (by omega)) (by omega),pJ (pJ (CG h.pos) (by omega)) (by omega),
  CG (CG (pJ h.rd (by omega))),((h.bQ.setCell (by show B<=B+1+1;omega) _).setCell (by show B<=B+1+1+1;omega) _).setCell (by show B<=B+1+1+1;omega) _⟩
theorem cell_of {w:AG} {b j:Nat} {cs:Array Value} {t:TypeId} (h:w.heap[b]?=some (.cells cs t (0,0))):w.cell? ⟨b,j,none⟩=cs[j]?:=by simp [World.cell?,h]
theorem tj {w:AG} {b j:Nat} {cs:Array Value} {t:TypeId} (h:w.heap[b]?=some (.cells cs t (0,0))):w.frozen? ⟨b,j,none⟩=false:=by simp [World.frozen?,h]
structure Db (B:Nat) (w wr:AG) (t:AH) (k:Nat) (l:Int):Prop where
 out:wr.heap[B]?=some (.cells #[.int .u64 0,.int .i64 0,.int .u8 0] 139 (0,0))
 str:wr.heap[B+1]?=some (.cells #[.string t] 9 (0,0))
 pos:wr.heap[B+1+1]?=some (.cells #[.int .i64 ((k:Int)+1)] 3 (0,0))
 rd:wr.heap[B+1+1+1]?=some (.cells #[.int .u64 l,.int .i64 k,.int .u8 0] 139 (0,0))
 bQ:Below B w wr
theorem qp.mid {B:Nat} {w wr:AG} {t:AH} {k:Nat} {l:Int} (h:qp B w wr t k l) (l':Int) (n:Nat) :
  Db B w (((wr.drewN n).setCell ⟨B+1+1,0,none⟩ (.int .i64 ((k:Int)+1))).setCell ⟨B+1+1+1,0,none⟩ (.int .u64 l')).drew t k l' :=
 ⟨pJ (pJ h.out (by omega)) (by omega),pJ (pJ h.str (by omega)) (by omega),pJ (CG h.pos) (by omega),
  CG (pJ h.rd (by omega)),Below.drew (((h.draws n).bQ.setCell (by show B<=B+1+1;omega) _).setCell (by show B<=B+1+1+1;omega) _)⟩
theorem Db.next {B:Nat} {w wr:AG} {t:AH} {k:Nat} {l:Int} (h:Db B w wr t k l):qp B w (wr.setCell ⟨B+1+1+1,1,none⟩ (.int .i64 ((k:Int)+1))) t (k+1) l :=
 ⟨pJ h.out (by omega),pJ h.str (by omega),pJ h.pos (by omega),CG h.rd,h.bQ.setCell (by show B<=B+1+1+1;omega) _⟩
def ze (f:Nat->Int) (k:Nat):Value :=
 if k=0 then .tuple #[.agg #[.int .u64 0,.int .i64 0,.int .u8 0],.int .i64 10] else .tuple #[.agg #[.int .u64 (af.eB (af.val f k)),.int .i64 k,.int .u8 (f (k-1))],.int .i64 0]
theorem FV {f:Nat->Int} {k:Nat} (h:k=0):ze f k=.tuple #[.agg #[.int .u64 0,.int .i64 0,.int .u8 0],.int .i64 10]:=by unfold ze;rw [AE h]
theorem Uy {f:Nat->Int} {k n:Nat} (h:k=n+1) (hf:0<=f n/\f n<128):ze f k=.tuple #[.agg #[.int .u64 (af.eB (af.val f (n+1))),.int .i64 ((n:Int)+1),.int .u8 (f n%128)],.int .i64 0]:=by
 subst h;unfold ze;rw [AD (by omega),Nat.add_sub_cancel,show f n%128=f n by omega];rfl
theorem wT {w:AG} {o x:Obj} {b:Nat} (h:w.heap[b]?=some x):(w.alloc o).heap[b]?=some x:=by
 rw [Below.heap_alloc _ _ _ (lt_of_block h)];exact h
theorem mV (w:AG) (o:Obj) {b:Nat} (h:b=w.heap.size):(w.alloc o).heap[b]?=some o:=by
 subst h;show (w.heap.push o)[w.heap.size]?=_;simp
theorem qp.start (w:AG) (t:AH) :
  qp w.heap.size w ((((w.alloc (.cells #[.int .u64 0,.int .i64 0,.int .u8 0] 139)).alloc (.cells #[.string t] 9)).alloc (.cells #[.int .i64 0] 3)).alloc (.cells #[.int .u64 0,.int .i64 0,.int .u8 0] 139)) t 0 (af.eB (af.val (af.bt t) 0)) :=
 ⟨wT (wT (wT (mV _ _ rfl))),wT (wT (mV _ _ (by simp))),wT (mV _ _ (by simp)),mV _ _ (by simp),
  ((((AC _ _).alloc (aC _) _).alloc (by simp) _).alloc (by simp;omega) _).alloc (by simp;omega) _⟩
theorem qp.lower {B:Nat} {w wr wr':AG} {t:AH} {k:Nat} {l l':Int} (h:qp B w wr t k l) (h':qp B w wr' t (k+1) l') (hk:k<10) :
  10-(RowKit.intOf ((wr'.cell? ⟨B+1+1,0,none⟩).getD (.int .i64 0))).toNat<10-(RowKit.intOf ((wr.cell? ⟨B+1+1,0,none⟩).getD (.int .i64 0))).toNat:=by
 rw [cell_of h.pos,cell_of h'.pos];simp [RowKit.intOf];omega
theorem vg {B b j:Nat} {w wr:AG} {u:Value} (h:Below B w wr) (hb:B<=b):Below B w (wr.setCell ⟨b,j,none⟩ u):=h.setCell hb u
theorem IV {a b:Value} (h:b=a):Ending.returned a=.returned b:=by rw [h]
end Go.Proofs.YtcfifbgemfladaaGreatDoor
