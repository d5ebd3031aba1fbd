/- Texts that the claim needs. -/
import Derived.Test.YtcfifbgemfladaaGreatDoorQDPa0
import Derived.WalkKit
import Derived.Laws.BitsAllLaws
import Derived.Test.YtcfifbgemfladaaGreatDoorRows
import Derived.WalkSpells
import Derived.BigQuiet
import Derived.Deep.QuietTactic
import Derived.Laws.BytesArg
import Derived.WalkSmall
namespace Go.Proofs.YtcfifbgemfladaaGreatDoor
open Go.RowKit au aI
set_option linter.unusedVariables false
namespace aI
theorem RQ (s:AH) (a:Nat) (h:(af.ig s a 32).2.2=0):(a:Int)<(af.ig s a 32).2.1/\(af.ig s a 32).2.1<=s.size/\0<=(af.ig s a 32).1/\(af.ig s a 32).1<=4294967295:=by
 unfold af.ig at h ⊢;by_cases fQ:af.asks s.size a 32=true
 ·rw [AE fQ] at h ⊢;unfold af.OU at h ⊢;have hq:=af.DJ fQ;have hg:=af.DF (af.from_ s (a:Int).toNat) (s.size-(a:Int).toNat) (af.most 32);generalize af.jh (af.from_ s (a:Int).toNat) (s.size-(a:Int).toNat) (af.most 32)=k at *;unfold af.mK at h ⊢;split at h
  ·exact absurd h (by decide)
  rename_i hc;rw [AD hc];have hk:k≠0:=λe=>hc (.inl e);obtain ⟨h1,h2,h3,_⟩:=hg hk;have hv:=(af.xf (af.from_ s (a:Int).toNat) k).1;have hm:¬ 4294967295<af.val (af.from_ s (a:Int).toNat) k:=λe=>hc (.inr (.inl ⟨rfl,e⟩));exact ⟨by show (a:Int)<(a:Int)+k;omega,by show (a:Int)+k<=s.size;omega,hv,by omega⟩
 rw [AD fQ] at h;exact absurd h (by decide)
theorem Jj (s:AH) (a:Nat) (bits:Int) (h:(af.jW s a bits).2.2=0):(a:Int)<(af.jW s a bits).2.1/\(af.jW s a bits).2.1<=s.size/\-9223372036854775808<=(af.jW s a bits).1/\(af.jW s a bits).1<=9223372036854775807/\(bits=32->-2147483648<=(af.jW s a bits).1/\(af.jW s a bits).1<=2147483647):=by
 unfold af.jW at h ⊢;by_cases fQ:af.asks s.size a bits=true
 ·rw [AE fQ] at h ⊢;unfold af.OV at h ⊢;have hq:=af.DJ fQ;have hg:=af.DF (af.from_ s (a:Int).toNat) (s.size-(a:Int).toNat) (af.most bits);have afE:af.most bits<=10:=by rcases hq.1 with rfl|rfl<;>decide
  generalize af.jh (af.from_ s (a:Int).toNat) (s.size-(a:Int).toNat) (af.most bits)=k at *;unfold af.rV at h ⊢;split at h
  ·exact absurd h (by decide)
  rename_i hc;rw [AD hc];have hk:k≠0:=λe=>hc (.inl e);obtain ⟨h1,h2,h3,_⟩:=hg hk
  have h9:k=10->af.from_ s (a:Int).toNat 9=0\/af.from_ s (a:Int).toNat 9=127:=λe=>by
   by_cases h0:af.from_ s (a:Int).toNat 9=0
   ·exact .inl h0
   by_cases h7:af.from_ s (a:Int).toNat 9=127
   ·exact .inr h7
   exact absurd (.inr (.inr ⟨e,h0,h7⟩)) hc
  have hb:=af.Zt (af.from_ s (a:Int).toNat) k h1 (by
   by_cases e:k=10
   ·exact .inr ⟨e,h9 e⟩
   exact .inl (by omega))
  refine ⟨by show (a:Int)<(a:Int)+k;omega,by show (a:Int)+k<=s.size;omega,hb.1,hb.2,λe=>?_⟩;have h32:¬ (af.qC (af.from_ s (a:Int).toNat) k < -2147483648\/2147483647<af.qC (af.from_ s (a:Int).toNat) k):=λh=>hc (.inr (.inl ⟨e,h⟩));show -2147483648<=af.qC (af.from_ s (a:Int).toNat) k/\af.qC (af.from_ s (a:Int).toNat) k<=2147483647;omega
 rw [AD fQ] at h;exact absurd h (by decide)
theorem Fp {s:AH} {en i:Nat} {x:Int} {j:Nat} (h:nx s en i=.ok (x,j)):j=i+1/\i<en/\0<=x/\x<=255:=by
 unfold nx at h;split at h
 ·injection h with h;injection h with h1 h2
  have:=af.xL s i
  subst h1;exact ⟨h2.symm,by assumption,this.1,this.2⟩
 cases h
theorem tu {s:AH} {en i:Nat} {x:Int} {j:Nat} (he:en<=s.size) (h:ru s en i=.ok (x,j)):i<j/\j<=en/\0<=x/\x<=4294967295:=by
 unfold ru at h;split at h
 ·rename_i h0;obtain ⟨h1,h2,h3,h4⟩:=RQ _ i h0;injection h with h;injection h with h5 h6;rw [ByteArray.size_extract] at h2;subst h5;exact ⟨by omega,by omega,h3,h4⟩
 cases h
theorem aee {s:AH} {en i:Nat} {bits x:Int} {j:Nat} (he:en<=s.size) (h:rs s en bits i=.ok (x,j)):i<j/\j<=en/\-9223372036854775808<=x/\x<=9223372036854775807/\(bits=32->-2147483648<=x/\x<=2147483647):=by
 unfold rs at h;split at h
 ·rename_i h0;obtain ⟨h1,h2,h3,h4,h7⟩:=Jj _ i bits h0;injection h with h;injection h with h5 h6;rw [ByteArray.size_extract] at h2;subst h5;exact ⟨by omega,by omega,h3,h4,h7⟩
 cases h
theorem pF {α β:Type} {x:R α} {f:α->Nat->R β} {b:β} {m:Nat} (h:bd x f=.ok (b,m)):∃a i,x=.ok (a,i)/\f a i=.ok (b,m):=by
 unfold bd at h;cases x with
 | error e=>cases h
 | ok v=>obtain ⟨a,i⟩:=v;exact ⟨a,i,rfl,h⟩
theorem kP {α β:Type} {x:R2 α} {f:α->Nat->Nat->R2 β} {b:β} {m n:Nat} (h:fU x f=.ok (b,m,n)):∃a i k,x=.ok (a,i,k)/\f a i k=.ok (b,m,n):=by
 unfold fU at h;cases x with
 | error e=>cases h
 | ok v=>obtain ⟨a,i,k⟩:=v;exact ⟨a,i,k,rfl,h⟩
theorem vF {α:Type} {x:R α} {n:Nat} {a:α} {m k:Nat} (h:lift x n=.ok (a,m,k)):x=.ok (a,m)/\k=n:=by
 unfold lift at h;cases x with
 | error e=>cases h
 | ok v=>obtain ⟨b,i⟩:=v;injection h with h;injection h with h1 h2;injection h2 with h2 h3;subst h1 h2;exact ⟨rfl,h3.symm⟩
theorem Te {s:AH} {en i:Nat} {b:Int} {u:Unit} {j:Nat} (h:must s en b i=.ok (u,j)):j=i+1/\i<en/\af.bt s i=b:=by
 obtain ⟨x,m,h1,h2⟩:=pF h;have h3:=Fp h1;split at h2
 ·rename_i hx;injection h2 with h2;injection h2 with _ h2;unfold nx at h1;rw [AE h3.2.1] at h1;injection h1 with h1;injection h1 with h1 _;exact ⟨by omega,h3.2.1,h1.trans hx⟩
 cases h2
theorem aef {b x:Int} {i j:Nat} (h:pg b i=.ok (x,j)):x=b/\j=i/\(x=126\/x=127):=by
 unfold pg at h;split at h
 ·cases h
 split at h
 ·injection h with h;injection h with h1 h2;subst h1 h2;exact ⟨rfl,rfl,by omega⟩
 cases h
theorem aeg {s:AH} {en i:Nat} {x:Int} {j:Nat} (h:AR s en i=.ok (x,j)):j=i+1/\i<en/\(x=0\/x=126\/x=127):=by
 obtain ⟨b,m,h1,h2⟩:=pF h;have h3:=Fp h1;split at h2
 ·injection h2 with h2;injection h2 with h4 h5;exact ⟨by omega,h3.2.1,.inl h4.symm⟩
 have:=aef h2;exact ⟨by omega,h3.2.1,.inr this.2.2⟩
theorem rW {s:AH} {en i:Nat} {x:Int} {j:Nat} (he:en<=s.size) (h:rc s en i=.ok (x,j)):i<j/\j<=en/\0<=x/\x<=4096:=by
 obtain ⟨b,m,h1,h2⟩:=pF h;have h3:=tu he h1;split at h2
 ·injection h2 with h2;injection h2 with h4 h5;subst h4 h5;exact ⟨h3.1,h3.2.1,h3.2.2.1,by assumption⟩
 cases h2
theorem Tf {s:AH} {en:Nat} (he:en<=s.size):∀(k i:Nat) (l:List Int) (j:Nat),i<=en->rep (ru s en) k i=.ok (l,j)->i<=j/\j<=en/\l.length=k/\∀x ∈ l,0<=x/\x<=4294967295
 | 0,i,l,j,hi,h=>by injection h with h;injection h with h1 h2;subst h1 h2;exact ⟨aC _,hi,rfl,λx hx=>by cases hx⟩
 | k+1,i,l,j,hi,h=>by
  obtain ⟨x,m,h1,h2⟩:=pF h;obtain ⟨r,q,h3,h4⟩:=pF h2;have h5:=tu he h1;have h6:=Tf he k m r q h5.2.1 h3;injection h4 with h4;injection h4 with h7 h8;subst h7 h8;refine ⟨by omega,h6.2.1,by simp [h6.2.2.1],λy hy=>?_⟩;rcases lI.1 hy with rfl|hy
  ·exact h5.2.2
  exact h6.2.2.2 y hy
theorem aeh {s:AH} {en i:Nat} {l:List Int} {j:Nat} (he:en<=s.size) (h:rl s en i=.ok (l,j)):i<j/\j<=en/\l.length<=4096/\∀x ∈ l,0<=x/\x<=4294967295:=by
 obtain ⟨n,m,h1,h2⟩:=pF h;have h3:=rW he h1;have h4:=Tf he _ m l j h3.2.1 h2;exact ⟨by omega,h4.2.1,by omega,h4.2.2.2⟩
theorem aei {α:Type} {z:α} {s:AH} {en:Nat} {op:Int} {i:Nat} {x:Ins α} {j:Nat} (he:en<=s.size) (hi:i<=en) (h:gh z s en op i=.ok (x,j)):i<=j/\j<=en:=by
 unfold gh at h;simp only at h;split at h
 ·split at h
  ·obtain ⟨u,m,h1,h2⟩:=pF h
   have:=Te h1
   injection h2 with h2;injection h2 with _ h2;omega
  injection h with h;injection h with _ h;omega
 split at h
 ·obtain ⟨u,m,h1,h2⟩:=pF h
  have:=tu he h1
  injection h2 with h2;injection h2 with _ h2;omega
 split at h
 ·obtain ⟨u,m,h1,h2⟩:=pF h
  have:=aeh he h1
  obtain ⟨u,q,h3,h4⟩:=pF h2
  have:=tu he h3
  injection h4 with h4;injection h4 with _ h4;omega
 split at h
 ·obtain ⟨u,m,h1,h2⟩:=pF h
  have:=tu he h1
  obtain ⟨u,q,h3,h4⟩:=pF h2
  have:=Te h3
  injection h4 with h4;injection h4 with _ h4;omega
 split at h
 ·obtain ⟨u,m,h1,h2⟩:=pF h
  have:=tu he h1
  obtain ⟨u,q,h3,h4⟩:=pF h2
  have:=tu he h3
  injection h4 with h4;injection h4 with _ h4;omega
 split at h
 ·obtain ⟨u,m,h1,h2⟩:=pF h
  have:=aee he h1
  injection h2 with h2;injection h2 with _ h2;omega
 injection h with h;injection h with _ h;omega
def Fj {α:Type} (en:Nat) (f:Nat->Nat->R2 α):Prop:=∀i n a j m,i<=en->f i n=.ok (a,j,m)->i<j/\j<=en
theorem aej {α:Type} {z:α} {s:AH} {en:Nat} {sub:Nat->Nat->R2 (α × Int)} (hs:Fj en sub) {op:Int} {i n:Nat} {x:Ins α} {j m:Nat} (h:vD z s en sub op i n=.ok (x,j,m)):i<j/\j<=en:=by
 unfold vD at h;obtain ⟨a,i1,n1,h1,h⟩:=kP h;have h2:=aeg (vF h1).1;obtain ⟨b,i2,n2,h3,h⟩:=kP h;have h4:=hs _ _ _ _ _ (by omega) h3;split at h
 ·obtain ⟨c,i3,n3,h5,h⟩:=kP h;have h6:=hs _ _ _ _ _ h4.2 h5;split at h
  ·injection h with h;injection h with _ h;injection h with h _;omega
  cases h
 split at h
 ·injection h with h;injection h with _ h;injection h with h _;omega
 cases h
theorem SA {d:Nat} {sub:Nat->Nat->R2 (IL d × Int)} {s:AH} {en dep:Nat} (he:en<=s.size) (hs:Fj en sub) {op:Int} {i n:Nat} {x:Ins (IL d)} {j m:Nat} (hi:i<=en) (h:pq sub s en dep op i n=.ok (x,j,m)):i<=j/\j<=en:=by
 unfold pq at h;split at h
 ·cases h
 split at h
 ·have:=aej hs h;omega
 exact aei he hi (vF h).1
theorem Tg {d:Nat} {sub:Nat->Nat->R2 (IL d × Int)} {s:AH} {en dep:Nat} (he:en<=s.size) (hs:Fj en sub):∀(f i n:Nat) (a:List (Ins (IL d)) × Int) (j m:Nat),i<=en->jN sub s en dep f i n=.ok (a,j,m)->i<j/\j<=en
 | 0,_,_,_,_,_,_,h=>by cases h
 | f+1,i,n,a,j,m,hi,h=>by
  unfold jN at h;obtain ⟨op,i1,n1,h1,h⟩:=kP h;have h2:=Fp (vF h1).1;split at h
  ·injection h with h;injection h with _ h;injection h with h _;omega
  obtain ⟨x,i2,n2,h3,h⟩:=kP h;have h4:=SA he hs (by omega) h3;obtain ⟨r,i3,n3,h5,h⟩:=kP h;have h6:=Tg he hs f i2 n2 r i3 n3 h4.2 h5;injection h with h;injection h with _ h;injection h with h _;omega
theorem Sz {s:AH} {en:Nat} (he:en<=s.size):∀d dep,Fj en (jX s en d dep)
 | 0,dep=>λi n a j m hi h=>by
  obtain ⟨op,i1,n1,h1,h⟩:=kP h;have h2:=Fp (vF h1).1;split at h
  ·injection h with h;injection h with _ h;injection h with h _;omega
  cases h
 | d+1,dep=>λi n a j m hi h=>Tg he (Sz he d (dep+1)) _ i n a j m hi h
end aI
end Go.Proofs.YtcfifbgemfladaaGreatDoor
namespace Go.Proofs.YtcfifbgemfladaaGreatDoor
namespace af
theorem CN:∀(f:Nat) (n:Int),0<=n->n.toNat<=f->∀x ∈ uB n,0<=x/\x<=255
 | 0,n,h0,hf,x,hx=>by
  rw [vq h0 (by omega)] at hx;simp at hx;omega
 | f+1,n,h0,hf,x,hx=>by
  by_cases h:n<128
  ·rw [vq h0 h] at hx;simp at hx;omega
  rw [BM (by omega)] at hx;rcases lI.1 hx with rfl|hx
  ·omega
  exact CN f (n / 128) (by omega) (by omega) x hx
theorem CO:∀(f:Nat) (n:Int),n.natAbs<=f->∀x ∈ sB n,0<=x/\x<=255
 | 0,n,hf,x,hx=>by
  rw [qx (by omega)] at hx;simp at hx;omega
 | f+1,n,hf,x,hx=>by
  by_cases h:-64<=n/\n<=63
  ·rw [qx h] at hx;simp at hx;omega
  rw [wN h] at hx;rcases lI.1 hx with rfl|hx
  ·omega
  exact CO f (n / 128) (by omega) x hx
def iE (f:Nat->Int) (i:Nat) (xs:List Int):Prop:=∀j,j<xs.length->f (i+j)=xs.getD j 0
theorem iE.head {f:Nat->Int} {i:Nat} {x:Int} {xs:List Int} (h:iE f i (x :: xs)):f i=x:=by simpa using h 0 (by simp)
theorem iE.tail {f:Nat->Int} {i:Nat} {x:Int} {xs:List Int} (h:iE f i (x :: xs)):iE f (i+1) xs:=λj hj=>by
 have:=h (j+1) (by simpa using hj)
 rw [show i+1+j=i+(j+1) by omega,this];simp
theorem NG (f:Nat->Int) (L:Nat):∀(g:Nat) (n:Int) (i fuel:Nat),0<=n->n.toNat<=g->iE f i (uB n)->i+(uB n).length<=L->fO f L fuel i=if (uB n).length<=fuel then i+(uB n).length else 0:=by
 intro g
 induction g with
 | zero =>
  intro n i fuel h0 hg hl hL;rw [vq h0 (by omega)] at hl hL ⊢
  have:=hl.head
  cases fuel with
  | zero=>simp [fO]
  | succ m=>rw [Ai _ _ _ _ (by omega) (by simp at hL;omega) (by omega)];simp
 | succ g ih =>
  intro n i fuel h0 hg hl hL;by_cases h:n<128
  ·rw [vq h0 h] at hl hL ⊢
   have:=hl.head
   cases fuel with
   | zero=>simp [fO]
   | succ m=>rw [Ai _ _ _ _ (by omega) (by simp at hL;omega) (by omega)];simp
  rw [BM (by omega)] at hl hL ⊢;have hh:=hl.head;cases fuel with
  | zero=>simp [fO]
  | succ m =>
   rw [zf _ _ _ _ (by omega) (by simp at hL;omega) (by omega),Nat.add_sub_cancel,ih (n / 128) (i+1) m (by omega) (by omega) hl.tail (by simp at hL;omega)];simp only [ik];by_cases hm:(uB (n / 128)).length<=m
   ·rw [AE hm,AE (by omega)];omega
   rw [AD hm,AD (by omega)]
theorem NH (f:Nat->Int):∀(g:Nat) (n:Int) (i:Nat),0<=n->n.toNat<=g->iE f i (uB n)->val f (i+(uB n).length)=val f i+128 ^ i*n:=by
 intro g
 induction g with
 | zero =>
  intro n i h0 hg hl;rw [vq h0 (by omega)] at hl ⊢
  have:=hl.head
  show val f i+128 ^ i*(f i%128)=_;rw [this,show n%128=n by omega]
 | succ g ih =>
  intro n i h0 hg hl;by_cases h:n<128
  ·rw [vq h0 h] at hl ⊢
   have:=hl.head
   show val f i+128 ^ i*(f i%128)=_;rw [this,show n%128=n by omega]
  rw [BM (by omega)] at hl ⊢;have hh:=hl.head
  have:=ih (n / 128) (i+1) (by omega) (by omega) hl.tail
  rw [ik,show i+((uB (n / 128)).length+1)=i+1+(uB (n / 128)).length by omega,this,DG,hh];rw [show n / 128*128+(n%128+128)%128=n by omega]
theorem Jl (f:Nat->Int) (L:Nat):∀(g:Nat) (n:Int) (i fuel:Nat),n.natAbs<=g->iE f i (sB n)->i+(sB n).length<=L->fO f L fuel i=if (sB n).length<=fuel then i+(sB n).length else 0:=by
 intro g
 induction g with
 | zero =>
  intro n i fuel hg hl hL;rw [qx (by omega)] at hl hL ⊢
  have:=hl.head
  cases fuel with
  | zero=>simp [fO]
  | succ m=>rw [Ai _ _ _ _ (by omega) (by simp at hL;omega) (by omega)];simp
 | succ g ih =>
  intro n i fuel hg hl hL;by_cases h:-64<=n/\n<=63
  ·rw [qx h] at hl hL ⊢
   have:=hl.head
   cases fuel with
   | zero=>simp [fO]
   | succ m=>rw [Ai _ _ _ _ (by omega) (by simp at hL;omega) (by omega)];simp
  rw [wN h] at hl hL ⊢;have hh:=hl.head;cases fuel with
  | zero=>simp [fO]
  | succ m =>
   rw [zf _ _ _ _ (by omega) (by simp at hL;omega) (by omega),Nat.add_sub_cancel,ih (n / 128) (i+1) m (by omega) hl.tail (by simp at hL;omega)];simp only [ik];by_cases hm:(sB (n / 128)).length<=m
   ·rw [AE hm,AE (by omega)];omega
   rw [AD hm,AD (by omega)]
def sg (c:Int):Int:=if 64<=c%128 then -1 else 0
theorem NI (f:Nat->Int):∀(g:Nat) (n:Int) (i:Nat),n.natAbs<=g->iE f i (sB n)->val f (i+(sB n).length)+128 ^ (i+(sB n).length)*sg (f (i+(sB n).length-1))=val f i+128 ^ i*n:=by
 intro g
 induction g with
 | zero =>
  intro n i hg hl;rw [qx (by omega)] at hl ⊢
  have:=hl.head
  show val f (i+1)+128 ^ (i+1)*sg (f i)=_;rw [DG,this];unfold sg;split<;>congr 2<;>omega
 | succ g ih =>
  intro n i hg hl;by_cases h:-64<=n/\n<=63
  ·rw [qx h] at hl ⊢
   have:=hl.head
   show val f (i+1)+128 ^ (i+1)*sg (f i)=_;rw [DG,this];unfold sg;split<;>congr 2<;>omega
  rw [wN h] at hl ⊢;have hh:=hl.head
  have:=ih (n / 128) (i+1) (by omega) hl.tail
  rw [ik,show i+((sB (n / 128)).length+1)=i+1+(sB (n / 128)).length by omega,this,DG,hh];rw [show n / 128*128+(n%128+128)%128=n by omega]
end af
namespace af
theorem afA (f:Nat->Int) (k:Nat) (a n:Int) (hk:0<k) (vo:k<=10) (hf:0<=f 9/\f 9<128\/k<10) (hv:val f k=n) (hn:n<=18446744073709551615):mK f k a 64=(n,a+k,0):=by
 unfold mK;rw [AD,hv];rintro (h|⟨h,_⟩|⟨rfl,h⟩)
 ·omega
 ·exact absurd h (by decide)
 have h9:=uZ f 9 (by omega);have e:val f 10=val f 9+9223372036854775808*(f 9%128):=rfl;omega
theorem NK (f:Nat->Int) (k:Nat) (a n:Int) (hk:0<k) (vo:k<=10) (hf:0<=f 9/\f 9<128\/k<10) (hv:qC f k=n) (hn0:-9223372036854775808<=n) (hn:n<=9223372036854775807):rV f k a 64=(n,a+k,0):=by
 unfold rV;rw [AD,hv];rintro (h|⟨h,_⟩|⟨rfl,h⟩)
 ·omega
 ·exact absurd h (by decide)
 have h9:=uZ f 9 (by omega);have e:val f 10=val f 9+9223372036854775808*(f 9%128):=rfl;have e2:(128:Int) ^ 10=1180591620717411303424:=by decide
 have e3:qC f 10=val f 10+128 ^ 10*(if 64<=f 9%128 then -1 else 0):=rfl;rw [e,e2] at e3;split at e3<;>omega
theorem Jk {s:AH} {a:Nat} {xs:List Int} (h:∀j,j<xs.length->bt s (a+j)=xs.getD j 0):iE (from_ s a) 0 xs:=λj hj=>by
 rw [Nat.zero_add];exact h j hj
theorem NJ {f:Nat->Int} {g:Nat} {n:Int} (hg:n.natAbs<=g) (hl:iE f 0 (sB n)):f ((sB n).length-1)<128:=by
 have h:=Jl f (sB n).length g n 0 (sB n).length hg hl (by omega);rw [AE (aC _),Nat.zero_add] at h;have hp:=Dw n
 have:=(JQ f (sB n).length (sB n).length 0 (by omega)).2.2.2.1
 rwa [h] at this
theorem Jj (s:AH) (a:Nat) (n:Int) (h0:-9223372036854775808<=n) (h1:n<=9223372036854775807) (hl:∀j,j<(sB n).length->bt s (a+j)=(sB n).getD j 0) (hs:a+(sB n).length<=s.size) :
  jW s a 64=(n,(a:Int)+(sB n).length,0):=by
 have fQ:asks s.size a 64=true:=ay ⟨.inr rfl,by omega,by omega⟩;have hL:=Jk hl;have h10:=BR h0 h1;have hp:=Dw n;have hg:=Jl (from_ s a) (s.size-a) n.natAbs n 0 10 (aC _) hL (by omega);rw [AE h10,Nat.zero_add] at hg;have hv:=NI (from_ s a) n.natAbs n 0 (aC _) hL;rw [Nat.zero_add] at hv;have hlast:=NJ (aC _) hL;unfold jW;rw [AE fQ,Int.toNat_natCast];show rV (from_ s a) (fO (from_ s a) (s.size-a) 10 0) a 64=_;rw [hg];refine NK _ _ _ _ hp h10 ?_ (by show val _ _+_*sg _=_;rw [hv];simp [val]) h0 h1;by_cases hk:(sB n).length=10
 ·left;rw [hk] at hlast;exact ⟨(AO s a 9).1,hlast⟩
 right;omega
theorem NF (x:AH) (n j:Nat) (hj:j<n) (hn:n<=x.size):bt (x.extract 0 n) j=bt x j:=by
 unfold bt;rw [dif_pos (by rw [ByteArray.size_extract];omega),dif_pos (by omega)];simp [ByteArray.getElem_extract]
end af
end Go.Proofs.YtcfifbgemfladaaGreatDoor
namespace Go.Proofs.YtcfifbgemfladaaGreatDoor
open Go.RowKit
namespace af
theorem Lf (p:Nat->Bool) (h:(List.range 256).all p=true) (c:Int) (h0:0<=c) (h1:c<=255):p c.toNat=true:=by
 rw [dN] at h;exact h _ (List.mem_range.2 (by omega))
theorem KG (c:Int) (h0:0<=c) (h1:c<=255):bits .and .u8 c 127=c%128:=by
 have:=Lf (λn=>bits .and .u8 (n:Int) 127==(n:Int)%128) (by decide +kernel) c h0 h1
 simp only [beq_iff_eq] at this;rwa [Int.toNat_of_nonneg h0] at this
theorem C8 (c:Int) (h0:0<=c) (h1:c<=255):bits .or .u8 c 128=c%128+128:=by
 have:=Lf (λn=>bits .or .u8 (n:Int) 128==(n:Int)%128+128) (by decide +kernel) c h0 h1
 simp only [beq_iff_eq] at this;rwa [Int.toNat_of_nonneg h0] at this
theorem acU (c:Int) (h0:0<=c) (h1:c<=255):bits .and .u8 c 64=if 64<=c%128 then 64 else 0:=by
 have:=Lf (λn=>bits .and .u8 (n:Int) 64==if 64<=(n:Int)%128 then 64 else 0) (by decide +kernel) c h0 h1
 simp only [beq_iff_eq] at this;rwa [Int.toNat_of_nonneg h0] at this
theorem acV (i:Nat) (x y:Int) (hx0:0<=x) (hx1:x<=18446744073709551615) (hx:x%2 ^ i=0) (hy0:0<=y) (hy:y<2 ^ i) (hy1:y<=18446744073709551615):bits .or .u64 x y=x+y:=by
 rw [u64_or x y hx0 (by omega) hy0 (by omega),nat_join i]
 ·omega
 ·have:((x.toNat%2 ^ i:Nat):Int)=0:=by rw [Int.natCast_emod,Int.toNat_of_nonneg hx0];simpa using hx
  exact_mod_cast this
 have:((y.toNat:Nat):Int)<((2 ^ i:Nat):Int):=by rw [Int.toNat_of_nonneg hy0];simpa using hy
 exact_mod_cast this
theorem nJ (i:Nat) (x y:Int) (hx0:0<=x) (hx1:x<=18446744073709551615) (hx:x%2 ^ i=0) (hy0:0<=y) (hy:y<2 ^ i) (hy1:y<=18446744073709551615):bits .or .u64 y x=y+x:=by
 rw [u64_or y x hy0 (by omega) hx0 (by omega),Nat.or_comm,nat_join i]
 ·omega
 ·have:((x.toNat%2 ^ i:Nat):Int)=0:=by rw [Int.natCast_emod,Int.toNat_of_nonneg hx0];simpa using hx
  exact_mod_cast this
 have:((y.toNat:Nat):Int)<((2 ^ i:Nat):Int):=by rw [Int.toNat_of_nonneg hy0];simpa using hy
 exact_mod_cast this
end af
end Go.Proofs.YtcfifbgemfladaaGreatDoor
namespace Go.Proofs.YtcfifbgemfladaaGreatDoor
open Go.RowKit Go.Proofs.Tryz
set_option maxRecDepth 100000
set_option maxHeartbeats 1000000
theorem Qg:(prog.info? 5).map (λi=>(i.zero,i.size,i.bytes))=some (some (.int .u8 0),1,1):=by kernel_rfl
theorem FO {w:AG} {base:Nat} {v:Value} {n:Nat} {xs:List Int} (h:w.ownsRow base 5 1 v n (xs.map (Value.int .u8))) (hn:0<n) :
  ∃g cap,v=.slice (some ⟨g,0,none⟩) n cap/\(convert 68 9 (.slice (some ⟨g,0,none⟩) n cap)).run prog w=.ok (.string (strOfNums xs)) w:=by
 have hl:=h.1;simp only [jS,Nat.mul_one] at hl;rcases h.2 with ⟨_,h0⟩|⟨g,cap,cur,hv,_⟩
 ·omega
 refine ⟨g,cap,hv,?_⟩;subst hv;refine run_convert_bytes_arg w 68 5 underlying68 underlying5 g 0 n cap xs hl (λi hi=>?_) 9 underlying9
 have:=h.cellAt i (by omega)
 rw [Nat.zero_add,this];have hi':i<xs.length:=by omega
 simp [bG hi',List.getD]
theorem He {w wr w1:AG} {base B:Nat} {v v':Value} {bs:List Int} {x:Int} {o:Obj} (hown:wr.ownsRow base 5 1 v bs.length (bs.map (Value.int .u8)))
  (hown':w1.ownsRow base 5 1 v' (bs.length+1) (bs.map (Value.int .u8)++[.int .u8 x])) (hgrow:(wr.alloc o).grownBy w1 v.ownBlock) (hbel:Below B w wr) (hB:B<=base) (hs:B<=wr.heap.size) :
  w1.ownsRow base 5 1 v' (bs++[x]).length ((bs++[x]).map (Value.int .u8))/\Below B w w1 :=
 ⟨by simpa using hown',(hbel.alloc hs o).grown hgrow (by simp;omega) (λj hj=>by have:=(hown.lt j hj).1;omega)⟩
theorem Cs (w:AG) (x:Value) (t:TypeId):∀(j:Nat) (u:Value),[x][j]?=some u->(w.alloc (.cells #[x] t)).cell? ((⟨w.heap.size,0,none⟩:Addr).add j)=some u:=by
 intro j u hj
 match j,hj with
 | 0,hj=>simp at hj;subst hj;simp [Addr.add]
theorem aal (n:Int) (w:AG) (h0:0<=n) (h1:n<=18446744073709551615) :
  Calls prog 10 #[.int .u64 n] w λe w'=>e=.returned (.string (strOfNums (af.uB n)))/\AS w w':=by
 obtain ⟨i0,hi,hz0,hz1,hz2⟩:=info_parts Qg;go_enter func10,ntmps10;go_wp2
 go_loopw [0,3] (λx v wr=>∃(m:Int) (bs:List Int),0<=m/\m<=18446744073709551615/\x=.int .u64 m/\bs++af.uB m=af.uB n/\wr.ownsRow w.heap.size 5 1 v bs.length (bs.map (Value.int .u8))/\AS w wr)
  (λx _ _=>(RowKit.intOf x).toNat)
 case atStart=>exact ⟨n,[],h0,h1,rfl,rfl,World.ownsRow_nil _ _ _ _,AC _ _⟩
 case round =>
  obtain ⟨m,bs,hm0,hm1,rfl,hbs,hown,hbel⟩:=hrel;have hlen:bs.length+(af.uB m).length<=10:=by rw [<- aT,hbs];exact af.yd h0 h1
  have hpos:=af.Dv m;have HB:Hid (bs++af.uB m=af.uB n):=hbs;clear hbs;have hsz:=hbel.size;by_cases hlt:m<128
  ·go_wp2_with (first|(at_builtin;refine wpList_append_own _ rfl _ _ 68 rfl w.heap.size 5 i0 (.int .u8 0) 1 1 underlying68 hi hz0 hz1 hz2 rfl (by decide) _ _ _ rfl (hown.alloc _) ⟨wr.heap.size,0,none⟩ 1 1 [.int .u8 m] rfl rfl (Cs _ _ _) ?c2 ?c3 ?c4 ?c5 ?_))
   case c2=>intro u hu;simp at hu;subst hu;rfl
   case c3=>unfold maxLen;omega
   case c4=>omega
   case c5=>first|omega|(simp;omega)
   intro v' w1 hown' hgrow _;obtain ⟨ho,hb⟩:=He hown hown' hgrow hbel (aC _) hsz;have hfin:bs++[m]=af.uB n:=by rw [<- HB.out,af.vq hm0 hlt]
   rw [hfin] at ho;clear HB hown hown' hgrow hbel hfin;obtain ⟨g,cap,rfl,hcv⟩:=FO ho (af.Dv n);clear ho;go_wp2;go_ret;exact ⟨rfl,hb⟩
  have zm:bits .or .u8 (m%256) 128=m%128+128:=by rw [af.C8 _ (by omega) (by omega)];omega
  go_wp2_with (first|(at_builtin;refine wpList_append_own _ rfl _ _ 68 rfl w.heap.size 5 i0 (.int .u8 0) 1 1 underlying68 hi hz0 hz1 hz2 rfl (by decide) _ _ _ rfl (hown.alloc _) ⟨wr.heap.size,0,none⟩ 1 1 [.int .u8 (m%128+128)] rfl rfl (Cs _ _ _) ?d2 ?d3 ?d4 ?d5 ?_))
  case d2=>first|rfl|(intro u hu;simp at hu;subst hu;rfl)
  case d3=>unfold maxLen;omega
  case d4=>omega
  case d5=>first|omega|(simp;omega)
  intro v' w1 hown' hgrow _;obtain ⟨ho,hb⟩:=He hown hown' hgrow hbel (aC _) hsz;have hfin:(bs++[m%128+128])++af.uB (m / 128)=af.uB n:=by rw [<- HB.out,af.BM (by omega:128<=m)];simp
  have tP:Hid ((bs++[m%128+128])++af.uB (m / 128)=af.uB n):=hfin;clear HB hown hown' hgrow hbel hfin;go_wp2;go_roundw
  case rel=>exact ⟨m / 128,bs++[m%128+128],by omega,by omega,rfl,tP.out,ho,hb⟩
  case measure=>simp [RowKit.intOf];omega
theorem aam (n:Int) (w:AG) (h0:-9223372036854775808<=n) (h1:n<=9223372036854775807) :
  Calls prog 126 #[.int .i64 n] w λe w'=>e=.returned (.string (strOfNums (af.sB n)))/\AS w w':=by
 obtain ⟨i0,hi,hz0,hz1,hz2⟩:=info_parts Qg;go_enter func126,ntmps126;go_wp2
 go_loopw [0,3] (λx v wr=>∃(m:Int) (bs:List Int),-9223372036854775808<=m/\m<=9223372036854775807/\x=.int .i64 m/\bs++af.sB m=af.sB n/\wr.ownsRow w.heap.size 5 1 v bs.length (bs.map (Value.int .u8))/\AS w wr)
  (λx _ _=>(RowKit.intOf x).natAbs)
 case atStart=>exact ⟨n,[],h0,h1,rfl,rfl,World.ownsRow_nil _ _ _ _,AC _ _⟩
 case round =>
  obtain ⟨m,bs,hm0,hm1,rfl,hbs,hown,hbel⟩:=hrel;have hlen:bs.length+(af.sB m).length<=10:=by rw [<- aT,hbs];exact af.BR h0 h1
  have hpos:=af.Dw m;have HB:Hid (bs++af.sB m=af.sB n):=hbs;clear hbs;have hsz:=hbel.size;by_cases hlt:-64<=m/\m<=63
  ·have hma:bits .and .u8 (m%256) 127=m%128:=by rw [af.KG _ (by omega) (by omega)];omega
   have hlt':=hlt;obtain ⟨ha,hb⟩:=hlt';have HL:Hid (-64<=m/\m<=63):=hlt;clear hlt;go_wp2_with (first|(at_builtin;refine wpList_append_own _ rfl _ _ 68 rfl w.heap.size 5 i0 (.int .u8 0) 1 1 underlying68 hi hz0 hz1 hz2 rfl (by decide) _ _ _ rfl (hown.alloc _) ⟨wr.heap.size,0,none⟩ 1 1 [.int .u8 (m%128)] rfl rfl (Cs _ _ _) ?c2 ?c3 ?c4 ?c5 ?_))
   case c2=>first|rfl|(intro u hu;simp at hu;subst hu;rfl)
   case c3=>unfold maxLen;omega
   case c4=>omega
   case c5=>first|omega|(simp;omega)
   intro v' w1 hown' hgrow _;obtain ⟨ho,hb⟩:=He hown hown' hgrow hbel (aC _) hsz;have hfin:bs++[m%128]=af.sB n:=by rw [<- HB.out,af.qx HL.out]
   rw [hfin] at ho;clear HB hown hown' hgrow hbel hfin;obtain ⟨g,cap,rfl,hcv⟩:=FO ho (af.Dw n);clear ho;go_wp2;go_ret;exact ⟨rfl,hb⟩
  have zm:bits .or .u8 (m%256) 128=m%128+128:=by rw [af.C8 _ (by omega) (by omega)];omega
  have HL:Hid (¬ (-64<=m/\m<=63)):=hlt;have qL:m < -64\/(-64<=m/\63<m):=by omega
  clear hlt;rcases qL with ha|⟨ha,ha'⟩
  all_goals
   go_wp2_with (first|(at_builtin;refine wpList_append_own _ rfl _ _ 68 rfl w.heap.size 5 i0 (.int .u8 0) 1 1 underlying68 hi hz0 hz1 hz2 rfl (by decide) _ _ _ rfl (hown.alloc _) ⟨wr.heap.size,0,none⟩ 1 1 [.int .u8 (m%128+128)] rfl rfl (Cs _ _ _) (by intro u hu;simp at hu;subst hu;rfl) (by unfold maxLen;omega) (by omega) (by first|omega|(simp;omega)) ?_))
   intro v' w1 hown' hgrow _;obtain ⟨ho,hb⟩:=He hown hown' hgrow hbel (aC _) hsz;have hfin:(bs++[m%128+128])++af.sB (m / 128)=af.sB n:=by rw [<- HB.out,af.wN HL.out];simp
   have tP:Hid ((bs++[m%128+128])++af.sB (m / 128)=af.sB n):=hfin;clear HB hown hown' hgrow hbel hfin;go_wp2;go_roundw
   case rel=>exact ⟨m / 128,bs++[m%128+128],by omega,by omega,rfl,tP.out,ho,hb⟩
   case measure=>simp [RowKit.intOf];omega
end Go.Proofs.YtcfifbgemfladaaGreatDoor
namespace Go.Proofs.YtcfifbgemfladaaGreatDoor
open Go.RowKit
def lenOf:Value->Nat | .slice _ n _=>n|_=>0
theorem CW (w:AG) (o:Obj):(w.alloc o).heap[w.heap.size]?=some o:=by
 show (w.heap.push o)[w.heap.size]?=_;simp
end Go.Proofs.YtcfifbgemfladaaGreatDoor
namespace Go.Proofs.YtcfifbgemfladaaGreatDoor
open Go.RowKit au
namespace au
structure FT where
 params:List Int
 results:List Int
structure oG where
 mod:AH
 name:AH
 type:Int
structure fF (d:Nat) where
 type:Int
 locals:List Int
 body:IL d
structure gu where
 min:Int
 max:Int
 has:Bool
structure mZ (d:Nat) where
 type:Int
 je:Bool
 init:Ins (IL d)
structure oH where
 name:AH
 kind:Int
 index:Int
structure lX (d:Nat) where
 offset:Ins (IL d)
 funcs:List Int
structure Dat (d:Nat) where
 offset:Ins (IL d)
 bytes:AH
structure Mod (d:Nat) where
 types:List FT
 imports:List oG
 funcs:List (fF d)
 tables:List gu
 aF:List gu
 globals:List (mZ d)
 exports:List oH
 start:List Int
 elems:List (lX d)
 aA:List (Dat d)
structure uY (w:AG) (bk o:Nat) (x:FT):Prop where
 params:∃v,w.cell? ⟨bk,o,none⟩=.some v/\Ints w v x.params
 results:∃v,w.cell? ⟨bk,o+1,none⟩=.some v/\Ints w v x.results
structure uu (w:AG) (bk o:Nat) (x:oG):Prop where
 mod:w.cell? ⟨bk,o,none⟩=.some (.string x.mod)
 name:w.cell? ⟨bk,o+1,none⟩=.some (.string x.name)
 type:w.cell? ⟨bk,o+2,none⟩=.some (.int .i64 x.type)
structure rL (w:AG) (d:Nat) (bk o:Nat) (x:fF d):Prop where
 type:w.cell? ⟨bk,o,none⟩=.some (.int .i64 x.type)
 locals:∃v,w.cell? ⟨bk,o+1,none⟩=.some v/\Ints w v x.locals
 body:∃v,w.cell? ⟨bk,o+2,none⟩=.some v/\At w d v x.body
structure mG (w:AG) (bk o:Nat) (x:gu):Prop where
 min:w.cell? ⟨bk,o,none⟩=.some (.int .i64 x.min)
 max:w.cell? ⟨bk,o+1,none⟩=.some (.int .i64 x.max)
 has:w.cell? ⟨bk,o+2,none⟩=.some (.bool x.has)
structure uw (w:AG) (d:Nat) (bk o:Nat) (x:mZ d):Prop where
 type:w.cell? ⟨bk,o,none⟩=.some (.int .i64 x.type)
 je:w.cell? ⟨bk,o+1,none⟩=.some (.bool x.je)
 init:fM w (At w d) bk (o+2) x.init
structure uA (w:AG) (bk o:Nat) (x:oH):Prop where
 name:w.cell? ⟨bk,o,none⟩=.some (.string x.name)
 kind:w.cell? ⟨bk,o+1,none⟩=.some (.int .i64 x.kind)
 index:w.cell? ⟨bk,o+2,none⟩=.some (.int .i64 x.index)
structure uC (w:AG) (d:Nat) (bk o:Nat) (x:lX d):Prop where
 offset:fM w (At w d) bk o x.offset
 funcs:∃v,w.cell? ⟨bk,o+7,none⟩=.some v/\Ints w v x.funcs
structure wK (w:AG) (d:Nat) (bk o:Nat) (x:Dat d):Prop where
 offset:fM w (At w d) bk o x.offset
 bytes:w.cell? ⟨bk,o+7,none⟩=.some (.string x.bytes)
structure iG (w:AG) (d:Nat) (v0 v1 v2 v3 v4 v5 v6 v7 v8 v9:Value) (m:Mod d):Prop where
 types:Row 2 (uY w) v0 m.types
 imports:Row 3 (uu w) v1 m.imports
 funcs:Row 3 (rL w d) v2 m.funcs
 tables:Row 3 (mG w) v3 m.tables
 aF:Row 3 (mG w) v4 m.aF
 globals:Row 9 (uw w d) v5 m.globals
 exports:Row 3 (uA w) v6 m.exports
 start:Ints w v7 m.start
 elems:Row 8 (uC w d) v8 m.elems
 aA:Row 8 (wK w d) v9 m.aA
section On
variable {w w':AG} (hb:AS w w')
include hb
theorem uY.on {bk o:Nat} {x:FT} (h:uY w bk o x):uY w' bk o x :=
 ⟨let ⟨v,a,b⟩:=h.params;⟨v,ak hb a,b.on hb⟩,let ⟨v,a,b⟩:=h.results;⟨v,ak hb a,b.on hb⟩⟩
theorem uu.on {bk o:Nat} {x:oG} (h:uu w bk o x):uu w' bk o x:=⟨ak hb h.mod,ak hb h.name,ak hb h.type⟩
theorem rL.on {d bk o:Nat} {x:fF d} (h:rL w d bk o x):rL w' d bk o x :=
 ⟨ak hb h.type,let ⟨v,a,b⟩:=h.locals;⟨v,ak hb a,b.on hb⟩,let ⟨v,a,b⟩:=h.body;⟨v,ak hb a,At.on hb d v _ b⟩⟩
theorem mG.on {bk o:Nat} {x:gu} (h:mG w bk o x):mG w' bk o x:=⟨ak hb h.min,ak hb h.max,ak hb h.has⟩
theorem uw.on {d bk o:Nat} {x:mZ d} (h:uw w d bk o x):uw w' d bk o x:=⟨ak hb h.type,ak hb h.je,h.init.on hb (At.on hb d)⟩
theorem uA.on {bk o:Nat} {x:oH} (h:uA w bk o x):uA w' bk o x:=⟨ak hb h.name,ak hb h.kind,ak hb h.index⟩
theorem uC.on {d bk o:Nat} {x:lX d} (h:uC w d bk o x):uC w' d bk o x:=⟨h.offset.on hb (At.on hb d),let ⟨v,a,b⟩:=h.funcs;⟨v,ak hb a,b.on hb⟩⟩
theorem wK.on {d bk o:Nat} {x:Dat d} (h:wK w d bk o x):wK w' d bk o x:=⟨h.offset.on hb (At.on hb d),ak hb h.bytes⟩
theorem iG.on {d : Nat} {v0 v1 v2 v3 v4 v5 v6 v7 v8 v9 : Value} {m : Mod d} (h : iG w d v0 v1 v2 v3 v4 v5 v6 v7 v8 v9 m) : iG w' d v0 v1 v2 v3 v4 v5 v6 v7 v8 v9 m :=
  ⟨h.types.imp λ_ _ _ _ => uY.on hb, h.imports.imp λ_ _ _ _ => uu.on hb, h.funcs.imp λ_ _ _ _ => rL.on hb, h.tables.imp λ_ _ _ _ => mG.on hb, h.aF.imp λ_ _ _ _ => mG.on hb,
   h.globals.imp λ_ _ _ _ => uw.on hb, h.exports.imp λ_ _ _ _ => uA.on hb, h.start.on hb, h.elems.imp λ_ _ _ _ => uC.on hb, h.aA.imp λ_ _ _ _ => wK.on hb⟩
end On
def size:(d:Nat)->IL d->Nat
 | 0,_=>0
 | _+1,l=>List.length l
theorem At.len {w:AG}:∀(d:Nat) (v:Value) (l:IL d),At w d v l->∃o cap,v=.slice o (size d l) cap
 | 0,_,_,h=>h
 | _+1,_,_,h=>Row.len h
theorem At.bound {w:AG}:∀(d:Nat) (v:Value) (l:IL d),At w d v l->size d l<=9223372036854775807
 | 0,_,_,_=>by show 0<=_;omega
 | _+1,_,_,h=>h.1
end au
end Go.Proofs.YtcfifbgemfladaaGreatDoor
