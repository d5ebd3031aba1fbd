/- Texts that the claim needs. -/
import Derived.Test.YtgbbmdknbflilaaDoorQDcu0
namespace Go.Proofs.YtgbbmdknbflilaaDoor
open Go.RowKit Rep Dec
set_option linter.unusedVariables false
namespace Dec
theorem uRead_at32 (s:ByteArray) (a:Nat) (h:(Leb.uRead s a 32).2.2=0):(a:Int)<(Leb.uRead s a 32).2.1/\(Leb.uRead s a 32).2.1<=s.size/\0<=(Leb.uRead s a 32).1/\(Leb.uRead s a 32).1<=4294967295:=by
 unfold Leb.uRead at h ⊢
 by_cases hask:Leb.asks s.size a 32=true
 ·rw [if_pos hask] at h ⊢
  unfold Leb.uOut at h ⊢
  have hq:=Leb.asks_yes hask
  have hg:=Leb.grp_some (Leb.from_ s (a:Int).toNat) (s.size-(a:Int).toNat) (Leb.most 32)
  generalize Leb.grp (Leb.from_ s (a:Int).toNat) (s.size-(a:Int).toNat) (Leb.most 32)=k at *
  unfold Leb.uFin at h ⊢
  split at h
  ·exact absurd h (by decide)
  ·rename_i hc
   rw [if_neg hc]
   have hk:k≠0:=fun e=>hc (.inl e)
   obtain ⟨h1,h2,h3,_⟩:=hg hk
   have hv:=(Leb.val_bd (Leb.from_ s (a:Int).toNat) k).1
   have hm:¬ 4294967295<Leb.val (Leb.from_ s (a:Int).toNat) k:=fun e=>hc (.inr (.inl ⟨rfl,e⟩))
   exact ⟨by show (a:Int)<(a:Int)+k;omega,by show (a:Int)+k<=s.size;omega,hv,by omega⟩
 ·rw [if_neg hask] at h;exact absurd h (by decide)
theorem sRead_at (s:ByteArray) (a:Nat) (bits:Int) (h:(Leb.sRead s a bits).2.2=0):(a:Int)<(Leb.sRead s a bits).2.1/\(Leb.sRead s a bits).2.1<=s.size/\-9223372036854775808<=(Leb.sRead s a bits).1/\(Leb.sRead s a bits).1<=9223372036854775807/\(bits=32->-2147483648<=(Leb.sRead s a bits).1/\(Leb.sRead s a bits).1<=2147483647):=by
 unfold Leb.sRead at h ⊢
 by_cases hask:Leb.asks s.size a bits=true
 ·rw [if_pos hask] at h ⊢
  unfold Leb.sOut at h ⊢
  have hq:=Leb.asks_yes hask
  have hg:=Leb.grp_some (Leb.from_ s (a:Int).toNat) (s.size-(a:Int).toNat) (Leb.most bits)
  have hm10:Leb.most bits<=10:=by rcases hq.1 with rfl|rfl<;>decide
  generalize Leb.grp (Leb.from_ s (a:Int).toNat) (s.size-(a:Int).toNat) (Leb.most bits)=k at *
  unfold Leb.sFin at h ⊢
  split at h
  ·exact absurd h (by decide)
  ·rename_i hc
   rw [if_neg hc]
   have hk:k≠0:=fun e=>hc (.inl e)
   obtain ⟨h1,h2,h3,_⟩:=hg hk
   have h9:k=10->Leb.from_ s (a:Int).toNat 9=0\/Leb.from_ s (a:Int).toNat 9=127:=fun e=>by
    by_cases h0:Leb.from_ s (a:Int).toNat 9=0
    ·exact .inl h0
    ·by_cases h7:Leb.from_ s (a:Int).toNat 9=127
     ·exact .inr h7
     ·exact absurd (.inr (.inr ⟨e,h0,h7⟩)) hc
   have hb:=Leb.sval_bd (Leb.from_ s (a:Int).toNat) k h1 (by
    by_cases e:k=10
    ·exact .inr ⟨e,h9 e⟩
    ·exact .inl (by omega))
   refine ⟨by show (a:Int)<(a:Int)+k;omega,by show (a:Int)+k<=s.size;omega,hb.1,hb.2,fun e=>?_⟩
   have h32:¬ (Leb.sval (Leb.from_ s (a:Int).toNat) k < -2147483648\/2147483647<Leb.sval (Leb.from_ s (a:Int).toNat) k):=fun h=>hc (.inr (.inl ⟨e,h⟩))
   show -2147483648<=Leb.sval (Leb.from_ s (a:Int).toNat) k/\Leb.sval (Leb.from_ s (a:Int).toNat) k<=2147483647
   omega
 ·rw [if_neg hask] at h;exact absurd h (by decide)
theorem nx_ok {s:ByteArray} {en i:Nat} {x:Int} {j:Nat} (h:nx s en i=.ok (x,j)):j=i+1/\i<en/\0<=x/\x<=255:=by
 unfold nx at h
 split at h
 ·injection h with h;injection h with h1 h2
  have:=Leb.bt_bd s i
  subst h1;exact ⟨h2.symm,by assumption,this.1,this.2⟩
 ·cases h
theorem ru_ok {s:ByteArray} {en i:Nat} {x:Int} {j:Nat} (he:en<=s.size) (h:ru s en i=.ok (x,j)):i<j/\j<=en/\0<=x/\x<=4294967295:=by
 unfold ru at h
 split at h
 ·rename_i h0
  obtain ⟨h1,h2,h3,h4⟩:=uRead_at32 _ i h0
  injection h with h;injection h with h5 h6
  rw [ByteArray.size_extract] at h2
  subst h5
  exact ⟨by omega,by omega,h3,h4⟩
 ·cases h
theorem rs_ok {s:ByteArray} {en i:Nat} {bits x:Int} {j:Nat} (he:en<=s.size) (h:rs s en bits i=.ok (x,j)):i<j/\j<=en/\-9223372036854775808<=x/\x<=9223372036854775807/\(bits=32->-2147483648<=x/\x<=2147483647):=by
 unfold rs at h
 split at h
 ·rename_i h0
  obtain ⟨h1,h2,h3,h4,h7⟩:=sRead_at _ i bits h0
  injection h with h;injection h with h5 h6
  rw [ByteArray.size_extract] at h2
  subst h5
  exact ⟨by omega,by omega,h3,h4,h7⟩
 ·cases h
theorem bd_in {α β:Type} {x:R α} {f:α->Nat->R β} {b:β} {m:Nat} (h:bd x f=.ok (b,m)):∃a i,x=.ok (a,i)/\f a i=.ok (b,m):=by
 unfold bd at h
 cases x with
 | error e=>cases h
 | ok v=>obtain ⟨a,i⟩:=v;exact ⟨a,i,rfl,h⟩
theorem bd2_in {α β:Type} {x:R2 α} {f:α->Nat->Nat->R2 β} {b:β} {m n:Nat} (h:bd2 x f=.ok (b,m,n)):∃a i k,x=.ok (a,i,k)/\f a i k=.ok (b,m,n):=by
 unfold bd2 at h
 cases x with
 | error e=>cases h
 | ok v=>obtain ⟨a,i,k⟩:=v;exact ⟨a,i,k,rfl,h⟩
theorem lift_in {α:Type} {x:R α} {n:Nat} {a:α} {m k:Nat} (h:lift x n=.ok (a,m,k)):x=.ok (a,m)/\k=n:=by
 unfold lift at h
 cases x with
 | error e=>cases h
 | ok v=>obtain ⟨b,i⟩:=v;injection h with h;injection h with h1 h2;injection h2 with h2 h3;subst h1 h2;exact ⟨rfl,h3.symm⟩
theorem must_ok {s:ByteArray} {en i:Nat} {b:Int} {u:Unit} {j:Nat} (h:must s en b i=.ok (u,j)):j=i+1/\i<en/\Leb.bt s i=b:=by
 obtain ⟨x,m,h1,h2⟩:=bd_in h
 have h3:=nx_ok h1
 split at h2
 ·rename_i hx
  injection h2 with h2;injection h2 with _ h2
  unfold nx at h1
  rw [if_pos h3.2.1] at h1
  injection h1 with h1;injection h1 with h1 _
  exact ⟨by omega,h3.2.1,h1.trans hx⟩
 ·cases h2
theorem vty_ok {b x:Int} {i j:Nat} (h:vty b i=.ok (x,j)):x=b/\j=i/\(x=126\/x=127):=by
 unfold vty at h
 split at h
 ·cases h
 split at h
 ·injection h with h;injection h with h1 h2;subst h1 h2;exact ⟨rfl,rfl,by omega⟩
 ·cases h
theorem rres_ok {s:ByteArray} {en i:Nat} {x:Int} {j:Nat} (h:rres s en i=.ok (x,j)):j=i+1/\i<en/\(x=0\/x=126\/x=127):=by
 obtain ⟨b,m,h1,h2⟩:=bd_in h
 have h3:=nx_ok h1
 split at h2
 ·injection h2 with h2;injection h2 with h4 h5;exact ⟨by omega,h3.2.1,.inl h4.symm⟩
 ·have:=vty_ok h2;exact ⟨by omega,h3.2.1,.inr this.2.2⟩
theorem rc_ok {s:ByteArray} {en i:Nat} {x:Int} {j:Nat} (he:en<=s.size) (h:rc s en i=.ok (x,j)):i<j/\j<=en/\0<=x/\x<=4096:=by
 obtain ⟨b,m,h1,h2⟩:=bd_in h
 have h3:=ru_ok he h1
 split at h2
 ·injection h2 with h2;injection h2 with h4 h5;subst h4 h5;exact ⟨h3.1,h3.2.1,h3.2.2.1,by assumption⟩
 ·cases h2
theorem rep_ok {s:ByteArray} {en:Nat} (he:en<=s.size):∀(k i:Nat) (l:List Int) (j:Nat),i<=en->rep (ru s en) k i=.ok (l,j)->i<=j/\j<=en/\l.length=k/\∀x ∈ l,0<=x/\x<=4294967295
 | 0,i,l,j,hi,h=>by injection h with h;injection h with h1 h2;subst h1 h2;exact ⟨Nat.le_refl _,hi,rfl,fun x hx=>by cases hx⟩
 | k+1,i,l,j,hi,h=>by
  obtain ⟨x,m,h1,h2⟩:=bd_in h
  obtain ⟨r,q,h3,h4⟩:=bd_in h2
  have h5:=ru_ok he h1
  have h6:=rep_ok he k m r q h5.2.1 h3
  injection h4 with h4;injection h4 with h7 h8;subst h7 h8
  refine ⟨by omega,h6.2.1,by simp [h6.2.2.1],fun y hy=>?_⟩
  rcases List.mem_cons.1 hy with rfl|hy
  ·exact h5.2.2
  ·exact h6.2.2.2 y hy
theorem rl_ok {s:ByteArray} {en i:Nat} {l:List Int} {j:Nat} (he:en<=s.size) (h:rl s en i=.ok (l,j)):i<j/\j<=en/\l.length<=4096/\∀x ∈ l,0<=x/\x<=4294967295:=by
 obtain ⟨n,m,h1,h2⟩:=bd_in h
 have h3:=rc_ok he h1
 have h4:=rep_ok he _ m l j h3.2.1 h2
 exact ⟨by omega,h4.2.1,by omega,h4.2.2.2⟩
theorem rsim_ok {α:Type} {z:α} {s:ByteArray} {en:Nat} {op:Int} {i:Nat} {x:Ins α} {j:Nat} (he:en<=s.size) (hi:i<=en) (h:rsim z s en op i=.ok (x,j)):i<=j/\j<=en:=by
 unfold rsim at h
 simp only at h
 split at h
 ·split at h
  ·obtain ⟨u,m,h1,h2⟩:=bd_in h
   have:=must_ok h1
   injection h2 with h2;injection h2 with _ h2
   omega
  ·injection h with h;injection h with _ h;omega
 split at h
 ·obtain ⟨u,m,h1,h2⟩:=bd_in h
  have:=ru_ok he h1
  injection h2 with h2;injection h2 with _ h2
  omega
 split at h
 ·obtain ⟨u,m,h1,h2⟩:=bd_in h
  have:=rl_ok he h1
  obtain ⟨u,q,h3,h4⟩:=bd_in h2
  have:=ru_ok he h3
  injection h4 with h4;injection h4 with _ h4
  omega
 split at h
 ·obtain ⟨u,m,h1,h2⟩:=bd_in h
  have:=ru_ok he h1
  obtain ⟨u,q,h3,h4⟩:=bd_in h2
  have:=must_ok h3
  injection h4 with h4;injection h4 with _ h4
  omega
 split at h
 ·obtain ⟨u,m,h1,h2⟩:=bd_in h
  have:=ru_ok he h1
  obtain ⟨u,q,h3,h4⟩:=bd_in h2
  have:=ru_ok he h3
  injection h4 with h4;injection h4 with _ h4
  omega
 split at h
 ·obtain ⟨u,m,h1,h2⟩:=bd_in h
  have:=rs_ok he h1
  injection h2 with h2;injection h2 with _ h2
  omega
 ·injection h with h;injection h with _ h;omega
def Fwd {α:Type} (en:Nat) (f:Nat->Nat->R2 α):Prop:=∀i n a j m,i<=en->f i n=.ok (a,j,m)->i<j/\j<=en
theorem rblk_ok {α:Type} {z:α} {s:ByteArray} {en:Nat} {sub:Nat->Nat->R2 (α × Int)} (hs:Fwd en sub) {op:Int} {i n:Nat} {x:Ins α} {j m:Nat} (h:rblk z s en sub op i n=.ok (x,j,m)):i<j/\j<=en:=by
 unfold rblk at h
 obtain ⟨a,i1,n1,h1,h⟩:=bd2_in h
 have h2:=rres_ok (lift_in h1).1
 obtain ⟨b,i2,n2,h3,h⟩:=bd2_in h
 have h4:=hs _ _ _ _ _ (by omega) h3
 split at h
 ·obtain ⟨c,i3,n3,h5,h⟩:=bd2_in h
  have h6:=hs _ _ _ _ _ h4.2 h5
  split at h
  ·injection h with h;injection h with _ h;injection h with h _;omega
  ·cases h
 split at h
 ·injection h with h;injection h with _ h;injection h with h _;omega
 ·cases h
theorem rins_ok {d:Nat} {sub:Nat->Nat->R2 (IL d × Int)} {s:ByteArray} {en dep:Nat} (he:en<=s.size) (hs:Fwd en sub) {op:Int} {i n:Nat} {x:Ins (IL d)} {j m:Nat} (hi:i<=en) (h:rins sub s en dep op i n=.ok (x,j,m)):i<=j/\j<=en:=by
 unfold rins at h
 split at h
 ·cases h
 split at h
 ·have:=rblk_ok hs h;omega
 ·exact rsim_ok he hi (lift_in h).1
theorem rloop_ok {d:Nat} {sub:Nat->Nat->R2 (IL d × Int)} {s:ByteArray} {en dep:Nat} (he:en<=s.size) (hs:Fwd en sub):∀(f i n:Nat) (a:List (Ins (IL d)) × Int) (j m:Nat),i<=en->rloop sub s en dep f i n=.ok (a,j,m)->i<j/\j<=en
 | 0,_,_,_,_,_,_,h=>by cases h
 | f+1,i,n,a,j,m,hi,h=>by
  unfold rloop at h
  obtain ⟨op,i1,n1,h1,h⟩:=bd2_in h
  have h2:=nx_ok (lift_in h1).1
  split at h
  ·injection h with h;injection h with _ h;injection h with h _;omega
  ·obtain ⟨x,i2,n2,h3,h⟩:=bd2_in h
   have h4:=rins_ok he hs (by omega) h3
   obtain ⟨r,i3,n3,h5,h⟩:=bd2_in h
   have h6:=rloop_ok he hs f i2 n2 r i3 n3 h4.2 h5
   injection h with h;injection h with _ h;injection h with h _;omega
theorem rseq_fwd {s:ByteArray} {en:Nat} (he:en<=s.size):∀d dep,Fwd en (rseq s en d dep)
 | 0,dep=>fun i n a j m hi h=>by
  obtain ⟨op,i1,n1,h1,h⟩:=bd2_in h
  have h2:=nx_ok (lift_in h1).1
  split at h
  ·injection h with h;injection h with _ h;injection h with h _;omega
  ·cases h
 | d+1,dep=>fun i n a j m hi h=>rloop_ok he (rseq_fwd he d (dep+1)) _ i n a j m hi h
end Dec
end Go.Proofs.YtgbbmdknbflilaaDoor

namespace Go.Proofs.YtgbbmdknbflilaaDoor
namespace Leb
def Lies (f:Nat->Int) (i:Nat) (xs:List Int):Prop:=∀j,j<xs.length->f (i+j)=xs.getD j 0
theorem Lies.head {f:Nat->Int} {i:Nat} {x:Int} {xs:List Int} (h:Lies f i (x :: xs)):f i=x:=by simpa using h 0 (by simp)
theorem Lies.tail {f:Nat->Int} {i:Nat} {x:Int} {xs:List Int} (h:Lies f i (x :: xs)):Lies f (i+1) xs:=fun j hj=>by
 have:=h (j+1) (by simpa using hj)
 rw [show i+1+j=i+(j+1) by omega,this]
 simp
theorem grp_s (f:Nat->Int) (L:Nat):∀(g:Nat) (n:Int) (i fuel:Nat),n.natAbs<=g->Lies f i (sB n)->i+(sB n).length<=L->grpF f L fuel i=if (sB n).length<=fuel then i+(sB n).length else 0:=by
 intro g
 induction g with
 | zero =>
  intro n i fuel hg hl hL
  rw [sB_small (by omega)] at hl hL ⊢
  have:=hl.head
  cases fuel with
  | zero=>simp [grpF]
  | succ m=>rw [grpF_last _ _ _ _ (by omega) (by simp at hL;omega) (by omega)];simp
 | succ g ih =>
  intro n i fuel hg hl hL
  by_cases h:-64<=n/\n<=63
  ·rw [sB_small h] at hl hL ⊢
   have:=hl.head
   cases fuel with
   | zero=>simp [grpF]
   | succ m=>rw [grpF_last _ _ _ _ (by omega) (by simp at hL;omega) (by omega)];simp
  ·rw [sB_great h] at hl hL ⊢
   have hh:=hl.head
   cases fuel with
   | zero=>simp [grpF]
   | succ m =>
    rw [grpF_on _ _ _ _ (by omega) (by simp at hL;omega) (by omega),Nat.add_sub_cancel,ih (n / 128) (i+1) m (by omega) hl.tail (by simp at hL;omega)]
    simp only [List.length_cons]
    by_cases hm:(sB (n / 128)).length<=m
    ·rw [if_pos hm,if_pos (by omega)];omega
    ·rw [if_neg hm,if_neg (by omega)]
def sg (c:Int):Int:=if 64<=c%128 then -1 else 0
theorem val_s (f:Nat->Int):∀(g:Nat) (n:Int) (i:Nat),n.natAbs<=g->Lies f i (sB n)->val f (i+(sB n).length)+128 ^ (i+(sB n).length)*sg (f (i+(sB n).length-1))=val f i+128 ^ i*n:=by
 intro g
 induction g with
 | zero =>
  intro n i hg hl
  rw [sB_small (by omega)] at hl ⊢
  have:=hl.head
  show val f (i+1)+128 ^ (i+1)*sg (f i)=_
  rw [val_split,this]
  unfold sg
  split<;>congr 2<;>omega
 | succ g ih =>
  intro n i hg hl
  by_cases h:-64<=n/\n<=63
  ·rw [sB_small h] at hl ⊢
   have:=hl.head
   show val f (i+1)+128 ^ (i+1)*sg (f i)=_
   rw [val_split,this]
   unfold sg
   split<;>congr 2<;>omega
  ·rw [sB_great h] at hl ⊢
   have hh:=hl.head
   have:=ih (n / 128) (i+1) (by omega) hl.tail
   rw [List.length_cons,show i+((sB (n / 128)).length+1)=i+1+(sB (n / 128)).length by omega,this,val_split,hh]
   rw [show n / 128*128+(n%128+128)%128=n by omega]
end Leb
end Go.Proofs.YtgbbmdknbflilaaDoor

namespace Go.Proofs.YtgbbmdknbflilaaDoor
namespace Leb
theorem sFin_64 (f:Nat->Int) (k:Nat) (a n:Int) (hk:0<k) (hk10:k<=10) (hf:0<=f 9/\f 9<128\/k<10) (hv:sval f k=n) (hn0:-9223372036854775808<=n) (hn:n<=9223372036854775807):sFin f k a 64=(n,a+k,0):=by
 unfold sFin
 rw [if_neg,hv]
 rintro (h|⟨h,_⟩|⟨rfl,h⟩)
 ·omega
 ·exact absurd h (by decide)
 ·have h9:=val_9 f 9 (by omega)
  have e:val f 10=val f 9+9223372036854775808*(f 9%128):=rfl
  have e2:(128:Int) ^ 10=1180591620717411303424:=by decide
  have e3:sval f 10=val f 10+128 ^ 10*(if 64<=f 9%128 then -1 else 0):=rfl
  rw [e,e2] at e3
  split at e3<;>omega
theorem from_lies {s:ByteArray} {a:Nat} {xs:List Int} (h:∀j,j<xs.length->bt s (a+j)=xs.getD j 0):Lies (from_ s a) 0 xs:=fun j hj=>by
 rw [Nat.zero_add];exact h j hj
theorem sB_last {f:Nat->Int} {g:Nat} {n:Int} (hg:n.natAbs<=g) (hl:Lies f 0 (sB n)):f ((sB n).length-1)<128:=by
 have h:=grp_s f (sB n).length g n 0 (sB n).length hg hl (by omega)
 rw [if_pos (Nat.le_refl _),Nat.zero_add] at h
 have hp:=sB_pos n
 have:=(grpF_some f (sB n).length (sB n).length 0 (by omega)).2.2.2.1
 rwa [h] at this
theorem sRead_at (s:ByteArray) (a:Nat) (n:Int) (h0:-9223372036854775808<=n) (h1:n<=9223372036854775807) (hl:∀j,j<(sB n).length->bt s (a+j)=(sB n).getD j 0) (hs:a+(sB n).length<=s.size) :
  sRead s a 64=(n,(a:Int)+(sB n).length,0):=by
 have hask:asks s.size a 64=true:=decide_eq_true ⟨.inr rfl,by omega,by omega⟩
 have hL:=from_lies hl
 have h10:=sB_ten h0 h1
 have hp:=sB_pos n
 have hg:=grp_s (from_ s a) (s.size-a) n.natAbs n 0 10 (Nat.le_refl _) hL (by omega)
 rw [if_pos h10,Nat.zero_add] at hg
 have hv:=val_s (from_ s a) n.natAbs n 0 (Nat.le_refl _) hL
 rw [Nat.zero_add] at hv
 have hlast:=sB_last (Nat.le_refl _) hL
 unfold sRead
 rw [if_pos hask,Int.toNat_natCast]
 show sFin (from_ s a) (grpF (from_ s a) (s.size-a) 10 0) a 64=_
 rw [hg]
 refine sFin_64 _ _ _ _ hp h10 ?_ (by show val _ _+_*sg _=_;rw [hv];simp [val]) h0 h1
 by_cases hk:(sB n).length=10
 ·left
  rw [hk] at hlast
  exact ⟨(from_bd s a 9).1,hlast⟩
 ·right;omega
theorem bt_cut (x:ByteArray) (n j:Nat) (hj:j<n) (hn:n<=x.size):bt (x.extract 0 n) j=bt x j:=by
 unfold bt
 rw [dif_pos (by rw [ByteArray.size_extract];omega),dif_pos (by omega)]
 simp [ByteArray.getElem_extract]
end Leb
end Go.Proofs.YtgbbmdknbflilaaDoor

