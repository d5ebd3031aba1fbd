/- Texts that the claim needs. -/
import Derived.Test.YtkdbgopgjbfhbaaGreatDoorRows
import Derived.WalkKit
import Derived.WalkSpells
import Derived.WalkSmall
import Derived.BigQuiet
import Derived.Deep.QuietTactic
import Derived.Laws.RangeAny
import Derived.Lib.OthersKept
namespace Go.Proofs.YtkdbgopgjbfhbaaGreatDoor
open Go.RowKit
set_option linter.unusedVariables false
namespace Lx
def bt (s:ByteArray) (k:Nat):Int:=if h:k<s.size then ((s[k]'h).toNat:Int) else 0
theorem get_bt (s:ByteArray) (n:Nat) (h:n<s.size):((s[n]'h).toNat:Int)=bt s n:=by unfold bt;rw [dif_pos h]
theorem wS (s:ByteArray) (k:Nat):0<=bt s k/\bt s k<=255:=by
 unfold bt;split
 ·have:=(s[k]).toNat_lt;omega
 ·omega
def sm (c:Int):Bool:=decide (97<=c) && decide (c<=122)
def cp (c:Int):Bool:=decide (65<=c) && decide (c<=90)
def dg (c:Int):Bool:=decide (48<=c) && decide (c<=57)
def pt (c:Int):Bool:=sm c || cp c || dg c || c == 95
def bl (c:Int):Bool:=c == 9 || c == 10 || c == 13 || c == 32
def nN (s:ByteArray) (p:Int->Bool):Nat->Nat->Nat
 | 0,i=>i
 | f+1,i=>if i<s.size/\p (bt s i)=true then nN s p f (i+1) else i
def en (s:ByteArray) (p:Int->Bool) (i:Nat):Nat:=nN s p (s.size-i) i
section
variable (s:ByteArray) (p:Int->Bool)
theorem AK {i:Nat} (h:i<s.size) (hp:p (bt s i)=true):en s p i=en s p (i+1):=by
 unfold en;obtain ⟨f,hf⟩:∃f,s.size-i=f+1:=⟨s.size-i-1,by omega⟩;rw [hf,show s.size-(i+1)=f by omega,nN,if_pos ⟨h,hp⟩]
theorem JL {i:Nat} (hp:p (bt s i)=false):en s p i=i:=by
 unfold en;cases s.size-i with
 | zero=>rfl
 | succ f=>rw [nN,if_neg (fun h=>by rw [hp] at h;cases h.2)]
theorem P8 {i:Nat} (h:¬ i<s.size):en s p i=i:=by
 unfold en;rw [show s.size-i=0 by omega];rfl
theorem P9:∀(f i:Nat),i<=nN s p f i
 | 0,i=>Nat.le_refl _
 | f+1,i=>by rw [nN];split;exact Nat.le_trans (Nat.le_succ i) (P9 f (i+1));exact Nat.le_refl _
theorem pR (i:Nat):i<=en s p i:=P9 s p _ i
theorem Qa:∀(f i:Nat),i<=s.size->nN s p f i<=s.size
 | 0,i,h=>h
 | f+1,i,h=>by rw [nN];split;exact Qa f (i+1) (by omega);exact h
theorem jw {i:Nat} (h:i<=s.size):en s p i<=s.size:=Qa s p _ i h
theorem Qb:∀(f i j:Nat),i<=j->j<nN s p f i->p (bt s j)=true
 | 0,i,j,h,h'=>by rw [nN] at h';omega
 | f+1,i,j,h,h'=>by
  rw [nN] at h';split at h'
  ·rename_i hc;rcases Nat.eq_or_lt_of_le h with rfl|h
   ·exact hc.2
   ·exact Qb f (i+1) j h h'
  ·omega
theorem oK {i j:Nat} (h:i<=j) (h':j<en s p i):p (bt s j)=true:=Qb s p _ i j h h'
theorem Qc:∀(f i:Nat),s.size<=i+f->nN s p f i<s.size->p (bt s (nN s p f i))=false
 | 0,i,h,h'=>by rw [nN] at h';omega
 | f+1,i,h,h'=>by
  rw [nN] at h' ⊢;split at h'
  ·rename_i hc;rw [if_pos hc];exact Qc f (i+1) (by omega) h'
  ·rename_i hc;rw [if_neg hc];cases hp:p (bt s i);rfl;exact absurd ⟨h',hp⟩ hc
theorem sw {i:Nat} (h:en s p i<s.size):p (bt s (en s p i))=false:=Qc s p _ i (by omega) h
theorem Qd:∀(n i:Nat),i+n<=s.size->(∀j,i<=j->j<i+n->p (bt s j)=true)->en s p i=en s p (i+n)
 | 0,i,_,_=>rfl
 | n+1,i,h,hp=>by
  rw [AK s p (by omega) (hp i (Nat.le_refl _) (by omega)),Qd n (i+1) (by omega) (fun j h1 h2=>hp j (by omega) (by omega)),show i+(n+1)=i+1+n by omega]
theorem FM {i e:Nat} (h0:i<=e) (h1:e<=s.size) (ha:∀j,i<=j->j<e->p (bt s j)=true) (hn:e<s.size->p (bt s e)=false):en s p i=e:=by
 rw [Qd s p (e-i) i (by omega) (fun j h1 h2=>ha j h1 (by omega)),show i+(e-i)=e by omega];by_cases h:e<s.size
 ·exact JL s p (hn h)
 ·exact P8 s p h
end
theorem yK (s:ByteArray) (a i:Nat) (ha:a<=s.size):bt (s.extract a s.size) i=bt s (a+i):=by
 unfold bt;by_cases h:a+i<s.size
 ·rw [dif_pos (by rw [ByteArray.size_extract];omega),dif_pos h];simp [ByteArray.getElem_extract]
 ·rw [dif_neg (by rw [ByteArray.size_extract];omega),dif_neg h]
theorem qJ (s:ByteArray) (a:Nat):(s.extract a s.size).size=s.size-a:=by rw [ByteArray.size_extract];omega
theorem E9 (s:ByteArray) (p:Int->Bool) (a i:Nat) (ha:a+i<=s.size):en (s.extract a s.size) p i=en s p (a+i)-a:=by
 have h0:=pR s p (a+i);have h1:=jw s p ha;refine FM _ p (by omega) (by rw [qJ];omega) (fun j hj hj'=>?_) (fun h=>?_)
 ·rw [yK s a j (by omega)];exact oK s p (i:=a+i) (by omega) (by omega)
 ·rw [yK s a _ (by omega),show a+(en s p (a+i)-a)=en s p (a+i) by omega];exact sw s p (by rw [qJ] at h;omega)
def oZ (s:ByteArray):Nat->Bool->Nat->Nat
 | 0,_,i=>i
 | f+1,c,i=>if i<s.size then (if bt s i=10 then oZ s f false (i+1) else if c=true then oZ s f true (i+1) else if bt s i=35 then oZ s f true (i+1) else if bl (bt s i)=true then oZ s f false (i+1) else i) else i
def sk (s:ByteArray) (c:Bool) (i:Nat):Nat:=oZ s (s.size-i) c i
section
variable (s:ByteArray)
theorem oO {i:Nat} (c:Bool) (h:i<s.size):sk s c i=if bt s i=10 then sk s false (i+1) else if c=true then sk s true (i+1) else if bt s i=35 then sk s true (i+1) else if bl (bt s i)=true then sk s false (i+1) else i:=by
 unfold sk;obtain ⟨f,hf⟩:∃f,s.size-i=f+1:=⟨s.size-i-1,by omega⟩;rw [hf,show s.size-(i+1)=f by omega,oZ,if_pos h]
theorem JM {i:Nat} (c:Bool) (h:¬ i<s.size):sk s c i=i:=by
 unfold sk;rw [show s.size-i=0 by omega];rfl
theorem JN:∀(f:Nat) (c:Bool) (i:Nat),i<=oZ s f c i
 | 0,c,i=>Nat.le_refl _
 | f+1,c,i=>by
  rw [oZ];have h1:=JN f false (i+1);have h2:=JN f true (i+1)
  repeat' split
  all_goals omega
theorem Dt (c:Bool) (i:Nat):i<=sk s c i:=JN s _ c i
theorem JO:∀(f:Nat) (c:Bool) (i:Nat),i<=s.size->oZ s f c i<=s.size
 | 0,c,i,h=>h
 | f+1,c,i,h=>by
  rw [oZ];split
  ·have h1:=JO f false (i+1) (by omega);have h2:=JO f true (i+1) (by omega)
   repeat' split
   all_goals omega
  ·exact h
theorem zq (c:Bool) {i:Nat} (h:i<=s.size):sk s c i<=s.size:=JO s _ c i h
theorem Qe:∀(n i:Nat),i+n<=s.size->(∀j,i<=j->j<i+n->bt s j≠10)->sk s true i=sk s true (i+n)
 | 0,i,_,_=>rfl
 | n+1,i,h,hp=>by
  rw [oO s true (by omega),if_neg (hp i (Nat.le_refl _) (by omega)),if_pos rfl,Qe n (i+1) (by omega) (fun j h1 h2=>hp j (by omega) (by omega)),show i+(n+1)=i+1+n by omega]
end
theorem JP (s:ByteArray) (a:Nat) (ha:a<=s.size):∀(f:Nat) (c:Bool) (i:Nat),a+oZ (s.extract a s.size) f c i=oZ s f c (a+i)
 | 0,c,i=>rfl
 | f+1,c,i=>by
  rw [oZ,oZ,yK s a i ha,qJ,show a+i+1=a+(i+1) by omega];by_cases h:a+i<s.size
  ·rw [if_pos (show i<s.size-a by omega),if_pos h];have h1:=JP s a ha f false (i+1);have h2:=JP s a ha f true (i+1)
   repeat' split
   all_goals first|exact h1|exact h2|rfl
  ·rw [if_neg (show ¬ i<s.size-a by omega),if_neg h]
theorem JG (s:ByteArray) (a:Nat) (ha:a<=s.size) (c:Bool):a+sk (s.extract a s.size) c 0=sk s c a:=by
 unfold sk;rw [JP s a ha,qJ,Nat.add_zero,Nat.sub_zero]
theorem YS (s:ByteArray) (i:Nat) (h:i<s.size) (hb:bt s i<128):Utf8.decode s i=((bt s i).toNat,1):=by
 have e:=get_bt s i h;rw [decode_ascii s i h (by omega)];congr 1;omega
theorem YT (s:ByteArray) (i:Nat) (h:i<s.size):((s.get! i).toNat:Int)=bt s i:=by
 rw [<- get_bt s i h];congr 2;simp [ByteArray.get!,getElem!_pos,h];rfl
theorem o9 (s:ByteArray) (i:Nat) (h:i<s.size) (hb:¬ bt s i<128):(128:Int)<=(Utf8.decode s i).1/\1<=(Utf8.decode s i).2/\i+(Utf8.decode s i).2<=s.size/\∀j,i<=j->j<i+(Utf8.decode s i).2->128<=bt s j:=by
 have e:=get_bt s i h;have hd:=decode_high s i h (by omega);refine ⟨by have:=hd.1;omega,hd.2,?_⟩;have g:∀k,i+k<s.size->((s.get! (i+k)).toNat:Int)=bt s (i+k):=fun k hk=>YT s (i+k) hk
 have hc:∀k,(decide (i+k<s.size) && (s.get! (i+k)).toNat / 64 == 2)=true->i+k<s.size/\128<=bt s (i+k):=fun k hk=>by
  rw [Bool.and_eq_true,decide_eq_true_eq,beq_iff_eq] at hk;refine ⟨hk.1,?_⟩;rw [<- g k hk.1]
  have:=hk.2
  omega
 have key:∀n,n=(Utf8.decode s i).2->n=1\/(n=2/\(decide (i+1<s.size) && (s.get! (i+1)).toNat / 64 == 2)=true)\/(n=3/\(decide (i+1<s.size) && (s.get! (i+1)).toNat / 64 == 2)=true/\(decide (i+2<s.size) && (s.get! (i+2)).toNat / 64 == 2)=true)
   \/ (n=4/\(decide (i+1<s.size) && (s.get! (i+1)).toNat / 64 == 2)=true/\(decide (i+2<s.size) && (s.get! (i+2)).toNat / 64 == 2)=true/\(decide (i+3<s.size) && (s.get! (i+3)).toNat / 64 == 2)=true):=by
  intro n hn;subst hn;simp only [Utf8.decode]
  repeat' split
  all_goals simp_all
 generalize hn:(Utf8.decode s i).2=n at *;have key:=key n rfl;have b0:128<=bt s i:=by omega
 rcases key with rfl|⟨rfl,h1⟩|⟨rfl,h1,h2⟩|⟨rfl,h1,h2,h3⟩
 ·refine ⟨by omega,fun j hj hj'=>?_⟩;obtain rfl:j=i:=by omega
  exact b0
 ·have h1:=hc 1 h1;refine ⟨by omega,fun j hj hj'=>?_⟩;rcases (show j=i\/j=i+1 by omega) with rfl|rfl
  ·exact b0
  ·exact h1.2
 ·have h1:=hc 1 h1;have h2:=hc 2 h2;refine ⟨by omega,fun j hj hj'=>?_⟩;rcases (show j=i\/j=i+1\/j=i+2 by omega) with rfl|rfl|rfl
  ·exact b0
  ·exact h1.2
  ·exact h2.2
 ·have h1:=hc 1 h1;have h2:=hc 2 h2;have h3:=hc 3 h3;refine ⟨by omega,fun j hj hj'=>?_⟩;rcases (show j=i\/j=i+1\/j=i+2\/j=i+3 by omega) with rfl|rfl|rfl|rfl
  ·exact b0
  ·exact h1.2
  ·exact h2.2
  ·exact h3.2
end Lx
namespace Lx
def eO (s:ByteArray):Nat->Nat->Int->Int
 | 0,_,n=>n
 | k+1,i,n=>eO s k (i+1) (n*10+(bt s i-48))
def ez (n:Int):Bool:=decide (-1073741824<=n) && decide (n<=1073741823)
def num (s:ByteArray) (a f:Nat):Option (Int × Nat) :=
 if en s dg f=f\/(1<en s dg f-f/\bt s f=48)\/10<en s dg f-f then none
 else if ez (if a<f then -eO s (en s dg f-f) f 0 else eO s (en s dg f-f) f 0)=true then some (if a<f then -eO s (en s dg f-f) f 0 else eO s (en s dg f-f) f 0,en s dg f) else none
def bK (s:ByteArray) (u:Int):Nat->Nat->Int->Int
 | 0,_,n=>n
 | k+1,i,n=>bK s u k (i+1) (if ez n=true then n*10+u*(bt s i-48) else n)
theorem OI (s:ByteArray) (u:Int):∀(k i:Nat) (n:Int),ez n=false->bK s u k i n=n
 | 0,i,n,h=>rfl
 | k+1,i,n,h=>by rw [bK,h];exact OI s u k (i+1) n h
theorem oJ (s:ByteArray) (u:Int):∀(k i:Nat) (n:Int),bK s u (k+1) i n=if ez (bK s u k i n)=true then bK s u k i n*10+u*(bt s (i+k)-48) else bK s u k i n
 | 0,i,n=>rfl
 | k+1,i,n=>by
  rw [bK,oJ s u k (i+1),show i+(k+1)=i+1+k by omega];rfl
theorem OJ (s:ByteArray):∀(k l i:Nat) (n:Int),eO s (k+l) i n=eO s l (i+k) (eO s k i n)
 | 0,l,i,n=>by rw [Nat.zero_add];rfl
 | k+1,l,i,n=>by rw [show k+1+l=k+l+1 by omega,eO,OJ s k l (i+1),show i+(k+1)=i+1+k by omega];rfl
theorem kv {c:Int} (h:dg c=true):48<=c/\c<=57:=by unfold dg at h;rw [Bool.and_eq_true,decide_eq_true_eq,decide_eq_true_eq] at h;exact h
theorem I2 (s:ByteArray):∀(k i:Nat) (n:Int),0<=n->(∀j,i<=j->j<i+k->dg (bt s j)=true)->n<=eO s k i n
 | 0,i,n,_,_=>Int.le_refl _
 | k+1,i,n,h,hd=>by
  have h1:=kv (hd i (Nat.le_refl _) (by omega))
  have:=I2 s k (i+1) (n*10+(bt s i-48)) (by omega) (fun j h1 h2=>hd j (by omega) (by omega))
  rw [eO];omega
theorem OL (s:ByteArray) (u:Int) (hu:u=1\/u=-1):∀(k i:Nat) (m:Int),0<=m->(∀j,i<=j->j<i+k->dg (bt s j)=true) ->
  ez (bK s u k i (u*m))=ez (u*eO s k i m)/\(ez (u*eO s k i m)=true->bK s u k i (u*m)=u*eO s k i m)
 | 0,i,m,_,_=>⟨rfl,fun _=>rfl⟩
 | k+1,i,m,h,hd=>by
  have h1:=kv (hd i (Nat.le_refl _) (by omega));cases hi:ez (u*m) with
  | true =>
   rw [bK,eO,hi,if_pos rfl,show u*m*10+u*(bt s i-48)=u*(m*10+(bt s i-48)) by rw [Int.mul_add,Int.mul_assoc]];exact OL s u hu k (i+1) (m*10+(bt s i-48)) (by omega) (fun j h1 h2=>hd j (by omega) (by omega))
  | false =>
   rw [OI s u (k+1) i _ hi,hi];have hg:=I2 s (k+1) i m h hd
   have ho:ez (u*eO s (k+1) i m)=false:=by
    generalize eO s (k+1) i m=V at *;unfold ez at hi ⊢;rw [Bool.and_eq_false_iff,decide_eq_false_iff_not,decide_eq_false_iff_not] at hi ⊢;rcases hu with rfl|rfl<;>omega
   rw [ho];exact ⟨rfl,fun h=>by cases h⟩
theorem Xw (s:ByteArray) (k i:Nat) (hk:10<k) (hd:∀j,i<=j->j<i+k->dg (bt s j)=true) (h0:bt s i≠48):10000000000<=eO s k i 0:=by
 obtain ⟨l,rfl⟩:∃l,k=11+l:=⟨k-11,by omega⟩;rw [OJ];have d:∀n,n<11->0<=bt s (i+n)-48:=fun n hn=>by have:=kv (hd (i+n) (by omega) (by omega));omega
 have d0:=kv (hd i (Nat.le_refl _) (by omega))
 have hv:10000000000<=eO s 11 i 0:=by
  have e1:=d 1 (by omega);have e2:=d 2 (by omega);have e3:=d 3 (by omega);have e4:=d 4 (by omega);have e5:=d 5 (by omega);have e6:=d 6 (by omega);have e7:=d 7 (by omega);have e8:=d 8 (by omega);have e9:=d 9 (by omega);have e10:=d 10 (by omega);simp only [eO,Nat.add_assoc,Nat.reduceAdd];omega
 have:=I2 s l (i+11) (eO s 11 i 0) (by omega) (fun j h1 h2=>hd j (by omega) (by omega))
 omega
def CJ (d:ByteArray) (u:Int):Option (Int × Nat) :=
 if en d dg 0=0\/(1<en d dg 0/\bt d 0=48)\/ez (bK d u (en d dg 0) 0 0)=false then none else some (bK d u (en d dg 0) 0 0,en d dg 0)
theorem OM (s:ByteArray) (f:Nat) (hf:f<=s.size) (u:Int):∀(k i:Nat) (n:Int),bK (s.extract f s.size) u k i n=bK s u k (f+i) n
 | 0,i,n=>rfl
 | k+1,i,n=>by rw [bK,bK,yK s f i hf,OM s f hf u k (i+1),show f+i+1=f+(i+1) by omega]
theorem E8 (s:ByteArray) (a f:Nat) (hf:f<=s.size):num s a f=(CJ (s.extract f s.size) (if a<f then -1 else 1)).map fun x=>(x.1,f+x.2):=by
 have hg:=pR s dg f;have he:en (s.extract f s.size) dg 0=en s dg f-f:=by rw [E9 s dg f 0 hf,Nat.add_zero]
 unfold CJ num;rw [he,yK s f 0 hf,OM s f hf,Nat.add_zero];obtain ⟨k,hk⟩:∃k,en s dg f=f+k:=⟨en s dg f-f,by omega⟩;have hd:∀j,f<=j->j<f+k->dg (bt s j)=true:=fun j h1 h2=>oK s dg h1 (by omega);rw [hk,show f+k-f=k by omega];obtain ⟨u,hu⟩:∃u:Int,(if a<f then -1 else 1)=u:=⟨_,rfl⟩;have hu':u=1\/u=-1:=by rw [<- hu];split;exact .inr rfl;exact .inl rfl
 have hsg:(if a<f then -eO s k f 0 else eO s k f 0)=u*eO s k f 0:=by rw [<- hu];split<;>omega
 rw [hsg,hu];have hp:=OL s u hu' k f 0 (Int.le_refl _) hd;rw [Int.mul_zero] at hp;by_cases h1:k=0
 ·rw [if_pos (.inl (by omega)),if_pos (.inl h1)];rfl
 ·by_cases h2:1<k/\bt s f=48
  ·rw [if_pos (.inr (.inl h2)),if_pos (.inr (.inl h2))];rfl
  ·by_cases h3:10<k
   ·rw [if_pos (.inr (.inr h3))];have hl:=Xw s k f h3 hd (fun e=>h2 ⟨by omega,e⟩)
    have ho:ez (u*eO s k f 0)=false:=by
     unfold ez;rw [Bool.and_eq_false_iff,decide_eq_false_iff_not,decide_eq_false_iff_not];rcases hu' with rfl|rfl<;>omega
    rw [if_pos (.inr (.inr (hp.1.trans ho)))];rfl
   ·rw [if_neg (by omega)];cases hi:ez (u*eO s k f 0) with
    | true =>
     rw [if_pos rfl,if_neg (fun h=>by rcases h with h|h|h;exact h1 h;exact h2 h;rw [hp.1,hi] at h;cases h),hp.2 hi];rfl
    | false =>
     rw [if_neg (by decide),if_pos (.inr (.inr (hp.1.trans hi)))];rfl
def keys:List ByteArray:=[⟨#[116,121,112,101]⟩,⟨#[102,117,110]⟩,⟨#[108,101,116]⟩,⟨#[114,101,99]⟩,⟨#[105,110]⟩,⟨#[99,97,115,101]⟩,⟨#[111,102]⟩,⟨#[101,110,100]⟩,⟨#[105,102]⟩,⟨#[116,104,101,110]⟩,⟨#[101,108,115,101]⟩,⟨#[112,114,105,110,116]⟩]
def tH:List ByteArray:=[⟨#[45,62]⟩,⟨#[61,61]⟩]
def pU:List ByteArray:=[⟨#[124]⟩,⟨#[61]⟩,⟨#[40]⟩,⟨#[41]⟩,⟨#[59]⟩,⟨#[43]⟩,⟨#[45]⟩,⟨#[42]⟩,⟨#[47]⟩,⟨#[37]⟩,⟨#[60]⟩,⟨#[95]⟩]
def signs:List ByteArray:=tH++pU
def cK (s:ByteArray):List ByteArray->Bool
 | []=>false
 | x :: l=>if x=s then true else cK s l
theorem I3 (s:ByteArray):∀(l m:List ByteArray),cK s (l++m)=(cK s l || cK s m)
 | [],m=>rfl
 | x :: l,m=>by
  rw [List.cons_append,cK,cK,I3 s l m];split<;>rfl
theorem I4 (s:ByteArray) (n:Nat) (h:s.size≠n):∀(l:List ByteArray),(∀x ∈ l,x.size=n)->cK s l=false
 | [],_=>rfl
 | x :: l,hl=>by
  rw [cK,if_neg (fun e=>h (by rw [<- e];exact hl x (List.mem_cons_self ..)))];exact I4 s n h l fun y hy=>hl y (List.mem_cons_of_mem _ hy)
def pfx (t x:ByteArray):Bool:=decide (x.size<=t.size) && decide (t.extract 0 x.size=x)
def fst (t:ByteArray):List ByteArray->Nat
 | []=>0
 | x :: l=>if pfx t x=true then x.size else fst t l
theorem I5 (t:ByteArray) (n:Nat) (m:List ByteArray):∀(l:List ByteArray),(∀x ∈ l,x.size=n)->fst t (l++m)=if n<=t.size/\cK (t.extract 0 n) l=true then n else fst t m
 | [],_=>by rw [if_neg (fun h=>by cases h.2)];rfl
 | x :: l,hl=>by
  have hx:=hl x (List.mem_cons_self ..);rw [List.cons_append,fst,I5 t n m l fun y hy=>hl y (List.mem_cons_of_mem _ hy),cK];unfold pfx;rw [hx];by_cases h1:n<=t.size
  ·rw [decide_eq_true h1,Bool.true_and];by_cases h2:t.extract 0 n=x
   ·rw [if_pos (decide_eq_true h2),if_pos h2.symm,if_pos ⟨h1,rfl⟩]
   ·rw [if_neg (fun h=>h2 (of_decide_eq_true h)),if_neg (show ¬ x=t.extract 0 n from fun e=>h2 e.symm)]
  ·rw [decide_eq_false h1,if_neg (by simp),if_neg (fun h=>h1 h.1),if_neg (fun h=>h1 h.1)]
theorem I6:∀x ∈ tH,x.size=2:=by intro x hx;simp [tH] at hx;rcases hx with rfl|rfl<;>rfl
theorem I7:∀x ∈ pU,x.size=1:=by intro x hx;simp [pU] at hx;rcases hx with rfl|rfl|rfl|rfl|rfl|rfl|rfl|rfl|rfl|rfl|rfl|rfl<;>rfl
theorem Xx (t:ByteArray):fst t signs=if 2<=t.size/\cK (t.extract 0 2) signs=true then 2 else if 1<=t.size/\cK (t.extract 0 1) signs=true then 1 else 0:=by
 have e1:fst t pU=if 1<=t.size/\cK (t.extract 0 1) pU=true then 1 else 0:=by
  have:=I5 t 1 [] pU I7
  rw [List.append_nil] at this;exact this
 unfold signs;rw [I5 t 2 pU tH I6,e1]
 have s2:(2<=t.size/\cK (t.extract 0 2) (tH++pU)=true)=(2<=t.size/\cK (t.extract 0 2) tH=true):=by
  apply propext;refine and_congr_right fun h=>?_;rw [I3,I4 (t.extract 0 2) 1 (by rw [ByteArray.size_extract];omega) pU I7,Bool.or_false]
 have s1:(1<=t.size/\cK (t.extract 0 1) (tH++pU)=true)=(1<=t.size/\cK (t.extract 0 1) pU=true):=by
  apply propext;refine and_congr_right fun h=>?_;rw [I3,I4 (t.extract 0 1) 2 (by rw [ByteArray.size_extract];omega) tH I6,Bool.false_or]
 simp only [s1,s2]
def one (s:ByteArray) (i:Nat):Except Int (Int × ByteArray × Int × Nat) :=
 if sm (bt s i)=true\/cp (bt s i)=true then
  (if 32<en s pt i-i then .error 2 else .ok (if cp (bt s i)=true then 2 else if cK (s.extract i (en s pt i)) keys=true then 5 else 1,s.extract i (en s pt i),0,en s pt i))
 else if bt s i=39 then
  (if i+1=s.size\/sm (bt s (i+1))=false then .error 110 else if 32<en s pt (i+1)-(i+1) then .error 2 else .ok (3,s.extract (i+1) (en s pt (i+1)),0,en s pt (i+1)))
 else if bt s i=126\/dg (bt s i)=true then
  (match num s i (if bt s i=126 then i+1 else i) with|some (n,e)=>.ok (4,⟨#[]⟩,n,e)|none=>.error 110)
 else if i+2<=s.size/\cK (s.extract i (i+2)) signs=true then .ok (6,s.extract i (i+2),0,i+2)
 else if i+1<=s.size/\cK (s.extract i (i+1)) signs=true then .ok (6,s.extract i (i+1),0,i+1)
 else .error 110
theorem Fa {c:Int} (h:sm c=true):pt c=true:=by unfold pt;rw [h];rfl
theorem OO {c:Int} (h:cp c=true):pt c=true:=by unfold pt;rw [h,Bool.or_true];rfl
theorem OP {s:ByteArray} {a f:Nat} {n:Int} {e:Nat} (hf:f<=s.size) (h:num s a f=some (n,e)):f<e/\e<=s.size:=by
 unfold num at h;obtain ⟨V,hV⟩:∃V,(if a<f then -eO s (en s dg f-f) f 0 else eO s (en s dg f-f) f 0)=V:=⟨_,rfl⟩;rw [hV] at h;split at h
 ·cases h
 ·rename_i h0;split at h
  ·injection h with h;injection h with _ h;have h1:=pR s dg f;have h2:=jw s dg hf;omega
  ·cases h
theorem wh {s:ByteArray} {i:Nat} (hi:i<s.size) {k:Int} {x:ByteArray} {n:Int} {e:Nat} (h:one s i=.ok (k,x,n,e)):i<e/\e<=s.size:=by
 unfold one at h;split at h
 ·rename_i hc;split at h
  ·cases h
  ·injection h with h;injection h with _ h;injection h with _ h;injection h with _ h;have hp:pt (bt s i)=true:=by rcases hc with hc|hc;exact Fa hc;exact OO hc
   have h1:=pR s pt (i+1);rw [<- AK s pt hi hp] at h1;have h2:=jw s pt (Nat.le_of_lt hi);omega
 ·split at h
  ·split at h
   ·cases h
   ·rename_i hn;split at h
    ·cases h
    ·injection h with h;injection h with _ h;injection h with _ h;injection h with _ h;have h1:=pR s pt (i+1);have h2:=jw s pt (show i+1<=s.size by omega);omega
  ·split at h
   ·rename_i hc;obtain ⟨f,hf⟩:∃f,(if bt s i=126 then i+1 else i)=f:=⟨_,rfl⟩;have hf':i<=f/\f<=s.size:=by rw [<- hf];split<;>omega
    rw [hf] at h;split at h
    ·rename_i n' e' hn;injection h with h;injection h with _ h;injection h with _ h;injection h with _ h
     have:=OP hf'.2 hn
     omega
    ·cases h
   ·split at h
    ·injection h with h;injection h with _ h;injection h with _ h;injection h with _ h;omega
    ·split at h
     ·injection h with h;injection h with _ h;injection h with _ h;injection h with _ h;omega
     ·cases h
def uE (a:Nat):Except Int (Int × ByteArray × Int × Nat)->Except Int (Int × ByteArray × Int × Nat)
 | .ok (k,x,n,e)=>.ok (k,x,n,a+e)
 | .error z=>.error z
theorem yL (s:ByteArray) (a i j:Nat) (h:a+j<=s.size):(s.extract a s.size).extract i j=s.extract (a+i) (a+j):=by
 rw [ByteArray.extract_extract];congr 1;omega
theorem Xy (s:ByteArray) (a f:Nat) (hf:a+f<=s.size):num s a (a+f)=(num (s.extract a s.size) 0 f).map fun x=>(x.1,a+x.2):=by
 rw [E8 s a (a+f) hf,E8 (s.extract a s.size) 0 f (by rw [qJ];omega),qJ,yL s a f _ (by omega),show a+(s.size-a)=s.size by omega];rw [show (if a<a+f then (-1:Int) else 1)=if 0<f then -1 else 1 by by_cases h:0<f;rw [if_pos h,if_pos (by omega)];rw [if_neg h,if_neg (by omega)]];cases CJ (s.extract (a+f) s.size) (if 0<f then -1 else 1) with
 | none=>rfl
 | some x=>simp [Nat.add_assoc]
theorem I8 (s:ByteArray) (a:Nat) (ha:a<s.size):one s a=uE a (one (s.extract a s.size) 0):=by
 have hg:=pR s pt a;have hg1:=pR s pt (a+1);have hl:=jw s pt (Nat.le_of_lt ha);have e0:en (s.extract a s.size) pt 0=en s pt a-a:=by rw [E9 s pt a 0 (by omega),Nat.add_zero]
 have e1:en (s.extract a s.size) pt (0+1)=en s pt (a+1)-a:=E9 s pt a 1 (by omega);have b0:bt (s.extract a s.size) 0=bt s a:=yK s a 0 (by omega);have b1:bt (s.extract a s.size) (0+1)=bt s (a+1):=yK s a 1 (by omega);have hl1:=jw s pt (show a+1<=s.size by omega);unfold one;rw [e0,e1,b0,b1,qJ];by_cases h1:sm (bt s a)=true\/cp (bt s a)=true
 ·rw [if_pos h1,if_pos h1,show en s pt a-a-0=en s pt a-a by omega,yL s a 0 _ (by omega),show a+(en s pt a-a)=en s pt a by omega,Nat.add_zero];by_cases h2:32<en s pt a-a
  ·rw [if_pos h2,if_pos h2];rfl
  ·rw [if_neg h2,if_neg h2];simp only [uE];rw [show a+(en s pt a-a)=en s pt a by omega]
 ·rw [if_neg h1,if_neg h1];by_cases h2:bt s a=39
  ·rw [if_pos h2,if_pos h2];by_cases h3:a+1=s.size\/sm (bt s (a+1))=false
   ·rw [if_pos h3,if_pos (by rcases h3 with h3|h3;exact .inl (by omega);exact .inr h3)];rfl
   ·have h3':¬ (0+1=s.size-a\/sm (bt s (a+1))=false):=fun h=>h3 (by rcases h with h|h;exact .inl (by omega);exact .inr h)
    rw [if_neg h3,if_neg h3',show en s pt (a+1)-a-(0+1)=en s pt (a+1)-(a+1) by omega,yL s a (0+1) _ (by omega),show a+(en s pt (a+1)-a)=en s pt (a+1) by omega];by_cases h4:32<en s pt (a+1)-(a+1)
    ·rw [if_pos h4,if_pos h4];rfl
    ·rw [if_neg h4,if_neg h4];simp only [uE,Nat.zero_add];rw [show a+(en s pt (a+1)-a)=en s pt (a+1) by omega]
  ·rw [if_neg h2,if_neg h2];by_cases h3:bt s a=126\/dg (bt s a)=true
   ·rw [if_pos h3,if_pos h3];obtain ⟨f,hf⟩:∃f,(if bt s a=126 then 0+1 else 0)=f:=⟨_,rfl⟩;have I9:(if bt s a=126 then a+1 else a)=a+f:=by rw [<- hf];split<;>omega
    rw [hf,I9,Xy s a f (by rw [<- hf];split<;>omega)]
    cases num (s.extract a s.size) 0 f with
    | none=>rfl
    | some x=>rfl
   ·rw [if_neg h3,if_neg h3];by_cases h4:a+2<=s.size
    ·rw [yL s a 0 (0+2) (by omega),yL s a 0 (0+1) (by omega)];have q2:(a+2<=s.size)=True:=eq_true h4;have q2':(2<=s.size-a)=True:=eq_true (by omega);have q1:(a+1<=s.size)=True:=eq_true (by omega);have q1':(1<=s.size-a)=True:=eq_true (by omega);simp only [Nat.add_zero,Nat.zero_add,q2,q2',q1,q1',true_and];by_cases ha2:cK (s.extract a (a+2)) signs=true
     ·rw [if_pos ha2,if_pos ha2];rfl
     ·rw [if_neg ha2,if_neg ha2];by_cases ha1:cK (s.extract a (a+1)) signs=true
      ·rw [if_pos ha1,if_pos ha1];rfl
      ·rw [if_neg ha1,if_neg ha1];rfl
    ·have q0:¬ (0+2<=s.size-a/\cK ((s.extract a s.size).extract 0 (0+2)) signs=true):=fun h=>h4 (by have:=h.1;omega);rw [if_neg (fun h=>h4 h.1),if_neg q0,yL s a 0 (0+1) (by omega)];have q1:(a+1<=s.size)=True:=eq_true (by omega);have q1':(1<=s.size-a)=True:=eq_true (by omega);simp only [Nat.add_zero,Nat.zero_add,q1,q1',true_and];by_cases ha1:cK (s.extract a (a+1)) signs=true
     ·rw [if_pos ha1,if_pos ha1];rfl
     ·rw [if_neg ha1,if_neg ha1];rfl
structure Tk where
 k:Int
 x:ByteArray
 n:Int
 a:Int
def bH (s:ByteArray):Nat->Nat->List Tk->List Tk × Int × Int
 | 0,_,acc=>(acc,0,0)
 | f+1,i,acc=>if i<s.size then
   (match one s i with
   | .error z=>([],(i:Int),z)
   | .ok (k,x,n,e)=>if acc.length=4096 then ([],(i:Int),3) else bH s f (sk s false e) (acc++[⟨k,x,n,i⟩])) else (acc,0,0)
def lx (s:ByteArray):List Tk × Int × Int:=if 8192<s.size then ([],0,2) else bH s s.size (sk s false 0) []
theorem qK (s:ByteArray) (f i:Nat) (acc:List Tk) (h:¬ i<s.size):bH s f i acc=(acc,0,0):=by
 cases f with
 | zero=>rfl
 | succ f=>rw [bH,if_neg h]
theorem Xz (s : ByteArray) (f i : Nat) (acc : List Tk) (h : i < s.size) (hf : s.size ≤ i + f) : ∃ g, f = g + 1 ∧ bH s f i acc = (match one s i with
      | .error z => ([], (i : Int), z)
      | .ok (k, x, n, e) => if acc.length = 4096 then ([], (i : Int), 3) else bH s g (sk s false e) (acc ++ [⟨k, x, n, i⟩])) := by
  obtain ⟨g, rfl⟩ : ∃ g, f = g + 1 := ⟨f - 1, by omega⟩;exact ⟨g, rfl, by rw [bH, if_pos h]⟩
end Lx
end Go.Proofs.YtkdbgopgjbfhbaaGreatDoor
