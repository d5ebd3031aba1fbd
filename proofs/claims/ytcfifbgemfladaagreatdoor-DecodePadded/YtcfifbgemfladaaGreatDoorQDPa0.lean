/- Texts that the claim needs. -/
import Derived.WalkKit
import Derived.Laws.BytesArg
import Derived.Laws.BitsAllLaws
import Derived.Test.YtcfifbgemfladaaGreatDoorRows
import Derived.WalkSpells
import Derived.WalkSmall
import Derived.BigQuiet
import Derived.Deep.QuietTactic
namespace Go.Proofs.YtcfifbgemfladaaGreatDoor
theorem aj {p:Prop} [Decidable p] (h:¬p:=by omega):decide p=false:=decide_eq_false h
theorem ay {p:Prop} [Decidable p] (h:p:=by omega):decide p=true:=decide_eq_true h
abbrev aT:=@List.length_append
abbrev bG:=@List.getElem?_eq_getElem
abbrev bw:=@List.append_assoc
abbrev aC:=@Nat.le_refl
abbrev ik:=@List.length_cons
abbrev gq:=@List.getElem?_eq_some_iff
abbrev iF:=@List.mem_of_getElem?
abbrev mQ:=@List.length_nil
abbrev gz:=@List.getElem?_toArray
abbrev gV:=@List.getElem?_cons_zero
abbrev gU:=@List.getElem?_cons_succ
abbrev iw:=@List.drop_succ_cons
abbrev fN:=@List.nil_append
abbrev gX:=@Array.getElem?_eq_some_iff
abbrev gN:=@Option.some.injEq
abbrev bH:=@Bool.and_eq_true
abbrev ja:=@List.take_succ_cons
abbrev gP:=@List.drop_zero
abbrev qm:=@List.take_of_length_le
abbrev nN:=@List.drop_eq_getElem_cons
abbrev iy:=@List.cons_append
abbrev jk:=@Bool.true_and
abbrev dN:=@List.all_eq_true
abbrev jb:=@List.take_zero
abbrev wY:=@beq_eq_false_iff_ne
abbrev nP:=@List.getD_cons_succ
abbrev nQ:=@List.getD_cons_zero
abbrev BJ:=@List.drop_eq_nil_of_le
abbrev vB:=@List.getElem?_append_left
abbrev uV:=@List.getElem?_append_right
abbrev lI:=@List.mem_cons
abbrev zx:=@List.flatMap_append
abbrev jS:=@List.length_map
abbrev jg:=@Nat.lt_of_lt_of_le
abbrev eU:=@Nat.le_trans
abbrev qw:=@List.map_append
abbrev wU:=@Array.getElem?_eq_getElem
abbrev iZ:=@List.length_eq_zero_iff
abbrev yY:=@List.length_take
abbrev yh:=@Bool.and_assoc
theorem ag {a b:Int} (h:a≠b):(a==b)=false:=beq_eq_false_iff_ne.2 h
abbrev AC:=@Go.RowKit.Below.refl
abbrev AD:=@if_neg
abbrev AE:=@if_pos
abbrev AG:=World
abbrev AH:=ByteArray
def AM (op:Int):List Int->Prop
 | []=>True
 | x::r=>(op==x)=false/\AM op r
theorem AN (op:Int):∀ l:List Int,(∀ x∈l,op≠x)->AM op l
 | [],_=>trivial
 | x::r,h=>⟨ag (h x (List.mem_cons_self ..)),AN op r fun y hy=>h y (List.mem_cons_of_mem _ hy)⟩
abbrev AS (w v:World):Prop:=Go.RowKit.Below w.heap.size w v
namespace af
def vI:Nat->Int->List Int
 | 0,n=>[n%128]
 | f+1,n=>if n<128 then [n%128] else (n%128+128) :: vI f (n / 128)
def uB (n:Int):List Int:=vI n.toNat n
theorem OG:∀(f g:Nat) (n:Int),0<=n->n.toNat<=f->n.toNat<=g->vI f n=vI g n
 | 0,0,_,_,_,_=>rfl
 | 0,g+1,n,h,hf,_=>by
  have:n<128:=by omega
  simp [vI,this]
 | f+1,0,n,h,_,hg=>by
  have:n<128:=by omega
  simp [vI,this]
 | f+1,g+1,n,h,hf,hg=>by
  simp only [vI];split
  ·rfl
  rw [OG f g (n / 128) (by omega) (by omega) (by omega)]
theorem vq {n:Int} (h0:0<=n) (h:n<128):uB n = [n]:=by
 have e:n%128=n:=by omega
 unfold uB;cases n.toNat<;>simp [vI,h,e]
theorem BM {n:Int} (h:128<=n):uB n=(n%128+128) :: uB (n / 128):=by
 have hn:∃f,n.toNat=f+1:=⟨n.toNat-1,by omega⟩;obtain ⟨f,hf⟩:=hn;unfold uB;rw [hf];simp only [vI];rw [AD (by omega),OG f (n / 128).toNat (n / 128) (by omega) (by omega) (by omega)]
def vJ:Nat->Int->List Int
 | 0,n=>[n%128]
 | f+1,n=>if -64<=n/\n<=63 then [n%128] else (n%128+128) :: vJ f (n / 128)
def sB (n:Int):List Int:=vJ n.natAbs n
theorem OH:∀(f g:Nat) (n:Int),n.natAbs<=f->n.natAbs<=g->vJ f n=vJ g n
 | 0,0,_,_,_=>rfl
 | 0,g+1,n,hf,_=>by
  have:-64<=n/\n<=63:=by omega
  simp [vJ,this]
 | f+1,0,n,_,hg=>by
  have:-64<=n/\n<=63:=by omega
  simp [vJ,this]
 | f+1,g+1,n,hf,hg=>by
  simp only [vJ];split
  ·rfl
  rw [OH f g (n / 128) (by omega) (by omega)]
theorem qx {n:Int} (h:-64<=n/\n<=63):sB n = [n%128]:=by
 unfold sB;cases n.natAbs<;>simp [vJ,h]
theorem wN {n:Int} (h:¬ (-64<=n/\n<=63)):sB n=(n%128+128) :: sB (n / 128):=by
 have hn:∃f,n.natAbs=f+1:=⟨n.natAbs-1,by omega⟩;obtain ⟨f,hf⟩:=hn;unfold sB;rw [hf];simp only [vJ];rw [AD h,OH f (n / 128).natAbs (n / 128) (by omega) (by omega)]
theorem Gi:∀(j:Nat) (n:Int),0<=n->n<128 ^ (j+1)->(uB n).length<=j+1
 | 0,n,h0,h=>by rw [vq h0 (by simpa using h)];simp
 | j+1,n,h0,h=>by
  by_cases hs:n<128
  ·rw [vq h0 hs];simp
  rw [BM (by omega)]
  have hd:n / 128<128 ^ (j+1):=by
   have e:(128:Int) ^ (j+1+1)=128 ^ (j+1)*128:=by rw [Int.pow_succ]
   rw [e] at h;omega
  have:=Gi j (n / 128) (by omega) hd
  simp;omega
theorem Dv (n:Int):0<(uB n).length:=by
 unfold uB;cases n.toNat with
 | zero=>simp [vI]
 | succ f=>simp only [vI];split<;>simp
theorem OI:∀(j:Nat) (n:Int),-(64*128 ^ j)<=n->n<64*128 ^ j->(sB n).length<=j+1
 | 0,n,h0,h=>by
  have h0':-64<=n:=by simpa using h0
  have h':n<64:=by simpa using h
  rw [qx ⟨h0',by omega⟩];simp
 | j+1,n,h0,h=>by
  by_cases hs:-64<=n/\n<=63
  ·rw [qx hs];simp
  rw [wN hs];have e:(128:Int) ^ (j+1)=128 ^ j*128:=by rw [Int.pow_succ]
  rw [e] at h h0
  have:=OI j (n / 128) (by omega) (by omega)
  simp;omega
theorem Dw (n:Int):0<(sB n).length:=by
 unfold sB;cases n.natAbs with
 | zero=>simp [vJ]
 | succ f=>simp only [vJ];split<;>simp
theorem yd {n:Int} (h0:0<=n) (h:n<=18446744073709551615):(uB n).length<=10:=by
 have e:(128:Int) ^ 10=1180591620717411303424:=by decide
 exact Gi 9 n h0 (by show n<128 ^ 10;rw [e];omega)
theorem BR {n:Int} (h0:-9223372036854775808<=n) (h:n<=9223372036854775807):(sB n).length<=10:=by
 have e:(64:Int)*128 ^ 9=590295810358705651712:=by decide
 exact OI 9 n (by rw [e];omega) (by rw [e];omega)
end af
namespace af
def bt (s:AH) (k:Nat):Int:=if h:k<s.size then ((s[k]'h).toNat:Int) else 0
theorem get_bt (s:AH):∀(n:Nat) (h:n<s.size),((s[n]'h).toNat:Int)=bt s n:=λn h=>by unfold bt;rw [dif_pos h]
theorem xL (s:AH) (k:Nat):0<=bt s k/\bt s k<=255:=by
 unfold bt;split
 ·have:=(s[k]).toNat_lt;omega
 omega
def fO (f:Nat->Int) (L:Nat):Nat->Nat->Nat
 | 0,_=>0
 | n+1,i=>if i<L then (if f i<128 then i+1 else fO f L n (i+1)) else 0
def jh (f:Nat->Int) (L most:Nat):Nat:=fO f L most 0
def val (f:Nat->Int):Nat->Int
 | 0=>0
 | k+1=>val f k+128 ^ k*(f k%128)
theorem M0 (f:Nat->Int) (L n i:Nat) (h:¬ i<L):fO f L n i=0:=by
 cases n with
 | zero=>rfl
 | succ n=>simp [fO,h]
theorem Ai (f:Nat->Int) (L n i:Nat) (hn:0<n) (h:i<L) (hf:f i<128):fO f L n i=i+1:=by
 cases n with
 | zero=>omega
 | succ n=>simp [fO,h,hf]
theorem zf (f:Nat->Int) (L n i:Nat) (hn:0<n) (h:i<L) (hf:¬ f i<128):fO f L n i=fO f L (n-1) (i+1):=by
 cases n with
 | zero=>omega
 | succ n=>simp [fO,h,hf]
theorem JQ (f:Nat->Int) (L:Nat):∀(n i:Nat),fO f L n i≠0->i<fO f L n i/\fO f L n i<=i+n/\fO f L n i<=L/\f (fO f L n i-1)<128/\(∀j,i<=j->j+1<fO f L n i->128<=f j)
 | 0,i,h=>absurd rfl h
 | n+1,i,h=>by
  simp only [fO] at h ⊢;split
  ·split
   ·rename_i hl hf;exact ⟨by omega,by omega,by omega,by simpa using hf,λj h1 h2=>by omega⟩
   rename_i hl hf;rw [AE hl,AD hf] at h;obtain ⟨a,b,c,d,e⟩:=JQ f L n (i+1) h;refine ⟨by omega,by omega,c,d,λj h1 h2=>?_⟩;by_cases hj:j=i
   ·subst hj;omega
   exact e j (by omega) h2
  rename_i hl;rw [AD hl] at h;exact absurd rfl h
theorem DF (f:Nat->Int) (L most:Nat) (h:jh f L most≠0):0<jh f L most/\jh f L most<=most/\jh f L most<=L/\f (jh f L most-1)<128/\(∀j,j+1<jh f L most->128<=f j):=by
 obtain ⟨a,b,c,d,e⟩:=JQ f L most 0 h;exact ⟨a,by unfold jh;omega,c,d,λj hj=>e j (Nat.zero_le _) hj⟩
theorem OQ (k:Nat):(0:Int)<128 ^ k:=Int.pow_pos (by decide)
theorem xf (f:Nat->Int):∀k,0<=val f k/\val f k<128 ^ k
 | 0=>by simp [val]
 | k+1=>by
  have h:=xf f k;have hp:=OQ k;have h1:0<=f k%128/\f k%128<=127:=by omega
  have e:(128:Int) ^ (k+1)=128 ^ k*128:=Int.pow_succ _ _;have h2:0<=128 ^ k*(f k%128):=Int.mul_nonneg (by omega) h1.1;have h3:128 ^ k*(f k%128)<=128 ^ k*127:=Int.mul_le_mul_of_nonneg_left h1.2 (by omega);simp only [val];rw [e];omega
theorem GG {j k:Nat} (h:j<=k):(128:Int) ^ j<=128 ^ k:=by
 have:(128:Nat) ^ j<=128 ^ k:=Nat.pow_le_pow_right (by decide) h
 exact_mod_cast this
theorem uZ (f:Nat->Int) (k:Nat) (h:k<=9):0<=val f k/\val f k<9223372036854775808:=by
 have h1:=xf f k;have h2:=GG h;have e:(128:Int) ^ 9=9223372036854775808:=by decide
 omega
theorem OT (f:Nat->Int) (k:Nat) (h:k<=4):0<=val f k/\val f k<268435456:=by
 have h1:=xf f k;have h2:=GG h;have e:(128:Int) ^ 4=268435456:=by decide
 omega
theorem DG (f:Nat->Int) (k:Nat) (N:Int):val f (k+1)+128 ^ (k+1)*N=val f k+128 ^ k*(N*128+f k%128):=by
 simp only [val];rw [Int.pow_succ,Int.mul_add,Int.mul_assoc,Int.mul_comm 128 N];omega
def qC (f:Nat->Int) (k:Nat):Int:=val f k+128 ^ k*(if 64<=f (k-1)%128 then -1 else 0)
def most (bits:Int):Nat:=if bits=32 then 5 else 10
def asks (L:Nat) (a bits:Int):Bool:=decide ((bits=32\/bits=64)/\0<=a/\a<=L)
theorem DJ {L:Nat} {a bits:Int} (h:asks L a bits=true):(bits=32\/bits=64)/\0<=a/\a<=L:=of_decide_eq_true h
theorem Zp {L:Nat} {a bits:Int} (h:asks L a bits=false):¬ ((bits=32\/bits=64)/\0<=a/\a<=L):=of_decide_eq_false h
def mK (f:Nat->Int) (k:Nat) (a bits:Int):Int × Int × Int :=
 if k=0\/(bits=32/\4294967295<val f k)\/(k=10/\1<f 9) then (0,0,10) else (val f k,a+k,0)
def rV (f:Nat->Int) (k:Nat) (a bits:Int):Int × Int × Int :=
 if k=0\/(bits=32/\(qC f k < -2147483648\/2147483647<qC f k))\/(k=10/\f 9≠0/\f 9≠127) then (0,0,10) else (qC f k,a+k,0)
def OU (f:Nat->Int) (L:Nat) (a bits:Int):Int × Int × Int:=mK f (jh f L (most bits)) a bits
def OV (f:Nat->Int) (L:Nat) (a bits:Int):Int × Int × Int:=rV f (jh f L (most bits)) a bits
def from_ (s:AH) (a:Nat):Nat->Int:=λi=>bt s (a+i)
def ig (s:AH) (a bits:Int):Int × Int × Int:=if asks s.size a bits then OU (from_ s a.toNat) (s.size-a.toNat) a bits else (0,0,1)
def jW (s:AH) (a bits:Int):Int × Int × Int:=if asks s.size a bits then OV (from_ s a.toNat) (s.size-a.toNat) a bits else (0,0,1)
theorem AO (s:AH) (a i:Nat):0<=from_ s a i/\from_ s a i<=255:=xL s _
theorem OW (f:Nat->Int) (h0:0<=f 4) (h:f 4<128):(4294967295<val f 5↔15<f 4):=by
 have h1:=OT f 4 (by omega);have e:val f 5=val f 4+268435456*(f 4%128):=rfl;omega
theorem OX (f:Nat->Int) (h0:0<=f 9) (h:f 9<=1):val f 10<=18446744073709551615:=by
 have h1:=uZ f 9 (by omega);have e:val f 10=val f 9+9223372036854775808*(f 9%128):=rfl;omega
def eB (n:Int):Int:=n%18446744073709551616
theorem GH (n:Int):0<=eB n/\eB n<=18446744073709551615:=by unfold eB;omega
theorem Ah {n:Int} (h0:0<=n) (h1:n<=18446744073709551615):eB n=n:=by unfold eB;omega
theorem Zq (n g:Int) (h0:0<=g) (h1:g<128):eB (eB n*128)+g=eB (n*128+g):=by unfold eB;omega
theorem Zr (n:Int):eB (n*128)%2 ^ 7=0:=by unfold eB;omega
theorem Zt (f:Nat->Int) (k:Nat) (h1:0<k) (h:k<=9\/(k=10/\(f 9=0\/f 9=127))):-9223372036854775808<=qC f k/\qC f k<=9223372036854775807:=by
 rcases h with h|⟨rfl,h⟩
 ·have hv:=xf f k;have h2:=GG h;have e:(128:Int) ^ 9=9223372036854775808:=by decide
  unfold qC;split
  ·omega
  omega
 have hv:=uZ f 9 (by omega);have e:val f 10=val f 9+9223372036854775808*(f 9%128):=rfl;have e2:(128:Int) ^ 10=1180591620717411303424:=by decide
 unfold qC;rw [e,e2];rcases h with h|h<;>rw [h]<;>simp<;>omega
def vQ (n:Int):Int:=(n+9223372036854775808)%18446744073709551616-9223372036854775808
theorem Zu (n:Int):-9223372036854775808<=vQ n/\vQ n<=9223372036854775807:=by unfold vQ;omega
theorem Zv {n:Int} (h0:-9223372036854775808<=n) (h1:n<=9223372036854775807):vQ n=n:=by unfold vQ;omega
end af
end Go.Proofs.YtcfifbgemfladaaGreatDoor
namespace Go.Proofs.YtcfifbgemfladaaGreatDoor
open Go.RowKit
namespace aZ
def md (W:Nat):Int:=if W=32 then 4294967296 else 18446744073709551616
def hf (W:Nat):Int:=if W=32 then 2147483648 else 9223372036854775808
def sg (W:Nat) (a:Int):Int:=if a<hf W then a else a-md W
def sig (op:Int):Int × Int × Int :=
 if op=69\/(103<=op/\op<=105) then (1,127,127)
 else if op=80 then (1,126,127)
 else if (70<=op/\op<=79)\/(106<=op/\op<=120) then (2,127,127)
 else if 81<=op/\op<=90 then (2,126,127)
 else if 121<=op/\op<=123 then (1,126,126)
 else if 124<=op/\op<=138 then (2,126,126)
 else if op=167 then (1,126,127)
 else if op=172\/op=173 then (1,127,126)
 else (0,0,0)
def signed (v typ:Int):Int:=if typ=127 then sg 32 (v%4294967296) else if typ=126 then sg 64 v else 0
theorem pow_pos (k:Nat):(0:Int)<2 ^ k:=Int.pow_pos (by decide)
end aZ
theorem acY {a b c a' b' c':Int} (h:(a,b,c)=(a',b',c')):Ending.returned (.tuple #[.int .i64 a,.int .i64 b,.int .i64 c])=.returned (.tuple #[.int .i64 a',.int .i64 b',.int .i64 c']):=by
 simp only [Prod.mk.injEq] at h;rw [h.1,h.2.1,h.2.2]
theorem below_drewN {B:Nat} {a w:AG} (h:Below B a w) (n:Nat):Below B a (w.drewN n):=⟨h.os,h.tape,h.output,h.size,h.block⟩
end Go.Proofs.YtcfifbgemfladaaGreatDoor
namespace Go.Proofs.YtcfifbgemfladaaGreatDoor
open Go.RowKit Go.Proofs.Tryz
set_option maxHeartbeats 1000000
theorem fK (op:Int) (w:AG) :
  Calls prog 115 #[.int .i64 op] w λe w'=>e=.returned (.tuple #[.int .i64 (aZ.sig op).1,.int .i64 (aZ.sig op).2.1,.int .i64 (aZ.sig op).2.2])/\w'=w:=by
 go_enter func115,ntmps115;go_wp2
 all_goals go_ret3
 all_goals refine ⟨acY ?_,rfl⟩
 all_goals (try simp only [beq_iff_eq,wY,ne_eq] at *)
 all_goals show _=aZ.sig op
 all_goals unfold aZ.sig
 all_goals first|(exfalso;omega)|(repeat first|rw [AD (by omega)]|rw [AE (by omega)])
end Go.Proofs.YtcfifbgemfladaaGreatDoor
namespace Go.Proofs.YtcfifbgemfladaaGreatDoor
open Go.RowKit
namespace au
def Row {α:Type} (size:Nat) (f:Nat->Nat->α->Prop) (v:Value) (l:List α):Prop :=
 l.length<=9223372036854775807/\((l = []/\∃o cap,v=.slice o 0 cap)\/∃b off cap,v=.slice (some ⟨b,off,none⟩) l.length cap/\∀(i:Nat) (x:α),l[i]?=some x->f b (off+i*size) x)
theorem Row.len {α:Type} {size:Nat} {f:Nat->Nat->α->Prop} {v:Value} {l:List α} (h:Row size f v l):∃o cap,v=.slice o l.length cap:=by
 rcases h with ⟨_,⟨rfl,o,cap,rfl⟩|⟨b,off,cap,rfl,_⟩⟩
 ·exact ⟨o,cap,rfl⟩
 exact ⟨_,cap,rfl⟩
theorem Row.some {α:Type} {size:Nat} {f:Nat->Nat->α->Prop} {v:Value} {l:List α} (h:Row size f v l) (h0:0<l.length):∃b off cap,v=.slice (some ⟨b,off,none⟩) l.length cap/\∀(i:Nat) (x:α),l[i]?=some x->f b (off+i*size) x:=by
 rcases h with ⟨_,⟨rfl,_⟩|h⟩
 ·exact absurd h0 (by simp)
 exact h
theorem Row.imp {α:Type} {size:Nat} {f g:Nat->Nat->α->Prop} {v:Value} {l:List α} (h:Row size f v l) (hfg:∀b o x,x ∈ l->f b o x->g b o x):Row size g v l:=by
 rcases h with ⟨hl,h|⟨b,off,cap,hv,hc⟩⟩
 ·exact ⟨hl,.inl h⟩
 exact ⟨hl,.inr ⟨b,off,cap,hv,λi x hi=>hfg _ _ _ (iF hi) (hc i x hi)⟩⟩
def Ints (w:AG) (v:Value) (l:List Int):Prop:=Row 1 (λb o (z:Int)=>w.cell? ⟨b,o,none⟩=.some (.int .i64 z)) v l
theorem ak {w w':AG} (hb:AS w w') {b o:Nat} {u:Value} (h:w.cell? ⟨b,o,none⟩=.some u):w'.cell? ⟨b,o,none⟩=.some u:=by
 rw [hb.cell (World.block_lt_of_cell? _ _ h)];exact h
theorem Ints.on {w w':AG} (hb:AS w w') {v:Value} {l:List Int} (h:Ints w v l):Ints w' v l:=Row.imp h λ_ _ _ _ h=>ak hb h
structure Ins (α:Type) where
 op:Int
 a:Int
 b:Int
 n:Int
 labels:List Int
 body:α
 els:α
def IL:Nat->Type
 | 0=>Unit
 | d+1=>List (Ins (IL d))
structure fM {α:Type} (w:AG) (sub:Value->α->Prop) (bk o:Nat) (x:Ins α):Prop where
 op:w.cell? ⟨bk,o,none⟩=.some (.int .i64 x.op)
 a:w.cell? ⟨bk,o+1,none⟩=.some (.int .i64 x.a)
 b:w.cell? ⟨bk,o+2,none⟩=.some (.int .i64 x.b)
 n:w.cell? ⟨bk,o+3,none⟩=.some (.int .i64 x.n)
 labels:∃v,w.cell? ⟨bk,o+4,none⟩=.some v/\Ints w v x.labels
 body:∃v,w.cell? ⟨bk,o+5,none⟩=.some v/\sub v x.body
 els:∃v,w.cell? ⟨bk,o+6,none⟩=.some v/\sub v x.els
def At (w:AG):(d:Nat)->Value->IL d->Prop
 | 0,v,_=>∃o cap,v=.slice o 0 cap
 | d+1,v,l=>Row 7 (fM w (At w d)) v l
theorem fM.on {α : Type} {w w' : AG} (hb : AS w w') {f g : Value → α → Prop} (hfg : ∀ v x, f v x → g v x) {b o : Nat} {x : Ins α} (h : fM w f b o x) : fM w' g b o x :=
  ⟨ak hb h.op, ak hb h.a, ak hb h.b, ak hb h.n,
   let ⟨v, h1, h2⟩ := h.labels; ⟨v, ak hb h1, h2.on hb⟩,
   let ⟨v, h1, h2⟩ := h.body; ⟨v, ak hb h1, hfg _ _ h2⟩,
   let ⟨v, h1, h2⟩ := h.els; ⟨v, ak hb h1, hfg _ _ h2⟩⟩
theorem At.on {w w':AG} (hb:AS w w'):∀(d:Nat) (v:Value) (l:IL d),At w d v l->At w' d v l
 | 0,_,_,h=>h
 | d+1,_,_,h=>Row.imp (α:=Ins (IL d)) h λ_ _ _ _ h=>h.on hb (At.on hb d)
theorem mE (w:AG) (n:Nat):AS w (w.drewN n):=⟨rfl,rfl,rfl,aC _,λ_ _=>rfl⟩
def nZ {α:Type} (f:α->Nat->Nat):List (Ins α)->Nat->Nat
 | [],c=>c
 | x :: r,c=>if c<=65536 then nZ f r (f x.els (f x.body (c+1))) else c
def cnt:(d:Nat)->IL d->Nat->Nat
 | 0,_,c=>c
 | d+1,l,c=>nZ (cnt d) l c
theorem Qa {α:Type} {f:α->Nat->Nat} (hf:∀x c,f x c<=max c 65537):∀(l:List (Ins α)) (c:Nat),nZ f l c<=max c 65537
 | [],c=>by unfold nZ;omega
 | x :: r,c=>by
  unfold nZ;split
  ·have h1:=hf x.body (c+1);have h2:=hf x.els (f x.body (c+1));have h3:=Qa hf r (f x.els (f x.body (c+1)));omega
  omega
theorem Ce:∀(d:Nat) (l:IL d) (c:Nat),cnt d l c<=max c 65537
 | 0,_,c=>by show c<=_;omega
 | d+1,l,c=>Qa (Ce d) l c
end au
end Go.Proofs.YtcfifbgemfladaaGreatDoor
namespace Go.Proofs.YtcfifbgemfladaaGreatDoor
open Go.RowKit au Go.Proofs.Tryz
set_option linter.unusedVariables false
set_option maxHeartbeats 1000000
namespace au
theorem ah {p:Prop} (h:p):Hid p:=h
def idx (n:Int):Bool:=decide (0<=n/\n<=4294967295)
def typ (n:Int):Bool:=decide (n=126\/n=127)
theorem J6 {α:Type} {p:α->Bool} {l:List α} {k:Nat} {r:Bool} (hk:¬ k<l.length) (h:r=(l.drop k).all p):r=true:=by
 rw [h,List.drop_of_length_le (by omega)];rfl
theorem J5 {α:Type} {p:α->Bool} {l:List α} {k:Nat} {r:Bool} {x:α} (hx:l[k]?=some x) (h:r=(l.drop k).all p):r=(p x&&(l.drop (k+1)).all p):=by
 have hl:k<l.length:=(gq.1 hx).1;have he:l[k]=x:=(gq.1 hx).2;rw [h,nN hl,he,List.all_cons]
theorem Qv {a b:Bool} (h:a=b):Ending.returned (.bool a)=.returned (.bool b):=by rw [h]
end au
theorem mf (n:Int) (w:AG):Calls prog 54 #[.int .i64 n] w λe w'=>e=.returned (.bool (idx n))/\w'=w:=by
 go_enter func54,ntmps54;go_wp2
 all_goals go_ret
 all_goals refine ⟨Qv ?_,rfl⟩
 all_goals (unfold idx;rw [Bool.eq_iff_iff];simp only [decide_eq_true_eq];first|omega|(simp;omega))
theorem aX (n a b:Int) (w:AG):Calls prog 24 #[.int .i64 n,.int .i64 a,.int .i64 b] w λe w'=>e=.returned (.bool (decide (a<=n/\n<=b)))/\w'=w:=by
 go_enter func24,ntmps24;go_wp2
 all_goals go_ret
 all_goals refine ⟨Qv ?_,rfl⟩
 all_goals first|rfl|(rw [Bool.eq_iff_iff];simp;done)|(rw [Bool.eq_iff_iff];simp;omega)|(symm;simp;omega)
theorem xb (v:Value) (l:List Int) (w:AG) (hAt:Ints w v l) :
  Calls prog 58 #[v] w λe w'=>e=.returned (.bool (l.all idx))/\w'=w:=by
 have hlen:=hAt.1;obtain ⟨o,cap,hv⟩:=Row.len hAt;have hs:=Row.some hAt;subst hv;obtain ⟨R,hR⟩:∃R,R=l.all idx:=⟨_,rfl⟩;rw [<- hR];have HR:Hid (R=(l.drop 0).all idx):=hR;have HX:=ah hs;clear hs hAt hR;generalize hn:l.length=n at *;go_enter func58,ntmps58;go_wp2_with fail;go_loopw [3] (λi wr=>∃k:Nat,k<=n/\i=.int .i64 k/\R=(l.drop k).all idx/\wr=w) (λi _=>n-(RowKit.intOf i).toNat)
 case atStart=>exact ⟨0,by omega,rfl,HR.out,rfl⟩
 case round =>
  obtain ⟨k,hk,rfl,hrr,rfl⟩:=hrel;have HK:=ah hrr;clear hrr;by_cases hgo:k<n
  ·obtain ⟨b,off,cap2,hv2,hx⟩:=HX.out (by omega);injection hv2 with ho h2 h3;subst ho;obtain ⟨x,hxk⟩:∃x,l[k]?=some x:=⟨_,bG (by omega)⟩;have hc:=hx k x hxk;rw [Nat.mul_one] at hc;have HN:=J5 hxk HK.out;have i1:=ah (mf x wr);clear hx hxk HK HX h2 h3;generalize idx x=r1 at *;have rY:=ah HN;clear HN;go_wp2_with fail;refine i1.out.mono ?_;rintro e w1 ⟨rfl,rfl⟩;cases r1
   ·have hfin:R=false:=by rw [rY.out];rfl
    go_wp2;go_ret;exact ⟨by first|rfl|(rw [hfin];rfl),rfl⟩
   go_wp2;go_roundw
   case rel=>exact ⟨k+1,by omega,by go_num,by rw [rY.out];rfl,trivial⟩
   case measure=>simp [RowKit.intOf];omega
  have HE:=J6 (by omega) HK.out;clear HK;go_wp2;go_ret;exact ⟨by first|rfl|(rw [HE];rfl),rfl⟩
theorem Hl (v:Value) (l:List Int) (w:AG) (hAt:Ints w v l) :
  Calls prog 53 #[v] w λe w'=>e=.returned (.bool (l.all typ))/\w'=w:=by
 have hlen:=hAt.1;obtain ⟨o,cap,hv⟩:=Row.len hAt;have hs:=Row.some hAt;subst hv;obtain ⟨R,hR⟩:∃R,R=l.all typ:=⟨_,rfl⟩;rw [<- hR];have HR:Hid (R=(l.drop 0).all typ):=hR;have HX:=ah hs;clear hs hAt hR;generalize hn:l.length=n at *;go_enter func53,ntmps53;go_wp2_with fail;go_loopw [3] (λi wr=>∃k:Nat,k<=n/\i=.int .i64 k/\R=(l.drop k).all typ/\wr=w) (λi _=>n-(RowKit.intOf i).toNat)
 case atStart=>exact ⟨0,by omega,rfl,HR.out,rfl⟩
 case round =>
  obtain ⟨k,hk,rfl,hrr,rfl⟩:=hrel;have HK:=ah hrr;clear hrr;by_cases hgo:k<n
  ·obtain ⟨b,off,cap2,hv2,hx⟩:=HX.out (by omega);injection hv2 with ho h2 h3;subst ho;obtain ⟨x,hxk⟩:∃x,l[k]?=some x:=⟨_,bG (by omega)⟩;have hc:=hx k x hxk;rw [Nat.mul_one] at hc;have HN:=J5 hxk HK.out;clear hx hxk HK HX h2 h3;by_cases h1:x=126
   ·have ht:typ x=true:=by simp [typ,h1]
    rw [ht,jk] at HN;have rY:=ah HN;have hb:(x != 126)=false:=by simp [h1]
    clear HN h1 ht;go_wp2;go_roundw
    case rel=>exact ⟨k+1,by omega,by go_num,rY.out,trivial⟩
    case measure=>simp [RowKit.intOf];omega
   by_cases h2:x=127
   ·have ht:typ x=true:=by simp [typ,h2]
    rw [ht,jk] at HN;have rY:=ah HN;have hb:(x != 126)=true:=by simp [h1]
    have hb2:(x != 127)=false:=by simp [h2]
    clear HN h1 ht h2;go_wp2;go_roundw
    case rel=>exact ⟨k+1,by omega,by go_num,rY.out,trivial⟩
    case measure=>simp [RowKit.intOf];omega
   have ht:typ x=false:=by simp [typ,h1,h2]
   rw [ht,Bool.false_and] at HN;have hb:(x != 126)=true:=by simp [h1]
   have hb2:(x != 127)=true:=by simp [h2]
   clear h1 ht h2;go_wp2;go_ret;exact ⟨by first|rfl|(rw [HN];rfl),rfl⟩
  have HE:=J6 (by omega) HK.out;clear HK;go_wp2;go_ret;exact ⟨by first|rfl|(rw [HE];rfl),rfl⟩
end Go.Proofs.YtcfifbgemfladaaGreatDoor
namespace Go.Proofs.YtcfifbgemfladaaGreatDoor
open Go.RowKit au
set_option linter.unusedVariables false
namespace au
def form (op:Int):Int :=
 if op<=-1 then 0 else
 if op<=0 then 1 else
 if op<=1 then 1 else
 if op<=2 then 2 else
 if op<=3 then 2 else
 if op<=4 then 3 else
 if op<=11 then 0 else
 if op<=12 then 4 else
 if op<=13 then 4 else
 if op<=14 then 5 else
 if op<=15 then 1 else
 if op<=16 then 6 else
 if op<=17 then 7 else
 if op<=25 then 0 else
 if op<=26 then 1 else
 if op<=27 then 1 else
 if op<=31 then 0 else
 if op<=36 then 6 else
 if op<=39 then 0 else
 if op<=40 then 8 else
 if op<=41 then 8 else
 if op<=42 then 10 else
 if op<=43 then 10 else
 if op<=55 then 8 else
 if op<=56 then 10 else
 if op<=57 then 10 else
 if op<=62 then 8 else
 if op<=63 then 1 else
 if op<=64 then 1 else
 if op<=65 then 9 else
 if op<=66 then 9 else
 if op<=67 then 10 else
 if op<=68 then 10 else
 if op<=90 then 1 else
 if op<=102 then 10 else
 if op<=138 then 1 else
 if op<=166 then 10 else
 if op<=167 then 1 else
 if op<=171 then 10 else
 if op<=173 then 1 else
 if op<=191 then 10 else
 0
theorem fJ (op : Int) : (0 < (aZ.sig op).1) ↔ ((69 ≤ op ∧ op ≤ 90) ∨ (103 ≤ op ∧ op ≤ 138) ∨ op = 167 ∨ op = 172 ∨ op = 173) := by
  unfold aZ.sig
  repeat' split
  all_goals first | (constructor <;> intro h <;> first | omega | decide) | skip
  all_goals (constructor; · intro h; exfalso; revert h; decide
             intro h; exfalso; omega)
end au
namespace aI
abbrev R (α:Type):=Except Int (α × Nat)
def bd {α β:Type} (x:R α) (f:α->Nat->R β):R β :=
 match x with
 | .ok (a,i)=>f a i
 | .error e=>.error e
theorem aK {α β:Type} (a:α) (i:Nat) (f:α->Nat->R β):bd (.ok (a,i)) f=f a i:=rfl
theorem bW {α β:Type} (e:Int) (f:α->Nat->R β):bd (.error e) f=.error e:=rfl
def nx (s:AH) (en at_:Nat):R Int:=if at_<en then .ok (af.bt s at_,at_+1) else .error 50
def ru (s:AH) (en at_:Nat):R Int:=if (af.ig (s.extract 0 en) at_ 32).2.2=0 then .ok ((af.ig (s.extract 0 en) at_ 32).1,(af.ig (s.extract 0 en) at_ 32).2.1.toNat) else .error 50
def rs (s:AH) (en:Nat) (bits:Int) (at_:Nat):R Int:=if (af.jW (s.extract 0 en) at_ bits).2.2=0 then .ok ((af.jW (s.extract 0 en) at_ bits).1,(af.jW (s.extract 0 en) at_ bits).2.1.toNat) else .error 50
def must (s:AH) (en:Nat) (b:Int) (at_:Nat):R Unit:=bd (nx s en at_) λx i=>if x=b then .ok ((),i) else .error 50
def pg (b:Int) (i:Nat):R Int:=if b=124\/b=125 then .error 51 else if b=127\/b=126 then .ok (b,i) else .error 50
def rt (s:AH) (en at_:Nat):R Int:=bd (nx s en at_) pg
def AR (s:AH) (en at_:Nat):R Int:=bd (nx s en at_) λb i=>if b=64 then .ok (0,i) else pg b i
def rc (s:AH) (en at_:Nat):R Int:=bd (ru s en at_) λn i=>if n<=4096 then .ok (n,i) else .error 3
def rep {α:Type} (f:Nat->R α):Nat->Nat->R (List α)
 | 0,i=>.ok ([],i)
 | k+1,i=>bd (f i) λx j=>bd (rep f k j) λl m=>.ok (x :: l,m)
def rl (s:AH) (en at_:Nat):R (List Int):=bd (rc s en at_) λn i=>rep (ru s en) n.toNat i
def pre {α:Type} (l:List α) (x:R (List α)):R (List α):=bd x λk i=>.ok (l++k,i)
theorem pre_nil {α:Type} (x:R (List α)):pre [] x=x:=by
 unfold pre bd;cases x with
 | error e=>rfl
 | ok v=>rfl
theorem vN {α:Type} (l:List α) (f:Nat->R α) (i:Nat):pre l (rep f 0 i)=.ok (l,i):=by
 unfold pre rep bd;simp
theorem pre_on {α:Type} (l:List α) (f:Nat->R α) (k i:Nat) (x:α) (j:Nat) (h:f i=.ok (x,j)):pre l (rep f (k+1) i)=pre (l++[x]) (rep f k j):=by
 unfold pre;show bd (bd (f i) _) _=_;rw [h,aK];cases rep f k j with
 | error e=>rfl
 | ok v=>obtain ⟨a,b⟩:=v;show (Except.ok (l++x :: a,b):R (List α))=.ok (l++[x]++a,b);simp
theorem vM {α:Type} (l:List α) (f:Nat->R α) (k i:Nat) (e:Int) (h:f i=.error e):pre l (rep f (k+1) i)=.error e:=by
 unfold pre;show bd (bd (f i) _) _=_;rw [h];rfl
def gh {α:Type} (z:α) (s:AH) (en:Nat) (op:Int) (i:Nat):R (Ins α) :=
 let x:Ins α:={ op:=op,a:=0,b:=0,n:=0,labels:=[],body:=z,els:=z }
 if form op=1 then (if op=63\/op=64 then bd (must s en 0 i) λ_ j=>.ok (x,j) else .ok (x,i))
 else if form op=4\/form op=6 then bd (ru s en i) λa j=>.ok ({ x with a:=a },j)
 else if form op=5 then bd (rl s en i) λl j=>bd (ru s en j) λa m=>.ok ({ x with labels:=l,a:=a },m)
 else if form op=7 then bd (ru s en i) λa j=>bd (must s en 0 j) λ_ m=>.ok ({ x with a:=a },m)
 else if form op=8 then bd (ru s en i) λa j=>bd (ru s en j) λb m=>.ok ({ x with a:=a,b:=b },m)
 else if form op=9 then bd (rs s en (if op=65 then 32 else 64) i) λn j=>.ok ({ x with n:=n },j)
 else .ok (x,i)
abbrev R2 (α:Type):=Except Int (α × Nat × Nat)
def fU {α β:Type} (x:R2 α) (f:α->Nat->Nat->R2 β):R2 β :=
 match x with
 | .ok (a,i,n)=>f a i n
 | .error e=>.error e
def lift {α:Type} (x:R α) (n:Nat):R2 α :=
 match x with
 | .ok (a,i)=>.ok (a,i,n)
 | .error e=>.error e
def tH (dep:Nat) (op:Int) (n:Nat):Option Int :=
 if form op=0 then some 50 else if form op=10 then some 51 else if 65536<n+1 then some 3 else if 64<dep then some 4 else none
def vD {α:Type} (z:α) (s:AH) (en:Nat) (sub:Nat->Nat->R2 (α × Int)) (op:Int) (i n:Nat):R2 (Ins α) :=
 fU (lift (AR s en i) n) λa j n1=>fU (sub j n1) λbt m n2 =>
  if bt.2=5/\form op=3 then fU (sub m n2) λet q n3=>if et.2=11 then .ok ({ op:=op,a:=a,b:=0,n:=0,labels:=[],body:=bt.1,els:=et.1 },q,n3) else .error 50
  else if bt.2=11 then .ok ({ op:=op,a:=a,b:=0,n:=0,labels:=[],body:=bt.1,els:=z },m,n2) else .error 50
def none_:(d:Nat)->IL d
 | 0=>()
 | d+1=>([]:List (Ins (IL d)))
def pq {d:Nat} (sub:Nat->Nat->R2 (IL d × Int)) (s:AH) (en dep:Nat) (op:Int) (i n:Nat):R2 (Ins (IL d)) :=
 match tH dep op n with
 | some e=>.error e
 | none=>if form op=2\/form op=3 then vD (none_ d) s en sub op i (n+1) else lift (gh (none_ d) s en op i) (n+1)
def jN {d:Nat} (sub:Nat->Nat->R2 (IL d × Int)) (s:AH) (en dep:Nat):Nat->Nat->Nat->R2 (List (Ins (IL d)) × Int)
 | 0,i,n=>.error 50
 | f+1,i,n=>fU (lift (nx s en i) n) λop j n1 =>
   if op=11\/op=5 then .ok (([],op),j,n1)
   else fU (pq sub s en dep op j n1) λx m n2=>fU (jN sub s en dep f m n2) λr q n3=>.ok ((x :: r.1,r.2),q,n3)
def jX (s:AH) (en:Nat):(d:Nat)->Nat->Nat->Nat->R2 (IL d × Int)
 | 0,dep,i,n=>fU (lift (nx s en i) n) λop j n1=>if op=11\/op=5 then .ok (((),op),j,n1) else .error ((tH dep op n1).getD 4)
 | d+1,dep,i,n=>jN (jX s en d (dep+1)) s en dep (en-i+1) i n
def wh (s:AH) (en:Nat) (i n:Nat):R2 (IL 81):=fU (jX s en 81 0 i n) λlt j m=>if lt.2=11 then .ok (lt.1,j,m) else .error 50
end aI
end Go.Proofs.YtcfifbgemfladaaGreatDoor
