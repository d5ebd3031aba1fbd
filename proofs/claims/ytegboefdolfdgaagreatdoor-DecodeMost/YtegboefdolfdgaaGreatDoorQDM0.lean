/- Texts that the claim needs. -/
import Derived.WalkKit
import Derived.Laws.BytesArg
import Derived.Laws.BitsAllLaws
import Derived.Test.YtegboefdolfdgaaGreatDoorRows
import Derived.WalkSpells
import Derived.WalkSmall
import Derived.BigQuiet
import Derived.Deep.QuietTactic
import Derived.Deep.RegionWith
namespace Go.Proofs.YtegboefdolfdgaaGreatDoor
namespace ae
def pE:Nat->Int->List Int
 | 0,n=>[n%128]
 | f+1,n=>if n<128 then [n%128] else (n%128+128) :: pE f (n / 128)
def uB (n:Int):List Int:=pE n.toNat n
theorem Gn:∀(f g:Nat) (n:Int),0<=n->n.toNat<=f->n.toNat<=g->pE f n=pE g n
 | 0,0,_,_,_,_=>rfl
 | 0,g+1,n,h,hf,_=>by
  have:n<128:=by omega
  simp [pE,this]
 | f+1,0,n,h,_,hg=>by
  have:n<128:=by omega
  simp [pE,this]
 | f+1,g+1,n,h,hf,hg=>by
  simp only [pE];split
  ·rfl
  ·rw [Gn f g (n / 128) (by omega) (by omega) (by omega)]
theorem C8 {n:Int} (h0:0<=n) (h:n<128):uB n = [n]:=by
 have e:n%128=n:=by omega
 unfold uB;cases n.toNat<;>simp [pE,h,e]
theorem Gp {n:Int} (h:128<=n):uB n=(n%128+128) :: uB (n / 128):=by
 have hn:∃f,n.toNat=f+1:=⟨n.toNat-1,by omega⟩;obtain ⟨f,hf⟩:=hn;unfold uB;rw [hf];simp only [pE];rw [if_neg (by omega),Gn f (n / 128).toNat (n / 128) (by omega) (by omega) (by omega)]
theorem Gq:∀(j:Nat) (n:Int),0<=n->n<128 ^ (j+1)->(uB n).length<=j+1
 | 0,n,h0,h=>by rw [C8 h0 (by simpa using h)];simp
 | j+1,n,h0,h=>by
  by_cases hs:n<128
  ·rw [C8 h0 hs];simp
  ·rw [Gp (by omega)]
   have hd:n / 128<128 ^ (j+1):=by
    have e:(128:Int) ^ (j+1+1)=128 ^ (j+1)*128:=by rw [Int.pow_succ]
    rw [e] at h;omega
   have:=Gq j (n / 128) (by omega) hd
   simp;omega
theorem Gr (n:Int):0<(uB n).length:=by
 unfold uB;cases n.toNat with
 | zero=>simp [pE]
 | succ f=>simp only [pE];split<;>simp
theorem C9 {n:Int} (h0:0<=n) (h:n<=18446744073709551615):(uB n).length<=10:=by
 have e:(128:Int) ^ 10=1180591620717411303424:=by decide
 exact Gq 9 n h0 (by show n<128 ^ 10;rw [e];omega)
end ae
namespace ae
def bt (s:ByteArray) (k:Nat):Int:=if h:k<s.size then ((s[k]'h).toNat:Int) else 0
theorem get_bt (s:ByteArray):∀(n:Nat) (h:n<s.size),((s[n]'h).toNat:Int)=bt s n:=fun n h=>by unfold bt;rw [dif_pos h]
theorem lQ (s:ByteArray) (k:Nat):0<=bt s k/\bt s k<=255:=by
 unfold bt;split
 ·have:=(s[k]).toNat_lt;omega
 ·omega
def iM (f:Nat->Int) (L:Nat):Nat->Nat->Nat
 | 0,_=>0
 | n+1,i=>if i<L then (if f i<128 then i+1 else iM f L n (i+1)) else 0
def dX (f:Nat->Int) (L most:Nat):Nat:=iM f L most 0
def val (f:Nat->Int):Nat->Int
 | 0=>0
 | k+1=>val f k+128 ^ k*(f k%128)
theorem Fx (f:Nat->Int) (L n i:Nat) (h:¬ i<L):iM f L n i=0:=by
 cases n with
 | zero=>rfl
 | succ n=>simp [iM,h]
theorem Fu (f:Nat->Int) (L n i:Nat) (hn:0<n) (h:i<L) (hf:f i<128):iM f L n i=i+1:=by
 cases n with
 | zero=>omega
 | succ n=>simp [iM,h,hf]
theorem Fw (f:Nat->Int) (L n i:Nat) (hn:0<n) (h:i<L) (hf:¬ f i<128):iM f L n i=iM f L (n-1) (i+1):=by
 cases n with
 | zero=>omega
 | succ n=>simp [iM,h,hf]
theorem Gx (f:Nat->Int) (L:Nat):∀(n i:Nat),iM f L n i≠0->i<iM f L n i/\iM f L n i<=i+n/\iM f L n i<=L/\f (iM f L n i-1)<128/\(∀j,i<=j->j+1<iM f L n i->128<=f j)
 | 0,i,h=>absurd rfl h
 | n+1,i,h=>by
  simp only [iM] at h ⊢;split
  ·split
   ·rename_i hl hf;exact ⟨by omega,by omega,by omega,by simpa using hf,fun j h1 h2=>by omega⟩
   ·rename_i hl hf;rw [if_pos hl,if_neg hf] at h;obtain ⟨a,b,c,d,e⟩:=Gx f L n (i+1) h;refine ⟨by omega,by omega,c,d,fun j h1 h2=>?_⟩;by_cases hj:j=i
    ·subst hj;omega
    ·exact e j (by omega) h2
  ·rename_i hl;rw [if_neg hl] at h;exact absurd rfl h
theorem wG (f:Nat->Int) (L most:Nat) (h:dX f L most≠0):0<dX f L most/\dX f L most<=most/\dX f L most<=L/\f (dX f L most-1)<128/\(∀j,j+1<dX f L most->128<=f j):=by
 obtain ⟨a,b,c,d,e⟩:=Gx f L most 0 h;exact ⟨a,by unfold dX;omega,c,d,fun j hj=>e j (Nat.zero_le _) hj⟩
theorem Gy (k:Nat):(0:Int)<128 ^ k:=Int.pow_pos (by decide)
theorem qA (f:Nat->Int):∀k,0<=val f k/\val f k<128 ^ k
 | 0=>by simp [val]
 | k+1=>by
  have h:=qA f k;have hp:=Gy k;have h1:0<=f k%128/\f k%128<=127:=by omega
  have e:(128:Int) ^ (k+1)=128 ^ k*128:=Int.pow_succ _ _;have h2:0<=128 ^ k*(f k%128):=Int.mul_nonneg (by omega) h1.1;have h3:128 ^ k*(f k%128)<=128 ^ k*127:=Int.mul_le_mul_of_nonneg_left h1.2 (by omega);simp only [val];rw [e];omega
theorem Bs {j k:Nat} (h:j<=k):(128:Int) ^ j<=128 ^ k:=by
 have:(128:Nat) ^ j<=128 ^ k:=Nat.pow_le_pow_right (by decide) h
 exact_mod_cast this
theorem qR (f:Nat->Int) (k:Nat) (h:k<=9):0<=val f k/\val f k<9223372036854775808:=by
 have h1:=qA f k;have h2:=Bs h;have e:(128:Int) ^ 9=9223372036854775808:=by decide
 omega
theorem Gz (f:Nat->Int) (k:Nat) (h:k<=4):0<=val f k/\val f k<268435456:=by
 have h1:=qA f k;have h2:=Bs h;have e:(128:Int) ^ 4=268435456:=by decide
 omega
theorem Dh (f:Nat->Int) (k:Nat) (N:Int):val f (k+1)+128 ^ (k+1)*N=val f k+128 ^ k*(N*128+f k%128):=by
 simp only [val];rw [Int.pow_succ,Int.mul_add,Int.mul_assoc,Int.mul_comm 128 N];omega
def jE (f:Nat->Int) (k:Nat):Int:=val f k+128 ^ k*(if 64<=f (k-1)%128 then -1 else 0)
def most (bits:Int):Nat:=if bits=32 then 5 else 10
def asks (L:Nat) (a bits:Int):Bool:=decide ((bits=32\/bits=64)/\0<=a/\a<=L)
theorem wH {L:Nat} {a bits:Int} (h:asks L a bits=true):(bits=32\/bits=64)/\0<=a/\a<=L:=of_decide_eq_true h
theorem Pk {L:Nat} {a bits:Int} (h:asks L a bits=false):¬ ((bits=32\/bits=64)/\0<=a/\a<=L):=of_decide_eq_false h
def nR (f:Nat->Int) (k:Nat) (a bits:Int):Int × Int × Int :=
 if k=0\/(bits=32/\4294967295<val f k)\/(k=10/\1<f 9) then (0,0,10) else (val f k,a+k,0)
def nS (f:Nat->Int) (k:Nat) (a bits:Int):Int × Int × Int :=
 if k=0\/(bits=32/\(jE f k < -2147483648\/2147483647<jE f k))\/(k=10/\f 9≠0/\f 9≠127) then (0,0,10) else (jE f k,a+k,0)
def GA (f:Nat->Int) (L:Nat) (a bits:Int):Int × Int × Int:=nR f (dX f L (most bits)) a bits
def GD (f:Nat->Int) (L:Nat) (a bits:Int):Int × Int × Int:=nS f (dX f L (most bits)) a bits
def from_ (s:ByteArray) (a:Nat):Nat->Int:=fun i=>bt s (a+i)
def fF (s:ByteArray) (a bits:Int):Int × Int × Int:=if asks s.size a bits then GA (from_ s a.toNat) (s.size-a.toNat) a bits else (0,0,1)
def eU (s:ByteArray) (a bits:Int):Int × Int × Int:=if asks s.size a bits then GD (from_ s a.toNat) (s.size-a.toNat) a bits else (0,0,1)
theorem vB (s:ByteArray) (a i:Nat):0<=from_ s a i/\from_ s a i<=255:=lQ s _
theorem GF (f:Nat->Int) (h0:0<=f 4) (h:f 4<128):(4294967295<val f 5↔15<f 4):=by
 have h1:=Gz f 4 (by omega);have e:val f 5=val f 4+268435456*(f 4%128):=rfl;omega
theorem GG (f:Nat->Int) (h0:0<=f 9) (h:f 9<=1):val f 10<=18446744073709551615:=by
 have h1:=qR f 9 (by omega);have e:val f 10=val f 9+9223372036854775808*(f 9%128):=rfl;omega
def bO (n:Int):Int:=n%18446744073709551616
theorem Bt (n:Int):0<=bO n/\bO n<=18446744073709551615:=by unfold bO;omega
theorem uH {n:Int} (h0:0<=n) (h1:n<=18446744073709551615):bO n=n:=by unfold bO;omega
theorem Pm (n g:Int) (h0:0<=g) (h1:g<128):bO (bO n*128)+g=bO (n*128+g):=by unfold bO;omega
theorem Pn (n:Int):bO (n*128)%2 ^ 7=0:=by unfold bO;omega
theorem GH (f:Nat->Int) (k:Nat) (h1:0<k) (h:k<=9\/(k=10/\(f 9=0\/f 9=127))):-9223372036854775808<=jE f k/\jE f k<=9223372036854775807:=by
 rcases h with h|⟨rfl,h⟩
 ·have hv:=qA f k;have h2:=Bs h;have e:(128:Int) ^ 9=9223372036854775808:=by decide
  unfold jE;split
  ·omega
  ·omega
 ·have hv:=qR f 9 (by omega);have e:val f 10=val f 9+9223372036854775808*(f 9%128):=rfl;have e2:(128:Int) ^ 10=1180591620717411303424:=by decide
  unfold jE;rw [e,e2];rcases h with h|h<;>rw [h]<;>simp<;>omega
def gm (n:Int):Int:=(n+9223372036854775808)%18446744073709551616-9223372036854775808
theorem Bu (n:Int):-9223372036854775808<=gm n/\gm n<=9223372036854775807:=by unfold gm;omega
theorem Di {n:Int} (h0:-9223372036854775808<=n) (h1:n<=9223372036854775807):gm n=n:=by unfold gm;omega
theorem Po (n g:Int) (h0:0<=g) (h1:g<128):gm (gm n*128)+g=gm (n*128+g):=by unfold gm;omega
theorem Pp (n:Int):gm (n*128)%128=0:=by unfold gm;omega
end ae
end Go.Proofs.YtegboefdolfdgaaGreatDoor
namespace Go.Proofs.YtegboefdolfdgaaGreatDoor
open Go.RowKit
set_option maxHeartbeats 1000000
namespace aQ
def md (W:Nat):Int:=if W=32 then 4294967296 else 18446744073709551616
def hf (W:Nat):Int:=if W=32 then 2147483648 else 9223372036854775808
def sig (op:Int):Int × Int × Int :=
 if op=69\/(103<=op/\op<=105) then (1,127,127)
 else if op=80 then (1,126,127)
 else if (70<=op/\op<=79)\/(106<=op/\op<=120) then (2,127,127)
 else if 81<=op/\op<=90 then (2,126,127)
 else if 121<=op/\op<=123 then (1,126,126)
 else if 124<=op/\op<=138 then (2,126,126)
 else if op=167 then (1,126,127)
 else if op=172\/op=173 then (1,127,126)
 else (0,0,0)
theorem pow_pos (k:Nat):(0:Int)<2 ^ k:=Int.pow_pos (by decide)
end aQ
theorem Tp {a b c a' b' c':Int} (h:(a,b,c)=(a',b',c')):Ending.returned (.tuple #[.int .i64 a,.int .i64 b,.int .i64 c])=.returned (.tuple #[.int .i64 a',.int .i64 b',.int .i64 c']):=by
 simp only [Prod.mk.injEq] at h;rw [h.1,h.2.1,h.2.2]
theorem below_drewN {B:Nat} {a w:World} (h:Below B a w) (n:Nat):Below B a (w.drewN n):=⟨h.os,h.tape,h.output,h.size,h.block⟩
theorem cE (op:Int) (w:World) :
  Calls Tryz.prog 93 #[.int .i64 op] w fun e w'=>e=.returned (.tuple #[.int .i64 (aQ.sig op).1,.int .i64 (aQ.sig op).2.1,.int .i64 (aQ.sig op).2.2])/\w'=w:=by
 go_enter Tryz.func93,Tryz.ntmps93;go_wp2
 all_goals go_ret3
 all_goals refine ⟨Tp ?_,rfl⟩
 all_goals (try simp only [beq_iff_eq,beq_eq_false_iff_ne,ne_eq] at *)
 all_goals show _=aQ.sig op
 all_goals unfold aQ.sig
 all_goals first|(exfalso;omega)|(repeat first|rw [if_neg (by omega)]|rw [if_pos (by omega)])
namespace aA
def Row {α:Type} (size:Nat) (f:Nat->Nat->α->Prop) (v:Value) (l:List α):Prop :=
 l.length<=9223372036854775807/\((l = []/\∃o cap,v=.slice o 0 cap)\/∃b off cap,v=.slice (some ⟨b,off,none⟩) l.length cap/\∀(i:Nat) (x:α),l[i]?=some x->f b (off+i*size) x)
theorem Row.len {α:Type} {size:Nat} {f:Nat->Nat->α->Prop} {v:Value} {l:List α} (h:Row size f v l):∃o cap,v=.slice o l.length cap:=by
 rcases h with ⟨_,⟨rfl,o,cap,rfl⟩|⟨b,off,cap,rfl,_⟩⟩
 ·exact ⟨o,cap,rfl⟩
 ·exact ⟨_,cap,rfl⟩
theorem Row.some {α:Type} {size:Nat} {f:Nat->Nat->α->Prop} {v:Value} {l:List α} (h:Row size f v l) (h0:0<l.length):∃b off cap,v=.slice (some ⟨b,off,none⟩) l.length cap/\∀(i:Nat) (x:α),l[i]?=some x->f b (off+i*size) x:=by
 rcases h with ⟨_,⟨rfl,_⟩|h⟩
 ·exact absurd h0 (by simp)
 ·exact h
theorem Row.imp {α:Type} {size:Nat} {f g:Nat->Nat->α->Prop} {v:Value} {l:List α} (h:Row size f v l) (hfg:∀b o x,x ∈ l->f b o x->g b o x):Row size g v l:=by
 rcases h with ⟨hl,h|⟨b,off,cap,hv,hc⟩⟩
 ·exact ⟨hl,.inl h⟩
 ·exact ⟨hl,.inr ⟨b,off,cap,hv,fun i x hi=>hfg _ _ _ (List.mem_of_getElem? hi) (hc i x hi)⟩⟩
def Ints (w:World) (v:Value) (l:List Int):Prop:=Row 1 (fun b o (z:Int)=>w.cell? ⟨b,o,none⟩=.some (.int .i64 z)) v l
theorem aF {w w':World} (hb:Below w.heap.size w w') {b o:Nat} {u:Value} (h:w.cell? ⟨b,o,none⟩=.some u):w'.cell? ⟨b,o,none⟩=.some u:=by
 rw [hb.cell (World.block_lt_of_cell? _ _ h)];exact h
theorem Ints.on {w w':World} (hb:Below w.heap.size w w') {v:Value} {l:List Int} (h:Ints w v l):Ints w' v l:=Row.imp h fun _ _ _ _ h=>aF hb h
structure Ins (α:Type) where
 op:Int
 a:Int
 b:Int
 n:Int
 labels:List Int
 body:α
 els:α
def IL:Nat->Type
 | 0=>Unit
 | d+1=>List (Ins (IL d))
structure mQ {α:Type} (w:World) (sub:Value->α->Prop) (bk o:Nat) (x:Ins α):Prop where
 op:w.cell? ⟨bk,o,none⟩=.some (.int .i64 x.op)
 a:w.cell? ⟨bk,o+1,none⟩=.some (.int .i64 x.a)
 b:w.cell? ⟨bk,o+2,none⟩=.some (.int .i64 x.b)
 n:w.cell? ⟨bk,o+3,none⟩=.some (.int .i64 x.n)
 labels:∃v,w.cell? ⟨bk,o+4,none⟩=.some v/\Ints w v x.labels
 body:∃v,w.cell? ⟨bk,o+5,none⟩=.some v/\sub v x.body
 els:∃v,w.cell? ⟨bk,o+6,none⟩=.some v/\sub v x.els
def At (w:World):(d:Nat)->Value->IL d->Prop
 | 0,v,_=>∃o cap,v=.slice o 0 cap
 | d+1,v,l=>Row 7 (mQ w (At w d)) v l
theorem mQ.on {α : Type} {w w' : World} (hb : Below w.heap.size w w') {f g : Value → α → Prop} (hfg : ∀ v x, f v x → g v x) {b o : Nat} {x : Ins α} (h : mQ w f b o x) : mQ w' g b o x :=
  ⟨aF hb h.op, aF hb h.a, aF hb h.b, aF hb h.n,
   let ⟨v, h1, h2⟩ := h.labels; ⟨v, aF hb h1, h2.on hb⟩,
   let ⟨v, h1, h2⟩ := h.body; ⟨v, aF hb h1, hfg _ _ h2⟩,
   let ⟨v, h1, h2⟩ := h.els; ⟨v, aF hb h1, hfg _ _ h2⟩⟩
theorem At.on {w w':World} (hb:Below w.heap.size w w'):∀(d:Nat) (v:Value) (l:IL d),At w d v l->At w' d v l
 | 0,_,_,h=>h
 | d+1,_,_,h=>Row.imp (α:=Ins (IL d)) h fun _ _ _ _ h=>h.on hb (At.on hb d)
theorem bN (w:World) (n:Nat):Below w.heap.size w (w.drewN n):=⟨rfl,rfl,rfl,Nat.le_refl _,fun _ _=>rfl⟩
def Hm {α:Type} (f:α->Nat->Nat):List (Ins α)->Nat->Nat
 | [],c=>c
 | x :: r,c=>if c<=65536 then Hm f r (f x.els (f x.body (c+1))) else c
def cnt:(d:Nat)->IL d->Nat->Nat
 | 0,_,c=>c
 | d+1,l,c=>Hm (cnt d) l c
end aA
end Go.Proofs.YtegboefdolfdgaaGreatDoor
namespace Go.Proofs.YtegboefdolfdgaaGreatDoor
open Go.RowKit aA
set_option linter.unusedVariables false
set_option maxHeartbeats 400000
namespace aA
theorem aj {p:Prop} (h:p):Hid p:=h
theorem Sa {a b:Bool} (h:a=b):Ending.returned (.bool a)=.returned (.bool b):=by rw [h]
end aA
theorem aO (n a b:Int) (w:World):Calls Tryz.prog 56 #[.int .i64 n,.int .i64 a,.int .i64 b] w fun e w'=>e=.returned (.bool (decide (a<=n/\n<=b)))/\w'=w:=by
 go_enter Tryz.func56,Tryz.ntmps56;go_wp2
 all_goals go_ret
 all_goals refine ⟨Sa ?_,rfl⟩
 all_goals first|rfl|(rw [Bool.eq_iff_iff];simp;done)|(rw [Bool.eq_iff_iff];simp;omega)|(symm;simp;omega)
namespace aA
def form (op:Int):Int :=
 if op<=-1 then 0 else
 if op<=0 then 1 else
 if op<=1 then 1 else
 if op<=2 then 2 else
 if op<=3 then 2 else
 if op<=4 then 3 else
 if op<=11 then 0 else
 if op<=12 then 4 else
 if op<=13 then 4 else
 if op<=14 then 5 else
 if op<=15 then 1 else
 if op<=16 then 6 else
 if op<=17 then 7 else
 if op<=25 then 0 else
 if op<=26 then 1 else
 if op<=27 then 1 else
 if op<=31 then 0 else
 if op<=36 then 6 else
 if op<=39 then 0 else
 if op<=40 then 8 else
 if op<=41 then 8 else
 if op<=42 then 10 else
 if op<=43 then 10 else
 if op<=55 then 8 else
 if op<=56 then 10 else
 if op<=57 then 10 else
 if op<=62 then 8 else
 if op<=63 then 1 else
 if op<=64 then 1 else
 if op<=65 then 9 else
 if op<=66 then 9 else
 if op<=67 then 10 else
 if op<=68 then 10 else
 if op<=90 then 1 else
 if op<=102 then 10 else
 if op<=138 then 1 else
 if op<=166 then 10 else
 if op<=167 then 1 else
 if op<=171 then 10 else
 if op<=173 then 1 else
 if op<=191 then 10 else
 0
theorem cB (op : Int) : (0 < (aQ.sig op).1) ↔ ((69 ≤ op ∧ op ≤ 90) ∨ (103 ≤ op ∧ op ≤ 138) ∨ op = 167 ∨ op = 172 ∨ op = 173) := by
  unfold aQ.sig
  repeat' split
  all_goals first | (constructor <;> intro h <;> first | omega | decide) | skip
  all_goals (constructor; · intro h; exfalso; revert h; decide
             · intro h; exfalso; omega)
end aA
namespace ai
abbrev R (α:Type):=Except Int (α × Nat)
def bd {α β:Type} (x:R α) (f:α->Nat->R β):R β :=
 match x with
 | .ok (a,i)=>f a i
 | .error e=>.error e
theorem aM {α β:Type} (a:α) (i:Nat) (f:α->Nat->R β):bd (.ok (a,i)) f=f a i:=rfl
theorem bg {α β:Type} (e:Int) (f:α->Nat->R β):bd (.error e) f=.error e:=rfl
def nx (s:ByteArray) (en at_:Nat):R Int:=if at_<en then .ok (ae.bt s at_,at_+1) else .error 50
def ru (s:ByteArray) (en at_:Nat):R Int:=if (ae.fF (s.extract 0 en) at_ 32).2.2=0 then .ok ((ae.fF (s.extract 0 en) at_ 32).1,(ae.fF (s.extract 0 en) at_ 32).2.1.toNat) else .error 50
def rs (s:ByteArray) (en:Nat) (bits:Int) (at_:Nat):R Int:=if (ae.eU (s.extract 0 en) at_ bits).2.2=0 then .ok ((ae.eU (s.extract 0 en) at_ bits).1,(ae.eU (s.extract 0 en) at_ bits).2.1.toNat) else .error 50
def must (s:ByteArray) (en:Nat) (b:Int) (at_:Nat):R Unit:=bd (nx s en at_) fun x i=>if x=b then .ok ((),i) else .error 50
def kz (b:Int) (i:Nat):R Int:=if b=124\/b=125 then .error 51 else if b=127\/b=126 then .ok (b,i) else .error 50
def rt (s:ByteArray) (en at_:Nat):R Int:=bd (nx s en at_) kz
def jh (s:ByteArray) (en at_:Nat):R Int:=bd (nx s en at_) fun b i=>if b=64 then .ok (0,i) else kz b i
def rc (s:ByteArray) (en at_:Nat):R Int:=bd (ru s en at_) fun n i=>if n<=4096 then .ok (n,i) else .error 3
def rep {α:Type} (f:Nat->R α):Nat->Nat->R (List α)
 | 0,i=>.ok ([],i)
 | k+1,i=>bd (f i) fun x j=>bd (rep f k j) fun l m=>.ok (x :: l,m)
def rl (s:ByteArray) (en at_:Nat):R (List Int):=bd (rc s en at_) fun n i=>rep (ru s en) n.toNat i
def pre {α:Type} (l:List α) (x:R (List α)):R (List α):=bd x fun k i=>.ok (l++k,i)
theorem pre_nil {α:Type} (x:R (List α)):pre [] x=x:=by
 unfold pre bd;cases x with
 | error e=>rfl
 | ok v=>rfl
theorem mU {α:Type} (l:List α) (f:Nat->R α) (i:Nat):pre l (rep f 0 i)=.ok (l,i):=by
 unfold pre rep bd;simp
theorem pre_on {α:Type} (l:List α) (f:Nat->R α) (k i:Nat) (x:α) (j:Nat) (h:f i=.ok (x,j)):pre l (rep f (k+1) i)=pre (l++[x]) (rep f k j):=by
 unfold pre;show bd (bd (f i) _) _=_;rw [h,aM];cases rep f k j with
 | error e=>rfl
 | ok v=>obtain ⟨a,b⟩:=v;show (Except.ok (l++x :: a,b):R (List α))=.ok (l++[x]++a,b);simp
theorem mS {α:Type} (l:List α) (f:Nat->R α) (k i:Nat) (e:Int) (h:f i=.error e):pre l (rep f (k+1) i)=.error e:=by
 unfold pre;show bd (bd (f i) _) _=_;rw [h];rfl
def aY {α:Type} (z:α) (s:ByteArray) (en:Nat) (op:Int) (i:Nat):R (Ins α) :=
 let x:Ins α:={ op:=op,a:=0,b:=0,n:=0,labels:=[],body:=z,els:=z }
 if form op=1 then (if op=63\/op=64 then bd (must s en 0 i) fun _ j=>.ok (x,j) else .ok (x,i))
 else if form op=4\/form op=6 then bd (ru s en i) fun a j=>.ok ({ x with a:=a },j)
 else if form op=5 then bd (rl s en i) fun l j=>bd (ru s en j) fun a m=>.ok ({ x with labels:=l,a:=a },m)
 else if form op=7 then bd (ru s en i) fun a j=>bd (must s en 0 j) fun _ m=>.ok ({ x with a:=a },m)
 else if form op=8 then bd (ru s en i) fun a j=>bd (ru s en j) fun b m=>.ok ({ x with a:=a,b:=b },m)
 else if form op=9 then bd (rs s en (if op=65 then 32 else 64) i) fun n j=>.ok ({ x with n:=n },j)
 else .ok (x,i)
abbrev R2 (α:Type):=Except Int (α × Nat × Nat)
def bL {α β:Type} (x:R2 α) (f:α->Nat->Nat->R2 β):R2 β :=
 match x with
 | .ok (a,i,n)=>f a i n
 | .error e=>.error e
def lift {α:Type} (x:R α) (n:Nat):R2 α :=
 match x with
 | .ok (a,i)=>.ok (a,i,n)
 | .error e=>.error e
def gZ (dep:Nat) (op:Int) (n:Nat):Option Int :=
 if form op=0 then some 50 else if form op=10 then some 51 else if 65536<n+1 then some 3 else if 64<dep then some 4 else none
def jC {α:Type} (z:α) (s:ByteArray) (en:Nat) (sub:Nat->Nat->R2 (α × Int)) (op:Int) (i n:Nat):R2 (Ins α) :=
 bL (lift (jh s en i) n) fun a j n1=>bL (sub j n1) fun bt m n2 =>
  if bt.2=5/\form op=3 then bL (sub m n2) fun et q n3=>if et.2=11 then .ok ({ op:=op,a:=a,b:=0,n:=0,labels:=[],body:=bt.1,els:=et.1 },q,n3) else .error 50
  else if bt.2=11 then .ok ({ op:=op,a:=a,b:=0,n:=0,labels:=[],body:=bt.1,els:=z },m,n2) else .error 50
def none_:(d:Nat)->IL d
 | 0=>()
 | d+1=>([]:List (Ins (IL d)))
def iC {d:Nat} (sub:Nat->Nat->R2 (IL d × Int)) (s:ByteArray) (en dep:Nat) (op:Int) (i n:Nat):R2 (Ins (IL d)) :=
 match gZ dep op n with
 | some e=>.error e
 | none=>if form op=2\/form op=3 then jC (none_ d) s en sub op i (n+1) else lift (aY (none_ d) s en op i) (n+1)
def fG {d:Nat} (sub:Nat->Nat->R2 (IL d × Int)) (s:ByteArray) (en dep:Nat):Nat->Nat->Nat->R2 (List (Ins (IL d)) × Int)
 | 0,i,n=>.error 50
 | f+1,i,n=>bL (lift (nx s en i) n) fun op j n1 =>
   if op=11\/op=5 then .ok (([],op),j,n1)
   else bL (iC sub s en dep op j n1) fun x m n2=>bL (fG sub s en dep f m n2) fun r q n3=>.ok ((x :: r.1,r.2),q,n3)
def dG (s:ByteArray) (en:Nat):(d:Nat)->Nat->Nat->Nat->R2 (IL d × Int)
 | 0,dep,i,n=>bL (lift (nx s en i) n) fun op j n1=>if op=11\/op=5 then .ok (((),op),j,n1) else .error ((gZ dep op n1).getD 4)
 | d+1,dep,i,n=>fG (dG s en d (dep+1)) s en dep (en-i+1) i n
def ny (s:ByteArray) (en:Nat) (i n:Nat):R2 (IL 81):=bL (dG s en 81 0 i n) fun lt j m=>if lt.2=11 then .ok (lt.1,j,m) else .error 50
end ai
end Go.Proofs.YtegboefdolfdgaaGreatDoor
namespace Go.Proofs.YtegboefdolfdgaaGreatDoor
open Go.RowKit aA ai
set_option linter.unusedVariables false
namespace ai
theorem El (s:ByteArray) (a:Nat) (h:(ae.fF s a 32).2.2=0):(a:Int)<(ae.fF s a 32).2.1/\(ae.fF s a 32).2.1<=s.size/\0<=(ae.fF s a 32).1/\(ae.fF s a 32).1<=4294967295:=by
 unfold ae.fF at h ⊢;by_cases di:ae.asks s.size a 32=true
 ·rw [if_pos di] at h ⊢;unfold ae.GA at h ⊢;have hq:=ae.wH di;have hg:=ae.wG (ae.from_ s (a:Int).toNat) (s.size-(a:Int).toNat) (ae.most 32);generalize ae.dX (ae.from_ s (a:Int).toNat) (s.size-(a:Int).toNat) (ae.most 32)=k at *;unfold ae.nR at h ⊢;split at h
  ·exact absurd h (by decide)
  ·rename_i hc;rw [if_neg hc];have hk:k≠0:=fun e=>hc (.inl e);obtain ⟨h1,h2,h3,_⟩:=hg hk;have hv:=(ae.qA (ae.from_ s (a:Int).toNat) k).1;have hm:¬ 4294967295<ae.val (ae.from_ s (a:Int).toNat) k:=fun e=>hc (.inr (.inl ⟨rfl,e⟩));exact ⟨by show (a:Int)<(a:Int)+k;omega,by show (a:Int)+k<=s.size;omega,hv,by omega⟩
 ·rw [if_neg di] at h;exact absurd h (by decide)
theorem CO (s:ByteArray) (a:Nat) (bits:Int) (h:(ae.eU s a bits).2.2=0):(a:Int)<(ae.eU s a bits).2.1/\(ae.eU s a bits).2.1<=s.size/\-9223372036854775808<=(ae.eU s a bits).1/\(ae.eU s a bits).1<=9223372036854775807/\(bits=32->-2147483648<=(ae.eU s a bits).1/\(ae.eU s a bits).1<=2147483647):=by
 unfold ae.eU at h ⊢;by_cases di:ae.asks s.size a bits=true
 ·rw [if_pos di] at h ⊢;unfold ae.GD at h ⊢;have hq:=ae.wH di;have hg:=ae.wG (ae.from_ s (a:Int).toNat) (s.size-(a:Int).toNat) (ae.most bits);have V5:ae.most bits<=10:=by rcases hq.1 with rfl|rfl<;>decide
  generalize ae.dX (ae.from_ s (a:Int).toNat) (s.size-(a:Int).toNat) (ae.most bits)=k at *;unfold ae.nS at h ⊢;split at h
  ·exact absurd h (by decide)
  ·rename_i hc;rw [if_neg hc];have hk:k≠0:=fun e=>hc (.inl e);obtain ⟨h1,h2,h3,_⟩:=hg hk
   have h9:k=10->ae.from_ s (a:Int).toNat 9=0\/ae.from_ s (a:Int).toNat 9=127:=fun e=>by
    by_cases h0:ae.from_ s (a:Int).toNat 9=0
    ·exact .inl h0
    ·by_cases h7:ae.from_ s (a:Int).toNat 9=127
     ·exact .inr h7
     ·exact absurd (.inr (.inr ⟨e,h0,h7⟩)) hc
   have hb:=ae.GH (ae.from_ s (a:Int).toNat) k h1 (by
    by_cases e:k=10
    ·exact .inr ⟨e,h9 e⟩
    ·exact .inl (by omega))
   refine ⟨by show (a:Int)<(a:Int)+k;omega,by show (a:Int)+k<=s.size;omega,hb.1,hb.2,fun e=>?_⟩;have h32:¬ (ae.jE (ae.from_ s (a:Int).toNat) k < -2147483648\/2147483647<ae.jE (ae.from_ s (a:Int).toNat) k):=fun h=>hc (.inr (.inl ⟨e,h⟩));show -2147483648<=ae.jE (ae.from_ s (a:Int).toNat) k/\ae.jE (ae.from_ s (a:Int).toNat) k<=2147483647;omega
 ·rw [if_neg di] at h;exact absurd h (by decide)
theorem xg {s:ByteArray} {en i:Nat} {x:Int} {j:Nat} (h:nx s en i=.ok (x,j)):j=i+1/\i<en/\0<=x/\x<=255:=by
 unfold nx at h;split at h
 ·injection h with h;injection h with h1 h2
  have:=ae.lQ s i
  subst h1;exact ⟨h2.symm,by assumption,this.1,this.2⟩
 ·cases h
theorem iP {s:ByteArray} {en i:Nat} {x:Int} {j:Nat} (he:en<=s.size) (h:ru s en i=.ok (x,j)):i<j/\j<=en/\0<=x/\x<=4294967295:=by
 unfold ru at h;split at h
 ·rename_i h0;obtain ⟨h1,h2,h3,h4⟩:=El _ i h0;injection h with h;injection h with h5 h6;rw [ByteArray.size_extract] at h2;subst h5;exact ⟨by omega,by omega,h3,h4⟩
 ·cases h
theorem Ul {s:ByteArray} {en i:Nat} {bits x:Int} {j:Nat} (he:en<=s.size) (h:rs s en bits i=.ok (x,j)):i<j/\j<=en/\-9223372036854775808<=x/\x<=9223372036854775807/\(bits=32->-2147483648<=x/\x<=2147483647):=by
 unfold rs at h;split at h
 ·rename_i h0;obtain ⟨h1,h2,h3,h4,h7⟩:=CO _ i bits h0;injection h with h;injection h with h5 h6;rw [ByteArray.size_extract] at h2;subst h5;exact ⟨by omega,by omega,h3,h4,h7⟩
 ·cases h
theorem fJ {α β:Type} {x:R α} {f:α->Nat->R β} {b:β} {m:Nat} (h:bd x f=.ok (b,m)):∃a i,x=.ok (a,i)/\f a i=.ok (b,m):=by
 unfold bd at h;cases x with
 | error e=>cases h
 | ok v=>obtain ⟨a,i⟩:=v;exact ⟨a,i,rfl,h⟩
theorem fO {α β:Type} {x:R2 α} {f:α->Nat->Nat->R2 β} {b:β} {m n:Nat} (h:bL x f=.ok (b,m,n)):∃a i k,x=.ok (a,i,k)/\f a i k=.ok (b,m,n):=by
 unfold bL at h;cases x with
 | error e=>cases h
 | ok v=>obtain ⟨a,i,k⟩:=v;exact ⟨a,i,k,rfl,h⟩
theorem mR {α:Type} {x:R α} {n:Nat} {a:α} {m k:Nat} (h:lift x n=.ok (a,m,k)):x=.ok (a,m)/\k=n:=by
 unfold lift at h;cases x with
 | error e=>cases h
 | ok v=>obtain ⟨b,i⟩:=v;injection h with h;injection h with h1 h2;injection h2 with h2 h3;subst h1 h2;exact ⟨rfl,h3.symm⟩
theorem KX {s:ByteArray} {en i:Nat} {b:Int} {u:Unit} {j:Nat} (h:must s en b i=.ok (u,j)):j=i+1/\i<en/\ae.bt s i=b:=by
 obtain ⟨x,m,h1,h2⟩:=fJ h;have h3:=xg h1;split at h2
 ·rename_i hx;injection h2 with h2;injection h2 with _ h2;unfold nx at h1;rw [if_pos h3.2.1] at h1;injection h1 with h1;injection h1 with h1 _;exact ⟨by omega,h3.2.1,h1.trans hx⟩
 ·cases h2
theorem Um {b x:Int} {i j:Nat} (h:kz b i=.ok (x,j)):x=b/\j=i/\(x=126\/x=127):=by
 unfold kz at h;split at h
 ·cases h
 split at h
 ·injection h with h;injection h with h1 h2;subst h1 h2;exact ⟨rfl,rfl,by omega⟩
 ·cases h
theorem Un {s:ByteArray} {en i:Nat} {x:Int} {j:Nat} (h:jh s en i=.ok (x,j)):j=i+1/\i<en/\(x=0\/x=126\/x=127):=by
 obtain ⟨b,m,h1,h2⟩:=fJ h;have h3:=xg h1;split at h2
 ·injection h2 with h2;injection h2 with h4 h5;exact ⟨by omega,h3.2.1,.inl h4.symm⟩
 ·have:=Um h2;exact ⟨by omega,h3.2.1,.inr this.2.2⟩
theorem jl {s:ByteArray} {en i:Nat} {x:Int} {j:Nat} (he:en<=s.size) (h:rc s en i=.ok (x,j)):i<j/\j<=en/\0<=x/\x<=4096:=by
 obtain ⟨b,m,h1,h2⟩:=fJ h;have h3:=iP he h1;split at h2
 ·injection h2 with h2;injection h2 with h4 h5;subst h4 h5;exact ⟨h3.1,h3.2.1,h3.2.2.1,by assumption⟩
 ·cases h2
theorem KY {s:ByteArray} {en:Nat} (he:en<=s.size):∀(k i:Nat) (l:List Int) (j:Nat),i<=en->rep (ru s en) k i=.ok (l,j)->i<=j/\j<=en/\l.length=k/\∀x ∈ l,0<=x/\x<=4294967295
 | 0,i,l,j,hi,h=>by injection h with h;injection h with h1 h2;subst h1 h2;exact ⟨Nat.le_refl _,hi,rfl,fun x hx=>by cases hx⟩
 | k+1,i,l,j,hi,h=>by
  obtain ⟨x,m,h1,h2⟩:=fJ h;obtain ⟨r,q,h3,h4⟩:=fJ h2;have h5:=iP he h1;have h6:=KY he k m r q h5.2.1 h3;injection h4 with h4;injection h4 with h7 h8;subst h7 h8;refine ⟨by omega,h6.2.1,by simp [h6.2.2.1],fun y hy=>?_⟩;rcases List.mem_cons.1 hy with rfl|hy
  ·exact h5.2.2
  ·exact h6.2.2.2 y hy
theorem Uo {s:ByteArray} {en i:Nat} {l:List Int} {j:Nat} (he:en<=s.size) (h:rl s en i=.ok (l,j)):i<j/\j<=en/\l.length<=4096/\∀x ∈ l,0<=x/\x<=4294967295:=by
 obtain ⟨n,m,h1,h2⟩:=fJ h;have h3:=jl he h1;have h4:=KY he _ m l j h3.2.1 h2;exact ⟨by omega,h4.2.1,by omega,h4.2.2.2⟩
theorem Uq {α:Type} {z:α} {s:ByteArray} {en:Nat} {op:Int} {i:Nat} {x:Ins α} {j:Nat} (he:en<=s.size) (hi:i<=en) (h:aY z s en op i=.ok (x,j)):i<=j/\j<=en:=by
 unfold aY at h;simp only at h;split at h
 ·split at h
  ·obtain ⟨u,m,h1,h2⟩:=fJ h
   have:=KX h1
   injection h2 with h2;injection h2 with _ h2;omega
  ·injection h with h;injection h with _ h;omega
 split at h
 ·obtain ⟨u,m,h1,h2⟩:=fJ h
  have:=iP he h1
  injection h2 with h2;injection h2 with _ h2;omega
 split at h
 ·obtain ⟨u,m,h1,h2⟩:=fJ h
  have:=Uo he h1
  obtain ⟨u,q,h3,h4⟩:=fJ h2
  have:=iP he h3
  injection h4 with h4;injection h4 with _ h4;omega
 split at h
 ·obtain ⟨u,m,h1,h2⟩:=fJ h
  have:=iP he h1
  obtain ⟨u,q,h3,h4⟩:=fJ h2
  have:=KX h3
  injection h4 with h4;injection h4 with _ h4;omega
 split at h
 ·obtain ⟨u,m,h1,h2⟩:=fJ h
  have:=iP he h1
  obtain ⟨u,q,h3,h4⟩:=fJ h2
  have:=iP he h3
  injection h4 with h4;injection h4 with _ h4;omega
 split at h
 ·obtain ⟨u,m,h1,h2⟩:=fJ h
  have:=Ul he h1
  injection h2 with h2;injection h2 with _ h2;omega
 ·injection h with h;injection h with _ h;omega
def xe {α:Type} (en:Nat) (f:Nat->Nat->R2 α):Prop:=∀i n a j m,i<=en->f i n=.ok (a,j,m)->i<j/\j<=en
theorem Ur {α:Type} {z:α} {s:ByteArray} {en:Nat} {sub:Nat->Nat->R2 (α × Int)} (hs:xe en sub) {op:Int} {i n:Nat} {x:Ins α} {j m:Nat} (h:jC z s en sub op i n=.ok (x,j,m)):i<j/\j<=en:=by
 unfold jC at h;obtain ⟨a,i1,n1,h1,h⟩:=fO h;have h2:=Un (mR h1).1;obtain ⟨b,i2,n2,h3,h⟩:=fO h;have h4:=hs _ _ _ _ _ (by omega) h3;split at h
 ·obtain ⟨c,i3,n3,h5,h⟩:=fO h;have h6:=hs _ _ _ _ _ h4.2 h5;split at h
  ·injection h with h;injection h with _ h;injection h with h _;omega
  ·cases h
 split at h
 ·injection h with h;injection h with _ h;injection h with h _;omega
 ·cases h
theorem EE {d:Nat} {sub:Nat->Nat->R2 (IL d × Int)} {s:ByteArray} {en dep:Nat} (he:en<=s.size) (hs:xe en sub) {op:Int} {i n:Nat} {x:Ins (IL d)} {j m:Nat} (hi:i<=en) (h:iC sub s en dep op i n=.ok (x,j,m)):i<=j/\j<=en:=by
 unfold iC at h;split at h
 ·cases h
 split at h
 ·have:=Ur hs h;omega
 ·exact Uq he hi (mR h).1
theorem KZ {d:Nat} {sub:Nat->Nat->R2 (IL d × Int)} {s:ByteArray} {en dep:Nat} (he:en<=s.size) (hs:xe en sub):∀(f i n:Nat) (a:List (Ins (IL d)) × Int) (j m:Nat),i<=en->fG sub s en dep f i n=.ok (a,j,m)->i<j/\j<=en
 | 0,_,_,_,_,_,_,h=>by cases h
 | f+1,i,n,a,j,m,hi,h=>by
  unfold fG at h;obtain ⟨op,i1,n1,h1,h⟩:=fO h;have h2:=xg (mR h1).1;split at h
  ·injection h with h;injection h with _ h;injection h with h _;omega
  ·obtain ⟨x,i2,n2,h3,h⟩:=fO h;have h4:=EE he hs (by omega) h3;obtain ⟨r,i3,n3,h5,h⟩:=fO h;have h6:=KZ he hs f i2 n2 r i3 n3 h4.2 h5;injection h with h;injection h with _ h;injection h with h _;omega
theorem Ey {s:ByteArray} {en:Nat} (he:en<=s.size):∀d dep,xe en (dG s en d dep)
 | 0,dep=>fun i n a j m hi h=>by
  obtain ⟨op,i1,n1,h1,h⟩:=fO h;have h2:=xg (mR h1).1;split at h
  ·injection h with h;injection h with _ h;injection h with h _;omega
  ·cases h
 | d+1,dep=>fun i n a j m hi h=>KZ he (Ey he d (dep+1)) _ i n a j m hi h
end ai
end Go.Proofs.YtegboefdolfdgaaGreatDoor
namespace Go.Proofs.YtegboefdolfdgaaGreatDoor
open Go.RowKit aA
set_option linter.unusedVariables false
def gave (k:Int):List PanicEntry:=[{ v:=.iface 34 (.int .i64 k),recovered:=false }]
def xS (ok:Bool) (k:Int) (e:Ending):Prop:=(ok=true/\e=.returned (.tuple #[]))\/(ok=false/\e=.panicked (gave k))
theorem xS.yes {k:Int} {e:Ending} (h:xS true k e):e=.returned (.tuple #[]):=by rcases h with ⟨_,h⟩|⟨h,_⟩;exact h;cases h
theorem xS.no {k:Int} {e:Ending} (h:xS false k e):e=.panicked (gave k):=by rcases h with ⟨h,_⟩|⟨_,h⟩;cases h;exact h
end Go.Proofs.YtegboefdolfdgaaGreatDoor
