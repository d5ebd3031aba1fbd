/- Texts that the claim needs. -/
import Derived.WalkKit
import Derived.Laws.BytesArg
import Derived.Laws.BitsAllLaws
import Derived.Test.YtgbbmdknbflilaaDoorRows
import Derived.WalkSpells
import Derived.WalkSmall
import Derived.BigQuiet
import Derived.Deep.QuietTactic
namespace Go.Proofs.YtgbbmdknbflilaaDoor
namespace Leb
def sBf:Nat->Int->List Int
 | 0,n=>[n%128]
 | f+1,n=>if -64<=n/\n<=63 then [n%128] else (n%128+128) :: sBf f (n / 128)
def sB (n:Int):List Int:=sBf n.natAbs n
theorem sBf_more:∀(f g:Nat) (n:Int),n.natAbs<=f->n.natAbs<=g->sBf f n=sBf g n
 | 0,0,_,_,_=>rfl
 | 0,g+1,n,hf,_=>by
  have:-64<=n/\n<=63:=by omega
  simp [sBf,this]
 | f+1,0,n,_,hg=>by
  have:-64<=n/\n<=63:=by omega
  simp [sBf,this]
 | f+1,g+1,n,hf,hg=>by
  simp only [sBf]
  split
  ·rfl
  ·rw [sBf_more f g (n / 128) (by omega) (by omega)]
theorem sB_small {n:Int} (h:-64<=n/\n<=63):sB n = [n%128]:=by
 unfold sB
 cases n.natAbs<;>simp [sBf,h]
theorem sB_great {n:Int} (h:¬ (-64<=n/\n<=63)):sB n=(n%128+128) :: sB (n / 128):=by
 have hn:∃f,n.natAbs=f+1:=⟨n.natAbs-1,by omega⟩
 obtain ⟨f,hf⟩:=hn
 unfold sB
 rw [hf]
 simp only [sBf]
 rw [if_neg h,sBf_more f (n / 128).natAbs (n / 128) (by omega) (by omega)]
theorem sB_len:∀(j:Nat) (n:Int),-(64*128 ^ j)<=n->n<64*128 ^ j->(sB n).length<=j+1
 | 0,n,h0,h=>by
  have h0':-64<=n:=by simpa using h0
  have h':n<64:=by simpa using h
  rw [sB_small ⟨h0',by omega⟩];simp
 | j+1,n,h0,h=>by
  by_cases hs:-64<=n/\n<=63
  ·rw [sB_small hs];simp
  ·rw [sB_great hs]
   have e:(128:Int) ^ (j+1)=128 ^ j*128:=by rw [Int.pow_succ]
   rw [e] at h h0
   have:=sB_len j (n / 128) (by omega) (by omega)
   simp;omega
theorem sB_pos (n:Int):0<(sB n).length:=by
 unfold sB
 cases n.natAbs with
 | zero=>simp [sBf]
 | succ f=>simp only [sBf];split<;>simp
theorem sB_ten {n:Int} (h0:-9223372036854775808<=n) (h:n<=9223372036854775807):(sB n).length<=10:=by
 have e:(64:Int)*128 ^ 9=590295810358705651712:=by decide
 exact sB_len 9 n (by rw [e];omega) (by rw [e];omega)
end Leb
end Go.Proofs.YtgbbmdknbflilaaDoor

namespace Go.Proofs.YtgbbmdknbflilaaDoor
namespace Leb
def bt (s:ByteArray) (k:Nat):Int:=if h:k<s.size then ((s[k]'h).toNat:Int) else 0
theorem get_bt (s:ByteArray):∀(n:Nat) (h:n<s.size),((s[n]'h).toNat:Int)=bt s n:=fun n h=>by unfold bt;rw [dif_pos h]
theorem bt_bd (s:ByteArray) (k:Nat):0<=bt s k/\bt s k<=255:=by
 unfold bt;split
 ·have:=(s[k]).toNat_lt;omega
 ·omega
def grpF (f:Nat->Int) (L:Nat):Nat->Nat->Nat
 | 0,_=>0
 | n+1,i=>if i<L then (if f i<128 then i+1 else grpF f L n (i+1)) else 0
def grp (f:Nat->Int) (L most:Nat):Nat:=grpF f L most 0
def val (f:Nat->Int):Nat->Int
 | 0=>0
 | k+1=>val f k+128 ^ k*(f k%128)
theorem grpF_past (f:Nat->Int) (L n i:Nat) (h:¬ i<L):grpF f L n i=0:=by
 cases n with
 | zero=>rfl
 | succ n=>simp [grpF,h]
theorem grpF_last (f:Nat->Int) (L n i:Nat) (hn:0<n) (h:i<L) (hf:f i<128):grpF f L n i=i+1:=by
 cases n with
 | zero=>omega
 | succ n=>simp [grpF,h,hf]
theorem grpF_on (f:Nat->Int) (L n i:Nat) (hn:0<n) (h:i<L) (hf:¬ f i<128):grpF f L n i=grpF f L (n-1) (i+1):=by
 cases n with
 | zero=>omega
 | succ n=>simp [grpF,h,hf]
theorem grpF_some (f:Nat->Int) (L:Nat):∀(n i:Nat),grpF f L n i≠0->i<grpF f L n i/\grpF f L n i<=i+n/\grpF f L n i<=L/\f (grpF f L n i-1)<128/\(∀j,i<=j->j+1<grpF f L n i->128<=f j)
 | 0,i,h=>absurd rfl h
 | n+1,i,h=>by
  simp only [grpF] at h ⊢
  split
  ·split
   ·rename_i hl hf
    exact ⟨by omega,by omega,by omega,by simpa using hf,fun j h1 h2=>by omega⟩
   ·rename_i hl hf
    rw [if_pos hl,if_neg hf] at h
    obtain ⟨a,b,c,d,e⟩:=grpF_some f L n (i+1) h
    refine ⟨by omega,by omega,c,d,fun j h1 h2=>?_⟩
    by_cases hj:j=i
    ·subst hj;omega
    ·exact e j (by omega) h2
  ·rename_i hl
   rw [if_neg hl] at h
   exact absurd rfl h
theorem grp_some (f:Nat->Int) (L most:Nat) (h:grp f L most≠0):0<grp f L most/\grp f L most<=most/\grp f L most<=L/\f (grp f L most-1)<128/\(∀j,j+1<grp f L most->128<=f j):=by
 obtain ⟨a,b,c,d,e⟩:=grpF_some f L most 0 h
 exact ⟨a,by unfold grp;omega,c,d,fun j hj=>e j (Nat.zero_le _) hj⟩
theorem pow_pos128 (k:Nat):(0:Int)<128 ^ k:=Int.pow_pos (by decide)
theorem val_bd (f:Nat->Int):∀k,0<=val f k/\val f k<128 ^ k
 | 0=>by simp [val]
 | k+1=>by
  have h:=val_bd f k
  have hp:=pow_pos128 k
  have h1:0<=f k%128/\f k%128<=127:=by omega
  have e:(128:Int) ^ (k+1)=128 ^ k*128:=Int.pow_succ _ _
  have h2:0<=128 ^ k*(f k%128):=Int.mul_nonneg (by omega) h1.1
  have h3:128 ^ k*(f k%128)<=128 ^ k*127:=Int.mul_le_mul_of_nonneg_left h1.2 (by omega)
  simp only [val]
  rw [e]
  omega
theorem pow_mono128 {j k:Nat} (h:j<=k):(128:Int) ^ j<=128 ^ k:=by
 have:(128:Nat) ^ j<=128 ^ k:=Nat.pow_le_pow_right (by decide) h
 exact_mod_cast this
theorem val_9 (f:Nat->Int) (k:Nat) (h:k<=9):0<=val f k/\val f k<9223372036854775808:=by
 have h1:=val_bd f k
 have h2:=pow_mono128 h
 have e:(128:Int) ^ 9=9223372036854775808:=by decide
 omega
theorem val_5 (f:Nat->Int) (k:Nat) (h:k<=4):0<=val f k/\val f k<268435456:=by
 have h1:=val_bd f k
 have h2:=pow_mono128 h
 have e:(128:Int) ^ 4=268435456:=by decide
 omega
theorem val_split (f:Nat->Int) (k:Nat) (N:Int):val f (k+1)+128 ^ (k+1)*N=val f k+128 ^ k*(N*128+f k%128):=by
 simp only [val]
 rw [Int.pow_succ,Int.mul_add,Int.mul_assoc,Int.mul_comm 128 N]
 omega
def sval (f:Nat->Int) (k:Nat):Int:=val f k+128 ^ k*(if 64<=f (k-1)%128 then -1 else 0)
def most (bits:Int):Nat:=if bits=32 then 5 else 10
def asks (L:Nat) (a bits:Int):Bool:=decide ((bits=32\/bits=64)/\0<=a/\a<=L)
theorem asks_yes {L:Nat} {a bits:Int} (h:asks L a bits=true):(bits=32\/bits=64)/\0<=a/\a<=L:=of_decide_eq_true h
theorem asks_no {L:Nat} {a bits:Int} (h:asks L a bits=false):¬ ((bits=32\/bits=64)/\0<=a/\a<=L):=of_decide_eq_false h
def uFin (f:Nat->Int) (k:Nat) (a bits:Int):Int × Int × Int :=
 if k=0\/(bits=32/\4294967295<val f k)\/(k=10/\1<f 9) then (0,0,10) else (val f k,a+k,0)
def sFin (f:Nat->Int) (k:Nat) (a bits:Int):Int × Int × Int :=
 if k=0\/(bits=32/\(sval f k < -2147483648\/2147483647<sval f k))\/(k=10/\f 9≠0/\f 9≠127) then (0,0,10) else (sval f k,a+k,0)
def uOut (f:Nat->Int) (L:Nat) (a bits:Int):Int × Int × Int:=uFin f (grp f L (most bits)) a bits
def sOut (f:Nat->Int) (L:Nat) (a bits:Int):Int × Int × Int:=sFin f (grp f L (most bits)) a bits
def from_ (s:ByteArray) (a:Nat):Nat->Int:=fun i=>bt s (a+i)
def uRead (s:ByteArray) (a bits:Int):Int × Int × Int:=if asks s.size a bits then uOut (from_ s a.toNat) (s.size-a.toNat) a bits else (0,0,1)
def sRead (s:ByteArray) (a bits:Int):Int × Int × Int:=if asks s.size a bits then sOut (from_ s a.toNat) (s.size-a.toNat) a bits else (0,0,1)
theorem from_bd (s:ByteArray) (a i:Nat):0<=from_ s a i/\from_ s a i<=255:=bt_bd s _
theorem val_four (f:Nat->Int) (h0:0<=f 4) (h:f 4<128):(4294967295<val f 5↔15<f 4):=by
 have h1:=val_5 f 4 (by omega)
 have e:val f 5=val f 4+268435456*(f 4%128):=rfl
 omega
theorem val_nine (f:Nat->Int) (h0:0<=f 9) (h:f 9<=1):val f 10<=18446744073709551615:=by
 have h1:=val_9 f 9 (by omega)
 have e:val f 10=val f 9+9223372036854775808*(f 9%128):=rfl
 omega
def low64 (n:Int):Int:=n%18446744073709551616
theorem low64_bd (n:Int):0<=low64 n/\low64 n<=18446744073709551615:=by unfold low64;omega
theorem low64_in {n:Int} (h0:0<=n) (h1:n<=18446744073709551615):low64 n=n:=by unfold low64;omega
theorem low64_up (n g:Int) (h0:0<=g) (h1:g<128):low64 (low64 n*128)+g=low64 (n*128+g):=by unfold low64;omega
theorem low64_128 (n:Int):low64 (n*128)%2 ^ 7=0:=by unfold low64;omega
theorem sval_bd (f:Nat->Int) (k:Nat) (h1:0<k) (h:k<=9\/(k=10/\(f 9=0\/f 9=127))):-9223372036854775808<=sval f k/\sval f k<=9223372036854775807:=by
 rcases h with h|⟨rfl,h⟩
 ·have hv:=val_bd f k
  have h2:=pow_mono128 h
  have e:(128:Int) ^ 9=9223372036854775808:=by decide
  unfold sval
  split
  ·omega
  ·omega
 ·have hv:=val_9 f 9 (by omega)
  have e:val f 10=val f 9+9223372036854775808*(f 9%128):=rfl
  have e2:(128:Int) ^ 10=1180591620717411303424:=by decide
  unfold sval
  rw [e,e2]
  rcases h with h|h<;>rw [h]<;>simp<;>omega
def s64 (n:Int):Int:=(n+9223372036854775808)%18446744073709551616-9223372036854775808
theorem s64_bd (n:Int):-9223372036854775808<=s64 n/\s64 n<=9223372036854775807:=by unfold s64;omega
theorem s64_in {n:Int} (h0:-9223372036854775808<=n) (h1:n<=9223372036854775807):s64 n=n:=by unfold s64;omega
end Leb
end Go.Proofs.YtgbbmdknbflilaaDoor

namespace Go.Proofs.YtgbbmdknbflilaaDoor
open Go.RowKit
namespace Nums
def md (W:Nat):Int:=if W=32 then 4294967296 else 18446744073709551616
def hf (W:Nat):Int:=if W=32 then 2147483648 else 9223372036854775808
def sg (W:Nat) (a:Int):Int:=if a<hf W then a else a-md W
theorem pow_pos (k:Nat):(0:Int)<2 ^ k:=Int.pow_pos (by decide)
end Nums
end Go.Proofs.YtgbbmdknbflilaaDoor

namespace Go.Proofs.YtgbbmdknbflilaaDoor
open Go.RowKit
theorem below_drewN {B:Nat} {a w:World} (h:Below B a w) (n:Nat):Below B a (w.drewN n):=⟨h.os,h.tape,h.output,h.size,h.block⟩
end Go.Proofs.YtgbbmdknbflilaaDoor

namespace Go.Proofs.YtgbbmdknbflilaaDoor
open Go.RowKit
end Go.Proofs.YtgbbmdknbflilaaDoor

namespace Go.Proofs.YtgbbmdknbflilaaDoor
open Go.RowKit
namespace Rep
def Row {α:Type} (size:Nat) (f:Nat->Nat->α->Prop) (v:Value) (l:List α):Prop :=
 l.length<=9223372036854775807/\((l = []/\∃o cap,v=.slice o 0 cap)\/∃b off cap,v=.slice (some ⟨b,off,none⟩) l.length cap/\∀(i:Nat) (x:α),l[i]?=some x->f b (off+i*size) x)
theorem Row.len {α:Type} {size:Nat} {f:Nat->Nat->α->Prop} {v:Value} {l:List α} (h:Row size f v l):∃o cap,v=.slice o l.length cap:=by
 rcases h with ⟨_,⟨rfl,o,cap,rfl⟩|⟨b,off,cap,rfl,_⟩⟩
 ·exact ⟨o,cap,rfl⟩
 ·exact ⟨_,cap,rfl⟩
theorem Row.some {α:Type} {size:Nat} {f:Nat->Nat->α->Prop} {v:Value} {l:List α} (h:Row size f v l) (h0:0<l.length):∃b off cap,v=.slice (some ⟨b,off,none⟩) l.length cap/\∀(i:Nat) (x:α),l[i]?=some x->f b (off+i*size) x:=by
 rcases h with ⟨_,⟨rfl,_⟩|h⟩
 ·exact absurd h0 (by simp)
 ·exact h
theorem Row.imp {α:Type} {size:Nat} {f g:Nat->Nat->α->Prop} {v:Value} {l:List α} (h:Row size f v l) (hfg:∀b o x,x ∈ l->f b o x->g b o x):Row size g v l:=by
 rcases h with ⟨hl,h|⟨b,off,cap,hv,hc⟩⟩
 ·exact ⟨hl,.inl h⟩
 ·exact ⟨hl,.inr ⟨b,off,cap,hv,fun i x hi=>hfg _ _ _ (List.mem_of_getElem? hi) (hc i x hi)⟩⟩
def Ints (w:World) (v:Value) (l:List Int):Prop:=Row 1 (fun b o (z:Int)=>w.cell? ⟨b,o,none⟩=.some (.int .i64 z)) v l
theorem cell_on {w w':World} (hb:Below w.heap.size w w') {b o:Nat} {u:Value} (h:w.cell? ⟨b,o,none⟩=.some u):w'.cell? ⟨b,o,none⟩=.some u:=by
 rw [hb.cell (World.block_lt_of_cell? _ _ h)];exact h
theorem Ints.on {w w':World} (hb:Below w.heap.size w w') {v:Value} {l:List Int} (h:Ints w v l):Ints w' v l:=Row.imp h fun _ _ _ _ h=>cell_on hb h
structure Ins (α:Type) where
 op:Int
 a:Int
 b:Int
 n:Int
 labels:List Int
 body:α
 els:α
def IL:Nat->Type
 | 0=>Unit
 | d+1=>List (Ins (IL d))
structure InsAt {α:Type} (w:World) (sub:Value->α->Prop) (bk o:Nat) (x:Ins α):Prop where
 op:w.cell? ⟨bk,o,none⟩=.some (.int .i64 x.op)
 a:w.cell? ⟨bk,o+1,none⟩=.some (.int .i64 x.a)
 b:w.cell? ⟨bk,o+2,none⟩=.some (.int .i64 x.b)
 n:w.cell? ⟨bk,o+3,none⟩=.some (.int .i64 x.n)
 labels:∃v,w.cell? ⟨bk,o+4,none⟩=.some v/\Ints w v x.labels
 body:∃v,w.cell? ⟨bk,o+5,none⟩=.some v/\sub v x.body
 els:∃v,w.cell? ⟨bk,o+6,none⟩=.some v/\sub v x.els
def At (w:World):(d:Nat)->Value->IL d->Prop
 | 0,v,_=>∃o cap,v=.slice o 0 cap
 | d+1,v,l=>Row 7 (InsAt w (At w d)) v l
theorem InsAt.on {α : Type} {w w' : World} (hb : Below w.heap.size w w') {f g : Value → α → Prop} (hfg : ∀ v x, f v x → g v x) {b o : Nat} {x : Ins α} (h : InsAt w f b o x) : InsAt w' g b o x :=
  ⟨cell_on hb h.op, cell_on hb h.a, cell_on hb h.b, cell_on hb h.n,
   let ⟨v, h1, h2⟩ := h.labels; ⟨v, cell_on hb h1, h2.on hb⟩,
   let ⟨v, h1, h2⟩ := h.body; ⟨v, cell_on hb h1, hfg _ _ h2⟩,
   let ⟨v, h1, h2⟩ := h.els; ⟨v, cell_on hb h1, hfg _ _ h2⟩⟩
theorem At.on {w w':World} (hb:Below w.heap.size w w'):∀(d:Nat) (v:Value) (l:IL d),At w d v l->At w' d v l
 | 0,_,_,h=>h
 | d+1,_,_,h=>Row.imp (α:=Ins (IL d)) h fun _ _ _ _ h=>h.on hb (At.on hb d)
theorem below_drewN' (w:World) (n:Nat):Below w.heap.size w (w.drewN n):=⟨rfl,rfl,rfl,Nat.le_refl _,fun _ _=>rfl⟩
def cntL {α:Type} (f:α->Nat->Nat):List (Ins α)->Nat->Nat
 | [],c=>c
 | x :: r,c=>if c<=65536 then cntL f r (f x.els (f x.body (c+1))) else c
def cnt:(d:Nat)->IL d->Nat->Nat
 | 0,_,c=>c
 | d+1,l,c=>cntL (cnt d) l c
end Rep
end Go.Proofs.YtgbbmdknbflilaaDoor

namespace Go.Proofs.YtgbbmdknbflilaaDoor
open Go.RowKit Rep
set_option linter.unusedVariables false
namespace Rep
theorem hideM {p:Prop} (h:p):Hid p:=h
end Rep
end Go.Proofs.YtgbbmdknbflilaaDoor

namespace Go.Proofs.YtgbbmdknbflilaaDoor
open Go.RowKit Rep
set_option linter.unusedVariables false
namespace Rep
def form (op:Int):Int :=
 if op<=-1 then 0 else
 if op<=0 then 1 else
 if op<=1 then 1 else
 if op<=2 then 2 else
 if op<=3 then 2 else
 if op<=4 then 3 else
 if op<=11 then 0 else
 if op<=12 then 4 else
 if op<=13 then 4 else
 if op<=14 then 5 else
 if op<=15 then 1 else
 if op<=16 then 6 else
 if op<=17 then 7 else
 if op<=25 then 0 else
 if op<=26 then 1 else
 if op<=27 then 1 else
 if op<=31 then 0 else
 if op<=36 then 6 else
 if op<=39 then 0 else
 if op<=40 then 8 else
 if op<=41 then 8 else
 if op<=42 then 10 else
 if op<=43 then 10 else
 if op<=55 then 8 else
 if op<=56 then 10 else
 if op<=57 then 10 else
 if op<=62 then 8 else
 if op<=63 then 1 else
 if op<=64 then 1 else
 if op<=65 then 9 else
 if op<=66 then 9 else
 if op<=67 then 10 else
 if op<=68 then 10 else
 if op<=90 then 1 else
 if op<=102 then 10 else
 if op<=138 then 1 else
 if op<=166 then 10 else
 if op<=167 then 1 else
 if op<=171 then 10 else
 if op<=173 then 1 else
 if op<=191 then 10 else
 0
end Rep
end Go.Proofs.YtgbbmdknbflilaaDoor

namespace Go.Proofs.YtgbbmdknbflilaaDoor
open Go.RowKit Rep
set_option linter.unusedVariables false
namespace Dec
abbrev R (α:Type):=Except Int (α × Nat)
def bd {α β:Type} (x:R α) (f:α->Nat->R β):R β :=
 match x with
 | .ok (a,i)=>f a i
 | .error e=>.error e
theorem bd_ok {α β:Type} (a:α) (i:Nat) (f:α->Nat->R β):bd (.ok (a,i)) f=f a i:=rfl
theorem bd_err {α β:Type} (e:Int) (f:α->Nat->R β):bd (.error e) f=.error e:=rfl
def nx (s:ByteArray) (en at_:Nat):R Int:=if at_<en then .ok (Leb.bt s at_,at_+1) else .error 50
def ru (s:ByteArray) (en at_:Nat):R Int:=if (Leb.uRead (s.extract 0 en) at_ 32).2.2=0 then .ok ((Leb.uRead (s.extract 0 en) at_ 32).1,(Leb.uRead (s.extract 0 en) at_ 32).2.1.toNat) else .error 50
def rs (s:ByteArray) (en:Nat) (bits:Int) (at_:Nat):R Int:=if (Leb.sRead (s.extract 0 en) at_ bits).2.2=0 then .ok ((Leb.sRead (s.extract 0 en) at_ bits).1,(Leb.sRead (s.extract 0 en) at_ bits).2.1.toNat) else .error 50
def must (s:ByteArray) (en:Nat) (b:Int) (at_:Nat):R Unit:=bd (nx s en at_) fun x i=>if x=b then .ok ((),i) else .error 50
def vty (b:Int) (i:Nat):R Int:=if b=124\/b=125 then .error 51 else if b=127\/b=126 then .ok (b,i) else .error 50
def rt (s:ByteArray) (en at_:Nat):R Int:=bd (nx s en at_) vty
def rres (s:ByteArray) (en at_:Nat):R Int:=bd (nx s en at_) fun b i=>if b=64 then .ok (0,i) else vty b i
def rc (s:ByteArray) (en at_:Nat):R Int:=bd (ru s en at_) fun n i=>if n<=4096 then .ok (n,i) else .error 3
def rep {α:Type} (f:Nat->R α):Nat->Nat->R (List α)
 | 0,i=>.ok ([],i)
 | k+1,i=>bd (f i) fun x j=>bd (rep f k j) fun l m=>.ok (x :: l,m)
def rl (s:ByteArray) (en at_:Nat):R (List Int):=bd (rc s en at_) fun n i=>rep (ru s en) n.toNat i
def pre {α:Type} (l:List α) (x:R (List α)):R (List α):=bd x fun k i=>.ok (l++k,i)
theorem pre_nil {α:Type} (x:R (List α)):pre [] x=x:=by
 unfold pre bd
 cases x with
 | error e=>rfl
 | ok v=>rfl
theorem pre_end {α:Type} (l:List α) (f:Nat->R α) (i:Nat):pre l (rep f 0 i)=.ok (l,i):=by
 unfold pre rep bd;simp
theorem pre_on {α:Type} (l:List α) (f:Nat->R α) (k i:Nat) (x:α) (j:Nat) (h:f i=.ok (x,j)):pre l (rep f (k+1) i)=pre (l++[x]) (rep f k j):=by
 unfold pre
 show bd (bd (f i) _) _=_
 rw [h,bd_ok]
 cases rep f k j with
 | error e=>rfl
 | ok v=>obtain ⟨a,b⟩:=v;show (Except.ok (l++x :: a,b):R (List α))=.ok (l++[x]++a,b);simp
theorem pre_err {α:Type} (l:List α) (f:Nat->R α) (k i:Nat) (e:Int) (h:f i=.error e):pre l (rep f (k+1) i)=.error e:=by
 unfold pre
 show bd (bd (f i) _) _=_
 rw [h];rfl
def rsim {α:Type} (z:α) (s:ByteArray) (en:Nat) (op:Int) (i:Nat):R (Ins α) :=
 let x:Ins α:={ op:=op,a:=0,b:=0,n:=0,labels:=[],body:=z,els:=z }
 if form op=1 then (if op=63\/op=64 then bd (must s en 0 i) fun _ j=>.ok (x,j) else .ok (x,i))
 else if form op=4\/form op=6 then bd (ru s en i) fun a j=>.ok ({ x with a:=a },j)
 else if form op=5 then bd (rl s en i) fun l j=>bd (ru s en j) fun a m=>.ok ({ x with labels:=l,a:=a },m)
 else if form op=7 then bd (ru s en i) fun a j=>bd (must s en 0 j) fun _ m=>.ok ({ x with a:=a },m)
 else if form op=8 then bd (ru s en i) fun a j=>bd (ru s en j) fun b m=>.ok ({ x with a:=a,b:=b },m)
 else if form op=9 then bd (rs s en (if op=65 then 32 else 64) i) fun n j=>.ok ({ x with n:=n },j)
 else .ok (x,i)
abbrev R2 (α:Type):=Except Int (α × Nat × Nat)
def bd2 {α β:Type} (x:R2 α) (f:α->Nat->Nat->R2 β):R2 β :=
 match x with
 | .ok (a,i,n)=>f a i n
 | .error e=>.error e
def lift {α:Type} (x:R α) (n:Nat):R2 α :=
 match x with
 | .ok (a,i)=>.ok (a,i,n)
 | .error e=>.error e
def rask (dep:Nat) (op:Int) (n:Nat):Option Int :=
 if form op=0 then some 50 else if form op=10 then some 51 else if 65536<n+1 then some 3 else if 64<dep then some 4 else none
def rblk {α:Type} (z:α) (s:ByteArray) (en:Nat) (sub:Nat->Nat->R2 (α × Int)) (op:Int) (i n:Nat):R2 (Ins α) :=
 bd2 (lift (rres s en i) n) fun a j n1=>bd2 (sub j n1) fun bt m n2 =>
  if bt.2=5/\form op=3 then bd2 (sub m n2) fun et q n3=>if et.2=11 then .ok ({ op:=op,a:=a,b:=0,n:=0,labels:=[],body:=bt.1,els:=et.1 },q,n3) else .error 50
  else if bt.2=11 then .ok ({ op:=op,a:=a,b:=0,n:=0,labels:=[],body:=bt.1,els:=z },m,n2) else .error 50
def none_:(d:Nat)->IL d
 | 0=>()
 | d+1=>([]:List (Ins (IL d)))
def rins {d:Nat} (sub:Nat->Nat->R2 (IL d × Int)) (s:ByteArray) (en dep:Nat) (op:Int) (i n:Nat):R2 (Ins (IL d)) :=
 match rask dep op n with
 | some e=>.error e
 | none=>if form op=2\/form op=3 then rblk (none_ d) s en sub op i (n+1) else lift (rsim (none_ d) s en op i) (n+1)
def rloop {d:Nat} (sub:Nat->Nat->R2 (IL d × Int)) (s:ByteArray) (en dep:Nat):Nat->Nat->Nat->R2 (List (Ins (IL d)) × Int)
 | 0,i,n=>.error 50
 | f+1,i,n=>bd2 (lift (nx s en i) n) fun op j n1 =>
   if op=11\/op=5 then .ok (([],op),j,n1)
   else bd2 (rins sub s en dep op j n1) fun x m n2=>bd2 (rloop sub s en dep f m n2) fun r q n3=>.ok ((x :: r.1,r.2),q,n3)
def rseq (s:ByteArray) (en:Nat):(d:Nat)->Nat->Nat->Nat->R2 (IL d × Int)
 | 0,dep,i,n=>bd2 (lift (nx s en i) n) fun op j n1=>if op=11\/op=5 then .ok (((),op),j,n1) else .error ((rask dep op n1).getD 4)
 | d+1,dep,i,n=>rloop (rseq s en d (dep+1)) s en dep (en-i+1) i n
def rexpr (s:ByteArray) (en:Nat) (i n:Nat):R2 (IL 81):=bd2 (rseq s en 81 0 i n) fun lt j m=>if lt.2=11 then .ok (lt.1,j,m) else .error 50
end Dec
end Go.Proofs.YtgbbmdknbflilaaDoor

