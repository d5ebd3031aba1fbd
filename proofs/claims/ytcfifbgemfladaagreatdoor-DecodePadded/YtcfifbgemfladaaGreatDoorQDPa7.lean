/- Texts that the claim needs. -/
import Derived.Test.YtcfifbgemfladaaGreatDoorQDPa6
import Derived.Lib.Overlaps
import Derived.Lib.AppendZerosOnto
import Derived.Laws.IdiomCopy
import Derived.Laws.NewBlocks
import Derived.Laws.Externs
import Derived.Shelf.Spec.SlicesInsertGrow
import Derived.Deep.RegionLaw
import Derived.Lib.ConvBytes
import Derived.Lib.AppendZeros
import Derived.Deep.AppendSrc
import Derived.Shelf.Spec.SlicesGrow
import Derived.Laws.AppendOwn
import Derived.Laws.AppendOwnNone
import Derived.OwnWalk
import Derived.Test.YtcfifbgemfladaaGreatDoorQDPa4
namespace Go.Proofs.YtcfifbgemfladaaGreatDoor
open Go.RowKit au Enc Go.Lib
set_option linter.unusedVariables false
namespace Enc
def rM {α:Type} (rec:α->Prop) (x:Ins α):Prop:=(-9223372036854775808<=x.n/\x.n<=9223372036854775807)/\rec x.body/\rec x.els
def NR:(d:Nat)->IL d->Prop
 | 0,_=>True
 | d+1,l=>∀x,x ∈ (show List (Ins (IL d)) from l)->rM (NR d) x
theorem wJ {α:Type} {step:Unit->Ins α->Option Unit} {sub:α->Unit->Option Unit}:∀(l:List (Ins α)),vK step sub l ()=some ()->∀x ∈ l,step () x=some ()/\sub x.body ()=some ()/\sub x.els ()=some ()
 | [],_,x,hx=>by cases hx
 | y :: r,h,x,hx=>by
  have h':((step () y).bind λs1=>(sub y.body s1).bind λs2=>(sub y.els s2).bind λs3=>vK step sub r s3)=some ():=h;obtain ⟨s1,e1,h1⟩:=Option.bind_eq_some_iff.1 h';obtain ⟨s2,e2,h2⟩:=Option.bind_eq_some_iff.1 h1;obtain ⟨s3,e3,h3⟩:=Option.bind_eq_some_iff.1 h2;rcases lI.1 hx with rfl|hx
  ·exact ⟨e1,e2,e3⟩
  exact wJ r h3 x hx
theorem iH {n:Int} (h:idx n=true):0<=n/\n<=4294967295:=of_decide_eq_true h
theorem Hh {α:Type} {rec:α->Prop} {x:Ins α} {nb ne:Nat} (hok:okF (form x.op) x.op x.a x.b x.n x.labels nb ne=true) (hf:x.labels.length<=4096) (hn:-9223372036854775808<=x.n/\x.n<=9223372036854775807) (hb:rec x.body) (he:rec x.els):dK rec x:=by
 unfold okF at hok;refine ⟨λh4 h8=>?_,λh8=>?_,λ_=>hn,λh5=>?_,by omega,hb,he⟩
 ·rw [AD (by omega),AD (by omega),AD (by omega)] at hok;by_cases h:form x.op=4\/form x.op=6\/form x.op=7
  ·rw [AE h,bH] at hok;exact iH hok.1
  rw [AD h] at hok;by_cases h5:form x.op=5
  ·rw [AE h5,bH,bH] at hok;exact iH hok.1.1
  rw [AD h5,AE (by omega),bH,bH] at hok;exact iH hok.1.1
 ·rw [AD (by omega),AD (by omega),AD (by omega),AD (by omega),AD (by omega),AE h8,bH,bH] at hok;exact iH hok.1.2
 rw [AD (by omega),AD (by omega),AD (by omega),AD (by omega),AE h5,bH,bH] at hok;intro y hy;exact iH (dN.1 hok.1.2 y hy)
theorem rg_of:∀(d:Nat) (l:IL d) (k:Nat),lj sZ d l k ()=some ()->lj Br d l k ()=some ()->NR d l->Rg d l
 | 0,_,_,_,_,_=>trivial
 | d+1,l,k,hF,hL,hN=>by
  intro x hx;obtain ⟨f1,f2,f3⟩:=wJ (show List (Ins (IL d)) from l) hF x hx;obtain ⟨g1,g2,g3⟩:=wJ (show List (Ins (IL d)) from l) hL x hx;obtain ⟨n1,n2,n3⟩:=hN x hx
  have hok:nO (sn x)=true:=by
   unfold sZ at f1;by_cases h:nO (sn x)=true
   ·exact h
   rw [AD h] at f1;cases f1
  have hfw:x.labels.length<=4096:=by
   unfold Br at g1;by_cases h:few (sn x).labels.length=true
   ·have:=of_decide_eq_true (p:=(((sn x).labels.length:Int)<=4096)) h
    have e:(sn x).labels=x.labels:=rfl;rw [e] at this;omega
   rw [AD h] at g1;cases g1
  exact Hh hok hfw n1 (rg_of d x.body (k+1) f2 g2 n2) (rg_of d x.els (k+1) f3 g3 n3)
def wZ {α:Type} (f:α->Nat):List (Ins α)->Nat
 | []=>0
 | x :: r=>1+f x.body+f x.els+wZ f r
def tot:(d:Nat)->IL d->Nat
 | 0,_=>0
 | d+1,l=>wZ (tot d) l
theorem RA {α:Type} {f:α->Nat} {step:Nat->Ins α->Option Nat} {sub:α->Nat->Option Nat} (hstep:∀c x c',step c x=some c'->c'=c+1) (hsub:∀y c c',sub y c=some c'->c'=c+f y):∀(l:List (Ins α)) (c c':Nat),vK step sub l c=some c'->c'=c+wZ f l
 | [],c,c',h=>by injection h with h;rw [<- h];rfl
 | y :: r,c,c',h=>by
  have h':((step c y).bind λs1=>(sub y.body s1).bind λs2=>(sub y.els s2).bind λs3=>vK step sub r s3)=some c':=h;obtain ⟨s1,e1,h1⟩:=Option.bind_eq_some_iff.1 h';obtain ⟨s2,e2,h2⟩:=Option.bind_eq_some_iff.1 h1;obtain ⟨s3,e3,h3⟩:=Option.bind_eq_some_iff.1 h2;have a1:=hstep _ _ _ e1;have a2:=hsub _ _ _ e2;have a3:=hsub _ _ _ e3;have a4:=RA hstep hsub r s3 c' h3;show c'=c+(1+f y.body+f y.els+wZ f r);omega
theorem RB:∀(d:Nat) (l:IL d) (k c c':Nat),lj og d l k c=some c'->c'=c+tot d l
 | 0,_,_,c,c',h=>by injection h with h;rw [<- h];rfl
 | d+1,l,k,c,c',h=>RA (f:=tot d) (λc x c' h=>by
   unfold og at h;split at h
   ·injection h with h;exact h.symm
   cases h) (λy c c' h=>RB d y (k+1) c c' h) (show List (Ins (IL d)) from l) c c' h
theorem K8:∀(d:Nat) (l:IL d) (k c c':Nat),c<=65536->lj og d l k c=some c'->c'<=65536
 | 0,_,_,c,c',hc,h=>by injection h with h;omega
 | d+1,l,k,c,c',hc,h=>by
  have key:∀(l:List (Ins (IL d))) (c c':Nat),c<=65536->vK (λs x=>og s (sn x) k) (λy s=>lj og d y (k+1) s) l c=some c'->c'<=65536:=by
   intro l
   induction l with
   | nil=>intro c c' hc h;injection h with h;omega
   | cons y r ih =>
    intro c c' hc h;have h':((og c (sn y) k).bind λs1=>(lj og d y.body (k+1) s1).bind λs2=>(lj og d y.els (k+1) s2).bind λs3=>vK (λs x=>og s (sn x) k) (λy s=>lj og d y (k+1) s) r s3)=some c':=h;obtain ⟨s1,e1,h1⟩:=Option.bind_eq_some_iff.1 h';obtain ⟨s2,e2,h2⟩:=Option.bind_eq_some_iff.1 h1;obtain ⟨s3,e3,h3⟩:=Option.bind_eq_some_iff.1 h2
    have b1:s1<=65536:=by
     unfold og at e1;split at e1
     ·injection e1 with e1;omega
     cases e1
    exact ih s3 c' (K8 d _ _ _ _ (K8 d _ _ _ _ b1 e2) e3) h3
  exact key (show List (Ins (IL d)) from l) c c' hc h
theorem RE {α:Type} {rec:α->List Int} {sz:α->Nat} {P:α->Prop} {x:Ins α} (r:dK P x):(fS rec sz x).length<=100000100+(rec x.body).length+(rec x.els).length:=by
 unfold fS;have ha:4<=form x.op->form x.op<=8->(af.uB x.a).length<=10:=λh1 h2=>af.yd (r.a h1 h2).1 (by have:=(r.a h1 h2).2;omega);have hb:form x.op=8->(af.uB x.b).length<=10:=λh=>af.yd (r.b h).1 (by have:=(r.b h).2;omega);have hn:form x.op=9->(af.sB x.n).length<=10:=λh=>af.BR (r.n h).1 (r.n h).2
 have hi:form x.op=5->(mY x.labels).length<=100000010:=λh=>by
  have h1:=af.yd (n:=(x.labels.length:Int)) (by omega) (by have:=r.few;omega);have h2:=RG (f:=af.uB) 10 x.labels λy hy=>af.yd (r.labels h y hy).1 (by have:=(r.labels h y hy).2;omega);have h3:=r.few;unfold mY;rw [aT];omega
 rw [aT];simp only [ik,mQ];split
 ·split<;>simp<;>omega
 split
 ·simp only [aT,ik,mQ];have e1:(if x.a=0 then [64] else [x.a%256]:List Int).length=1:=by split<;>rfl
  have e2:(if 0<sz x.els then 5 :: ([]++rec x.els) else []:List Int).length<=1+(rec x.els).length:=by split<;>simp<;>omega
  have e3:(if 0<sz x.els then [5]++rec x.els else []:List Int).length<=1+(rec x.els).length:=by split<;>simp<;>omega
  omega
 split
 ·have:=ha (by omega) (by omega);omega
 split
 ·rw [aT];have:=ha (by omega) (by omega);have:=hi (by omega);omega
 split
 ·rw [aT];have:=ha (by omega) (by omega);simp only [ik,mQ];omega
 split
 ·rw [aT];have:=ha (by omega) (by omega);have:=hb (by omega);omega
 split
 ·have:=hn (by omega);omega
 simp;omega
theorem K9:∀(d:Nat) (l:IL d),Rg d l->(aW d l).length<=tot d l*100000100
 | 0,_,_=>by show 0<=_;omega
 | d+1,l,hR=>by
  have key:∀(l:List (Ins (IL d))),(∀x ∈ l,dK (Rg d) x)->(mF (aW d) (size d) l).length<=wZ (tot d) l*100000100:=by
   intro l
   induction l with
   | nil=>intro _;show 0<=_;omega
   | cons y r ih =>
    intro h;have h1:=ih λx hx=>h x (List.mem_cons_of_mem _ hx);have r:=h y (List.mem_cons_self ..);have h2:=RE (rec:=aW d) (sz:=size d) r;have h3:=K9 d y.body r.body;have h4:=K9 d y.els r.els;show (fS (aW d) (size d) y++mF (aW d) (size d) _).length<=(1+tot d y.body+tot d y.els+wZ (tot d) _)*100000100;rw [aT];omega
  exact key (show List (Ins (IL d)) from l) hR
theorem KO {d:Nat} {m:Mod d} (h:ny m=0):qW m=true/\(∃c,pU og d m.funcs 0=some c)/\pU Br d m.funcs ()=some ()/\zC m=true/\pU sZ d m.funcs ()=some ():=by
 unfold ny at h;split at h
 ·rename_i h0;split at h
  ·cases h
  rename_i c hc;split at h
  ·cases h
  rename_i u1 h1;split at h
  ·cases h
  split at h
  ·rename_i h3;split at h
   ·cases h
   rename_i u2 h4;exact ⟨h0,⟨c,hc⟩,h1,h3,h4⟩
  cases h
 cases h
end Enc
namespace Enc
end Enc
namespace Enc
end Enc
namespace Enc
theorem Us (g k:Nat) (hk:k≠g):∀(vs:List Value) (o:Nat) (w:AG),(w.setCells g o vs).heap[k]?=w.heap[k]?
 | [],_,_=>rfl
 | v :: r,o,w=>by
  rw [World.setCells,Us g k hk r,heap_setCell_other w ⟨g,o,none⟩ k v hk]
theorem MJ (g:Nat):∀(vs:List Value) (o:Nat) (w:AG),w.grownBy (w.setCells g o vs) (some g)
 | [],_,w=>⟨rfl,rfl,rfl,aC _,λ_ _ _=>rfl⟩
 | v :: r,o,w=>by
  have h:=MJ g r (o+1) (w.setCell ⟨g,o,none⟩ v)
  exact ⟨h.os.trans rfl,h.2.trans rfl,h.3.trans rfl,by rw [World.setCells];have:=h.size;simpa using this,λk hk hn=>by
   rw [World.setCells,h.block k (by simpa using hk) hn,heap_setCell_other w ⟨g,o,none⟩ k v (by intro e;exact hn (by rw [show k=g from e]))]⟩
end Enc
namespace Enc
end Enc
namespace Enc
theorem GX (xs:List Int):(strOfNums xs).size=xs.length:=by
 unfold strOfNums ByteArray.size;simp
end Enc
set_option linter.unusedVariables false
namespace Enc
def fA (f:Nat->List Int):Nat->List Int
 | 0=>[]
 | k+1=>fA f k++f k
end Enc
namespace Enc
end Enc
namespace Enc
end Enc
namespace Enc
def Bp:List Int:=[0,97,115,109,1,0,0,0]
section
variable {w0 w w':AG} {p:Nat} {c:Nat->Value} {v:Value}
end
end Enc
namespace Enc
structure Wr {d:Nat} (m:Mod d):Prop where
 types:∀x ∈ m.types,x.params.length<=1000000/\x.results.length<=1000000
 imports:∀x ∈ m.imports,x.mod.size<=1000000/\x.name.size<=1000000/\0<=x.type/\x.type<=4294967295
 funcs:∀x ∈ m.funcs,(0<=x.type/\x.type<=4294967295)/\Rg d x.body/\x.locals.length<=1000000
 tables:∀x ∈ m.tables,(0<=x.min/\x.min<=4294967295)/\0<=x.max/\x.max<=4294967295
 aF:∀x ∈ m.aF,(0<=x.min/\x.min<=4294967295)/\0<=x.max/\x.max<=4294967295
 globals:∀x ∈ m.globals,dK (Rg d) x.init
 exports:∀x ∈ m.exports,x.name.size<=1000000/\0<=x.index/\x.index<=4294967295
 start:∀x ∈ m.start,0<=x/\x<=4294967295
 elems:∀x ∈ m.elems,dK (Rg d) x.offset/\(∀y ∈ x.funcs,0<=y/\y<=4294967295)/\x.funcs.length<=1000000
 aA:∀x ∈ m.aA,dK (Rg d) x.offset/\x.bytes.size<=1000000
 few:m.types.length<=1000000/\m.imports.length<=1000000/\m.funcs.length<=1000000/\m.tables.length<=1000000/\m.aF.length<=1000000/\m.globals.length<=1000000/\m.exports.length<=1000000/\m.start.length<=1000000/\m.elems.length<=1000000/\m.aA.length<=1000000
 short:(mR m).length<=38000000000000
 F9:∀x ∈ m.funcs,∀y ∈ x.locals,y=126\/y=127
 once:m.start.length<=1
def sb {d:Nat} (m:Mod d):Nat->List Int
 | 0=>eu 1 m.types.length (aG kI m.types)
 | 1=>eu 2 m.imports.length (aG kJ m.imports)
 | 2=>eu 3 m.funcs.length (aG (λx=>af.uB x.type) m.funcs)
 | 3=>eu 4 m.tables.length (aG (λx=>[112]++eT x) m.tables)
 | 4=>eu 5 m.aF.length (aG eT m.aF)
 | 5=>eu 6 m.globals.length (aG jV m.globals)
 | 6=>eu 7 m.exports.length (aG kN m.exports)
 | 7=>eu 8 m.start.length (m.start.flatMap af.uB)
 | 8=>eu 9 m.elems.length (aG jy m.elems)
 | 9=>eu 10 m.funcs.length (aG (λx=>df (cQ x)) m.funcs)
 | 10=>eu 11 m.aA.length (aG jA m.aA)
 | _=>[]
theorem abg {d:Nat} (m:Mod d):mR m=Bp++fA (sb m) 11:=by
 show mR m=Bp++(((((((((((([]:List Int)++sb m 0)++sb m 1)++sb m 2)++sb m 3)++sb m 4)++sb m 5)++sb m 6)++sb m 7)++sb m 8)++sb m 9)++sb m 10);simp only [fN,<- bw];rfl
def ln {d:Nat} (m:Mod d):Nat->Nat
 | 0=>m.types.length
 | 1=>m.imports.length
 | 2=>m.funcs.length
 | 3=>m.tables.length
 | 4=>m.aF.length
 | 5=>m.globals.length
 | 6=>m.exports.length
 | 7=>m.start.length
 | 8=>m.elems.length
 | 9=>m.aA.length
 | _=>0
end Enc
end Go.Proofs.YtcfifbgemfladaaGreatDoor
namespace Go.Proofs.YtcfifbgemfladaaGreatDoor
open Go.RowKit au Go.Proofs.Tryz
set_option linter.unusedVariables false
structure afo (I:AG->Prop):Prop extends Wq I where
 name:∀(s:AH) (w:AG),I w->s.size<=9223372036854775807->Calls prog 110 #[.string s] w λe w'=>e=.returned (.bool (nm s))/\AS w w'
namespace au
def Strs (w:AG) (v:Value) (l:List AH):Prop:=Row 1 (λb o (z:AH)=>w.cell? ⟨b,o,none⟩=.some (.string z)) v l
theorem Strs.on {w w':AG} (hb:AS w w') {v:Value} {l:List AH} (h:Strs w v l):Strs w' v l:=Row.imp h λ_ _ _ _ h=>ak hb h
theorem Zg {u v:AG} {o:Obj} (h:v=u.alloc o):AS u v:=by rw [h];exact (AC _ u).alloc (aC _) o
structure BO {d:Nat} (m:Mod d):Prop where
 imports:∀x ∈ m.imports,x.mod.size<=9223372036854775807/\x.name.size<=9223372036854775807
 exports:∀x ∈ m.exports,x.name.size<=9223372036854775807
end au
end Go.Proofs.YtcfifbgemfladaaGreatDoor
namespace Go.Proofs
open Go.RowKit Go.Shelf Go.Lib Go.Proofs.Tryz
namespace YtcfifbgemfladaaGreatDoor
open Go.RowKit au
set_option maxHeartbeats 1000000 in
set_option maxRecDepth 1000000 in
theorem Zw (s:AH) (w:AG) (hs:s.size<=9223372036854775807) (hT:mI w) :
  Calls prog 110 #[.string s] w λe w'=>e=.returned (.bool (nm s))/\AS w w':=by
 have cV:Calls prog 92 #[.string s] w _:=Any.utf8_ValidString Tryz.laysValid s w (by omega) hT;unfold nm;generalize Lib.validD s.data.toList=V at cV ⊢;have CV:=ah cV;clear cV;by_cases h0:s.size<=64
 ·have h0z:decide ((s.size:Int)<=64)=true:=by simp;omega
  rw [h0z,jk];go_enter func110,ntmps110;go_wp2_with fail;refine CV.out.mono ?_;rintro e w' ⟨rfl,hb⟩;go_wp2;go_ret;exact ⟨rfl,hb⟩
 have h0z:decide ((s.size:Int)<=64)=false:=by simp;omega
 rw [h0z,Bool.false_and];clear CV;go_enter func110,ntmps110;go_wp2;go_ret;exact ⟨rfl,AC _ _⟩
end YtcfifbgemfladaaGreatDoor
end Go.Proofs
namespace Go.Proofs
open Go.RowKit Go.Shelf Go.Lib
namespace YtcfifbgemfladaaGreatDoor
open Go.RowKit au
namespace au
end au
end YtcfifbgemfladaaGreatDoor
end Go.Proofs
namespace Go.Proofs.YtcfifbgemfladaaGreatDoor
open Go.RowKit Go.Shelf au
set_option linter.unusedVariables false
namespace au
end au
end Go.Proofs.YtcfifbgemfladaaGreatDoor
namespace Go.Proofs.YtcfifbgemfladaaGreatDoor
open Go.RowKit au Go.Proofs.Tryz
set_option linter.unusedVariables false
set_option maxHeartbeats 1000000
namespace au
def dz (op:Int):Bool:=decide ((69<=op/\op<=90)\/(103<=op/\op<=138)\/op=167\/op=172\/op=173)
def cB (op:Int):Bool:=decide (op=42\/op=43\/op=56\/op=57\/op=67\/op=68\/(91<=op/\op<=102)\/(139<=op/\op<=166)\/(168<=op/\op<=171)\/(174<=op/\op<=191))
end au
structure fw (I:AG->Prop):Prop where
 keep:∀ {w w':AG},AS w w'->I w->I w'
 reckons:∀(op:Int) (w:AG),I w->Calls prog 120 #[.int .i64 op] w λe w'=>e=.returned (.bool (dz op))/\AS w w'
theorem aao (op:Int) (w:AG) (h:op<=41):Calls prog 121 #[.int .i64 op] w λe w'=>e=.returned (.bool false)/\w'=w:=by
 obtain ⟨kv,kx,ky,kz,kC,kD,_⟩:=AN op [42,43,56,57,67,68] (by simp;omega);have a91:decide ((91:Int)<=op)=false:=aj;have a139:decide ((139:Int)<=op)=false:=aj;have a168:decide ((168:Int)<=op)=false:=aj;have xp:decide ((174:Int)<=op)=false:=aj;clear h;go_enter func121,ntmps121;go_wp2;go_ret;exact ⟨rfl,rfl⟩
theorem aap (op:Int) (w:AG) (h:42<=op/\op<=42):Calls prog 121 #[.int .i64 op] w λe w'=>e=.returned (.bool true)/\w'=w:=by
 obtain rfl:op=42:=by omega
 clear h;go_enter func121,ntmps121;go_wp2;go_ret;exact ⟨rfl,rfl⟩
theorem aaq (op:Int) (w:AG) (h:43<=op/\op<=43):Calls prog 121 #[.int .i64 op] w λe w'=>e=.returned (.bool true)/\w'=w:=by
 obtain rfl:op=43:=by omega
 clear h;go_enter func121,ntmps121;go_wp2;go_ret;exact ⟨rfl,rfl⟩
theorem aar (op:Int) (w:AG) (h:44<=op/\op<=55):Calls prog 121 #[.int .i64 op] w λe w'=>e=.returned (.bool false)/\w'=w:=by
 obtain ⟨kv,kx,ky,kz,kC,kD,_⟩:=AN op [42,43,56,57,67,68] (by simp;omega);have a91:decide ((91:Int)<=op)=false:=aj;have a139:decide ((139:Int)<=op)=false:=aj;have a168:decide ((168:Int)<=op)=false:=aj;have xp:decide ((174:Int)<=op)=false:=aj;clear h;go_enter func121,ntmps121;go_wp2;go_ret;exact ⟨rfl,rfl⟩
theorem aas (op:Int) (w:AG) (h:56<=op/\op<=56):Calls prog 121 #[.int .i64 op] w λe w'=>e=.returned (.bool true)/\w'=w:=by
 obtain rfl:op=56:=by omega
 clear h;go_enter func121,ntmps121;go_wp2;go_ret;exact ⟨rfl,rfl⟩
theorem aat (op:Int) (w:AG) (h:57<=op/\op<=57):Calls prog 121 #[.int .i64 op] w λe w'=>e=.returned (.bool true)/\w'=w:=by
 obtain rfl:op=57:=by omega
 clear h;go_enter func121,ntmps121;go_wp2;go_ret;exact ⟨rfl,rfl⟩
theorem aau (op:Int) (w:AG) (h:58<=op/\op<=66):Calls prog 121 #[.int .i64 op] w λe w'=>e=.returned (.bool false)/\w'=w:=by
 obtain ⟨kv,kx,ky,kz,kC,kD,_⟩:=AN op [42,43,56,57,67,68] (by simp;omega);have a91:decide ((91:Int)<=op)=false:=aj;have a139:decide ((139:Int)<=op)=false:=aj;have a168:decide ((168:Int)<=op)=false:=aj;have xp:decide ((174:Int)<=op)=false:=aj;clear h;go_enter func121,ntmps121;go_wp2;go_ret;exact ⟨rfl,rfl⟩
theorem aav (op:Int) (w:AG) (h:67<=op/\op<=67):Calls prog 121 #[.int .i64 op] w λe w'=>e=.returned (.bool true)/\w'=w:=by
 obtain rfl:op=67:=by omega
 clear h;go_enter func121,ntmps121;go_wp2;go_ret;exact ⟨rfl,rfl⟩
theorem aaw (op:Int) (w:AG) (h:68<=op/\op<=68):Calls prog 121 #[.int .i64 op] w λe w'=>e=.returned (.bool true)/\w'=w:=by
 obtain rfl:op=68:=by omega
 clear h;go_enter func121,ntmps121;go_wp2;go_ret;exact ⟨rfl,rfl⟩
theorem aax (op:Int) (w:AG) (h:69<=op/\op<=90):Calls prog 121 #[.int .i64 op] w λe w'=>e=.returned (.bool false)/\w'=w:=by
 obtain ⟨kv,kx,ky,kz,kC,kD,_⟩:=AN op [42,43,56,57,67,68] (by simp;omega);have a91:decide ((91:Int)<=op)=false:=aj;have a139:decide ((139:Int)<=op)=false:=aj;have a168:decide ((168:Int)<=op)=false:=aj;have xp:decide ((174:Int)<=op)=false:=aj;clear h;go_enter func121,ntmps121;go_wp2;go_ret;exact ⟨rfl,rfl⟩
theorem aay (op:Int) (w:AG) (h:91<=op/\op<=102):Calls prog 121 #[.int .i64 op] w λe w'=>e=.returned (.bool true)/\w'=w:=by
 obtain ⟨kv,kx,ky,kz,kC,kD,_⟩:=AN op [42,43,56,57,67,68] (by simp;omega);have a91:decide ((91:Int)<=op)=true:=ay;have Cm:decide (op<=(102:Int))=true:=ay;have a139:decide ((139:Int)<=op)=false:=aj;have a168:decide ((168:Int)<=op)=false:=aj;have xp:decide ((174:Int)<=op)=false:=aj;clear h;go_enter func121,ntmps121;go_wp2;go_ret;exact ⟨rfl,rfl⟩
theorem aaz (op:Int) (w:AG) (h:103<=op/\op<=138):Calls prog 121 #[.int .i64 op] w λe w'=>e=.returned (.bool false)/\w'=w:=by
 obtain ⟨kv,kx,ky,kz,kC,kD,_⟩:=AN op [42,43,56,57,67,68] (by simp;omega);have a91:decide ((91:Int)<=op)=true:=ay;have Cm:decide (op<=(102:Int))=false:=aj;have a139:decide ((139:Int)<=op)=false:=aj;have a168:decide ((168:Int)<=op)=false:=aj;have xp:decide ((174:Int)<=op)=false:=aj;clear h;go_enter func121,ntmps121;go_wp2;go_ret;exact ⟨rfl,rfl⟩
theorem aaA (op:Int) (w:AG) (h:139<=op/\op<=166):Calls prog 121 #[.int .i64 op] w λe w'=>e=.returned (.bool true)/\w'=w:=by
 obtain ⟨kv,kx,ky,kz,kC,kD,_⟩:=AN op [42,43,56,57,67,68] (by simp;omega);have a91:decide ((91:Int)<=op)=true:=ay;have Cm:decide (op<=(102:Int))=false:=aj;have a139:decide ((139:Int)<=op)=true:=ay;have GZ:decide (op<=(166:Int))=true:=ay;have a168:decide ((168:Int)<=op)=false:=aj;have xp:decide ((174:Int)<=op)=false:=aj;clear h;go_enter func121,ntmps121;go_wp2;go_ret;exact ⟨rfl,rfl⟩
theorem aaB (op:Int) (w:AG) (h:167<=op/\op<=167):Calls prog 121 #[.int .i64 op] w λe w'=>e=.returned (.bool false)/\w'=w:=by
 obtain rfl:op=167:=by omega
 clear h;go_enter func121,ntmps121;go_wp2;go_ret;exact ⟨rfl,rfl⟩
theorem aaC (op:Int) (w:AG) (h:168<=op/\op<=171):Calls prog 121 #[.int .i64 op] w λe w'=>e=.returned (.bool true)/\w'=w:=by
 obtain ⟨kv,kx,ky,kz,kC,kD,_⟩:=AN op [42,43,56,57,67,68] (by simp;omega);have a91:decide ((91:Int)<=op)=true:=ay;have Cm:decide (op<=(102:Int))=false:=aj;have a139:decide ((139:Int)<=op)=true:=ay;have GZ:decide (op<=(166:Int))=false:=aj;have a168:decide ((168:Int)<=op)=true:=ay;have Kq:decide (op<=(171:Int))=true:=ay;have xp:decide ((174:Int)<=op)=false:=aj;clear h;go_enter func121,ntmps121;go_wp2;go_ret;exact ⟨rfl,rfl⟩
theorem aaD (op:Int) (w:AG) (h:172<=op/\op<=173):Calls prog 121 #[.int .i64 op] w λe w'=>e=.returned (.bool false)/\w'=w:=by
 obtain ⟨kv,kx,ky,kz,kC,kD,_⟩:=AN op [42,43,56,57,67,68] (by simp;omega);have a91:decide ((91:Int)<=op)=true:=ay;have Cm:decide (op<=(102:Int))=false:=aj;have a139:decide ((139:Int)<=op)=true:=ay;have GZ:decide (op<=(166:Int))=false:=aj;have a168:decide ((168:Int)<=op)=true:=ay;have Kq:decide (op<=(171:Int))=false:=aj;have xp:decide ((174:Int)<=op)=false:=aj;clear h;go_enter func121,ntmps121;go_wp2;go_ret;exact ⟨rfl,rfl⟩
theorem aaE (op:Int) (w:AG) (h:174<=op/\op<=191):Calls prog 121 #[.int .i64 op] w λe w'=>e=.returned (.bool true)/\w'=w:=by
 obtain ⟨kv,kx,ky,kz,kC,kD,_⟩:=AN op [42,43,56,57,67,68] (by simp;omega);have a91:decide ((91:Int)<=op)=true:=ay;have Cm:decide (op<=(102:Int))=false:=aj;have a139:decide ((139:Int)<=op)=true:=ay;have GZ:decide (op<=(166:Int))=false:=aj;have a168:decide ((168:Int)<=op)=true:=ay;have Kq:decide (op<=(171:Int))=false:=aj;have xp:decide ((174:Int)<=op)=true:=ay;have aaF:decide (op<=(191:Int))=true:=ay;clear h;go_enter func121,ntmps121;go_wp2;go_ret;exact ⟨rfl,rfl⟩
theorem aaG (op:Int) (w:AG) (h:192<=op):Calls prog 121 #[.int .i64 op] w λe w'=>e=.returned (.bool false)/\w'=w:=by
 obtain ⟨kv,kx,ky,kz,kC,kD,_⟩:=AN op [42,43,56,57,67,68] (by simp;omega);have a91:decide ((91:Int)<=op)=true:=ay;have Cm:decide (op<=(102:Int))=false:=aj;have a139:decide ((139:Int)<=op)=true:=ay;have GZ:decide (op<=(166:Int))=false:=aj;have a168:decide ((168:Int)<=op)=true:=ay;have Kq:decide (op<=(171:Int))=false:=aj;have xp:decide ((174:Int)<=op)=true:=ay;have aaF:decide (op<=(191:Int))=false:=aj;clear h;go_enter func121,ntmps121;go_wp2;go_ret;exact ⟨rfl,rfl⟩
theorem qq (op:Int) (w:AG):Calls prog 121 #[.int .i64 op] w λe w'=>e=.returned (.bool (cB op))/\w'=w:=by
 by_cases c0:op<=41
 ·rw [show cB op=false from aj (by omega)];exact aao op w (by omega)
 by_cases c1:op<=42
 ·rw [show cB op=true from ay (by omega)];exact aap op w (by omega)
 by_cases c2:op<=43
 ·rw [show cB op=true from ay (by omega)];exact aaq op w (by omega)
 by_cases c3:op<=55
 ·rw [show cB op=false from aj (by omega)];exact aar op w (by omega)
 by_cases c4:op<=56
 ·rw [show cB op=true from ay (by omega)];exact aas op w (by omega)
 by_cases c5:op<=57
 ·rw [show cB op=true from ay (by omega)];exact aat op w (by omega)
 by_cases c6:op<=66
 ·rw [show cB op=false from aj (by omega)];exact aau op w (by omega)
 by_cases c7:op<=67
 ·rw [show cB op=true from ay (by omega)];exact aav op w (by omega)
 by_cases c8:op<=68
 ·rw [show cB op=true from ay (by omega)];exact aaw op w (by omega)
 by_cases c9:op<=90
 ·rw [show cB op=false from aj (by omega)];exact aax op w (by omega)
 by_cases c10:op<=102
 ·rw [show cB op=true from ay (by omega)];exact aay op w (by omega)
 by_cases c11:op<=138
 ·rw [show cB op=false from aj (by omega)];exact aaz op w (by omega)
 by_cases c12:op<=166
 ·rw [show cB op=true from ay (by omega)];exact aaA op w (by omega)
 by_cases c13:op<=167
 ·rw [show cB op=false from aj (by omega)];exact aaB op w (by omega)
 by_cases c14:op<=171
 ·rw [show cB op=true from ay (by omega)];exact aaC op w (by omega)
 by_cases c15:op<=173
 ·rw [show cB op=false from aj (by omega)];exact aaD op w (by omega)
 by_cases c16:op<=191
 ·rw [show cB op=true from ay (by omega)];exact aaE op w (by omega)
 rw [show cB op=false from aj (by omega)];exact aaG op w (by omega)
theorem UN {I:AG->Prop} (C:fw I) (op:Int) (w:AG) (h:op<=-1) (hI:I w):Calls prog 111 #[.int .i64 op] w λe w'=>e=.returned (.int .i64 0)/\AS w w':=by
 have hp:dz op=false:=aj;have hfl:cB op=false:=aj;have HI:=ah hI;clear hI;obtain ⟨q0,q1,iK,iL,iM,iN,iO,q2,q3,q4,iP,iQ,iR,q16,iS,iT,iU,iV,iW,_⟩:=AN op [0,1,15,26,27,63,64,2,3,4,12,13,14,16,17,40,41,65,66] (by simp;omega);have a32:decide ((32:Int)<=op)=false:=aj;have qN:decide ((44:Int)<=op)=false:=aj;have a58:decide ((58:Int)<=op)=false:=aj;clear h;go_enter func111,ntmps111;go_wp2_with fail;refine (C.reckons _ _ HI.out).mono ?_;rintro e u ⟨rfl,hb⟩;have HB:=ah hb;clear hb;rw [hp];go_wp2_with fail;refine (qq _ _).mono ?_;rintro e u ⟨rfl,rfl⟩;rw [hfl];go_wp2;go_ret;exact ⟨rfl,HB.out⟩
theorem UO {I:AG->Prop} (C:fw I) (op:Int) (w:AG) (h:0<=op/\op<=0) (hI:I w):Calls prog 111 #[.int .i64 op] w λe w'=>e=.returned (.int .i64 1)/\AS w w':=by
 have hp:dz op=false:=aj;have hfl:cB op=false:=aj;have HI:=ah hI;clear hI;obtain rfl:op=0:=by omega
 clear h;go_enter func111,ntmps111;go_wp2;go_ret;exact ⟨rfl,AC _ _⟩
theorem UQ {I:AG->Prop} (C:fw I) (op:Int) (w:AG) (h:1<=op/\op<=1) (hI:I w):Calls prog 111 #[.int .i64 op] w λe w'=>e=.returned (.int .i64 1)/\AS w w':=by
 have hp:dz op=false:=aj;have hfl:cB op=false:=aj;have HI:=ah hI;clear hI;obtain rfl:op=1:=by omega
 clear h;go_enter func111,ntmps111;go_wp2;go_ret;exact ⟨rfl,AC _ _⟩
theorem UR {I:AG->Prop} (C:fw I) (op:Int) (w:AG) (h:2<=op/\op<=2) (hI:I w):Calls prog 111 #[.int .i64 op] w λe w'=>e=.returned (.int .i64 2)/\AS w w':=by
 have hp:dz op=false:=aj;have hfl:cB op=false:=aj;have HI:=ah hI;clear hI;obtain rfl:op=2:=by omega
 clear h;go_enter func111,ntmps111;go_wp2_with fail;refine (C.reckons _ _ HI.out).mono ?_;rintro e u ⟨rfl,hb⟩;have HB:=ah hb;clear hb;rw [hp];go_wp2;go_ret;exact ⟨rfl,HB.out⟩
theorem UT {I:AG->Prop} (C:fw I) (op:Int) (w:AG) (h:3<=op/\op<=3) (hI:I w):Calls prog 111 #[.int .i64 op] w λe w'=>e=.returned (.int .i64 2)/\AS w w':=by
 have hp:dz op=false:=aj;have hfl:cB op=false:=aj;have HI:=ah hI;clear hI;obtain rfl:op=3:=by omega
 clear h;go_enter func111,ntmps111;go_wp2_with fail;refine (C.reckons _ _ HI.out).mono ?_;rintro e u ⟨rfl,hb⟩;have HB:=ah hb;clear hb;rw [hp];go_wp2;go_ret;exact ⟨rfl,HB.out⟩
theorem UU {I:AG->Prop} (C:fw I) (op:Int) (w:AG) (h:4<=op/\op<=4) (hI:I w):Calls prog 111 #[.int .i64 op] w λe w'=>e=.returned (.int .i64 3)/\AS w w':=by
 have hp:dz op=false:=aj;have hfl:cB op=false:=aj;have HI:=ah hI;clear hI;obtain rfl:op=4:=by omega
 clear h;go_enter func111,ntmps111;go_wp2_with fail;refine (C.reckons _ _ HI.out).mono ?_;rintro e u ⟨rfl,hb⟩;have HB:=ah hb;clear hb;rw [hp];go_wp2;go_ret;exact ⟨rfl,HB.out⟩
theorem UW {I:AG->Prop} (C:fw I) (op:Int) (w:AG) (h:5<=op/\op<=11) (hI:I w):Calls prog 111 #[.int .i64 op] w λe w'=>e=.returned (.int .i64 0)/\AS w w':=by
 have hp:dz op=false:=aj;have hfl:cB op=false:=aj;have HI:=ah hI;clear hI;obtain ⟨q0,q1,iK,iL,iM,iN,iO,q2,q3,q4,iP,iQ,iR,q16,iS,iT,iU,iV,iW,_⟩:=AN op [0,1,15,26,27,63,64,2,3,4,12,13,14,16,17,40,41,65,66] (by simp;omega);have a32:decide ((32:Int)<=op)=false:=aj;have qN:decide ((44:Int)<=op)=false:=aj;have a58:decide ((58:Int)<=op)=false:=aj;clear h;go_enter func111,ntmps111;go_wp2_with fail;refine (C.reckons _ _ HI.out).mono ?_;rintro e u ⟨rfl,hb⟩;have HB:=ah hb;clear hb;rw [hp];go_wp2_with fail;refine (qq _ _).mono ?_;rintro e u ⟨rfl,rfl⟩;rw [hfl];go_wp2;go_ret;exact ⟨rfl,HB.out⟩
theorem UX {I:AG->Prop} (C:fw I) (op:Int) (w:AG) (h:12<=op/\op<=12) (hI:I w):Calls prog 111 #[.int .i64 op] w λe w'=>e=.returned (.int .i64 4)/\AS w w':=by
 have hp:dz op=false:=aj;have hfl:cB op=false:=aj;have HI:=ah hI;clear hI;obtain rfl:op=12:=by omega
 clear h;go_enter func111,ntmps111;go_wp2_with fail;refine (C.reckons _ _ HI.out).mono ?_;rintro e u ⟨rfl,hb⟩;have HB:=ah hb;clear hb;rw [hp];go_wp2;go_ret;exact ⟨rfl,HB.out⟩
theorem UY {I:AG->Prop} (C:fw I) (op:Int) (w:AG) (h:13<=op/\op<=13) (hI:I w):Calls prog 111 #[.int .i64 op] w λe w'=>e=.returned (.int .i64 4)/\AS w w':=by
 have hp:dz op=false:=aj;have hfl:cB op=false:=aj;have HI:=ah hI;clear hI;obtain rfl:op=13:=by omega
 clear h;go_enter func111,ntmps111;go_wp2_with fail;refine (C.reckons _ _ HI.out).mono ?_;rintro e u ⟨rfl,hb⟩;have HB:=ah hb;clear hb;rw [hp];go_wp2;go_ret;exact ⟨rfl,HB.out⟩
theorem UZ {I:AG->Prop} (C:fw I) (op:Int) (w:AG) (h:14<=op/\op<=14) (hI:I w):Calls prog 111 #[.int .i64 op] w λe w'=>e=.returned (.int .i64 5)/\AS w w':=by
 have hp:dz op=false:=aj;have hfl:cB op=false:=aj;have HI:=ah hI;clear hI;obtain rfl:op=14:=by omega
 clear h;go_enter func111,ntmps111;go_wp2_with fail;refine (C.reckons _ _ HI.out).mono ?_;rintro e u ⟨rfl,hb⟩;have HB:=ah hb;clear hb;rw [hp];go_wp2;go_ret;exact ⟨rfl,HB.out⟩
theorem U0 {I:AG->Prop} (C:fw I) (op:Int) (w:AG) (h:15<=op/\op<=15) (hI:I w):Calls prog 111 #[.int .i64 op] w λe w'=>e=.returned (.int .i64 1)/\AS w w':=by
 have hp:dz op=false:=aj;have hfl:cB op=false:=aj;have HI:=ah hI;clear hI;obtain rfl:op=15:=by omega
 clear h;go_enter func111,ntmps111;go_wp2;go_ret;exact ⟨rfl,AC _ _⟩
theorem U1 {I:AG->Prop} (C:fw I) (op:Int) (w:AG) (h:16<=op/\op<=16) (hI:I w):Calls prog 111 #[.int .i64 op] w λe w'=>e=.returned (.int .i64 6)/\AS w w':=by
 have hp:dz op=false:=aj;have hfl:cB op=false:=aj;have HI:=ah hI;clear hI;obtain rfl:op=16:=by omega
 clear h;go_enter func111,ntmps111;go_wp2_with fail;refine (C.reckons _ _ HI.out).mono ?_;rintro e u ⟨rfl,hb⟩;have HB:=ah hb;clear hb;rw [hp];go_wp2;go_ret;exact ⟨rfl,HB.out⟩
theorem U2 {I:AG->Prop} (C:fw I) (op:Int) (w:AG) (h:17<=op/\op<=17) (hI:I w):Calls prog 111 #[.int .i64 op] w λe w'=>e=.returned (.int .i64 7)/\AS w w':=by
 have hp:dz op=false:=aj;have hfl:cB op=false:=aj;have HI:=ah hI;clear hI;obtain rfl:op=17:=by omega
 clear h;go_enter func111,ntmps111;go_wp2_with fail;refine (C.reckons _ _ HI.out).mono ?_;rintro e u ⟨rfl,hb⟩;have HB:=ah hb;clear hb;rw [hp];go_wp2;go_ret;exact ⟨rfl,HB.out⟩
theorem U3 {I:AG->Prop} (C:fw I) (op:Int) (w:AG) (h:18<=op/\op<=25) (hI:I w):Calls prog 111 #[.int .i64 op] w λe w'=>e=.returned (.int .i64 0)/\AS w w':=by
 have hp:dz op=false:=aj;have hfl:cB op=false:=aj;have HI:=ah hI;clear hI;obtain ⟨q0,q1,iK,iL,iM,iN,iO,q2,q3,q4,iP,iQ,iR,q16,iS,iT,iU,iV,iW,_⟩:=AN op [0,1,15,26,27,63,64,2,3,4,12,13,14,16,17,40,41,65,66] (by simp;omega);have a32:decide ((32:Int)<=op)=false:=aj;have qN:decide ((44:Int)<=op)=false:=aj;have a58:decide ((58:Int)<=op)=false:=aj;clear h;go_enter func111,ntmps111;go_wp2_with fail;refine (C.reckons _ _ HI.out).mono ?_;rintro e u ⟨rfl,hb⟩;have HB:=ah hb;clear hb;rw [hp];go_wp2_with fail;refine (qq _ _).mono ?_;rintro e u ⟨rfl,rfl⟩;rw [hfl];go_wp2;go_ret;exact ⟨rfl,HB.out⟩
end Go.Proofs.YtcfifbgemfladaaGreatDoor
