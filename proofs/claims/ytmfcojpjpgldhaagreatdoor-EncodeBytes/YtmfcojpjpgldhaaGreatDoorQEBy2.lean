/- Texts that the claim needs. -/
import Derived.Test.YtmfcojpjpgldhaaGreatDoorQEBy1
import Derived.Deep.RegionWith
import Derived.Deep.Cut
import Derived.Test.YtmfcojpjpgldhaaGreatDoorQEBy0
namespace Go.Proofs.YtmfcojpjpgldhaaGreatDoor
open Go.RowKit aA
set_option linter.unusedVariables false
namespace aA
def bG (w:World) (b:Nat) (c0 c1 c2 c3 c4 c5 c6 c7 c8 c9:Value):Prop:=w.heap[b]?=some (.cells #[c0,c1,c2,c3,c4,c5,c6,c7,c8,c9] 32 (0,0))
section dY
variable {w w':World} {b:Nat} {c0 c1 c2 c3 c4 c5 c6 c7 c8 c9:Value}
theorem bG.cell (h:bG w b c0 c1 c2 c3 c4 c5 c6 c7 c8 c9) (i:Nat) (v:Value) (hv:#[c0,c1,c2,c3,c4,c5,c6,c7,c8,c9][i]?=some v):w.cell? ⟨b,i,none⟩=some v:=by
 unfold World.cell?;rw [h];exact hv
theorem bG.mE (h:bG w b c0 c1 c2 c3 c4 c5 c6 c7 c8 c9):w.cell? ⟨b,0,none⟩=some c0/\w.cell? ⟨b,1,none⟩=some c1/\w.cell? ⟨b,2,none⟩=some c2/\w.cell? ⟨b,3,none⟩=some c3/\w.cell? ⟨b,4,none⟩=some c4/\w.cell? ⟨b,5,none⟩=some c5/\w.cell? ⟨b,6,none⟩=some c6/\w.cell? ⟨b,7,none⟩=some c7/\w.cell? ⟨b,8,none⟩=some c8/\w.cell? ⟨b,9,none⟩=some c9:=⟨h.cell 0 _ rfl,h.cell 1 _ rfl,h.cell 2 _ rfl,h.cell 3 _ rfl,h.cell 4 _ rfl,h.cell 5 _ rfl,h.cell 6 _ rfl,h.cell 7 _ rfl,h.cell 8 _ rfl,h.cell 9 _ rfl⟩
theorem bG.fM (h:bG w b c0 c1 c2 c3 c4 c5 c6 c7 c8 c9) (i:Nat):w.frozen? ⟨b,i,none⟩=false:=by
 unfold World.frozen?;rw [h];simp
theorem bG.keep (h:bG w b c0 c1 c2 c3 c4 c5 c6 c7 c8 c9) (hk:w'.heap[b]?=w.heap[b]?):bG w' b c0 c1 c2 c3 c4 c5 c6 c7 c8 c9:=by unfold bG at *;rw [hk];exact h
theorem bG.lt (h:bG w b c0 c1 c2 c3 c4 c5 c6 c7 c8 c9):b<w.heap.size:=(kD.1 h).1
theorem bG.on (h:bG w b c0 c1 c2 c3 c4 c5 c6 c7 c8 c9) (hb:Below w.heap.size w w'):bG w' b c0 c1 c2 c3 c4 c5 c6 c7 c8 c9:=h.keep (hb.block b h.lt)
theorem bG.new (hp:b=w.heap.size):bG (w.alloc (.cells #[c0,c1,c2,c3,c4,c5,c6,c7,c8,c9] 32)) b c0 c1 c2 c3 c4 c5 c6 c7 c8 c9:=by
 subst hp;exact heap_alloc_new w _
theorem bG.set0 (h:bG w b c0 c1 c2 c3 c4 c5 c6 c7 c8 c9) (v:Value):bG (w.setCell ⟨b,0,none⟩ v) b v c1 c2 c3 c4 c5 c6 c7 c8 c9:=heap_setCell_same w b 0 _ _ v h
theorem bG.set2 (h:bG w b c0 c1 c2 c3 c4 c5 c6 c7 c8 c9) (v:Value):bG (w.setCell ⟨b,2,none⟩ v) b c0 c1 v c3 c4 c5 c6 c7 c8 c9:=heap_setCell_same w b 2 _ _ v h
theorem bG.Gi (h:bG w b c0 c1 c2 c3 c4 c5 c6 c7 c8 c9) (v:Value):bG (w.setCell ⟨b,5,none⟩ v) b c0 c1 c2 c3 c4 v c6 c7 c8 c9:=heap_setCell_same w b 5 _ _ v h
theorem bG.SS (h:bG w b c0 c1 c2 c3 c4 c5 c6 c7 c8 c9) (v:Value):bG (w.setCell ⟨b,8,none⟩ v) b c0 c1 c2 c3 c4 c5 c6 c7 v c9:=heap_setCell_same w b 8 _ _ v h
theorem bG.SU (h:bG w b c0 c1 c2 c3 c4 c5 c6 c7 c8 c9) (v:Value):bG (w.setCell ⟨b,9,none⟩ v) b c0 c1 c2 c3 c4 c5 c6 c7 c8 v:=heap_setCell_same w b 9 _ _ v h
end dY
end aA
end Go.Proofs.YtmfcojpjpgldhaaGreatDoor
namespace Go.Proofs.YtmfcojpjpgldhaaGreatDoor
open Go.RowKit aA Go.Proofs.Tryz
set_option linter.unusedVariables false
set_option maxHeartbeats 2000000
theorem cE {p:Prop} (h:p):Hid p:=h
namespace aA
def Bv:(d:Nat)->IL d
 | 0=>()
 | d+1=>([]:List (Ins (IL d)))
theorem OD (w:World) (o:Option Addr) (cap:Nat):∀d,At w d (.slice o 0 cap) (Bv d)
 | 0=>⟨o,cap,rfl⟩
 | _+1=>⟨by simp [Bv],.inl ⟨rfl,o,cap,rfl⟩⟩
def Ag {α:Type} (p:α->Prop) (l:List (Ins α)):Prop:=l.length<=1500/\∀x ∈ l,x.labels.length<=15010/\p x.body/\p x.els
def Lb:(d:Nat)->IL d->Prop
 | 0,_=>True
 | d+1,l=>Ag (Lb d) l
theorem OE:∀d,Lb d (Bv d)
 | 0=>trivial
 | _+1=>⟨by simp [Bv],λx hx=>by cases hx⟩
def Fit (w:World) (k bk o:Nat):Prop:=∃z:Ins (IL k),fA w (At w k) bk o z/\z.labels.length<=15010/\Lb k z.body/\Lb k z.els
def sZ (w:World) (k:Nat) (v:Value):Prop:=∃l:IL k,At w k v l/\Lb k l
theorem Bw (w:World) (k:Nat) (o:Option Addr) (cap:Nat):sZ w k (.slice o 0 cap):=⟨Bv k,OD w o cap k,OE k⟩
theorem IQ (w:World) (k b off n cap:Nat) (hn:n<=1500) (h:∀t,t<n->Fit w k b (off+t*7)):sZ w (k+1) (.slice (some ⟨b,off,none⟩) n cap):=by
 obtain ⟨l,hl,hf⟩:=Fg n (λt (z:Ins (IL k))=>fA w (At w k) b (off+t*7) z/\z.labels.length<=15010/\Lb k z.body/\Lb k z.els) h
 have hL:Ag (Lb k) l:=⟨by omega,λx hx=>by
  obtain ⟨i,hi,rfl⟩:=List.getElem_of_mem hx;exact (hf i _ (aY hi)).2⟩
 exact ⟨l,⟨by omega,.inr ⟨b,off,cap,by rw [hl],λi x hi=>(hf i x hi).1⟩⟩,hL⟩
theorem Fh {w:World} {k b o:Nat} {op a bb n:Int} {v4 v5 v6:Value} {ls:List Int} (c0:w.cell? ⟨b,o,none⟩=some (.int .i64 op)) (c1:w.cell? ⟨b,o+1,none⟩=some (.int .i64 a)) (c2:w.cell? ⟨b,o+2,none⟩=some (.int .i64 bb)) (c3:w.cell? ⟨b,o+3,none⟩=some (.int .i64 n))
  (c4:w.cell? ⟨b,o+4,none⟩=some v4) (i4:Ints w v4 ls) (hl:ls.length<=15010) (c5:w.cell? ⟨b,o+5,none⟩=some v5) (c6:w.cell? ⟨b,o+6,none⟩=some v6) (h5:sZ w k v5) (h6:sZ w k v6):Fit w k b o:=by
 obtain ⟨l5,a5,b5⟩:=h5;obtain ⟨l6,a6,b6⟩:=h6;exact ⟨⟨op,a,bb,n,ls,l5,l6⟩,⟨c0,c1,c2,c3,⟨v4,c4,i4⟩,⟨v5,c5,a5⟩,⟨v6,c6,a6⟩⟩,hl,b5,b6⟩
theorem At.wh {w:World}:∀(d:Nat) (v:Value) (l:IL d),At w d v l->∃o n cap,v=.slice o n cap/\n=size d l:=λd v l h=>by
 obtain ⟨o,cap,rfl⟩:=At.len d v l h;exact ⟨o,_,cap,rfl,rfl⟩
def kx {α:Type} (sz:α->Nat) (f:α->Int->Int) (x:Ins α) (c:Int):Int :=
 if 1500<c+(1+(x.labels.length:Int) / 10) then -1
 else
  let r1:=if sz x.body=0 then c+(1+(x.labels.length:Int) / 10) else f x.body (c+(1+(x.labels.length:Int) / 10))
  if r1<0 then r1 else if sz x.els=0 then r1 else f x.els r1
def ic {α:Type} (sz:α->Nat) (f:α->Int->Int):List (Ins α)->Int->Int
 | [],c=>c
 | x :: r,c=>if c<0 then c else ic sz f r (kx sz f x c)
def gB:(d:Nat)->IL d->Nat->Int->Int
 | 0,_,deep,n=>if n<0\/80<deep then -1 else n
 | d+1,l,deep,n=>if n<0\/80<deep then -1 else ic (size d) (λy c=>gB d y (deep+1) c) l n
theorem zg {α:Type} {sz:α->Nat} {f:α->Int->Int} (l:List (Ins α)) {c:Int} (h:c<0):ic sz f l c=c:=by
 cases l with
 | nil=>rfl
 | cons x r=>show (if c<0 then c else _)=c;rw [if_pos h]
def Good {α:Type} (f:α->Int->Int):Prop:=∀y c,-1<=c->-1<=f y c/\(f y c<=c\/f y c<=1500)/\(0<=f y c->c<=f y c)
theorem Fj {α:Type} {sz:α->Nat} {f:α->Int->Int} (hf:Good f) (x:Ins α) (c:Int) (h:0<=c):-1<=kx sz f x c/\kx sz f x c<=1500/\(0<=kx sz f x c->c+1<=kx sz f x c):=by
 unfold kx;obtain ⟨c2,hc2⟩:∃c2,c2=c+(1+(x.labels.length:Int) / 10):=⟨_,rfl⟩;rw [<- hc2];have h2:c+1<=c2:=by omega
 by_cases h3:1500<c2
 ·simp [h3]
 simp only [h3,if_false];obtain ⟨r1,hr1⟩:∃r1,r1=if sz x.body=0 then c2 else f x.body c2:=⟨_,rfl⟩;rw [<- hr1]
 have g1:-1<=r1/\r1<=1500/\(0<=r1->c2<=r1):=by
  rw [hr1];split
  ·omega
  have:=hf x.body c2 (by omega);omega
 clear hr1;by_cases h4:r1<0
 ·simp only [h4,if_true];omega
 simp only [h4,if_false];split
 ·omega
 have:=hf x.els r1 (by omega);omega
theorem IU {α:Type} {sz:α->Nat} {f:α->Int->Int} (hf:Good f):∀(l:List (Ins α)) (c:Int),-1<=c->-1<=ic sz f l c/\(ic sz f l c<=c\/ic sz f l c<=1500)/\(0<=ic sz f l c->c<=ic sz f l c)
 | [],c,h=>by show -1<=c/\(c<=c\/c<=1500)/\(0<=c->c<=c);omega
 | x :: r,c,h=>by
  by_cases hc:c<0
  ·rw [zg _ hc];omega
  show -1<=(if c<0 then c else ic sz f r (kx sz f x c))/\((if c<0 then c else ic sz f r (kx sz f x c))<=c\/(if c<0 then c else ic sz f r (kx sz f x c))<=1500)/\(0<=(if c<0 then c else ic sz f r (kx sz f x c))->c<=(if c<0 then c else ic sz f r (kx sz f x c)));rw [if_neg hc];have h1:=Fj (sz:=sz) hf x c (by omega);have h2:=IU (sz:=sz) hf r (kx sz f x c) h1.1;generalize kx sz f x c=s at *;by_cases hs:s<0
  ·rw [zg _ hs] at *;omega
  omega
theorem zh:∀(d deep:Nat),Good (λ(y:IL d) c=>gB d y deep c)
 | 0,deep=>λy c h=>by
  show -1<=(if c<0\/80<deep then -1 else c)/\((if c<0\/80<deep then -1 else c)<=c\/(if c<0\/80<deep then -1 else c)<=1500)/\(0<=(if c<0\/80<deep then -1 else c)->c<=(if c<0\/80<deep then -1 else c));split<;>omega
 | d+1,deep=>λy c h=>by
  have h2:=IU (sz:=size d) (zh d (deep+1)) y c h;show -1<=(if c<0\/80<deep then -1 else ic (size d) (λy c=>gB d y (deep+1) c) y c)/\((if c<0\/80<deep then -1 else ic (size d) (λy c=>gB d y (deep+1) c) y c)<=c\/(if c<0\/80<deep then -1 else ic (size d) (λy c=>gB d y (deep+1) c) y c)<=1500)/\(0<=(if c<0\/80<deep then -1 else ic (size d) (λy c=>gB d y (deep+1) c) y c)->c<=(if c<0\/80<deep then -1 else ic (size d) (λy c=>gB d y (deep+1) c) y c));split
  ·omega
  exact h2
theorem IV {α:Type} {sz:α->Nat} {f:α->Int->Int} (hf:Good f):∀(l:List (Ins α)) (c:Int),-1<=c->0<=ic sz f l c ->
  (l = []\/(l.length:Int)+c<=1500)/\∀x ∈ l,x.labels.length<=15010/\(sz x.body=0\/∃c',0<=c'/\0<=f x.body c')/\(sz x.els=0\/∃c',0<=c'/\0<=f x.els c')
 | [],c,_,_=>⟨.inl rfl,λx hx=>by cases hx⟩
 | x :: r,c,h0,h=>by
  by_cases hc:c<0
  ·rw [zg _ hc] at h;omega
  have e:ic sz f (x :: r) c=ic sz f r (kx sz f x c):=by show (if c<0 then c else _)=_;rw [if_neg hc]
  rw [e] at h;have h1:=Fj (sz:=sz) hf x c (by omega)
  have hs:0<=kx sz f x c:=by
   by_cases hs:kx sz f x c<0
   ·rw [zg _ hs] at h;exact h
   omega
  have h2:=IV hf r (kx sz f x c) h1.1 h;refine ⟨.inr ?_,λy hy=>?_⟩
  ·rcases h2.1 with rfl|h3
   ·simp only [bI,bP];omega
   simp only [bI];omega
  rcases pR.1 hy with rfl|hy
  ·unfold kx at hs;obtain ⟨c2,hc2⟩:∃c2,c2=c+(1+(y.labels.length:Int) / 10):=⟨_,rfl⟩;rw [<- hc2] at hs;by_cases h3:1500<c2
   ·simp [h3] at hs
   simp only [h3,if_false] at hs;refine ⟨by omega,?_,?_⟩
   ·by_cases hb:sz y.body=0
    ·exact .inl hb
    refine .inr ⟨c2,by omega,?_⟩;simp only [hb,if_false] at hs;by_cases h4:f y.body c2<0
    ·simp only [h4,if_true] at hs;exact hs
    omega
   by_cases hb:sz y.els=0
   ·exact .inl hb
   obtain ⟨r1,hr1⟩:∃r1,r1=if sz y.body=0 then c2 else f y.body c2:=⟨_,rfl⟩;rw [<- hr1] at hs;by_cases h4:r1<0
   ·simp only [h4,if_true] at hs;omega
   simp only [h4,hb,if_false] at hs;exact .inr ⟨r1,by omega,hs⟩
  exact h2.2 y hy
theorem Bz {w:World}:∀(d:Nat) (v:Value) (l:IL d) (deep:Nat) (n:Int),At w d v l->-1<=n->0<=gB d l deep n->sZ w (81-deep) v
 | 0,v,l,deep,n,⟨o,cap,hv⟩,_,_=>by subst hv;exact Bw w _ o cap
 | d+1,v,l,deep,n,hAt,hn,h=>by
  by_cases hneg:n<0\/80<deep
  ·have:gB (d+1) l deep n=-1:=by show (if n<0\/80<deep then -1 else _)=_;rw [if_pos hneg]
   omega
  have e:gB (d+1) l deep n=ic (size d) (λy c=>gB d y (deep+1) c) l n:=by show (if n<0\/80<deep then -1 else _)=_;rw [if_neg hneg]
  rw [e] at h;obtain ⟨h1,h2⟩:=IV (zh d (deep+1)) l n hn h;have hR:Row 7 (fA w (At w d)) v l:=hAt;rcases hR with ⟨hl,⟨hnil,o,cap,rfl⟩|⟨b,off,cap,rfl,hx⟩⟩
  ·exact Bw w _ o cap
  rw [show 81-deep=(80-deep)+1 by omega];refine IQ w (80-deep) b off _ cap ?_ λt ht=>?_
  ·rcases h1 with rfl|h1
   ·show 0<=1500;omega
   have:(List.length l:Int)+n<=1500:=h1
   omega
  obtain ⟨x,hxt⟩:∃x,getElem? (coll:=List (Ins (IL d))) l t=some x:=⟨_,aY ht⟩;have hI:=hx t x hxt;obtain ⟨g1,g2,g3⟩:=h2 x (dK hxt);obtain ⟨v4,q4,i4⟩:=hI.labels;obtain ⟨v5,q5,a5⟩:=hI.body;obtain ⟨v6,q6,a6⟩:=hI.els
  have key:∀(v:Value) (y:IL d),At w d v y->(size d y=0\/∃c',0<=c'/\0<=gB d y (deep+1) c')->sZ w (80-deep) v:=λv y hA hy=>by
   rcases hy with hy|⟨c',k1,k2⟩
   ·obtain ⟨o,cap,rfl⟩:=At.len d v y hA;rw [hy];exact Bw w _ o cap
   have:=Bz d v y (deep+1) c' hA (by omega) k2
   rwa [show 81-(deep+1)=80-deep by omega] at this
  exact Fh hI.op hI.a hI.b hI.n q4 i4 g1 q5 q6 (key _ _ a5 g2) (key _ _ a6 g3)
theorem OG {α:Type} {sz:α->Nat} {f:α->Int->Int} {l:List (Ins α)} {k:Nat} {c r:Int} {x:Ins α} (hx:l[k]?=some x) (hc:0<=c) (h:r=ic sz f (l.drop k) c):r=ic sz f (l.drop (k+1)) (kx sz f x c):=by
 have hl:k<l.length:=(fZ.1 hx).1;have he:l[k]=x:=(fZ.1 hx).2;rw [h,lX hl,he];show (if c<0 then c else _)=_;rw [if_neg (by omega)]
end aA
def IW (d:Nat):Prop:=∀(v:Value) (l:IL d) (deep:Nat) (n:Int) (w:World),At w d v l->deep<=81->-1<=n->n<=2305843009213693952 ->
  Calls prog 10 #[v,.int .i64 deep,.int .i64 n] w λe w'=>e=.returned (.int .i64 (gB d l deep n))/\w'=w
theorem IX (v:Value) (o:Option Addr) (m cap:Nat) (hv:v=.slice o m cap) (deep:Nat) (n:Int) (w:World) (hd:deep<=81) (h:n<0\/80<deep) (h1:-1<=n) :
  Calls prog 10 #[v,.int .i64 deep,.int .i64 n] w λe w'=>e=.returned (.int .i64 (-1))/\w'=w:=by
 subst hv;by_cases hn:n<0
 ·go_enter func10,ntmps10;go_wp2;go_ret;exact ⟨rfl,rfl⟩
 have hd:80<deep:=by omega
 go_enter func10,ntmps10;go_wp2;go_ret;exact ⟨rfl,rfl⟩
theorem IY (o:Option Addr) (cap deep:Nat) (n:Int) (w:World) (hd:deep<=80) (hn:0<=n) (gW:n<=2305843009213693952) :
  Calls prog 10 #[.slice o 0 cap,.int .i64 deep,.int .i64 n] w λe w'=>e=.returned (.int .i64 n)/\w'=w:=by
 go_enter func10,ntmps10;go_wp2_with fail;go_loopw [2,7] (λu i wr=>u=.int .i64 n/\i=.int .i64 0/\wr=w) (λ_ _ _=>0)
 case atStart=>exact ⟨rfl,rfl,rfl⟩
 case round =>
  obtain ⟨rfl,rfl,rfl⟩:=hrel;go_wp2;go_ret;exact ⟨rfl,rfl⟩
theorem OH (d:Nat) (IH:IW d) (v:Value) (l:List (Ins (IL d))) (deep:Nat) (n:Int) (w:World) (hAt:Row 7 (fA w (At w d)) v l) (hd:deep<=81) (iK:-1<=n) (gW:n<=2305843009213693952) :
  Calls prog 10 #[v,.int .i64 deep,.int .i64 n] w λe w'=>e=.returned (.int .i64 (if n<0\/80<deep then -1 else ic (size d) (λy c=>gB d y (deep+1) c) l n))/\w'=w:=by
 have hlen:=hAt.1;by_cases hneg:n<0\/80<deep
 ·obtain ⟨o,cap,hv⟩:=hAt.len;rw [if_pos hneg];exact IX v o _ cap hv deep n w hd hneg iK
 rw [if_neg hneg];by_cases hz:l.length=0
 ·obtain ⟨o,cap,rfl⟩:=hAt.len;rw [hz];obtain rfl:l = []:=mM.1 hz;exact IY o cap deep n w (by omega) (by omega) gW
 obtain ⟨b,off,cap,rfl,hx⟩:=hAt.some (by omega);have HX:=cE hx;clear hx hAt;obtain ⟨R,hR⟩:∃R,R=ic (size d) (λy c=>gB d y (deep+1) c) l n:=⟨_,rfl⟩;rw [<- hR];have HR:Hid (R=ic (size d) (λy c=>gB d y (deep+1) c) (l.drop 0) n):=hR;clear hR;have HG:=cE (zh d (deep+1));generalize tZ:l.length=m at *;have aaN:deep<=80:=by omega
 have hn0:0<=n:=by omega
 clear hneg iK;go_enter func10,ntmps10;go_wp2_with fail;go_loopw [2,7] (λu i wr=>∃(j:Nat) (c:Int),j<=m/\i=.int .i64 j/\u=.int .i64 c/\-1<=c/\(c<=n\/c<=1500)/\Hid (R=ic (size d) (λy c=>gB d y (deep+1) c) (l.drop j) c)/\wr=w) (λ_ i _=>m-(RowKit.intOf i).toNat)
 case atStart=>exact ⟨0,n,by omega,rfl,rfl,by omega,by omega,HR,rfl⟩
 case round =>
  obtain ⟨j,c,hj,rfl,rfl,hc1,hc2,HK,rfl⟩:=hrel;by_cases hgo:j<m
  ·by_cases hc0:0<=c
   ·obtain ⟨x,hxk⟩:∃x,l[j]?=some x:=⟨_,aY (by omega)⟩;have hI:=HX.out j x hxk;obtain ⟨v4,q4,i4⟩:=hI.labels;obtain ⟨vb,q5,a5⟩:=hI.body;obtain ⟨ve,q6,a6⟩:=hI.els;have OI:=i4.1
    obtain ⟨o4,n4,c4,rfl,iG⟩:∃o4 n4 c4,v4=.slice o4 n4 c4/\n4=x.labels.length:=by
     obtain ⟨o4,c4,h⟩:=Row.len i4;exact ⟨o4,_,c4,h,rfl⟩
    obtain ⟨ob,nb,cb,rfl,hnb⟩:=At.wh _ _ _ a5;obtain ⟨oe,ne,ce,rfl,hne⟩:=At.wh _ _ _ a6;have hbb:=At.bound _ _ _ a5;have hbe:=At.bound _ _ _ a6;rw [<- iG] at OI;rw [<- hnb] at hbb;rw [<- hne] at hbe;have HN:=cE (OG hxk hc0 HK.out);have hG:=Fj (sz:=size d) HG.out x c hc0;have HS:Hid (∃s,s=kx (size d) (λy c=>gB d y (deep+1) c) x c):=cE ⟨_,rfl⟩;have IB:=cE (λ(c:Int) (h1:-1<=c) (h2:c<=2305843009213693952)=>IH _ x.body (deep+1) c wr a5 (by omega) h1 h2);have IE:=cE (λ(c:Int) (h1:-1<=c) (h2:c<=2305843009213693952)=>IH _ x.els (deep+1) c wr a6 (by omega) h1 h2);rw [show ((deep+1:Nat):Int)=(deep:Int)+1 by omega] at IB IE;obtain ⟨s,hs⟩:=HS.out;rw [<- hs] at hG HN;unfold kx at hs;rw [<- iG,<- hnb,<- hne] at hs;obtain ⟨fb,zi⟩:∃fb:Int->Int,∀c,gB d x.body (deep+1) c=fb c:=⟨_,λ_=>rfl⟩;obtain ⟨fe,hfe⟩:∃fe:Int->Int,∀c,gB d x.els (deep+1) c=fe c:=⟨_,λ_=>rfl⟩;have G1:∀c,-1<=c->-1<=fb c/\(fb c<=c\/fb c<=1500)/\(0<=fb c->c<=fb c):=λc h=>by rw [<- zi];exact HG.out x.body c h
    have G2:∀c,-1<=c->-1<=fe c/\(fe c<=c\/fe c<=1500)/\(0<=fe c->c<=fe c):=λc h=>by rw [<- hfe];exact HG.out x.els c h
    simp only [zi,hfe] at IB IE hs;clear zi hfe;have tj:=cE hs;clear hI hxk i4 a5 a6 hnb hne iG HK hs HS;go_upto_region 7 with fail;obtain ⟨c2,Fp⟩:∃c2:Int,c2=c+(1+(n4:Int) / 10):=⟨_,rfl⟩;have cz:=cE Fp;rw [<- Fp];have hb1:c+1<=c2:=by omega
    have hb3:c2<=4611686018427387904:=by omega
    clear Fp;rw [<- cz.out] at tj;by_cases IZ:1500<c2
    ·have HF:R=-1:=by rw [HN.out,tj.out,if_pos IZ,zg _ (by omega)]
     subst HF;clear HN tj;go_wp2;go_ret;exact ⟨rfl,rfl⟩
    rw [if_neg IZ] at tj;by_cases hb0:nb=0
    ·obtain ⟨r1,hr1⟩:∃r1,r1=c2:=⟨_,rfl⟩;have Ah:Hid (s=if r1<0 then r1 else if ne=0 then r1 else fe r1):=cE (by rw [tj.out,hr1];simp [hb0]);rw [<- hr1];subst hb0;have hm1:0<=r1/\r1<=1500:=by omega
     clear hr1 tj hG;have hr:¬ r1<0:=by omega
     by_cases he0:ne=0
     ·have dQ:Hid (R=ic (size d) (λy c=>gB d y (deep+1) c) (l.drop (j+1)) r1):=cE (by rw [HN.out,Ah.out];simp [hr,he0]);subst he0;go_wp2;go_roundw
      case rel=>exact ⟨j+1,r1,by omega,by go_num,rfl,by omega,by omega,dQ,trivial⟩
      case measure=>simp [RowKit.intOf];omega
     have dQ:Hid (R=ic (size d) (λy c=>gB d y (deep+1) c) (l.drop (j+1)) (fe r1)):=cE (by rw [HN.out,Ah.out];simp [hr,he0]);have g2:=G2 r1 (by omega);go_wp2_with fail;refine (IE.out r1 (by omega) (by omega)).mono ?_;rintro e u ⟨rfl,hu⟩;obtain rfl:wr=u:=hu.symm;generalize fe r1=r2 at *;go_wp2;go_roundw
     case rel=>exact ⟨j+1,r2,by omega,by go_num,rfl,by omega,by omega,dQ,trivial⟩
     case measure=>simp [RowKit.intOf];omega
    have Ah:Hid (s=if fb c2<0 then fb c2 else if ne=0 then fb c2 else fe (fb c2)):=cE (by rw [tj.out];simp [hb0]);have g1:=G1 c2 (by omega);clear tj hG;go_upto_region 11 with (first|(go_at_call 10;refine (IB.out c2 (by omega) (by omega)).mono ?_;rintro e u ⟨rfl,hu⟩;obtain rfl:wr=u:=hu.symm))
    generalize fb c2=r1 at *;by_cases hr:r1<0
    ·have dQ:Hid (R=ic (size d) (λy c=>gB d y (deep+1) c) (l.drop (j+1)) r1):=cE (by rw [HN.out,Ah.out];simp [hr]);go_wp2;go_roundw
     case rel=>exact ⟨j+1,r1,by omega,by go_num,rfl,by omega,by omega,dQ,trivial⟩
     case measure=>simp [RowKit.intOf];omega
    by_cases he0:ne=0
    ·have dQ:Hid (R=ic (size d) (λy c=>gB d y (deep+1) c) (l.drop (j+1)) r1):=cE (by rw [HN.out,Ah.out];simp [hr,he0]);subst he0;go_wp2;go_roundw
     case rel=>exact ⟨j+1,r1,by omega,by go_num,rfl,by omega,by omega,dQ,trivial⟩
     case measure=>simp [RowKit.intOf];omega
    have dQ:Hid (R=ic (size d) (λy c=>gB d y (deep+1) c) (l.drop (j+1)) (fe r1)):=cE (by rw [HN.out,Ah.out];simp [hr,he0]);have g2:=G2 r1 (by omega);go_wp2_with fail;refine (IE.out r1 (by omega) (by omega)).mono ?_;rintro e u ⟨rfl,hu⟩;obtain rfl:wr=u:=hu.symm;generalize fe r1=r2 at *;go_wp2;go_roundw
    case rel=>exact ⟨j+1,r2,by omega,by go_num,rfl,by omega,by omega,dQ,trivial⟩
    case measure=>simp [RowKit.intOf];omega
   have HF:R=c:=by rw [HK.out,zg _ (by omega)]
   subst HF;clear HK;go_wp2;go_ret;exact ⟨rfl,rfl⟩
  have HF:R=c:=by rw [HK.out,List.drop_of_length_le (by omega)];rfl
  subst HF;clear HK;go_wp2
  all_goals (go_ret;exact ⟨rfl,rfl⟩)
theorem BA:∀(d:Nat),IW d
 | 0=>λv l deep n w ⟨o,cap,hv⟩ hd h1 h2=>by
  subst hv;show Calls _ _ _ _ λe w'=>e=.returned (.int .i64 (if n<0\/80<deep then -1 else n))/\w'=w;by_cases hneg:n<0\/80<deep
  ·rw [if_pos hneg];exact IX _ o _ cap rfl deep n w hd hneg h1
  rw [if_neg hneg];exact IY o cap deep n w (by omega) (by omega) h2
 | d+1=>λv l deep n w hAt hd h1 h2=>OH d (BA d) v l deep n w hAt hd h1 h2
end Go.Proofs.YtmfcojpjpgldhaaGreatDoor
namespace Go.Proofs.YtmfcojpjpgldhaaGreatDoor
open Go.RowKit aA
set_option linter.unusedVariables false
namespace aA
def xW {α:Type} (f:α->Nat) (x:Ins α):Nat:=1+x.labels.length / 10+f x.body+f x.els
def xX {α:Type} (f:α->Nat):List (Ins α)->Nat
 | []=>0
 | x :: r=>xW f x+xX f r
def wt:(d:Nat)->IL d->Nat
 | 0,_=>0
 | d+1,l=>xX (wt d) l
theorem IK:∀(d:Nat) (l:IL d),size d l=0->wt d l=0
 | 0,_,_=>rfl
 | d+1,l,h=>by
  have:(show List (Ins (IL d)) from l) = []:=mM.1 h
  show xX (wt d) (show List (Ins (IL d)) from l)=0;rw [this];rfl
theorem aaz {α:Type} {sz:α->Nat} {f:α->Int->Int} {g:α->Nat} (h0:∀y,sz y=0->g y=0) (hf:∀y c,0<=c->0<=f y c->f y c=c+(g y:Int)) (x:Ins α) (c:Int) (hc:0<=c) (h:0<=kx sz f x c):kx sz f x c=c+(xW g x:Int):=by
 obtain ⟨c2,hc2⟩:∃c2,c2=c+(1+(x.labels.length:Int) / 10):=⟨_,rfl⟩;obtain ⟨r1,hr1⟩:∃r1,r1=(if sz x.body=0 then c2 else f x.body c2):=⟨_,rfl⟩
 have e:kx sz f x c=(if 1500<c2 then -1 else if r1<0 then r1 else if sz x.els=0 then r1 else f x.els r1):=by
  subst hr1;subst hc2;rfl
 rw [e] at h ⊢;unfold xW;by_cases h1:1500<c2
 ·rw [if_pos h1] at h;omega
 rw [if_neg h1] at h ⊢;by_cases h2:r1<0
 ·rw [if_pos h2] at h;omega
 rw [if_neg h2] at h ⊢
 have hb:r1=c2+(g x.body:Int):=by
  by_cases hz:sz x.body=0
  ·rw [if_pos hz] at hr1;rw [h0 _ hz];omega
  rw [if_neg hz] at hr1;rw [hr1];exact hf _ _ (by omega) (by omega)
 by_cases h3:sz x.els=0
 ·rw [if_pos h3]
  have:=h0 _ h3
  omega
 rw [if_neg h3] at h ⊢
 have:=hf _ _ (by omega) h
 omega
theorem OB {α:Type} {sz:α->Nat} {f:α->Int->Int} {g:α->Nat} (h0:∀y,sz y=0->g y=0) (hf:∀y c,0<=c->0<=f y c->f y c=c+(g y:Int)):∀(l:List (Ins α)) (c:Int),0<=c->0<=ic sz f l c->ic sz f l c=c+(xX g l:Int)
 | [],c,_,_=>by show c=c+((0:Nat):Int);omega
 | x :: r,c,hc,h=>by
  have e:ic sz f (x :: r) c=ic sz f r (kx sz f x c):=by show (if c<0 then c else _)=_;rw [if_neg (by omega)]
  rw [e] at h ⊢
  have hs:0<=kx sz f x c:=by
   by_cases hs:kx sz f x c<0
   ·rw [zg _ hs] at h;exact h
   omega
  have h1:=aaz h0 hf x c hc hs;have h2:=OB h0 hf r _ hs h;rw [h2];show _=c+((xW g x+xX g r:Nat):Int);omega
theorem Li:∀(d:Nat) (l:IL d) (deep:Nat) (n:Int),0<=n->0<=gB d l deep n->gB d l deep n=n+(wt d l:Int)
 | 0,l,deep,n,hn,h=>by
  have e:gB 0 l deep n=if n<0\/80<deep then -1 else n:=rfl;rw [e] at h ⊢;by_cases hd:n<0\/80<deep
  ·rw [if_pos hd] at h;omega
  rw [if_neg hd];show n=n+((0:Nat):Int);omega
 | d+1,l,deep,n,hn,h=>by
  have e:gB (d+1) l deep n=if n<0\/80<deep then -1 else ic (size d) (λy c=>gB d y (deep+1) c) l n:=rfl;rw [e] at h ⊢;by_cases hd:n<0\/80<deep
  ·rw [if_pos hd] at h;omega
  rw [if_neg hd] at h ⊢;exact OB (g:=wt d) (IK d) (λy c hc hy=>Li d y (deep+1) c hc hy) l n hn h
theorem OC {α β:Type} {f:α->Nat} {g:β->Nat}:∀(l:List (Ins α)) (k:List (Ins β)),l.length=k.length->(∀(i:Nat) (x:Ins α) (y:Ins β),l[i]?=some x->k[i]?=some y->xW f x=xW g y)->xX f l=xX g k
 | [],[],_,_=>rfl
 | [],_ :: _,h,_=>by simp at h
 | _ :: _,[],h,_=>by simp at h
 | x :: r,y :: s,h,he=>by
  show xW f x+xX f r=xW g y+xX g s;rw [he 0 x y rfl rfl,OC r s (by simpa using h) (λi a b ha hb=>he (i+1) a b (by simpa using ha) (by simpa using hb))]
theorem GK {w:World}:∀(d e:Nat) (v:Value) (l:IL d) (k:IL e),At w d v l->At w e v k->wt d l=wt e k
 | 0,e,v,l,k,hl,hk=>by
  obtain ⟨o,cap,rfl⟩:=hl;obtain ⟨o',cap',h⟩:=At.len e _ _ hk;injection h with _ h2 _;rw [IK e k h2.symm];rfl
 | d+1,0,v,l,k,hl,hk=>by
  obtain ⟨o,cap,rfl⟩:=hk;obtain ⟨o',cap',h⟩:=At.len (d+1) _ _ hl;injection h with _ h2 _;rw [IK (d+1) l h2.symm];rfl
 | d+1,e+1,v,l,k,hl,hk=>by
  have hl':Row 7 (fA w (At w d)) v (show List (Ins (IL d)) from l):=hl;have hk':Row 7 (fA w (At w e)) v (show List (Ins (IL e)) from k):=hk;obtain ⟨o1,gb,hv1⟩:=Row.len hl';obtain ⟨o2,cap2,hv2⟩:=Row.len hk';have Fe:=hv1;rw [hv2] at Fe;injection Fe with _ hlen _;refine OC (show List (Ins (IL d)) from l) (show List (Ins (IL e)) from k) hlen.symm λi x y hx hy=>?_;have hi:i<(show List (Ins (IL d)) from l).length:=(fZ.1 hx).1;obtain ⟨b,off,cap,hv,hc⟩:=Row.some hl' (by omega);obtain ⟨b',off',cap',hv',hc'⟩:=Row.some hk' (by omega);rw [hv] at hv';injection hv' with ha _ _;injection ha with ha;injection ha with hb ho _;subst hb ho;have hX:=hc i x hx;have hY:=hc' i y hy;obtain ⟨v4,c4,a4⟩:=hX.labels;obtain ⟨v5,c5,a5⟩:=hX.body;obtain ⟨v6,c6,a6⟩:=hX.els;obtain ⟨u4,d4,b4⟩:=hY.labels;obtain ⟨u5,d5,b5⟩:=hY.body;obtain ⟨u6,d6,b6⟩:=hY.els;have e4:v4=u4:=by rw [c4] at d4;exact Option.some.inj d4
  have e5:v5=u5:=by rw [c5] at d5;exact Option.some.inj d5
  have e6:v6=u6:=by rw [c6] at d6;exact Option.some.inj d6
  subst e4 e5 e6;obtain ⟨p1,q1,g1⟩:=Row.len a4;obtain ⟨p2,q2,g2⟩:=Row.len b4;rw [g1] at g2;injection g2 with _ g3 _;unfold xW;rw [g3,GK d e v5 _ _ a5 b5,GK d e v6 _ _ a6 b6]
end aA
end Go.Proofs.YtmfcojpjpgldhaaGreatDoor
namespace Go.Proofs.YtmfcojpjpgldhaaGreatDoor
open Go.RowKit aA Go.Proofs.Tryz
set_option linter.unusedVariables false
set_option maxHeartbeats 1000000
namespace aA
theorem ag {p:Prop} (h:p):Hid p:=h
def idx (n:Int):Bool:=decide (0<=n/\n<=4294967295)
def typ (n:Int):Bool:=decide (n=126\/n=127)
theorem oQ {α:Type} {p:α->Bool} {l:List α} {k:Nat} {r:Bool} (hk:¬ k<l.length) (h:r=(l.drop k).all p):r=true:=by
 rw [h,List.drop_of_length_le (by omega)];rfl
theorem gK {α:Type} {p:α->Bool} {l:List α} {k:Nat} {r:Bool} {x:α} (hx:l[k]?=some x) (h:r=(l.drop k).all p):r=(p x&&(l.drop (k+1)).all p):=by
 have hl:k<l.length:=(fZ.1 hx).1;have he:l[k]=x:=(fZ.1 hx).2;rw [h,lX hl,he,List.all_cons]
theorem My {a b:Bool} (h:a=b):Ending.returned (.bool a)=.returned (.bool b):=by rw [h]
end aA
theorem mG (n:Int) (w:World):Calls prog 88 #[.int .i64 n] w λe w'=>e=.returned (.bool (idx n))/\w'=w:=by
 go_enter func88,ntmps88;go_wp2
 all_goals go_ret
 all_goals refine ⟨My ?_,rfl⟩
 all_goals (unfold idx;rw [Bool.eq_iff_iff];simp only [decide_eq_true_eq];first|omega|(simp;omega))
theorem bB (n a b:Int) (w:World):Calls prog 92 #[.int .i64 n,.int .i64 a,.int .i64 b] w λe w'=>e=.returned (.bool (decide (a<=n/\n<=b)))/\w'=w:=by
 go_enter func92,ntmps92;go_wp2
 all_goals go_ret
 all_goals refine ⟨My ?_,rfl⟩
 all_goals first|rfl|(rw [Bool.eq_iff_iff];simp;done)|(rw [Bool.eq_iff_iff];simp;omega)|(symm;simp;omega)
theorem vH (v:Value) (l:List Int) (w:World) (hAt:Ints w v l) :
  Calls prog 93 #[v] w λe w'=>e=.returned (.bool (l.all idx))/\w'=w:=by
 have hlen:=hAt.1;obtain ⟨o,cap,hv⟩:=Row.len hAt;have hs:=Row.some hAt;subst hv;obtain ⟨R,hR⟩:∃R,R=l.all idx:=⟨_,rfl⟩;rw [<- hR];have HR:Hid (R=(l.drop 0).all idx):=hR;have HX:=ag hs;clear hs hAt hR;generalize hn:l.length=n at *;go_enter func93,ntmps93;go_wp2_with fail;go_loopw [3] (λi wr=>∃k:Nat,k<=n/\i=.int .i64 k/\R=(l.drop k).all idx/\wr=w) (λi _=>n-(RowKit.intOf i).toNat)
 case atStart=>exact ⟨0,by omega,rfl,HR.out,rfl⟩
 case round =>
  obtain ⟨k,hk,rfl,hrr,rfl⟩:=hrel;have HK:=ag hrr;clear hrr;by_cases hgo:k<n
  ·obtain ⟨b,off,cap2,hv2,hx⟩:=HX.out (by omega);injection hv2 with ho h2 h3;subst ho;obtain ⟨x,hxk⟩:∃x,l[k]?=some x:=⟨_,aY (by omega)⟩;have hc:=hx k x hxk;rw [Nat.mul_one] at hc;have HN:=gK hxk HK.out;have i1:=ag (mG x wr);clear hx hxk HK HX h2 h3;generalize idx x=r1 at *;have lQ:=ag HN;clear HN;go_wp2_with fail;refine i1.out.mono ?_;rintro e w1 ⟨rfl,rfl⟩;cases r1
   ·have hfin:R=false:=by rw [lQ.out];rfl
    go_wp2;go_ret;exact ⟨by first|rfl|(rw [hfin];rfl),rfl⟩
   go_wp2;go_roundw
   case rel=>exact ⟨k+1,by omega,by go_num,by rw [lQ.out];rfl,trivial⟩
   case measure=>simp [RowKit.intOf];omega
  have HE:=oQ (by omega) HK.out;clear HK;go_wp2;go_ret;exact ⟨by first|rfl|(rw [HE];rfl),rfl⟩
theorem EX (v:Value) (l:List Int) (w:World) (hAt:Ints w v l) :
  Calls prog 87 #[v] w λe w'=>e=.returned (.bool (l.all typ))/\w'=w:=by
 have hlen:=hAt.1;obtain ⟨o,cap,hv⟩:=Row.len hAt;have hs:=Row.some hAt;subst hv;obtain ⟨R,hR⟩:∃R,R=l.all typ:=⟨_,rfl⟩;rw [<- hR];have HR:Hid (R=(l.drop 0).all typ):=hR;have HX:=ag hs;clear hs hAt hR;generalize hn:l.length=n at *;go_enter func87,ntmps87;go_wp2_with fail;go_loopw [3] (λi wr=>∃k:Nat,k<=n/\i=.int .i64 k/\R=(l.drop k).all typ/\wr=w) (λi _=>n-(RowKit.intOf i).toNat)
 case atStart=>exact ⟨0,by omega,rfl,HR.out,rfl⟩
 case round =>
  obtain ⟨k,hk,rfl,hrr,rfl⟩:=hrel;have HK:=ag hrr;clear hrr;by_cases hgo:k<n
  ·obtain ⟨b,off,cap2,hv2,hx⟩:=HX.out (by omega);injection hv2 with ho h2 h3;subst ho;obtain ⟨x,hxk⟩:∃x,l[k]?=some x:=⟨_,aY (by omega)⟩;have hc:=hx k x hxk;rw [Nat.mul_one] at hc;have HN:=gK hxk HK.out;clear hx hxk HK HX h2 h3;by_cases h1:x=126
   ·have ht:typ x=true:=by simp [typ,h1]
    rw [ht,fN] at HN;have lQ:=ag HN;have hb:(x != 126)=false:=by simp [h1]
    clear HN h1 ht;go_wp2;go_roundw
    case rel=>exact ⟨k+1,by omega,by go_num,lQ.out,trivial⟩
    case measure=>simp [RowKit.intOf];omega
   by_cases h2:x=127
   ·have ht:typ x=true:=by simp [typ,h2]
    rw [ht,fN] at HN;have lQ:=ag HN;have hb:(x != 126)=true:=by simp [h1]
    have hb2:(x != 127)=false:=by simp [h2]
    clear HN h1 ht h2;go_wp2;go_roundw
    case rel=>exact ⟨k+1,by omega,by go_num,lQ.out,trivial⟩
    case measure=>simp [RowKit.intOf];omega
   have ht:typ x=false:=by simp [typ,h1,h2]
   rw [ht,Bool.false_and] at HN;have hb:(x != 126)=true:=by simp [h1]
   have hb2:(x != 127)=true:=by simp [h2]
   clear h1 ht h2;go_wp2;go_ret;exact ⟨by first|rfl|(rw [HN];rfl),rfl⟩
  have HE:=oQ (by omega) HK.out;clear HK;go_wp2;go_ret;exact ⟨by first|rfl|(rw [HE];rfl),rfl⟩
end Go.Proofs.YtmfcojpjpgldhaaGreatDoor
namespace Go.Proofs.YtmfcojpjpgldhaaGreatDoor
open Go.RowKit aA
set_option linter.unusedVariables false
def gave (k:Int):List PanicEntry:=[{ v:=.iface 36 (.int .i64 k),recovered:=false }]
def iN (ok:Bool) (k:Int) (e:Ending):Prop:=(ok=true/\e=.returned (.tuple #[]))\/(ok=false/\e=.panicked (gave k))
theorem iN.yes {k:Int} {e:Ending} (h:iN true k e):e=.returned (.tuple #[]):=by rcases h with ⟨_,h⟩|⟨h,_⟩;exact h;cases h
theorem iN.no {k:Int} {e:Ending} (h:iN false k e):e=.panicked (gave k):=by rcases h with ⟨h,_⟩|⟨_,h⟩;cases h;exact h
end Go.Proofs.YtmfcojpjpgldhaaGreatDoor
namespace Go.Proofs.YtmfcojpjpgldhaaGreatDoor
open Go.RowKit aA Go.Proofs.Tryz
set_option linter.unusedVariables false
set_option maxHeartbeats 400000
theorem gJ (c:Bool) (k:Int) (w:World):Calls prog 30 #[.bool c,.int .i64 k] w λe w'=>iN c k e/\w'=w:=by
 cases c
 ·go_enter func30,ntmps30;go_wp2;exact ⟨rfl,.inr ⟨rfl,rfl⟩,rfl⟩
 go_enter func30,ntmps30;go_wp2;go_end0;exact ⟨.inl ⟨rfl,rfl⟩,rfl⟩
namespace aA
structure Sn where
 op:Int
 a:Int
 b:Int
 n:Int
 labels:List Int
 nb:Nat
 ne:Nat
def sn {d:Nat} (x:Ins (IL d)):Sn:=⟨x.op,x.a,x.b,x.n,x.labels,size d x.body,size d x.els⟩
def uK {α σ:Type} (step:σ->Ins α->Option σ) (sub:α->σ->Option σ):List (Ins α)->σ->Option σ
 | [],s=>some s
 | x :: r,s=>(step s x).bind λs1=>(sub x.body s1).bind λs2=>(sub x.els s2).bind λs3=>uK step sub r s3
def jC {σ:Type} (step:σ->Sn->Nat->Option σ):(d:Nat)->IL d->Nat->σ->Option σ
 | 0,_,_,s=>some s
 | d+1,l,k,s=>uK (λs x=>step s (sn x) k) (λy s=>jC step d y (k+1) s) l s
def rest {σ:Type} (step:σ->Sn->Nat->Option σ) (d:Nat) (l:List (Ins (IL d))) (k j:Nat) (s:σ):Option σ :=
 uK (λs x=>step s (sn x) k) (λy s=>jC step d y (k+1) s) (l.drop j) s
theorem rest_end {σ:Type} {step:σ->Sn->Nat->Option σ} {d:Nat} {l:List (Ins (IL d))} {k j:Nat} {s:σ} (h:l.length<=j):rest step d l k j s=some s:=by
 unfold rest;rw [List.drop_of_length_le h];rfl
theorem EF {σ:Type} {step:σ->Sn->Nat->Option σ} {d:Nat} {l:List (Ins (IL d))} {k j:Nat} {s:σ} {x:Ins (IL d)} (hx:l[j]?=some x) :
  rest step d l k j s=(step s (sn x) k).bind λs1=>(jC step d x.body (k+1) s1).bind λs2=>(jC step d x.els (k+1) s2).bind λs3=>rest step d l k (j+1) s3:=by
 have hl:j<l.length:=(fZ.1 hx).1;have he:l[j]=x:=(fZ.1 hx).2;unfold rest;rw [lX hl,he];rfl
structure Kp (S:Nat->Prop) (w w':World):Prop where
 os:w'.os=w.os
 tape:w'.tape=w.tape
 output:w'.output=w.output
 size:w.heap.size<=w'.heap.size
 block:∀k,k<w.heap.size->¬ S k->w'.heap[k]?=w.heap[k]?
theorem Kp.refl (S:Nat->Prop) (w:World):Kp S w w:=⟨rfl,rfl,rfl,aI _,λ_ _ _=>rfl⟩
theorem Kp.trans {S:Nat->Prop} {a b c:World} (h:Kp S a b) (k:Kp S b c):Kp S a c :=
 ⟨k.os.trans h.os,k.tape.trans h.tape,k.output.trans h.output,tL h.size k.size,λi hi hs=>(k.block i (nH hi h.size) hs).trans (h.block i hi hs)⟩
theorem Kp.of_below {S:Nat->Prop} {a b:World} (h:Below a.heap.size a b):Kp S a b:=⟨h.os,h.tape,h.output,h.size,λi hi _=>h.block i hi⟩
theorem Kp.alloc {S:Nat->Prop} {a b:World} (h:Kp S a b) (o:Obj):Kp S a (b.alloc o):=h.trans (Kp.of_below ((Below.refl _ b).alloc (aI _) o))
theorem Kp.Hj {w w':World} (h:Kp (λ_=>False) w w'):Below w.heap.size w w':=⟨h.os,h.tape,h.output,h.size,λk hk=>h.block k hk λhs=>hs⟩
theorem Kp.below {S:Nat->Prop} {w0 a b:World} (hS:∀k,S k->w0.heap.size<=k) (h0:Below w0.heap.size w0 a) (h:Kp S a b):Below w0.heap.size w0 b :=
 h0.trans ⟨h.os,h.tape,h.output,h.size,λk hk=>h.block k (nH hk h0.size) λhs=>absurd (hS k hs) (by omega)⟩
theorem Kp.cell {S:Nat->Prop} {a b:World} (h:Kp S a b) {p:Addr} (hp:p.block<a.heap.size) (hs:¬ S p.block):b.cell? p=a.cell? p:=World.cell?_of_block (w:=a) (h.block p.block hp hs)
theorem bQ (w:World) (xs:Array Value) (t:TypeId) (i:Nat) (v:Value) (h:xs[i]?=some v):(w.alloc (.cells xs t)).cell? ⟨w.heap.size,i,none⟩=some v:=by
 rw [World.cell?_alloc_at xs t _ i rfl];exact h
theorem size_alloc (w:World) (o:Obj):(w.alloc o).heap.size=w.heap.size+1:=by simp
end aA
def qg {σ:Type} (f:FuncId) (args:Value->Value->Array Value) (w0:World) (S:Nat->Prop) (Inv:σ->World->Prop) (step:σ->Sn->Nat->Option σ) (k:Int):Prop :=
 ∀(s:σ) (x:Sn) (lv bv ev:Value) (dep:Nat) (w:World),Below w0.heap.size w0 w->Inv s w->Ints w lv x.labels->(∃o c,bv=.slice o x.nb c)->(∃o c,ev=.slice o x.ne c)->dep<=4611686018427387904 ->
  Calls prog f (args (.agg #[.int .i64 x.op,.int .i64 x.a,.int .i64 x.b,.int .i64 x.n,lv,bv,ev]) (.int .i64 dep)) w λe w' =>
   Kp S w w'/\((∃s',step s x dep=some s'/\e=.returned (.tuple #[])/\Inv s' w')\/(step s x dep=none/\e=.panicked (gave k)))
def yP {σ:Type} (fv:Value) (w0:World) (S:Nat->Prop) (Inv:σ->World->Prop) (step:σ->Sn->Nat->Option σ) (k:Int) (d:Nat):Prop :=
 ∀(v:Value) (l:IL d) (dep:Nat) (s:σ) (w:World),At w0 d v l->Below w0.heap.size w0 w->Inv s w->(∀k,S k->k<w.heap.size)->dep+d<=4611686018427387904 ->
  Calls prog 67 #[v,.int .i64 dep,fv] w λe w' =>
   Kp S w w'/\((∃s',jC step d l dep s=some s'/\e=.returned (.tuple #[])/\Inv s' w')\/(jC step d l dep s=none/\e=.panicked (gave k)))
end Go.Proofs.YtmfcojpjpgldhaaGreatDoor
