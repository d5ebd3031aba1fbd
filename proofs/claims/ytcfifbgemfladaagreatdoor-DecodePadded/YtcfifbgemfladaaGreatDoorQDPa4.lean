/- Texts that the claim needs. -/
import Derived.Test.YtcfifbgemfladaaGreatDoorQDPa3
import Derived.Test.YtcfifbgemfladaaGreatDoorQDPa2
import Derived.Test.YtcfifbgemfladaaGreatDoorQDPa0
import Derived.Deep.RegionWith
import Derived.Test.YtcfifbgemfladaaGreatDoorQDPa1
import Derived.Deep.Cut
namespace Go.Proofs.YtcfifbgemfladaaGreatDoor
open Go.RowKit au
set_option linter.unusedVariables false
namespace au
def Sub (w w':AG):Prop:=∀b o u,w.cell? ⟨b,o,none⟩=.some u->w'.cell? ⟨b,o,none⟩=.some u
theorem Sub.refl (w:AG):Sub w w:=λ_ _ _ h=>h
theorem Sub.trans {w1 w2 w3:AG} (h:Sub w1 w2) (h':Sub w2 w3):Sub w1 w3:=λb o u e=>h' b o u (h b o u e)
section On
variable {w w':AG} (hb:Sub w w')
include hb
theorem Ints.sub {v:Value} {l:List Int} (h:Ints w v l):Ints w' v l:=Row.imp h λ_ _ _ _ h=>hb _ _ _ h
theorem fM.sub {α : Type} {f g : Value → α → Prop} (hfg : ∀ v x, f v x → g v x) {b o : Nat} {x : Ins α} (h : fM w f b o x) : fM w' g b o x :=
  ⟨hb _ _ _ h.op, hb _ _ _ h.a, hb _ _ _ h.b, hb _ _ _ h.n,
   let ⟨v, h1, h2⟩ := h.labels; ⟨v, hb _ _ _ h1, h2.sub hb⟩,
   let ⟨v, h1, h2⟩ := h.body; ⟨v, hb _ _ _ h1, hfg _ _ h2⟩,
   let ⟨v, h1, h2⟩ := h.els; ⟨v, hb _ _ _ h1, hfg _ _ h2⟩⟩
theorem At.sub:∀(d:Nat) (v:Value) (l:IL d),At w d v l->At w' d v l
 | 0,_,_,h=>h
 | d+1,_,_,h=>Row.imp (α:=Ins (IL d)) h λ_ _ _ _ h=>h.sub hb (At.sub d)
theorem uY.sub {bk o:Nat} {x:FT} (h:uY w bk o x):uY w' bk o x :=
 ⟨let ⟨v,a,b⟩:=h.params;⟨v,hb _ _ _ a,b.sub hb⟩,let ⟨v,a,b⟩:=h.results;⟨v,hb _ _ _ a,b.sub hb⟩⟩
theorem uu.sub {bk o:Nat} {x:oG} (h:uu w bk o x):uu w' bk o x:=⟨hb _ _ _ h.mod,hb _ _ _ h.name,hb _ _ _ h.type⟩
theorem rL.sub {d bk o:Nat} {x:fF d} (h:rL w d bk o x):rL w' d bk o x :=
 ⟨hb _ _ _ h.type,let ⟨v,a,b⟩:=h.locals;⟨v,hb _ _ _ a,b.sub hb⟩,let ⟨v,a,b⟩:=h.body;⟨v,hb _ _ _ a,At.sub hb d v _ b⟩⟩
theorem mG.sub {bk o:Nat} {x:gu} (h:mG w bk o x):mG w' bk o x:=⟨hb _ _ _ h.min,hb _ _ _ h.max,hb _ _ _ h.has⟩
theorem uw.sub {d bk o:Nat} {x:mZ d} (h:uw w d bk o x):uw w' d bk o x:=⟨hb _ _ _ h.type,hb _ _ _ h.je,h.init.sub hb (At.sub hb d)⟩
theorem uA.sub {bk o:Nat} {x:oH} (h:uA w bk o x):uA w' bk o x:=⟨hb _ _ _ h.name,hb _ _ _ h.kind,hb _ _ _ h.index⟩
theorem uC.sub {d bk o:Nat} {x:lX d} (h:uC w d bk o x):uC w' d bk o x:=⟨h.offset.sub hb (At.sub hb d),let ⟨v,a,b⟩:=h.funcs;⟨v,hb _ _ _ a,b.sub hb⟩⟩
theorem wK.sub {d bk o:Nat} {x:Dat d} (h:wK w d bk o x):wK w' d bk o x:=⟨h.offset.sub hb (At.sub hb d),hb _ _ _ h.bytes⟩
end On
def only (w:AG) (S:Nat->Bool):AG:={ w with heap:=w.heap.mapIdx λi x=>if S i then x else .cells #[] 0 (0,0) }
theorem adp (w:AG) (S:Nat->Bool) (k:Nat):(only w S).heap[k]?=(w.heap[k]?).map λx=>if S k then x else .cells #[] 0 (0,0):=by
 unfold only;simp [Array.getElem?_mapIdx]
theorem Lv {w:AG} {S:Nat->Bool} {b o:Nat} {u:Value}:(only w S).cell? ⟨b,o,none⟩=.some u↔S b=true/\w.cell? ⟨b,o,none⟩=.some u:=by
 unfold World.cell?;rw [adp];cases hs:S b with
 | true=>simp
 | false =>
  cases w.heap[b]? with
  | none=>simp
  | some x=>simp
theorem Lx {w w':AG} {S S':Nat->Bool} (h:∀k,k<w.heap.size->S k=true->S' k=true/\w'.heap[k]?=w.heap[k]?):Sub (only w S) (only w' S'):=λb o u hu=>by
 obtain ⟨h1,h2⟩:=Lv.1 hu;obtain ⟨h3,h4⟩:=h b (World.block_lt_of_cell? _ _ h2) h1;exact Lv.2 ⟨h3,(World.cell?_of_block (a:=⟨b,o,none⟩) h4).trans h2⟩
structure Piece {α:Type} (R:AG) (c:Nat) (f:AG->Nat->Nat->α->Prop) (x:α) (cs:List Value):Prop where
 len:cs.length=c
 one:∀u ∈ cs,u.oneCell'=true
 lay:∀R' b o,Sub R R'->(∀k u,cs[k]?=.some u->R'.cell? ⟨b,o+k,none⟩=.some u)->f R' b o x
theorem Piece.sub {α:Type} {R R2:AG} {c:Nat} {f:AG->Nat->Nat->α->Prop} {x:α} {cs:List Value} (h:Piece R c f x cs) (hs:Sub R R2):Piece R2 c f x cs :=
 ⟨h.len,h.one,λR' b o h' hc=>h.lay R' b o (hs.trans h') hc⟩
def flat {α:Type} (ps:List (α × List Value)):List Value:=ps.flatMap (·.2)
theorem flat_get {α:Type} {c:Nat}:∀(ps:List (α × List Value)),(∀p ∈ ps,p.2.length=c)->∀(i:Nat) (p:α × List Value),ps[i]?=.some p->∀k u,p.2[k]?=.some u->(flat ps)[i*c+k]?=.some u
 | [],_,_,_,h,_,_,_=>by simp at h
 | q :: r,hl,0,p,h,k,u,hu=>by
  have:q=p:=by simpa using h
  subst this;show (q.2++flat r)[0*c+k]?=.some u;have hk:k<q.2.length:=(gq.1 hu).1;rw [Nat.zero_mul,Nat.zero_add,vB hk];exact hu
 | q :: r,hl,i+1,p,h,k,u,hu=>by
  have h':r[i]?=.some p:=by simpa using h
  have hq:q.2.length=c:=hl q (List.mem_cons_self ..);show (q.2++flat r)[(i+1)*c+k]?=.some u;have e:(i+1)*c+k=c+(i*c+k):=by rw [Nat.add_mul];omega
  rw [uV (by omega),show (i+1)*c+k-q.2.length=i*c+k by omega];exact flat_get r (λp hp=>hl p (List.mem_cons_of_mem _ hp)) i p h' k u hu
theorem Xj {α:Type} {w:AG} {B:Nat} {e:TypeId} {c:Nat} {t:Value} {f:AG->Nat->Nat->α->Prop} {S S':Nat->Bool} (ps:List (α × List Value)) (ho:w.ownsRow B e c t ps.length (flat ps)) (hp:∀p ∈ ps,Piece (only w S) c f p.1 p.2)
  (hS:∀k,S k=true->S' k=true) (ht:∀g,t.ownBlock=some g->S' g=true) (hn:ps.length<=9223372036854775807):Row c (f (only w S')) t (ps.map (·.1)):=by
 refine ⟨by rw [jS];exact hn,?_⟩;rcases ho.2 with ⟨rfl,h0⟩|⟨g,cap,cur,rfl,hbg,hg,_,_,_,_⟩
 ·have:ps = []:=iZ.1 h0
  subst this;exact .inl ⟨rfl,none,0,rfl⟩
 refine .inr ⟨g,0,cap,by rw [jS],λi x hx=>?_⟩;rw [List.getElem?_map] at hx;obtain ⟨p,hpi,rfl⟩:=Option.map_eq_some_iff.1 hx;refine (hp p (iF hpi)).lay _ _ _ (Lx λk _ hk=>⟨hS k hk,rfl⟩) λk u hu=>?_
 have:=ho.cells (g:=g) rfl (i*c+k) u (flat_get ps (λp hp'=>(hp p hp').len) i p hpi k u hu)
 rw [uH] at this;refine Lv.2 ⟨ht g rfl,?_⟩;rw [Nat.add_assoc];exact this
def qB (B b:Nat) (t:Value) (k:Nat):Bool:=decide (B<=k)&&(k != b)&&(t.ownBlock != some k)
theorem Gg {B b:Nat} {t:Value} {k:Nat}:qB B b t k=true↔B<=k/\k≠b/\t.ownBlock≠some k:=by
 unfold qB;simp [and_assoc]
theorem Xh {B b:Nat} {t:Value} {w w':AG} (hb:AS w w'):Sub (only w (qB B b t)) (only w' (qB B b t)):=Lx λk hk hs=>⟨hs,hb.block k hk⟩
theorem Xi {B b i:Nat} {t u:Value} {w:AG}:Sub (only w (qB B b t)) (only (w.setCell ⟨b,i,none⟩ u) (qB B b t)):=Lx λk hk hs=>⟨hs,Below.heap_setCell _ _ _ _ (by show k≠b;exact (Gg.1 hs).2.1)⟩
section App
variable {P:Program}
end App
end au
namespace au
def gW (w:AG) (b:Nat) (c0 c1 c2 c3 c4 c5 c6 c7 c8 c9:Value):Prop:=w.heap[b]?=some (.cells #[c0,c1,c2,c3,c4,c5,c6,c7,c8,c9] 32 (0,0))
section fG
variable {w w':AG} {b:Nat} {c0 c1 c2 c3 c4 c5 c6 c7 c8 c9:Value}
theorem gW.cell (h:gW w b c0 c1 c2 c3 c4 c5 c6 c7 c8 c9) (i:Nat) (v:Value) (hv:#[c0,c1,c2,c3,c4,c5,c6,c7,c8,c9][i]?=some v):w.cell? ⟨b,i,none⟩=some v:=by
 unfold World.cell?;rw [h];exact hv
theorem gW.nW (h:gW w b c0 c1 c2 c3 c4 c5 c6 c7 c8 c9):w.cell? ⟨b,0,none⟩=some c0/\w.cell? ⟨b,1,none⟩=some c1/\w.cell? ⟨b,2,none⟩=some c2/\w.cell? ⟨b,3,none⟩=some c3/\w.cell? ⟨b,4,none⟩=some c4/\w.cell? ⟨b,5,none⟩=some c5/\w.cell? ⟨b,6,none⟩=some c6/\w.cell? ⟨b,7,none⟩=some c7/\w.cell? ⟨b,8,none⟩=some c8/\w.cell? ⟨b,9,none⟩=some c9:=⟨h.cell 0 _ rfl,h.cell 1 _ rfl,h.cell 2 _ rfl,h.cell 3 _ rfl,h.cell 4 _ rfl,h.cell 5 _ rfl,h.cell 6 _ rfl,h.cell 7 _ rfl,h.cell 8 _ rfl,h.cell 9 _ rfl⟩
theorem gW.ax (h:gW w b c0 c1 c2 c3 c4 c5 c6 c7 c8 c9) (i:Nat):w.frozen? ⟨b,i,none⟩=false:=by
 unfold World.frozen?;rw [h];simp
theorem gW.keep (h:gW w b c0 c1 c2 c3 c4 c5 c6 c7 c8 c9) (hk:w'.heap[b]?=w.heap[b]?):gW w' b c0 c1 c2 c3 c4 c5 c6 c7 c8 c9:=by unfold gW at *;rw [hk];exact h
theorem gW.lt (h:gW w b c0 c1 c2 c3 c4 c5 c6 c7 c8 c9):b<w.heap.size:=(gX.1 h).1
theorem gW.on (h:gW w b c0 c1 c2 c3 c4 c5 c6 c7 c8 c9) (hb:AS w w'):gW w' b c0 c1 c2 c3 c4 c5 c6 c7 c8 c9:=h.keep (hb.block b h.lt)
theorem gW.new (hp:b=w.heap.size):gW (w.alloc (.cells #[c0,c1,c2,c3,c4,c5,c6,c7,c8,c9] 32)) b c0 c1 c2 c3 c4 c5 c6 c7 c8 c9:=by
 subst hp;exact heap_alloc_new w _
theorem gW.set2 (h:gW w b c0 c1 c2 c3 c4 c5 c6 c7 c8 c9) (v:Value):gW (w.setCell ⟨b,2,none⟩ v) b c0 c1 v c3 c4 c5 c6 c7 c8 c9:=heap_setCell_same w b 2 _ _ v h
theorem gW.Ba (h:gW w b c0 c1 c2 c3 c4 c5 c6 c7 c8 c9) (v:Value):gW (w.setCell ⟨b,5,none⟩ v) b c0 c1 c2 c3 c4 v c6 c7 c8 c9:=heap_setCell_same w b 5 _ _ v h
end fG
end au
namespace au
def yT {α:Type} (f:α->Nat) (x:Ins α):Nat:=1+x.labels.length / 10+f x.body+f x.els
def yU {α:Type} (f:α->Nat):List (Ins α)->Nat
 | []=>0
 | x :: r=>yT f x+yU f r
def wt:(d:Nat)->IL d->Nat
 | 0,_=>0
 | d+1,l=>yU (wt d) l
theorem LX:∀(d:Nat) (l:IL d),size d l=0->wt d l=0
 | 0,_,_=>rfl
 | d+1,l,h=>by
  have:(show List (Ins (IL d)) from l) = []:=iZ.1 h
  show yU (wt d) (show List (Ins (IL d)) from l)=0;rw [this];rfl
theorem aeP {α:Type} {sz:α->Nat} {f:α->Int->Int} {g:α->Nat} (h0:∀y,sz y=0->g y=0) (hf:∀y c,0<=c->0<=f y c->f y c=c+(g y:Int)) (x:Ins α) (c:Int) (hc:0<=c) (h:0<=jG sz f x c):jG sz f x c=c+(yT g x:Int):=by
 obtain ⟨c2,hc2⟩:∃c2,c2=c+(1+(x.labels.length:Int) / 10):=⟨_,rfl⟩;obtain ⟨r1,hr1⟩:∃r1,r1=(if sz x.body=0 then c2 else f x.body c2):=⟨_,rfl⟩
 have e:jG sz f x c=(if 1500<c2 then -1 else if r1<0 then r1 else if sz x.els=0 then r1 else f x.els r1):=by
  subst hr1;subst hc2;rfl
 rw [e] at h ⊢;unfold yT;by_cases h1:1500<c2
 ·rw [AE h1] at h;omega
 rw [AD h1] at h ⊢;by_cases h2:r1<0
 ·rw [AE h2] at h;omega
 rw [AD h2] at h ⊢
 have hb:r1=c2+(g x.body:Int):=by
  by_cases hz:sz x.body=0
  ·rw [AE hz] at hr1;rw [h0 _ hz];omega
  rw [AD hz] at hr1;rw [hr1];exact hf _ _ (by omega) (by omega)
 by_cases h3:sz x.els=0
 ·rw [AE h3]
  have:=h0 _ h3
  omega
 rw [AD h3] at h ⊢
 have:=hf _ _ (by omega) h
 omega
theorem TE {α:Type} {sz:α->Nat} {f:α->Int->Int} {g:α->Nat} (h0:∀y,sz y=0->g y=0) (hf:∀y c,0<=c->0<=f y c->f y c=c+(g y:Int)):∀(l:List (Ins α)) (c:Int),0<=c->0<=fZ sz f l c->fZ sz f l c=c+(yU g l:Int)
 | [],c,_,_=>by show c=c+((0:Nat):Int);omega
 | x :: r,c,hc,h=>by
  have e:fZ sz f (x :: r) c=fZ sz f r (jG sz f x c):=by show (if c<0 then c else _)=_;rw [AD (by omega)]
  rw [e] at h ⊢
  have hs:0<=jG sz f x c:=by
   by_cases hs:jG sz f x c<0
   ·rw [zU _ hs] at h;exact h
   omega
  have h1:=aeP h0 hf x c hc hs;have h2:=TE h0 hf r _ hs h;rw [h2];show _=c+((yT g x+yU g r:Nat):Int);omega
theorem Pg:∀(d:Nat) (l:IL d) (deep:Nat) (n:Int),0<=n->0<=fH d l deep n->fH d l deep n=n+(wt d l:Int)
 | 0,l,deep,n,hn,h=>by
  have e:fH 0 l deep n=if n<0\/80<deep then -1 else n:=rfl;rw [e] at h ⊢;by_cases hd:n<0\/80<deep
  ·rw [AE hd] at h;omega
  rw [AD hd];show n=n+((0:Nat):Int);omega
 | d+1,l,deep,n,hn,h=>by
  have e:fH (d+1) l deep n=if n<0\/80<deep then -1 else fZ (size d) (λy c=>fH d y (deep+1) c) l n:=rfl;rw [e] at h ⊢;by_cases hd:n<0\/80<deep
  ·rw [AE hd] at h;omega
  rw [AD hd] at h ⊢;exact TE (g:=wt d) (LX d) (λy c hc hy=>Pg d y (deep+1) c hc hy) l n hn h
theorem TF {α β:Type} {f:α->Nat} {g:β->Nat}:∀(l:List (Ins α)) (k:List (Ins β)),l.length=k.length->(∀(i:Nat) (x:Ins α) (y:Ins β),l[i]?=some x->k[i]?=some y->yT f x=yT g y)->yU f l=yU g k
 | [],[],_,_=>rfl
 | [],_ :: _,h,_=>by simp at h
 | _ :: _,[],h,_=>by simp at h
 | x :: r,y :: s,h,he=>by
  show yT f x+yU f r=yT g y+yU g s;rw [he 0 x y rfl rfl,TF r s (by simpa using h) (λi a b ha hb=>he (i+1) a b (by simpa using ha) (by simpa using hb))]
theorem J3 {w:AG}:∀(d e:Nat) (v:Value) (l:IL d) (k:IL e),At w d v l->At w e v k->wt d l=wt e k
 | 0,e,v,l,k,hl,hk=>by
  obtain ⟨o,cap,rfl⟩:=hl;obtain ⟨o',cap',h⟩:=At.len e _ _ hk;injection h with _ h2 _;rw [LX e k h2.symm];rfl
 | d+1,0,v,l,k,hl,hk=>by
  obtain ⟨o,cap,rfl⟩:=hk;obtain ⟨o',cap',h⟩:=At.len (d+1) _ _ hl;injection h with _ h2 _;rw [LX (d+1) l h2.symm];rfl
 | d+1,e+1,v,l,k,hl,hk=>by
  have hl':Row 7 (fM w (At w d)) v (show List (Ins (IL d)) from l):=hl;have hk':Row 7 (fM w (At w e)) v (show List (Ins (IL e)) from k):=hk;obtain ⟨o1,kG,hv1⟩:=Row.len hl';obtain ⟨o2,cap2,hv2⟩:=Row.len hk';have ma:=hv1;rw [hv2] at ma;injection ma with _ hlen _;refine TF (show List (Ins (IL d)) from l) (show List (Ins (IL e)) from k) hlen.symm λi x y hx hy=>?_;have hi:i<(show List (Ins (IL d)) from l).length:=(gq.1 hx).1;obtain ⟨b,off,cap,hv,hc⟩:=Row.some hl' (by omega);obtain ⟨b',off',cap',hv',hc'⟩:=Row.some hk' (by omega);rw [hv] at hv';injection hv' with ha _ _;injection ha with ha;injection ha with hb ho _;subst hb ho;have hX:=hc i x hx;have hY:=hc' i y hy;obtain ⟨v4,c4,a4⟩:=hX.labels;obtain ⟨v5,c5,a5⟩:=hX.body;obtain ⟨v6,c6,a6⟩:=hX.els;obtain ⟨u4,d4,b4⟩:=hY.labels;obtain ⟨u5,d5,b5⟩:=hY.body;obtain ⟨u6,d6,b6⟩:=hY.els;have e4:v4=u4:=by rw [c4] at d4;exact Option.some.inj d4
  have e5:v5=u5:=by rw [c5] at d5;exact Option.some.inj d5
  have e6:v6=u6:=by rw [c6] at d6;exact Option.some.inj d6
  subst e4 e5 e6;obtain ⟨p1,q1,g1⟩:=Row.len a4;obtain ⟨p2,q2,g2⟩:=Row.len b4;rw [g1] at g2;injection g2 with _ g3 _;unfold yT;rw [g3,J3 d e v5 _ _ a5 b5,J3 d e v6 _ _ a6 b6]
end au
def gave (k:Int):List PanicEntry:=[{ v:=.iface 43 (.int .i64 k),recovered:=false }]
def Dj (ok:Bool) (k:Int) (e:Ending):Prop:=(ok=true/\e=.returned (.tuple #[]))\/(ok=false/\e=.panicked (gave k))
theorem Dj.yes {k:Int} {e:Ending} (h:Dj true k e):e=.returned (.tuple #[]):=by rcases h with ⟨_,h⟩|⟨h,_⟩;exact h;cases h
theorem Dj.no {k:Int} {e:Ending} (h:Dj false k e):e=.panicked (gave k):=by rcases h with ⟨h,_⟩|⟨_,h⟩;cases h;exact h
set_option linter.unusedVariables false
namespace au
structure Sn where
 op:Int
 a:Int
 b:Int
 n:Int
 labels:List Int
 nb:Nat
 ne:Nat
def sn {d:Nat} (x:Ins (IL d)):Sn:=⟨x.op,x.a,x.b,x.n,x.labels,size d x.body,size d x.els⟩
def vK {α σ:Type} (step:σ->Ins α->Option σ) (sub:α->σ->Option σ):List (Ins α)->σ->Option σ
 | [],s=>some s
 | x :: r,s=>(step s x).bind λs1=>(sub x.body s1).bind λs2=>(sub x.els s2).bind λs3=>vK step sub r s3
def lj {σ:Type} (step:σ->Sn->Nat->Option σ):(d:Nat)->IL d->Nat->σ->Option σ
 | 0,_,_,s=>some s
 | d+1,l,k,s=>vK (λs x=>step s (sn x) k) (λy s=>lj step d y (k+1) s) l s
def rest {σ:Type} (step:σ->Sn->Nat->Option σ) (d:Nat) (l:List (Ins (IL d))) (k j:Nat) (s:σ):Option σ :=
 vK (λs x=>step s (sn x) k) (λy s=>lj step d y (k+1) s) (l.drop j) s
structure Kp (S:Nat->Prop) (w w':AG):Prop where
 os:w'.os=w.os
 tape:w'.tape=w.tape
 output:w'.output=w.output
 size:w.heap.size<=w'.heap.size
 block:∀k,k<w.heap.size->¬ S k->w'.heap[k]?=w.heap[k]?
theorem Kp.refl (S:Nat->Prop) (w:AG):Kp S w w:=⟨rfl,rfl,rfl,aC _,λ_ _ _=>rfl⟩
theorem Kp.trans {S:Nat->Prop} {a b c:AG} (h:Kp S a b) (k:Kp S b c):Kp S a c :=
 ⟨k.os.trans h.os,k.tape.trans h.tape,k.output.trans h.output,eU h.size k.size,λi hi hs=>(k.block i (jg hi h.size) hs).trans (h.block i hi hs)⟩
theorem Kp.of_below {S:Nat->Prop} {a b:AG} (h:AS a b):Kp S a b:=⟨h.os,h.tape,h.output,h.size,λi hi _=>h.block i hi⟩
theorem Kp.alloc {S:Nat->Prop} {a b:AG} (h:Kp S a b) (o:Obj):Kp S a (b.alloc o):=h.trans (Kp.of_below ((AC _ b).alloc (aC _) o))
theorem Kp.below {S:Nat->Prop} {w0 a b:AG} (hS:∀k,S k->w0.heap.size<=k) (h0:AS w0 a) (h:Kp S a b):AS w0 b :=
 h0.trans ⟨h.os,h.tape,h.output,h.size,λk hk=>h.block k (jg hk h0.size) λhs=>absurd (hS k hs) (by omega)⟩
theorem Kp.cell {S:Nat->Prop} {a b:AG} (h:Kp S a b) {p:Addr} (hp:p.block<a.heap.size) (hs:¬ S p.block):b.cell? p=a.cell? p:=World.cell?_of_block (w:=a) (h.block p.block hp hs)
theorem aaH (w:AG) (xs:Array Value) (t:TypeId) (i:Nat) (v:Value) (h:xs[i]?=some v):(w.alloc (.cells xs t)).cell? ⟨w.heap.size,i,none⟩=some v:=by
 rw [World.cell?_alloc_at xs t _ i rfl];exact h
end au
namespace au
def few (n:Int):Bool:=decide (n<=4096)
end au
namespace au
theorem acO (w:AG) (t:TypeId) (b cap:Nat) (zs:List Int) (hb:b=w.heap.size) (hl:zs.length<=9223372036854775807):Ints (w.alloc (.cells (zs.map λz=>Value.int .i64 z).toArray t)) (.slice (some ⟨b,0,none⟩) zs.length cap) zs:=by
 refine ⟨hl,.inr ⟨b,0,cap,rfl,λi x hi=>?_⟩⟩;show (w.alloc (.cells (zs.map λz=>Value.int .i64 z).toArray t)).cell? ⟨b,0+i*1,none⟩=_;rw [World.cell?_alloc_at _ t _ _ hb];simp [hi]
end au
def Br (_:Unit) (x:Sn) (_:Nat):Option Unit:=if few x.labels.length=true then some () else none
def Cr (_:Unit) (_:Sn) (k:Nat):Option Unit:=if k<=64 then some () else none
def og (c:Nat) (_:Sn) (_:Nat):Option Nat:=if c+1<=65536 then some (c+1) else none
namespace au
def bV (a b n:Int) (nl nb ne:Nat):Bool:=decide (a=0/\b=0/\n=0/\nl=0/\nb=0/\ne=0)
def res (a:Int):Bool:=decide (a=0) || typ a
end au
end Go.Proofs.YtcfifbgemfladaaGreatDoor
namespace Go.Proofs.YtcfifbgemfladaaGreatDoor
open Go.RowKit au Go.Proofs.Tryz
set_option linter.unusedVariables false
structure Wq (I:AG->Prop):Prop where
 keep:∀ {w w':AG},AS w w'->I w->I w'
 form:∀(op:Int) (w:AG),I w->Calls prog 111 #[.int .i64 op] w λe w'=>e=.returned (.int .i64 (form op))/\AS w w'
end Go.Proofs.YtcfifbgemfladaaGreatDoor
namespace Go.Proofs.YtcfifbgemfladaaGreatDoor
open Go.RowKit au
set_option linter.unusedVariables false
namespace au
def okF (f op a b n:Int) (ls:List Int) (nb ne:Nat):Bool :=
 if f=1 then bV a b n ls.length nb ne
 else if f=2 then res a&&bV 0 b n ls.length 0 ne
 else if f=3 then res a&&bV 0 b n ls.length 0 0
 else if f=4\/f=6\/f=7 then idx a&&bV 0 b n ls.length nb ne
 else if f=5 then idx a&&ls.all idx&&bV 0 b n 0 nb ne
 else if f=8 then (idx a&&idx b)&&bV 0 0 n ls.length nb ne
 else if f=9 then (op==66 || (decide (-2147483648<=n)&&decide (n<=2147483647)))&&bV a b 0 ls.length nb ne
 else false
structure Two (w:AG) (op a b n:Int) (lv bv ev:Value) (u:AG):Prop where
 c0:u.cell? ⟨w.heap.size,0,none⟩=some (.int .i64 op)
 c1:u.cell? ⟨w.heap.size,1,none⟩=some (.int .i64 a)
 c2:u.cell? ⟨w.heap.size,2,none⟩=some (.int .i64 b)
 c3:u.cell? ⟨w.heap.size,3,none⟩=some (.int .i64 n)
 c4:u.cell? ⟨w.heap.size,4,none⟩=some lv
 c5:u.cell? ⟨w.heap.size,5,none⟩=some bv
 c6:u.cell? ⟨w.heap.size,6,none⟩=some ev
 e0:u.cell? ⟨w.heap.size+1,0,none⟩=some (.int .i64 op)
 e1:u.cell? ⟨w.heap.size+1,1,none⟩=some (.int .i64 a)
 e2:u.cell? ⟨w.heap.size+1,2,none⟩=some (.int .i64 b)
 e3:u.cell? ⟨w.heap.size+1,3,none⟩=some (.int .i64 n)
 e4:u.cell? ⟨w.heap.size+1,4,none⟩=some lv
 e5:u.cell? ⟨w.heap.size+1,5,none⟩=some bv
 e6:u.cell? ⟨w.heap.size+1,6,none⟩=some ev
 fz:∀i,u.frozen? ⟨w.heap.size+1,i,none⟩=false
 bQ:AS w u
 sz:w.heap.size+2<=u.heap.size
theorem Two.on {w : AG} {op a b n : Int} {lv bv ev : Value} {u u' : AG} (hb : AS u u') (h : Two w op a b n lv bv ev u) : Two w op a b n lv bv ev u' :=
  ⟨ak hb h.c0, ak hb h.c1, ak hb h.c2, ak hb h.c3, ak hb h.c4, ak hb h.c5, ak hb h.c6,
   ak hb h.e0, ak hb h.e1, ak hb h.e2, ak hb h.e3, ak hb h.e4, ak hb h.e5, ak hb h.e6,
   λi => (hb.frozen (p := ⟨w.heap.size + 1, i, none⟩) (by have := h.sz; show w.heap.size + 1 < _; omega)).trans (h.fz i), h.bQ.trans (hb.mono h.bQ.size), eU h.sz hb.size⟩
theorem Two.start (w:AG) (t:TypeId) (op a b n:Int) (lv bv ev:Value) :
  Two w op a b n lv bv ev ((w.alloc (.cells #[.int .i64 op,.int .i64 a,.int .i64 b,.int .i64 n,lv,bv,ev] t)).alloc (.cells #[.int .i64 op,.int .i64 a,.int .i64 b,.int .i64 n,lv,bv,ev] t)):=by
 refine ⟨?_,?_,?_,?_,?_,?_,?_,?_,?_,?_,?_,?_,?_,?_,?_,((AC _ w).alloc (aC _) _).alloc (by simp) _,by simp⟩
 all_goals first
  | (rw [World.cell?_alloc_past _ _ _ (by simp),World.cell?_alloc_at _ t _ _ rfl];rfl)
  | (rw [World.cell?_alloc_at _ t _ _ (by simp)];rfl)
  | (intro i;rw [World.frozen?_alloc_at _ t _ _ (by simp)])
theorem mJ {w u v:AG} (h:AS w u) (k:AS u v):AS w v:=h.trans (k.mono h.size)
end au
def FR (f:Int):Prop:=f=0\/f=1\/f=2\/f=3\/f=4\/f=5\/f=6\/f=7\/f=8\/f=9\/f=10
theorem Xn {p:Prop} [Decidable p] {a b:Int} (ha:FR a) (hb:FR b):FR (if p then a else b):=by split;exact ha;exact hb
theorem Xo (op:Int):FR (form op):=by
 unfold form
 repeat refine Xn (by unfold FR;decide) ?_
 unfold FR;decide
set_option linter.unusedVariables false
namespace au
def pU {σ:Type} (step:σ->Sn->Nat->Option σ) (d:Nat):List (fF d)->σ->Option σ
 | [],s=>some s
 | f :: r,s=>(lj step d f.body 0 s).bind λs1=>pU step d r s1
def xy (v:Value):Prop:=∃o n c,v=.slice o n c
def PI (v0 v1 v3 v4 v5 v6 v7 v8 v9:Value):Prop:=xy v0/\xy v1/\xy v3/\xy v4/\xy v5/\xy v6/\xy v7/\xy v8/\xy v9
theorem Row.slice {α:Type} {size:Nat} {f:Nat->Nat->α->Prop} {v:Value} {l:List α} (h:Row size f v l):xy v:=let ⟨o,c,e⟩:=Row.len h;⟨o,l.length,c,e⟩
theorem iG.ten {w:AG} {d:Nat} {v0 v1 v2 v3 v4 v5 v6 v7 v8 v9:Value} {m:Mod d} (h:iG w d v0 v1 v2 v3 v4 v5 v6 v7 v8 v9 m):PI v0 v1 v3 v4 v5 v6 v7 v8 v9 :=
 ⟨h.types.slice,h.imports.slice,h.tables.slice,h.aF.slice,h.globals.slice,h.exports.slice,Row.slice h.start,h.elems.slice,h.aA.slice⟩
end au
set_option linter.unusedVariables false
set_option linter.unusedVariables false
set_option linter.unusedVariables false
namespace au
def nO (x:Sn):Bool:=okF (form x.op) x.op x.a x.b x.n x.labels x.nb x.ne
def rG (op:Int):Bool:=op==65 || op==66 || op==35
end au
def sZ (_:Unit) (x:Sn) (_:Nat):Option Unit:=if nO x=true then some () else none
namespace au
end au
namespace au
structure jC (w:AG) (v0 v1 v2 v3 v4 v5 v6 v7 v8 v9:Value) (u:AG):Prop where
 c0:u.cell? ⟨w.heap.size,0,none⟩=some v0
 c1:u.cell? ⟨w.heap.size,1,none⟩=some v1
 c2:u.cell? ⟨w.heap.size,2,none⟩=some v2
 c3:u.cell? ⟨w.heap.size,3,none⟩=some v3
 c4:u.cell? ⟨w.heap.size,4,none⟩=some v4
 c5:u.cell? ⟨w.heap.size,5,none⟩=some v5
 c6:u.cell? ⟨w.heap.size,6,none⟩=some v6
 c7:u.cell? ⟨w.heap.size,7,none⟩=some v7
 c8:u.cell? ⟨w.heap.size,8,none⟩=some v8
 c9:u.cell? ⟨w.heap.size,9,none⟩=some v9
 bQ:AS w u
theorem jC.on {w:AG} {v0 v1 v2 v3 v4 v5 v6 v7 v8 v9:Value} {u u':AG} (hb:AS u u') (h:jC w v0 v1 v2 v3 v4 v5 v6 v7 v8 v9 u):jC w v0 v1 v2 v3 v4 v5 v6 v7 v8 v9 u' :=
 ⟨ak hb h.c0,ak hb h.c1,ak hb h.c2,ak hb h.c3,ak hb h.c4,ak hb h.c5,ak hb h.c6,ak hb h.c7,ak hb h.c8,ak hb h.c9,h.bQ.trans (hb.mono h.bQ.size)⟩
theorem jC.start (w:AG) (t:TypeId) (v0 v1 v2 v3 v4 v5 v6 v7 v8 v9:Value):jC w v0 v1 v2 v3 v4 v5 v6 v7 v8 v9 (w.alloc (.cells #[v0,v1,v2,v3,v4,v5,v6,v7,v8,v9] t)):=by
 refine ⟨?_,?_,?_,?_,?_,?_,?_,?_,?_,?_,(AC _ w).alloc (aC _) _⟩
 all_goals exact aaH _ _ _ _ _ rfl
theorem jC.new {w:AG} {v0 v1 v2 v3 v4 v5 v6 v7 v8 v9:Value} {u:AG} (h:jC w v0 v1 v2 v3 v4 v5 v6 v7 v8 v9 u) (o:Obj):jC w v0 v1 v2 v3 v4 v5 v6 v7 v8 v9 (u.alloc o):=h.on ((AC _ u).alloc (aC _) o)
def room {d:Nat}:Nat->List (Dat d)->Bool
 | _,[]=>true
 | r,x :: t=>decide (x.bytes.size<=r)&&room (r-x.bytes.size) t
theorem room_end {d r j:Nat} {l:List (Dat d)} (h:l.length<=j):room r (l.drop j)=true:=by rw [List.drop_of_length_le h];cases r<;>rfl
theorem Zo {d r j:Nat} {l:List (Dat d)} {x:Dat d} (hx:l[j]?=some x):room r (l.drop j)=(decide (x.bytes.size<=r)&&room (r-x.bytes.size) (l.drop (j+1))):=by
 have hl:j<l.length:=(gq.1 hx).1;have he:l[j]=x:=(gq.1 hx).2;rw [nN hl,he];cases r<;>rfl
def GA (t:FT):Bool:=few t.params.length&&(few t.results.length&&true)
def JM {d:Nat} (f:fF d):Bool:=decide ((f.locals.length:Int)<=256)
def GD {d:Nat} (e:lX d):Bool:=few e.funcs.length&&true
def Gz (n:Int):Bool:=decide (n<=1)
def len {α:Type} (l:List α):Int:=l.length
def qW {d:Nat} (m:Mod d):Bool :=
 [len m.types,len m.imports,len m.funcs,len m.tables,len m.aF].all few&&([len m.globals,len m.exports,len m.elems,len m.aA].all few&&(Gz (len m.start) &&
  (m.types.all GA&&(m.funcs.all JM&&(m.elems.all GD&&room 262144 m.aA)))))
end au
end Go.Proofs.YtcfifbgemfladaaGreatDoor
