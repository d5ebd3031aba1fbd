/- Texts that the claim needs. -/
import Derived.Test.YtlcpagiljfpbpaaDoorQEJo9
import Derived.Test.YtlcpagiljfpbpaaDoorQEJo7
namespace Go.Proofs.YtlcpagiljfpbpaaDoor
open Go.RowKit Rep
set_option linter.unusedVariables false
namespace Rep
def Sub (w w':World):Prop:=∀b o u,w.cell? ⟨b,o,none⟩=.some u->w'.cell? ⟨b,o,none⟩=.some u
theorem Sub.refl (w:World):Sub w w:=fun _ _ _ h=>h
theorem Sub.trans {w1 w2 w3:World} (h:Sub w1 w2) (h':Sub w2 w3):Sub w1 w3:=fun b o u e=>h' b o u (h b o u e)
section On
variable {w w':World} (hb:Sub w w')
include hb
theorem Ints.sub {v:Value} {l:List Int} (h:Ints w v l):Ints w' v l:=Row.imp h fun _ _ _ _ h=>hb _ _ _ h
theorem InsAt.sub {α : Type} {f g : Value → α → Prop} (hfg : ∀ v x, f v x → g v x) {b o : Nat} {x : Ins α} (h : InsAt w f b o x) : InsAt w' g b o x :=
  ⟨hb _ _ _ h.op, hb _ _ _ h.a, hb _ _ _ h.b, hb _ _ _ h.n,
   let ⟨v, h1, h2⟩ := h.labels; ⟨v, hb _ _ _ h1, h2.sub hb⟩,
   let ⟨v, h1, h2⟩ := h.body; ⟨v, hb _ _ _ h1, hfg _ _ h2⟩,
   let ⟨v, h1, h2⟩ := h.els; ⟨v, hb _ _ _ h1, hfg _ _ h2⟩⟩
theorem At.sub:∀(d:Nat) (v:Value) (l:IL d),At w d v l->At w' d v l
 | 0,_,_,h=>h
 | d+1,_,_,h=>Row.imp (α:=Ins (IL d)) h fun _ _ _ _ h=>h.sub hb (At.sub d)
theorem FTAt.sub {bk o:Nat} {x:FT} (h:FTAt w bk o x):FTAt w' bk o x :=
 ⟨let ⟨v,a,b⟩:=h.params;⟨v,hb _ _ _ a,b.sub hb⟩,let ⟨v,a,b⟩:=h.results;⟨v,hb _ _ _ a,b.sub hb⟩⟩
theorem ImpAt.sub {bk o:Nat} {x:Imp} (h:ImpAt w bk o x):ImpAt w' bk o x:=⟨hb _ _ _ h.mod,hb _ _ _ h.name,hb _ _ _ h.type⟩
theorem FunAt.sub {d bk o:Nat} {x:Fun d} (h:FunAt w d bk o x):FunAt w' d bk o x :=
 ⟨hb _ _ _ h.type,let ⟨v,a,b⟩:=h.locals;⟨v,hb _ _ _ a,b.sub hb⟩,let ⟨v,a,b⟩:=h.body;⟨v,hb _ _ _ a,At.sub hb d v _ b⟩⟩
theorem LimAt.sub {bk o:Nat} {x:Lim} (h:LimAt w bk o x):LimAt w' bk o x:=⟨hb _ _ _ h.min,hb _ _ _ h.max,hb _ _ _ h.has⟩
theorem GloAt.sub {d bk o:Nat} {x:Glo d} (h:GloAt w d bk o x):GloAt w' d bk o x:=⟨hb _ _ _ h.type,hb _ _ _ h.mtb,h.init.sub hb (At.sub hb d)⟩
theorem ExpAt.sub {bk o:Nat} {x:Exp} (h:ExpAt w bk o x):ExpAt w' bk o x:=⟨hb _ _ _ h.name,hb _ _ _ h.kind,hb _ _ _ h.index⟩
theorem ElmAt.sub {d bk o:Nat} {x:Elm d} (h:ElmAt w d bk o x):ElmAt w' d bk o x:=⟨h.offset.sub hb (At.sub hb d),let ⟨v,a,b⟩:=h.funcs;⟨v,hb _ _ _ a,b.sub hb⟩⟩
theorem DatAt.sub {d bk o:Nat} {x:Dat d} (h:DatAt w d bk o x):DatAt w' d bk o x:=⟨h.offset.sub hb (At.sub hb d),hb _ _ _ h.bytes⟩
end On
def only (w:World) (S:Nat->Bool):World:={ w with heap:=w.heap.mapIdx fun i x=>if S i then x else .cells #[] 0 (0,0) }
theorem only_block (w:World) (S:Nat->Bool) (k:Nat):(only w S).heap[k]?=(w.heap[k]?).map fun x=>if S k then x else .cells #[] 0 (0,0):=by
 unfold only;simp [Array.getElem?_mapIdx]
theorem only_cell {w:World} {S:Nat->Bool} {b o:Nat} {u:Value}:(only w S).cell? ⟨b,o,none⟩=.some u↔S b=true/\w.cell? ⟨b,o,none⟩=.some u:=by
 unfold World.cell?
 rw [only_block]
 cases hs:S b with
 | true=>simp
 | false =>
  cases w.heap[b]? with
  | none=>simp
  | some x=>simp
theorem sub_only {w w':World} {S S':Nat->Bool} (h:∀k,k<w.heap.size->S k=true->S' k=true/\w'.heap[k]?=w.heap[k]?):Sub (only w S) (only w' S'):=fun b o u hu=>by
 obtain ⟨h1,h2⟩:=only_cell.1 hu
 obtain ⟨h3,h4⟩:=h b (World.block_lt_of_cell? _ _ h2) h1
 exact only_cell.2 ⟨h3,(World.cell?_of_block (a:=⟨b,o,none⟩) h4).trans h2⟩
structure Piece {α:Type} (R:World) (c:Nat) (f:World->Nat->Nat->α->Prop) (x:α) (cs:List Value):Prop where
 len:cs.length=c
 one:∀u ∈ cs,u.oneCell'=true
 lay:∀R' b o,Sub R R'->(∀k u,cs[k]?=.some u->R'.cell? ⟨b,o+k,none⟩=.some u)->f R' b o x
theorem Piece.sub {α:Type} {R R2:World} {c:Nat} {f:World->Nat->Nat->α->Prop} {x:α} {cs:List Value} (h:Piece R c f x cs) (hs:Sub R R2):Piece R2 c f x cs :=
 ⟨h.len,h.one,fun R' b o h' hc=>h.lay R' b o (hs.trans h') hc⟩
def flat {α:Type} (ps:List (α × List Value)):List Value:=ps.flatMap (·.2)
theorem flat_len {α:Type} {c:Nat}:∀ps:List (α × List Value),(∀p ∈ ps,p.2.length=c)->(flat ps).length=ps.length*c
 | [],_=>by simp [flat]
 | p :: r,h=>by
  show (p.2++flat r).length=(r.length+1)*c
  rw [List.length_append,flat_len r fun q hq=>h q (List.mem_cons_of_mem _ hq),h p (List.mem_cons_self ..),Nat.add_mul]
  omega
theorem flat_get {α:Type} {c:Nat}:∀(ps:List (α × List Value)),(∀p ∈ ps,p.2.length=c)->∀(i:Nat) (p:α × List Value),ps[i]?=.some p->∀k u,p.2[k]?=.some u->(flat ps)[i*c+k]?=.some u
 | [],_,_,_,h,_,_,_=>by simp at h
 | q :: r,hl,0,p,h,k,u,hu=>by
  have:q=p:=by simpa using h
  subst this
  show (q.2++flat r)[0*c+k]?=.some u
  have hk:k<q.2.length:=(List.getElem?_eq_some_iff.1 hu).1
  rw [Nat.zero_mul,Nat.zero_add,List.getElem?_append_left hk]
  exact hu
 | q :: r,hl,i+1,p,h,k,u,hu=>by
  have h':r[i]?=.some p:=by simpa using h
  have hq:q.2.length=c:=hl q (List.mem_cons_self ..)
  show (q.2++flat r)[(i+1)*c+k]?=.some u
  have e:(i+1)*c+k=c+(i*c+k):=by rw [Nat.add_mul];omega
  rw [List.getElem?_append_right (by omega),show (i+1)*c+k-q.2.length=i*c+k by omega]
  exact flat_get r (fun p hp=>hl p (List.mem_cons_of_mem _ hp)) i p h' k u hu
theorem row_of_own {α:Type} {w:World} {B:Nat} {e:TypeId} {c:Nat} {t:Value} {f:World->Nat->Nat->α->Prop} {S S':Nat->Bool} (ps:List (α × List Value)) (ho:w.ownsRow B e c t ps.length (flat ps)) (hp:∀p ∈ ps,Piece (only w S) c f p.1 p.2)
  (hS:∀k,S k=true->S' k=true) (ht:∀g,t.ownBlock=some g->S' g=true) (hn:ps.length<=9223372036854775807):Row c (f (only w S')) t (ps.map (·.1)):=by
 refine ⟨by rw [List.length_map];exact hn,?_⟩
 rcases ho.2 with ⟨rfl,h0⟩|⟨g,cap,cur,rfl,hbg,hg,_,_,_,_⟩
 ·have:ps = []:=List.length_eq_zero_iff.1 h0
  subst this
  exact .inl ⟨rfl,none,0,rfl⟩
 ·refine .inr ⟨g,0,cap,by rw [List.length_map],fun i x hx=>?_⟩
  rw [List.getElem?_map] at hx
  obtain ⟨p,hpi,rfl⟩:=Option.map_eq_some_iff.1 hx
  refine (hp p (List.mem_of_getElem? hpi)).lay _ _ _ (sub_only fun k _ hk=>⟨hS k hk,rfl⟩) fun k u hu=>?_
  have:=ho.cells (g:=g) rfl (i*c+k) u (flat_get ps (fun p hp'=>(hp p hp').len) i p hpi k u hu)
  rw [add_addr] at this
  refine only_cell.2 ⟨ht g rfl,?_⟩
  rw [Nat.add_assoc];exact this
def sel (B b:Nat) (t:Value) (k:Nat):Bool:=decide (B<=k) && (k != b) && (t.ownBlock != some k)
theorem sel_iff {B b:Nat} {t:Value} {k:Nat}:sel B b t k=true↔B<=k/\k≠b/\t.ownBlock≠some k:=by
 unfold sel;simp [and_assoc]
theorem sub_below {B b:Nat} {t:Value} {w w':World} (hb:Below w.heap.size w w'):Sub (only w (sel B b t)) (only w' (sel B b t)):=sub_only fun k hk hs=>⟨hs,hb.block k hk⟩
theorem sub_set {B b i:Nat} {t u:Value} {w:World}:Sub (only w (sel B b t)) (only (w.setCell ⟨b,i,none⟩ u) (sel B b t)):=sub_only fun k hk hs=>⟨hs,Below.heap_setCell _ _ _ _ (by show k≠b;exact (sel_iff.1 hs).2.1)⟩
section App
variable {P:Program}
end App
end Rep
end Go.Proofs.YtlcpagiljfpbpaaDoor

namespace Go.Proofs.YtlcpagiljfpbpaaDoor
open Go.RowKit Rep
set_option linter.unusedVariables false
namespace Rep
def wtI {α:Type} (f:α->Nat) (x:Ins α):Nat:=1+x.labels.length / 10+f x.body+f x.els
def wtL {α:Type} (f:α->Nat):List (Ins α)->Nat
 | []=>0
 | x :: r=>wtI f x+wtL f r
def wt:(d:Nat)->IL d->Nat
 | 0,_=>0
 | d+1,l=>wtL (wt d) l
theorem wt_none:∀(d:Nat) (l:IL d),size d l=0->wt d l=0
 | 0,_,_=>rfl
 | d+1,l,h=>by
  have:(show List (Ins (IL d)) from l) = []:=List.length_eq_zero_iff.1 h
  show wtL (wt d) (show List (Ins (IL d)) from l)=0
  rw [this];rfl
theorem wStep_wt {α:Type} {sz:α->Nat} {f:α->Int->Int} {g:α->Nat} (h0:∀y,sz y=0->g y=0) (hf:∀y c,0<=c->0<=f y c->f y c=c+(g y:Int)) (x:Ins α) (c:Int) (hc:0<=c) (h:0<=wStep sz f x c):wStep sz f x c=c+(wtI g x:Int):=by
 obtain ⟨c2,hc2⟩:∃c2,c2=c+(1+(x.labels.length:Int) / 10):=⟨_,rfl⟩
 obtain ⟨r1,hr1⟩:∃r1,r1=(if sz x.body=0 then c2 else f x.body c2):=⟨_,rfl⟩
 have e:wStep sz f x c=(if 1500<c2 then -1 else if r1<0 then r1 else if sz x.els=0 then r1 else f x.els r1):=by
  subst hr1;subst hc2;rfl
 rw [e] at h ⊢
 unfold wtI
 by_cases h1:1500<c2
 ·rw [if_pos h1] at h;omega
 rw [if_neg h1] at h ⊢
 by_cases h2:r1<0
 ·rw [if_pos h2] at h;omega
 rw [if_neg h2] at h ⊢
 have hb:r1=c2+(g x.body:Int):=by
  by_cases hz:sz x.body=0
  ·rw [if_pos hz] at hr1;rw [h0 _ hz];omega
  ·rw [if_neg hz] at hr1;rw [hr1];exact hf _ _ (by omega) (by omega)
 by_cases h3:sz x.els=0
 ·rw [if_pos h3]
  have:=h0 _ h3
  omega
 ·rw [if_neg h3] at h ⊢
  have:=hf _ _ (by omega) h
  omega
theorem wghL_wt {α:Type} {sz:α->Nat} {f:α->Int->Int} {g:α->Nat} (h0:∀y,sz y=0->g y=0) (hf:∀y c,0<=c->0<=f y c->f y c=c+(g y:Int)):∀(l:List (Ins α)) (c:Int),0<=c->0<=wghL sz f l c->wghL sz f l c=c+(wtL g l:Int)
 | [],c,_,_=>by show c=c+((0:Nat):Int);omega
 | x :: r,c,hc,h=>by
  have e:wghL sz f (x :: r) c=wghL sz f r (wStep sz f x c):=by show (if c<0 then c else _)=_;rw [if_neg (by omega)]
  rw [e] at h ⊢
  have hs:0<=wStep sz f x c:=by
   by_cases hs:wStep sz f x c<0
   ·rw [wghL_neg _ hs] at h;exact h
   ·omega
  have h1:=wStep_wt h0 hf x c hc hs
  have h2:=wghL_wt h0 hf r _ hs h
  rw [h2]
  show _=c+((wtI g x+wtL g r:Nat):Int)
  omega
theorem wgh_wt:∀(d:Nat) (l:IL d) (deep:Nat) (n:Int),0<=n->0<=wgh d l deep n->wgh d l deep n=n+(wt d l:Int)
 | 0,l,deep,n,hn,h=>by
  have e:wgh 0 l deep n=if n<0\/80<deep then -1 else n:=rfl
  rw [e] at h ⊢
  by_cases hd:n<0\/80<deep
  ·rw [if_pos hd] at h;omega
  ·rw [if_neg hd];show n=n+((0:Nat):Int);omega
 | d+1,l,deep,n,hn,h=>by
  have e:wgh (d+1) l deep n=if n<0\/80<deep then -1 else wghL (size d) (fun y c=>wgh d y (deep+1) c) l n:=rfl
  rw [e] at h ⊢
  by_cases hd:n<0\/80<deep
  ·rw [if_pos hd] at h;omega
  ·rw [if_neg hd] at h ⊢
   exact wghL_wt (g:=wt d) (wt_none d) (fun y c hc hy=>wgh_wt d y (deep+1) c hc hy) l n hn h
theorem wtL_eq {α β:Type} {f:α->Nat} {g:β->Nat}:∀(l:List (Ins α)) (k:List (Ins β)),l.length=k.length->(∀(i:Nat) (x:Ins α) (y:Ins β),l[i]?=some x->k[i]?=some y->wtI f x=wtI g y)->wtL f l=wtL g k
 | [],[],_,_=>rfl
 | [],_ :: _,h,_=>by simp at h
 | _ :: _,[],h,_=>by simp at h
 | x :: r,y :: s,h,he=>by
  show wtI f x+wtL f r=wtI g y+wtL g s
  rw [he 0 x y rfl rfl,wtL_eq r s (by simpa using h) (fun i a b ha hb=>he (i+1) a b (by simpa using ha) (by simpa using hb))]
theorem wt_on {w:World}:∀(d e:Nat) (v:Value) (l:IL d) (k:IL e),At w d v l->At w e v k->wt d l=wt e k
 | 0,e,v,l,k,hl,hk=>by
  obtain ⟨o,cap,rfl⟩:=hl
  obtain ⟨o',cap',h⟩:=At.len e _ _ hk
  injection h with _ h2 _
  rw [wt_none e k h2.symm];rfl
 | d+1,0,v,l,k,hl,hk=>by
  obtain ⟨o,cap,rfl⟩:=hk
  obtain ⟨o',cap',h⟩:=At.len (d+1) _ _ hl
  injection h with _ h2 _
  rw [wt_none (d+1) l h2.symm];rfl
 | d+1,e+1,v,l,k,hl,hk=>by
  have hl':Row 7 (InsAt w (At w d)) v (show List (Ins (IL d)) from l):=hl
  have hk':Row 7 (InsAt w (At w e)) v (show List (Ins (IL e)) from k):=hk
  obtain ⟨o1,cap1,hv1⟩:=Row.len hl'
  obtain ⟨o2,cap2,hv2⟩:=Row.len hk'
  have hv3:=hv1
  rw [hv2] at hv3
  injection hv3 with _ hlen _
  refine wtL_eq (show List (Ins (IL d)) from l) (show List (Ins (IL e)) from k) hlen.symm fun i x y hx hy=>?_
  have hi:i<(show List (Ins (IL d)) from l).length:=(List.getElem?_eq_some_iff.1 hx).1
  obtain ⟨b,off,cap,hv,hc⟩:=Row.some hl' (by omega)
  obtain ⟨b',off',cap',hv',hc'⟩:=Row.some hk' (by omega)
  rw [hv] at hv'
  injection hv' with ha _ _
  injection ha with ha
  injection ha with hb ho _
  subst hb ho
  have hX:=hc i x hx
  have hY:=hc' i y hy
  obtain ⟨v4,c4,a4⟩:=hX.labels
  obtain ⟨v5,c5,a5⟩:=hX.body
  obtain ⟨v6,c6,a6⟩:=hX.els
  obtain ⟨u4,d4,b4⟩:=hY.labels
  obtain ⟨u5,d5,b5⟩:=hY.body
  obtain ⟨u6,d6,b6⟩:=hY.els
  have e4:v4=u4:=by rw [c4] at d4;exact Option.some.inj d4
  have e5:v5=u5:=by rw [c5] at d5;exact Option.some.inj d5
  have e6:v6=u6:=by rw [c6] at d6;exact Option.some.inj d6
  subst e4 e5 e6
  obtain ⟨p1,q1,g1⟩:=Row.len a4
  obtain ⟨p2,q2,g2⟩:=Row.len b4
  rw [g1] at g2
  injection g2 with _ g3 _
  unfold wtI
  rw [g3,wt_on d e v5 _ _ a5 b5,wt_on d e v6 _ _ a6 b6]
end Rep
end Go.Proofs.YtlcpagiljfpbpaaDoor

