/- Texts that the claim needs. -/
import Derived.Test.YtlcpagiljfpbpaaDoorQEUn6
namespace Go.Proofs.YtlcpagiljfpbpaaDoor
open Go.RowKit Rep
set_option linter.unusedVariables false
namespace Rep
def wtI {α:Type} (f:α->Nat) (x:Ins α):Nat:=1+x.labels.length / 10+f x.body+f x.els
def wtL {α:Type} (f:α->Nat):List (Ins α)->Nat
 | []=>0
 | x :: r=>wtI f x+wtL f r
def wt:(d:Nat)->IL d->Nat
 | 0,_=>0
 | d+1,l=>wtL (wt d) l
theorem wt_none:∀(d:Nat) (l:IL d),size d l=0->wt d l=0
 | 0,_,_=>rfl
 | d+1,l,h=>by
  have:(show List (Ins (IL d)) from l) = []:=List.length_eq_zero_iff.1 h
  show wtL (wt d) (show List (Ins (IL d)) from l)=0
  rw [this];rfl
theorem wStep_wt {α:Type} {sz:α->Nat} {f:α->Int->Int} {g:α->Nat} (h0:∀y,sz y=0->g y=0) (hf:∀y c,0<=c->0<=f y c->f y c=c+(g y:Int)) (x:Ins α) (c:Int) (hc:0<=c) (h:0<=wStep sz f x c):wStep sz f x c=c+(wtI g x:Int):=by
 obtain ⟨c2,hc2⟩:∃c2,c2=c+(1+(x.labels.length:Int) / 10):=⟨_,rfl⟩
 obtain ⟨r1,hr1⟩:∃r1,r1=(if sz x.body=0 then c2 else f x.body c2):=⟨_,rfl⟩
 have e:wStep sz f x c=(if 1500<c2 then -1 else if r1<0 then r1 else if sz x.els=0 then r1 else f x.els r1):=by
  subst hr1;subst hc2;rfl
 rw [e] at h ⊢
 unfold wtI
 by_cases h1:1500<c2
 ·rw [if_pos h1] at h;omega
 rw [if_neg h1] at h ⊢
 by_cases h2:r1<0
 ·rw [if_pos h2] at h;omega
 rw [if_neg h2] at h ⊢
 have hb:r1=c2+(g x.body:Int):=by
  by_cases hz:sz x.body=0
  ·rw [if_pos hz] at hr1;rw [h0 _ hz];omega
  ·rw [if_neg hz] at hr1;rw [hr1];exact hf _ _ (by omega) (by omega)
 by_cases h3:sz x.els=0
 ·rw [if_pos h3]
  have:=h0 _ h3
  omega
 ·rw [if_neg h3] at h ⊢
  have:=hf _ _ (by omega) h
  omega
theorem wghL_wt {α:Type} {sz:α->Nat} {f:α->Int->Int} {g:α->Nat} (h0:∀y,sz y=0->g y=0) (hf:∀y c,0<=c->0<=f y c->f y c=c+(g y:Int)):∀(l:List (Ins α)) (c:Int),0<=c->0<=wghL sz f l c->wghL sz f l c=c+(wtL g l:Int)
 | [],c,_,_=>by show c=c+((0:Nat):Int);omega
 | x :: r,c,hc,h=>by
  have e:wghL sz f (x :: r) c=wghL sz f r (wStep sz f x c):=by show (if c<0 then c else _)=_;rw [if_neg (by omega)]
  rw [e] at h ⊢
  have hs:0<=wStep sz f x c:=by
   by_cases hs:wStep sz f x c<0
   ·rw [wghL_neg _ hs] at h;exact h
   ·omega
  have h1:=wStep_wt h0 hf x c hc hs
  have h2:=wghL_wt h0 hf r _ hs h
  rw [h2]
  show _=c+((wtI g x+wtL g r:Nat):Int)
  omega
theorem wgh_wt:∀(d:Nat) (l:IL d) (deep:Nat) (n:Int),0<=n->0<=wgh d l deep n->wgh d l deep n=n+(wt d l:Int)
 | 0,l,deep,n,hn,h=>by
  have e:wgh 0 l deep n=if n<0\/80<deep then -1 else n:=rfl
  rw [e] at h ⊢
  by_cases hd:n<0\/80<deep
  ·rw [if_pos hd] at h;omega
  ·rw [if_neg hd];show n=n+((0:Nat):Int);omega
 | d+1,l,deep,n,hn,h=>by
  have e:wgh (d+1) l deep n=if n<0\/80<deep then -1 else wghL (size d) (fun y c=>wgh d y (deep+1) c) l n:=rfl
  rw [e] at h ⊢
  by_cases hd:n<0\/80<deep
  ·rw [if_pos hd] at h;omega
  ·rw [if_neg hd] at h ⊢
   exact wghL_wt (g:=wt d) (wt_none d) (fun y c hc hy=>wgh_wt d y (deep+1) c hc hy) l n hn h
theorem wtL_eq {α β:Type} {f:α->Nat} {g:β->Nat}:∀(l:List (Ins α)) (k:List (Ins β)),l.length=k.length->(∀(i:Nat) (x:Ins α) (y:Ins β),l[i]?=some x->k[i]?=some y->wtI f x=wtI g y)->wtL f l=wtL g k
 | [],[],_,_=>rfl
 | [],_ :: _,h,_=>by simp at h
 | _ :: _,[],h,_=>by simp at h
 | x :: r,y :: s,h,he=>by
  show wtI f x+wtL f r=wtI g y+wtL g s
  rw [he 0 x y rfl rfl,wtL_eq r s (by simpa using h) (fun i a b ha hb=>he (i+1) a b (by simpa using ha) (by simpa using hb))]
theorem wt_on {w:World}:∀(d e:Nat) (v:Value) (l:IL d) (k:IL e),At w d v l->At w e v k->wt d l=wt e k
 | 0,e,v,l,k,hl,hk=>by
  obtain ⟨o,cap,rfl⟩:=hl
  obtain ⟨o',cap',h⟩:=At.len e _ _ hk
  injection h with _ h2 _
  rw [wt_none e k h2.symm];rfl
 | d+1,0,v,l,k,hl,hk=>by
  obtain ⟨o,cap,rfl⟩:=hk
  obtain ⟨o',cap',h⟩:=At.len (d+1) _ _ hl
  injection h with _ h2 _
  rw [wt_none (d+1) l h2.symm];rfl
 | d+1,e+1,v,l,k,hl,hk=>by
  have hl':Row 7 (InsAt w (At w d)) v (show List (Ins (IL d)) from l):=hl
  have hk':Row 7 (InsAt w (At w e)) v (show List (Ins (IL e)) from k):=hk
  obtain ⟨o1,cap1,hv1⟩:=Row.len hl'
  obtain ⟨o2,cap2,hv2⟩:=Row.len hk'
  have hv3:=hv1
  rw [hv2] at hv3
  injection hv3 with _ hlen _
  refine wtL_eq (show List (Ins (IL d)) from l) (show List (Ins (IL e)) from k) hlen.symm fun i x y hx hy=>?_
  have hi:i<(show List (Ins (IL d)) from l).length:=(List.getElem?_eq_some_iff.1 hx).1
  obtain ⟨b,off,cap,hv,hc⟩:=Row.some hl' (by omega)
  obtain ⟨b',off',cap',hv',hc'⟩:=Row.some hk' (by omega)
  rw [hv] at hv'
  injection hv' with ha _ _
  injection ha with ha
  injection ha with hb ho _
  subst hb ho
  have hX:=hc i x hx
  have hY:=hc' i y hy
  obtain ⟨v4,c4,a4⟩:=hX.labels
  obtain ⟨v5,c5,a5⟩:=hX.body
  obtain ⟨v6,c6,a6⟩:=hX.els
  obtain ⟨u4,d4,b4⟩:=hY.labels
  obtain ⟨u5,d5,b5⟩:=hY.body
  obtain ⟨u6,d6,b6⟩:=hY.els
  have e4:v4=u4:=by rw [c4] at d4;exact Option.some.inj d4
  have e5:v5=u5:=by rw [c5] at d5;exact Option.some.inj d5
  have e6:v6=u6:=by rw [c6] at d6;exact Option.some.inj d6
  subst e4 e5 e6
  obtain ⟨p1,q1,g1⟩:=Row.len a4
  obtain ⟨p2,q2,g2⟩:=Row.len b4
  rw [g1] at g2
  injection g2 with _ g3 _
  unfold wtI
  rw [g3,wt_on d e v5 _ _ a5 b5,wt_on d e v6 _ _ a6 b6]
end Rep
end Go.Proofs.YtlcpagiljfpbpaaDoor

