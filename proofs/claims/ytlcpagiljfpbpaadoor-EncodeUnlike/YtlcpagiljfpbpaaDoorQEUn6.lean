/- Texts that the claim needs. -/
import Derived.Test.YtlcpagiljfpbpaaDoorQEUn0
import Derived.Deep.RegionWith
import Derived.Deep.Cut
import Derived.Test.YtlcpagiljfpbpaaDoorQEUn5
import Derived.Laws.AppendOwn
import Derived.Laws.AppendOwnNone
import Derived.OwnWalk
import Derived.Orders
namespace Go.Proofs.YtlcpagiljfpbpaaDoor
open Go.RowKit Rep
set_option linter.unusedVariables false
theorem hideK {p:Prop} (h:p):Hid p:=h
namespace Rep
def noJ:(d:Nat)->IL d
 | 0=>()
 | d+1=>([]:List (Ins (IL d)))
theorem at_noJ (w:World) (o:Option Addr) (cap:Nat):∀d,At w d (.slice o 0 cap) (noJ d)
 | 0=>⟨o,cap,rfl⟩
 | _+1=>⟨by simp [noJ],.inl ⟨rfl,o,cap,rfl⟩⟩
def LbL {α:Type} (p:α->Prop) (l:List (Ins α)):Prop:=l.length<=1500/\∀x ∈ l,x.labels.length<=15010/\p x.body/\p x.els
def Lb:(d:Nat)->IL d->Prop
 | 0,_=>True
 | d+1,l=>LbL (Lb d) l
theorem lb_noJ:∀d,Lb d (noJ d)
 | 0=>trivial
 | _+1=>⟨by simp [noJ],fun x hx=>by cases hx⟩
def Fit (w:World) (k bk o:Nat):Prop:=∃z:Ins (IL k),InsAt w (At w k) bk o z/\z.labels.length<=15010/\Lb k z.body/\Lb k z.els
def FitL (w:World) (k:Nat) (v:Value):Prop:=∃l:IL k,At w k v l/\Lb k l
theorem fitL_no (w:World) (k:Nat) (o:Option Addr) (cap:Nat):FitL w k (.slice o 0 cap):=⟨noJ k,at_noJ w o cap k,lb_noJ k⟩
theorem fitL_of (w:World) (k b off n cap:Nat) (hn:n<=1500) (h:∀t,t<n->Fit w k b (off+t*7)):FitL w (k+1) (.slice (some ⟨b,off,none⟩) n cap):=by
 obtain ⟨l,hl,hf⟩:=choose_list n (fun t (z:Ins (IL k))=>InsAt w (At w k) b (off+t*7) z/\z.labels.length<=15010/\Lb k z.body/\Lb k z.els) h
 have hL:LbL (Lb k) l:=⟨by omega,fun x hx=>by
  obtain ⟨i,hi,rfl⟩:=List.getElem_of_mem hx
  exact (hf i _ (List.getElem?_eq_getElem hi)).2⟩
 exact ⟨l,⟨by omega,.inr ⟨b,off,cap,by rw [hl],fun i x hi=>(hf i x hi).1⟩⟩,hL⟩
theorem fit_mk {w:World} {k b o:Nat} {op a bb n:Int} {v4 v5 v6:Value} {ls:List Int} (c0:w.cell? ⟨b,o,none⟩=some (.int .i64 op)) (c1:w.cell? ⟨b,o+1,none⟩=some (.int .i64 a)) (c2:w.cell? ⟨b,o+2,none⟩=some (.int .i64 bb)) (c3:w.cell? ⟨b,o+3,none⟩=some (.int .i64 n))
  (c4:w.cell? ⟨b,o+4,none⟩=some v4) (i4:Ints w v4 ls) (hl:ls.length<=15010) (c5:w.cell? ⟨b,o+5,none⟩=some v5) (c6:w.cell? ⟨b,o+6,none⟩=some v6) (h5:FitL w k v5) (h6:FitL w k v6):Fit w k b o:=by
 obtain ⟨l5,a5,b5⟩:=h5
 obtain ⟨l6,a6,b6⟩:=h6
 exact ⟨⟨op,a,bb,n,ls,l5,l6⟩,⟨c0,c1,c2,c3,⟨v4,c4,i4⟩,⟨v5,c5,a5⟩,⟨v6,c6,a6⟩⟩,hl,b5,b6⟩
theorem At.size_none {w:World}:∀(d:Nat) (v:Value) (l:IL d),At w d v l->∃o n cap,v=.slice o n cap/\n=size d l:=fun d v l h=>by
 obtain ⟨o,cap,rfl⟩:=At.len d v l h
 exact ⟨o,_,cap,rfl,rfl⟩
def wStep {α:Type} (sz:α->Nat) (f:α->Int->Int) (x:Ins α) (c:Int):Int :=
 if 1500<c+(1+(x.labels.length:Int) / 10) then -1
 else
  let r1:=if sz x.body=0 then c+(1+(x.labels.length:Int) / 10) else f x.body (c+(1+(x.labels.length:Int) / 10))
  if r1<0 then r1 else if sz x.els=0 then r1 else f x.els r1
def wghL {α:Type} (sz:α->Nat) (f:α->Int->Int):List (Ins α)->Int->Int
 | [],c=>c
 | x :: r,c=>if c<0 then c else wghL sz f r (wStep sz f x c)
def wgh:(d:Nat)->IL d->Nat->Int->Int
 | 0,_,deep,n=>if n<0\/80<deep then -1 else n
 | d+1,l,deep,n=>if n<0\/80<deep then -1 else wghL (size d) (fun y c=>wgh d y (deep+1) c) l n
theorem wghL_neg {α:Type} {sz:α->Nat} {f:α->Int->Int} (l:List (Ins α)) {c:Int} (h:c<0):wghL sz f l c=c:=by
 cases l with
 | nil=>rfl
 | cons x r=>show (if c<0 then c else _)=c;rw [if_pos h]
def Good {α:Type} (f:α->Int->Int):Prop:=∀y c,-1<=c->-1<=f y c/\(f y c<=c\/f y c<=1500)/\(0<=f y c->c<=f y c)
theorem wStep_good {α:Type} {sz:α->Nat} {f:α->Int->Int} (hf:Good f) (x:Ins α) (c:Int) (h:0<=c):-1<=wStep sz f x c/\wStep sz f x c<=1500/\(0<=wStep sz f x c->c+1<=wStep sz f x c):=by
 unfold wStep
 obtain ⟨c2,hc2⟩:∃c2,c2=c+(1+(x.labels.length:Int) / 10):=⟨_,rfl⟩
 rw [<- hc2]
 have h2:c+1<=c2:=by omega
 by_cases h3:1500<c2
 ·simp [h3]
 ·simp only [h3,if_false]
  obtain ⟨r1,hr1⟩:∃r1,r1=if sz x.body=0 then c2 else f x.body c2:=⟨_,rfl⟩
  rw [<- hr1]
  have g1:-1<=r1/\r1<=1500/\(0<=r1->c2<=r1):=by
   rw [hr1]
   split
   ·omega
   ·have:=hf x.body c2 (by omega);omega
  clear hr1
  by_cases h4:r1<0
  ·simp only [h4,if_true];omega
  ·simp only [h4,if_false]
   split
   ·omega
   ·have:=hf x.els r1 (by omega);omega
theorem wghL_good {α:Type} {sz:α->Nat} {f:α->Int->Int} (hf:Good f):∀(l:List (Ins α)) (c:Int),-1<=c->-1<=wghL sz f l c/\(wghL sz f l c<=c\/wghL sz f l c<=1500)/\(0<=wghL sz f l c->c<=wghL sz f l c)
 | [],c,h=>by show -1<=c/\(c<=c\/c<=1500)/\(0<=c->c<=c);omega
 | x :: r,c,h=>by
  by_cases hc:c<0
  ·rw [wghL_neg _ hc];omega
  ·show -1<=(if c<0 then c else wghL sz f r (wStep sz f x c))/\((if c<0 then c else wghL sz f r (wStep sz f x c))<=c\/(if c<0 then c else wghL sz f r (wStep sz f x c))<=1500)/\(0<=(if c<0 then c else wghL sz f r (wStep sz f x c))->c<=(if c<0 then c else wghL sz f r (wStep sz f x c)))
   rw [if_neg hc]
   have h1:=wStep_good (sz:=sz) hf x c (by omega)
   have h2:=wghL_good (sz:=sz) hf r (wStep sz f x c) h1.1
   generalize wStep sz f x c=s at *
   by_cases hs:s<0
   ·rw [wghL_neg _ hs] at *;omega
   ·omega
theorem wgh_good:∀(d deep:Nat),Good (fun (y:IL d) c=>wgh d y deep c)
 | 0,deep=>fun y c h=>by
  show -1<=(if c<0\/80<deep then -1 else c)/\((if c<0\/80<deep then -1 else c)<=c\/(if c<0\/80<deep then -1 else c)<=1500)/\(0<=(if c<0\/80<deep then -1 else c)->c<=(if c<0\/80<deep then -1 else c))
  split<;>omega
 | d+1,deep=>fun y c h=>by
  have h2:=wghL_good (sz:=size d) (wgh_good d (deep+1)) y c h
  show -1<=(if c<0\/80<deep then -1 else wghL (size d) (fun y c=>wgh d y (deep+1) c) y c)/\((if c<0\/80<deep then -1 else wghL (size d) (fun y c=>wgh d y (deep+1) c) y c)<=c\/(if c<0\/80<deep then -1 else wghL (size d) (fun y c=>wgh d y (deep+1) c) y c)<=1500)/\(0<=(if c<0\/80<deep then -1 else wghL (size d) (fun y c=>wgh d y (deep+1) c) y c)->c<=(if c<0\/80<deep then -1 else wghL (size d) (fun y c=>wgh d y (deep+1) c) y c))
  split
  ·omega
  ·exact h2
theorem wghL_all {α:Type} {sz:α->Nat} {f:α->Int->Int} (hf:Good f):∀(l:List (Ins α)) (c:Int),-1<=c->0<=wghL sz f l c ->
  (l = []\/(l.length:Int)+c<=1500)/\∀x ∈ l,x.labels.length<=15010/\(sz x.body=0\/∃c',0<=c'/\0<=f x.body c')/\(sz x.els=0\/∃c',0<=c'/\0<=f x.els c')
 | [],c,_,_=>⟨.inl rfl,fun x hx=>by cases hx⟩
 | x :: r,c,h0,h=>by
  by_cases hc:c<0
  ·rw [wghL_neg _ hc] at h;omega
  have e:wghL sz f (x :: r) c=wghL sz f r (wStep sz f x c):=by show (if c<0 then c else _)=_;rw [if_neg hc]
  rw [e] at h
  have h1:=wStep_good (sz:=sz) hf x c (by omega)
  have hs:0<=wStep sz f x c:=by
   by_cases hs:wStep sz f x c<0
   ·rw [wghL_neg _ hs] at h;exact h
   ·omega
  have h2:=wghL_all hf r (wStep sz f x c) h1.1 h
  refine ⟨.inr ?_,fun y hy=>?_⟩
  ·rcases h2.1 with rfl|h3
   ·simp only [List.length_cons,List.length_nil];omega
   ·simp only [List.length_cons];omega
  ·rcases List.mem_cons.1 hy with rfl|hy
   ·unfold wStep at hs
    obtain ⟨c2,hc2⟩:∃c2,c2=c+(1+(y.labels.length:Int) / 10):=⟨_,rfl⟩
    rw [<- hc2] at hs
    by_cases h3:1500<c2
    ·simp [h3] at hs
    ·simp only [h3,if_false] at hs
     refine ⟨by omega,?_,?_⟩
     ·by_cases hb:sz y.body=0
      ·exact .inl hb
      ·refine .inr ⟨c2,by omega,?_⟩
       simp only [hb,if_false] at hs
       by_cases h4:f y.body c2<0
       ·simp only [h4,if_true] at hs;exact hs
       ·omega
     ·by_cases hb:sz y.els=0
      ·exact .inl hb
      ·obtain ⟨r1,hr1⟩:∃r1,r1=if sz y.body=0 then c2 else f y.body c2:=⟨_,rfl⟩
       rw [<- hr1] at hs
       by_cases h4:r1<0
       ·simp only [h4,if_true] at hs;omega
       ·simp only [h4,hb,if_false] at hs
        exact .inr ⟨r1,by omega,hs⟩
   ·exact h2.2 y hy
theorem wgh_fit {w:World}:∀(d:Nat) (v:Value) (l:IL d) (deep:Nat) (n:Int),At w d v l->-1<=n->0<=wgh d l deep n->FitL w (81-deep) v
 | 0,v,l,deep,n,⟨o,cap,hv⟩,_,_=>by subst hv;exact fitL_no w _ o cap
 | d+1,v,l,deep,n,hAt,hn,h=>by
  by_cases hneg:n<0\/80<deep
  ·have:wgh (d+1) l deep n=-1:=by show (if n<0\/80<deep then -1 else _)=_;rw [if_pos hneg]
   omega
  have e:wgh (d+1) l deep n=wghL (size d) (fun y c=>wgh d y (deep+1) c) l n:=by show (if n<0\/80<deep then -1 else _)=_;rw [if_neg hneg]
  rw [e] at h
  obtain ⟨h1,h2⟩:=wghL_all (wgh_good d (deep+1)) l n hn h
  have hR:Row 7 (InsAt w (At w d)) v l:=hAt
  rcases hR with ⟨hl,⟨hnil,o,cap,rfl⟩|⟨b,off,cap,rfl,hx⟩⟩
  ·exact fitL_no w _ o cap
  ·rw [show 81-deep=(80-deep)+1 by omega]
   refine fitL_of w (80-deep) b off _ cap ?_ fun t ht=>?_
   ·rcases h1 with rfl|h1
    ·show 0<=1500;omega
    ·have:(List.length l:Int)+n<=1500:=h1
     omega
   ·obtain ⟨x,hxt⟩:∃x,getElem? (coll:=List (Ins (IL d))) l t=some x:=⟨_,List.getElem?_eq_getElem ht⟩
    have hI:=hx t x hxt
    obtain ⟨g1,g2,g3⟩:=h2 x (List.mem_of_getElem? hxt)
    obtain ⟨v4,q4,i4⟩:=hI.labels
    obtain ⟨v5,q5,a5⟩:=hI.body
    obtain ⟨v6,q6,a6⟩:=hI.els
    have key:∀(v:Value) (y:IL d),At w d v y->(size d y=0\/∃c',0<=c'/\0<=wgh d y (deep+1) c')->FitL w (80-deep) v:=fun v y hA hy=>by
     rcases hy with hy|⟨c',k1,k2⟩
     ·obtain ⟨o,cap,rfl⟩:=At.len d v y hA
      rw [hy];exact fitL_no w _ o cap
     ·have:=wgh_fit d v y (deep+1) c' hA (by omega) k2
      rwa [show 81-(deep+1)=80-deep by omega] at this
    exact fit_mk hI.op hI.a hI.b hI.n q4 i4 g1 q5 q6 (key _ _ a5 g2) (key _ _ a6 g3)
theorem wghL_on {α:Type} {sz:α->Nat} {f:α->Int->Int} {l:List (Ins α)} {k:Nat} {c r:Int} {x:Ins α} (hx:l[k]?=some x) (hc:0<=c) (h:r=wghL sz f (l.drop k) c):r=wghL sz f (l.drop (k+1)) (wStep sz f x c):=by
 have hl:k<l.length:=(List.getElem?_eq_some_iff.1 hx).1
 have he:l[k]=x:=(List.getElem?_eq_some_iff.1 hx).2
 rw [h,List.drop_eq_getElem_cons hl,he]
 show (if c<0 then c else _)=_
 rw [if_neg (by omega)]
end Rep
def WeighSays (d:Nat):Prop:=∀(v:Value) (l:IL d) (deep:Nat) (n:Int) (w:World),At w d v l->deep<=81->-1<=n->n<=2305843009213693952 ->
  Calls Tryd.prog 12 #[v,.int .i64 deep,.int .i64 n] w fun e w'=>e=.returned (.int .i64 (wgh d l deep n))/\w'=w
theorem weighNeg (v:Value) (o:Option Addr) (m cap:Nat) (hv:v=.slice o m cap) (deep:Nat) (n:Int) (w:World) (hd:deep<=81) (h:n<0\/80<deep) (h1:-1<=n) :
  Calls Tryd.prog 12 #[v,.int .i64 deep,.int .i64 n] w fun e w'=>e=.returned (.int .i64 (-1))/\w'=w:=by
 subst hv
 by_cases hn:n<0
 ·go_enter Tryd.func12,Tryd.ntmps12
  go_wp2
  go_ret
  exact ⟨rfl,rfl⟩
 ·have hd:80<deep:=by omega
  go_enter Tryd.func12,Tryd.ntmps12
  go_wp2
  go_ret
  exact ⟨rfl,rfl⟩
set_option maxHeartbeats 1000000 in
theorem weigh0 (o:Option Addr) (cap deep:Nat) (n:Int) (w:World) (hd:deep<=80) (hn:0<=n) (hn2:n<=2305843009213693952) :
  Calls Tryd.prog 12 #[.slice o 0 cap,.int .i64 deep,.int .i64 n] w fun e w'=>e=.returned (.int .i64 n)/\w'=w:=by
 go_enter Tryd.func12,Tryd.ntmps12
 go_wp2_with fail
 go_loopw [2,7] (fun u i wr=>u=.int .i64 n/\i=.int .i64 0/\wr=w) (fun _ _ _=>0)
 case atStart=>exact ⟨rfl,rfl,rfl⟩
 case round =>
  obtain ⟨rfl,rfl,rfl⟩:=hrel
  go_wp2
  go_ret
  exact ⟨rfl,rfl⟩
set_option maxHeartbeats 2000000 in
theorem weighS (d:Nat) (IH:WeighSays d) (v:Value) (l:List (Ins (IL d))) (deep:Nat) (n:Int) (w:World) (hAt:Row 7 (InsAt w (At w d)) v l) (hd:deep<=81) (hn1:-1<=n) (hn2:n<=2305843009213693952) :
  Calls Tryd.prog 12 #[v,.int .i64 deep,.int .i64 n] w fun e w'=>e=.returned (.int .i64 (if n<0\/80<deep then -1 else wghL (size d) (fun y c=>wgh d y (deep+1) c) l n))/\w'=w:=by
 have hlen:=hAt.1
 by_cases hneg:n<0\/80<deep
 ·obtain ⟨o,cap,hv⟩:=hAt.len
  rw [if_pos hneg]
  exact weighNeg v o _ cap hv deep n w hd hneg hn1
 rw [if_neg hneg]
 by_cases hz:l.length=0
 ·obtain ⟨o,cap,rfl⟩:=hAt.len
  rw [hz]
  obtain rfl:l = []:=List.length_eq_zero_iff.1 hz
  exact weigh0 o cap deep n w (by omega) (by omega) hn2
 obtain ⟨b,off,cap,rfl,hx⟩:=hAt.some (by omega)
 have HX:=hideK hx
 clear hx hAt
 obtain ⟨R,hR⟩:∃R,R=wghL (size d) (fun y c=>wgh d y (deep+1) c) l n:=⟨_,rfl⟩
 rw [<- hR]
 have HR:Hid (R=wghL (size d) (fun y c=>wgh d y (deep+1) c) (l.drop 0) n):=hR
 clear hR
 have HG:=hideK (wgh_good d (deep+1))
 generalize hln:l.length=m at *
 have hd80:deep<=80:=by omega
 have hn0:0<=n:=by omega
 clear hneg hn1
 go_enter Tryd.func12,Tryd.ntmps12
 go_wp2_with fail
 go_loopw [2,7] (fun u i wr=>∃(j:Nat) (c:Int),j<=m/\i=.int .i64 j/\u=.int .i64 c/\-1<=c/\(c<=n\/c<=1500)/\Hid (R=wghL (size d) (fun y c=>wgh d y (deep+1) c) (l.drop j) c)/\wr=w) (fun _ i _=>m-(RowKit.intOf i).toNat)
 case atStart=>exact ⟨0,n,by omega,rfl,rfl,by omega,by omega,HR,rfl⟩
 case round =>
  obtain ⟨j,c,hj,rfl,rfl,hc1,hc2,HK,rfl⟩:=hrel
  by_cases hgo:j<m
  ·by_cases hc0:0<=c
   ·obtain ⟨x,hxk⟩:∃x,l[j]?=some x:=⟨_,List.getElem?_eq_getElem (by omega)⟩
    have hI:=HX.out j x hxk
    obtain ⟨v4,q4,i4⟩:=hI.labels
    obtain ⟨vb,q5,a5⟩:=hI.body
    obtain ⟨ve,q6,a6⟩:=hI.els
    have h4b:=i4.1
    obtain ⟨o4,n4,c4,rfl,hn4⟩:∃o4 n4 c4,v4=.slice o4 n4 c4/\n4=x.labels.length:=by
     obtain ⟨o4,c4,h⟩:=Row.len i4
     exact ⟨o4,_,c4,h,rfl⟩
    obtain ⟨ob,nb,cb,rfl,hnb⟩:=At.size_none _ _ _ a5
    obtain ⟨oe,ne,ce,rfl,hne⟩:=At.size_none _ _ _ a6
    have hbb:=At.bound _ _ _ a5
    have hbe:=At.bound _ _ _ a6
    rw [<- hn4] at h4b
    rw [<- hnb] at hbb
    rw [<- hne] at hbe
    have HN:=hideK (wghL_on hxk hc0 HK.out)
    have hG:=wStep_good (sz:=size d) HG.out x c hc0
    have HS:Hid (∃s,s=wStep (size d) (fun y c=>wgh d y (deep+1) c) x c):=hideK ⟨_,rfl⟩
    have IB:=hideK (fun (c:Int) (h1:-1<=c) (h2:c<=2305843009213693952)=>IH _ x.body (deep+1) c wr a5 (by omega) h1 h2)
    have IE:=hideK (fun (c:Int) (h1:-1<=c) (h2:c<=2305843009213693952)=>IH _ x.els (deep+1) c wr a6 (by omega) h1 h2)
    rw [show ((deep+1:Nat):Int)=(deep:Int)+1 by omega] at IB IE
    obtain ⟨s,hs⟩:=HS.out
    rw [<- hs] at hG HN
    unfold wStep at hs
    rw [<- hn4,<- hnb,<- hne] at hs
    obtain ⟨fb,hfb⟩:∃fb:Int->Int,∀c,wgh d x.body (deep+1) c=fb c:=⟨_,fun _=>rfl⟩
    obtain ⟨fe,hfe⟩:∃fe:Int->Int,∀c,wgh d x.els (deep+1) c=fe c:=⟨_,fun _=>rfl⟩
    have G1:∀c,-1<=c->-1<=fb c/\(fb c<=c\/fb c<=1500)/\(0<=fb c->c<=fb c):=fun c h=>by rw [<- hfb];exact HG.out x.body c h
    have G2:∀c,-1<=c->-1<=fe c/\(fe c<=c\/fe c<=1500)/\(0<=fe c->c<=fe c):=fun c h=>by rw [<- hfe];exact HG.out x.els c h
    simp only [hfb,hfe] at IB IE hs
    clear hfb hfe
    have HSS:=hideK hs
    clear hI hxk i4 a5 a6 hnb hne hn4 HK hs HS
    go_upto_region 7 with fail
    obtain ⟨c2,hc2'⟩:∃c2:Int,c2=c+(1+(n4:Int) / 10):=⟨_,rfl⟩
    have HC2:=hideK hc2'
    rw [<- hc2']
    have hb1:c+1<=c2:=by omega
    have hb3:c2<=4611686018427387904:=by omega
    clear hc2'
    rw [<- HC2.out] at HSS
    by_cases hmany:1500<c2
    ·have HF:R=-1:=by rw [HN.out,HSS.out,if_pos hmany,wghL_neg _ (by omega)]
     subst HF
     clear HN HSS
     go_wp2
     go_ret
     exact ⟨rfl,rfl⟩
    rw [if_neg hmany] at HSS
    by_cases hb0:nb=0
    ·obtain ⟨r1,hr1⟩:∃r1,r1=c2:=⟨_,rfl⟩
     have HSV:Hid (s=if r1<0 then r1 else if ne=0 then r1 else fe r1):=hideK (by rw [HSS.out,hr1];simp [hb0])
     rw [<- hr1]
     subst hb0
     have hm1:0<=r1/\r1<=1500:=by omega
     clear hr1 HSS hG
     have hr:¬ r1<0:=by omega
     ·by_cases he0:ne=0
      ·have HN2:Hid (R=wghL (size d) (fun y c=>wgh d y (deep+1) c) (l.drop (j+1)) r1):=hideK (by rw [HN.out,HSV.out];simp [hr,he0])
       subst he0
       go_wp2
       go_roundw
       case rel=>exact ⟨j+1,r1,by omega,by go_num,rfl,by omega,by omega,HN2,trivial⟩
       case measure=>simp [RowKit.intOf];omega
      ·have HN2:Hid (R=wghL (size d) (fun y c=>wgh d y (deep+1) c) (l.drop (j+1)) (fe r1)):=hideK (by rw [HN.out,HSV.out];simp [hr,he0])
       have g2:=G2 r1 (by omega)
       go_wp2_with fail
       refine (IE.out r1 (by omega) (by omega)).mono ?_
       rintro e u ⟨rfl,hu⟩
       obtain rfl:wr=u:=hu.symm
       generalize fe r1=r2 at *
       go_wp2
       go_roundw
       case rel=>exact ⟨j+1,r2,by omega,by go_num,rfl,by omega,by omega,HN2,trivial⟩
       case measure=>simp [RowKit.intOf];omega
    ·have HSV:Hid (s=if fb c2<0 then fb c2 else if ne=0 then fb c2 else fe (fb c2)):=hideK (by rw [HSS.out];simp [hb0])
     have g1:=G1 c2 (by omega)
     clear HSS hG
     go_upto_region 11 with (first|(go_at_call 12;refine (IB.out c2 (by omega) (by omega)).mono ?_;rintro e u ⟨rfl,hu⟩;obtain rfl:wr=u:=hu.symm))
     generalize fb c2=r1 at *
     by_cases hr:r1<0
     ·have HN2:Hid (R=wghL (size d) (fun y c=>wgh d y (deep+1) c) (l.drop (j+1)) r1):=hideK (by rw [HN.out,HSV.out];simp [hr])
      go_wp2
      go_roundw
      case rel=>exact ⟨j+1,r1,by omega,by go_num,rfl,by omega,by omega,HN2,trivial⟩
      case measure=>simp [RowKit.intOf];omega
     ·by_cases he0:ne=0
      ·have HN2:Hid (R=wghL (size d) (fun y c=>wgh d y (deep+1) c) (l.drop (j+1)) r1):=hideK (by rw [HN.out,HSV.out];simp [hr,he0])
       subst he0
       go_wp2
       go_roundw
       case rel=>exact ⟨j+1,r1,by omega,by go_num,rfl,by omega,by omega,HN2,trivial⟩
       case measure=>simp [RowKit.intOf];omega
      ·have HN2:Hid (R=wghL (size d) (fun y c=>wgh d y (deep+1) c) (l.drop (j+1)) (fe r1)):=hideK (by rw [HN.out,HSV.out];simp [hr,he0])
       have g2:=G2 r1 (by omega)
       go_wp2_with fail
       refine (IE.out r1 (by omega) (by omega)).mono ?_
       rintro e u ⟨rfl,hu⟩
       obtain rfl:wr=u:=hu.symm
       generalize fe r1=r2 at *
       go_wp2
       go_roundw
       case rel=>exact ⟨j+1,r2,by omega,by go_num,rfl,by omega,by omega,HN2,trivial⟩
       case measure=>simp [RowKit.intOf];omega
   ·have HF:R=c:=by rw [HK.out,wghL_neg _ (by omega)]
    subst HF
    clear HK
    go_wp2
    go_ret
    exact ⟨rfl,rfl⟩
  ·have HF:R=c:=by rw [HK.out,List.drop_of_length_le (by omega)];rfl
   subst HF
   clear HK
   go_wp2
   all_goals (go_ret;exact ⟨rfl,rfl⟩)
theorem weigh:∀(d:Nat),WeighSays d
 | 0=>fun v l deep n w ⟨o,cap,hv⟩ hd h1 h2=>by
  subst hv
  show Calls _ _ _ _ fun e w'=>e=.returned (.int .i64 (if n<0\/80<deep then -1 else n))/\w'=w
  by_cases hneg:n<0\/80<deep
  ·rw [if_pos hneg];exact weighNeg _ o _ cap rfl deep n w hd hneg h1
  ·rw [if_neg hneg];exact weigh0 o cap deep n w (by omega) (by omega) h2
 | d+1=>fun v l deep n w hAt hd h1 h2=>weighS d (weigh d) v l deep n w hAt hd h1 h2
end Go.Proofs.YtlcpagiljfpbpaaDoor

namespace Go.Proofs.YtlcpagiljfpbpaaDoor
open Go.RowKit Rep
set_option linter.unusedVariables false
section App
variable {P:Program}
theorem run_app (w:World) (base:Nat) (t ty e:TypeId) (i:TypeInfo) (z:Value) (size bytes:Nat) (ht:P.underlying t=some (.slice e)) (hi:P.info? e=some i) (hz:i.zero=some z)
  (hsize:i.size=size) (hby:i.bytes=bytes) (hzs:z.cells.size=size) (hsz:0<size)
  (v:Value) (n:Nat) (xs:List Value) (hown:w.ownsRow base e size v n xs)
  (a:Addr) (m c:Nat) (news:List Value) (hl:news.length=m*size) (hnews:∀j u,news[j]?=some u->w.cell? (a.add j)=some u) (h1:∀u ∈ news,u.oneCell'=true)
  (h63:n+m<=maxLen) (hbytes:(n+m)*bytes<=140737488355328) (hbase:base<=w.heap.size) :
  ∃v' w',(Builtin.append_ #[t,t] ty #[v,.slice (some a) m c]).run P w=.ok v' w'/\w'.ownsRow base e size v' (n+m) (xs++news)/\w.grownBy w' v.ownBlock /\
   (v'.ownBlock=v.ownBlock\/v'.ownBlock=some w.heap.size):=by
 obtain ⟨v',w',hr,h2,h3,h4⟩:=run_append_own (P:=P) w base t ty e i z size bytes ht hi hz hsize hby hzs hsz v n xs hown a m c news hl hnews h1 h63 hbytes hbase
 refine ⟨v',w',hr,h2,h3,?_⟩
 subst hsize
 subst hby
 unfold maxLen at h63
 rcases hown.2 with ⟨rfl,rfl⟩|⟨g,cap,cur,rfl,hbg,hg,hnc,hcm,hcs,htake⟩
 ·by_cases hm:m=0
  ·left;rw [h4.2 ⟨rfl,hm⟩]
  ·rw [run_append_nil (P:=P) w t ty e i z ht hi hz a m c news hl hnews (by omega) (by omega) (by simp only [Nat.zero_add] at hbytes;omega)] at hr
   injection hr with hv _
   right;rw [<- hv];rfl
 ·by_cases hroom:n+m<=cap
  ·have hfit:n*i.size+news.length<=cur.size:=by rw [hl,hcs,<- Nat.add_mul];exact Nat.mul_le_mul_right _ hroom
   rw [run_append_room (P:=P) w t ty e i ht hi g n cap cur hg a m c news hl hnews h1 hroom hfit] at hr
   injection hr with hv _
   left;rw [<- hv];rfl
  ·have holds:∀j u,xs[j]?=some u->w.cell? ((⟨g,0,none⟩:Addr).add j)=some u:=hown.cells (g:=g) rfl
   rw [run_append_grow (P:=P) w t ty e i z ht hi hz ⟨g,0,none⟩ n cap xs hown.1 holds a m c news hl hnews (by omega) (by omega) (growslice_fits (by omega) hbytes)] at hr
   injection hr with hv _
   right;rw [<- hv];rfl
theorem run_app_none (w:World) (base:Nat) (t ty e:TypeId) (i:TypeInfo) (size:Nat) (ht:P.underlying t=some (.slice e)) (hi:P.info? e=some i) (v:Value) (n:Nat) (xs:List Value) (hown:w.ownsRow base e size v n xs) (c:Nat) :
  (Builtin.append_ #[t,t] ty #[v,.slice none 0 c]).run P w=.ok v w:=by
 rcases hown.2 with ⟨rfl,rfl⟩|⟨g,cap,cur,rfl,_,_,hnc,_⟩
 ·simp [Builtin.append_,run_underlying ht,sizeOf,typeInfo,hi,Builtin.lenOf,Builtin.firstCells]
 ·simp [Builtin.append_,run_underlying ht,sizeOf,typeInfo,hi,Builtin.lenOf,Builtin.firstCells,hnc,storeCells]
theorem run_appS (w:World) (base:Nat) (t ty e:TypeId) (i:TypeInfo) (z:Value) (size bytes:Nat) (ht:P.underlying t=some (.slice e)) (hi:P.info? e=some i) (hz:i.zero=some z)
  (hsize:i.size=size) (hby:i.bytes=bytes) (hzs:z.cells.size=size) (hsz:0<size)
  (v:Value) (n:Nat) (xs:List Value) (hown:w.ownsRow base e size v n xs)
  (xo:Option Addr) (m c:Nat) (news:List Value) (hxo:xo=none->m=0) (hl:news.length=m*size) (hnews:∀ad,xo=some ad->∀j u,news[j]?=some u->w.cell? (ad.add j)=some u) (h1:∀u ∈ news,u.oneCell'=true)
  (h63:n+m<=maxLen) (hbytes:(n+m)*bytes<=140737488355328) (hbase:base<=w.heap.size) :
  ∃v' w',(Builtin.append_ #[t,t] ty #[v,.slice xo m c]).run P w=.ok v' w'/\w'.ownsRow base e size v' (n+m) (xs++news)/\w.grownBy w' v.ownBlock /\
   (v'.ownBlock=v.ownBlock\/v'.ownBlock=some w.heap.size):=by
 cases xo with
 | none =>
  obtain rfl:=hxo rfl
  obtain rfl:news = []:=List.eq_nil_of_length_eq_zero (by simpa using hl)
  refine ⟨v,w,run_app_none w base t ty e i size ht hi v n xs hown c,by simpa using hown,⟨rfl,rfl,rfl,Nat.le_refl _,fun _ _ _=>rfl⟩,.inl rfl⟩
 | some a=>exact run_app w base t ty e i z size bytes ht hi hz hsize hby hzs hsz v n xs hown a m c news hl (hnews a rfl) h1 h63 hbytes hbase
theorem wpList_appS {w:World} {ops:Array Oper} {rest:List Oper} {o:Oper} {a:Act} {Q:Exit->Act->World->Prop} (hgd:o.guard=none) (s x:Operand) (t:TypeId)
  (ho:o.op=.call { callee:=.builtin .append,args:=#[s,x],argTypes:=#[t,t] })
  (base:Nat) (e:TypeId) (i:TypeInfo) (z:Value) (size bytes:Nat) (ht:P.underlying t=some (.slice e)) (hi:P.info? e=some i) (hz:i.zero=some z)
  (hsize:i.size=size) (hby:i.bytes=bytes) (hzs:z.cells.size=size) (hsz:0<size)
  (v:Value) (n:Nat) (xs:List Value) (hs:a.eval s=v) (hown:w.ownsRow base e size v n xs)
  (xo:Option Addr) (m c:Nat) (news:List Value) (hx:a.eval x=.slice xo m c) (hxo:xo=none->m=0) (hl:news.length=m*size) (hnews:∀ad,xo=some ad->∀j u,news[j]?=some u->w.cell? (ad.add j)=some u) (h1:∀u ∈ news,u.oneCell'=true)
  (h63:n+m<=maxLen) (hbytes:(n+m)*bytes<=140737488355328) (hbase:base<=w.heap.size)
  (h:∀v' w',w'.ownsRow base e size v' (n+m) (xs++news)->w.grownBy w' v.ownBlock->(v'.ownBlock=v.ownBlock\/v'.ownBlock=some w.heap.size)->wpList P ops Q rest (a.put o.dst v') w'):wpList P ops Q (o :: rest) a w:=by
 refine wpList_plain hgd fun K hK=>?_
 obtain ⟨v',w',hr,h2,h3,h4⟩:=run_appS w base t o.type e i z size bytes ht hi hz hsize hby hzs hsz v n xs hown xo m c news hxo hl hnews h1 h63 hbytes hbase
 unfold Oper.wp
 simp [execOp,ho,resolve,invoke,builtin,hs,hx,hr,Result.andThen]
 exact hK _ _ (h v' w' h2 h3 h4)
end App
namespace Rep
def IntsS (w:World) (S:Nat->Prop) (v:Value) (l:List Int):Prop:=Row 1 (fun b o (z:Int)=>S b/\w.cell? ⟨b,o,none⟩=.some (.int .i64 z)) v l
structure InsS {α:Type} (w:World) (S:Nat->Prop) (sub:Value->α->Prop) (bk o:Nat) (x:Ins α):Prop where
 op:w.cell? ⟨bk,o,none⟩=.some (.int .i64 x.op)
 a:w.cell? ⟨bk,o+1,none⟩=.some (.int .i64 x.a)
 b:w.cell? ⟨bk,o+2,none⟩=.some (.int .i64 x.b)
 n:w.cell? ⟨bk,o+3,none⟩=.some (.int .i64 x.n)
 labels:∃v,w.cell? ⟨bk,o+4,none⟩=.some v/\IntsS w S v x.labels
 body:∃v,w.cell? ⟨bk,o+5,none⟩=.some v/\sub v x.body
 els:∃v,w.cell? ⟨bk,o+6,none⟩=.some v/\sub v x.els
def AtS (w:World) (S:Nat->Prop):(d:Nat)->Value->IL d->Prop
 | 0,v,_=>∃o cap,v=.slice o 0 cap
 | d+1,v,l=>Row 7 (fun b o (x:Ins (IL d))=>S b/\InsS w S (AtS w S d) b o x) v l
theorem IntsS.at {w:World} {S:Nat->Prop} {v:Value} {l:List Int} (h:IntsS w S v l):Ints w v l:=Row.imp h fun _ _ _ _ h=>h.2
theorem AtS.at {w:World} {S:Nat->Prop}:∀(d:Nat) (v:Value) (l:IL d),AtS w S d v l->At w d v l
 | 0,_,_,h=>h
 | d+1,_,_,h=>Row.imp (α:=Ins (IL d)) h fun _ _ _ _ ⟨_,h⟩=>⟨h.op,h.a,h.b,h.n,let ⟨v,a,b⟩:=h.labels;⟨v,a,b.at⟩,let ⟨v,a,b⟩:=h.body;⟨v,a,AtS.at d v _ b⟩,let ⟨v,a,b⟩:=h.els;⟨v,a,AtS.at d v _ b⟩⟩
theorem cell_keep {w w':World} {S S':Nat->Prop} (hk:∀k,S k->S' k/\w'.heap[k]?=w.heap[k]?) {b o:Nat} {u:Value} (hb:S b) (h:w.cell? ⟨b,o,none⟩=.some u):w'.cell? ⟨b,o,none⟩=.some u :=
 (World.cell?_of_block (a:=⟨b,o,none⟩) (hk b hb).2).trans h
theorem IntsS.keep {w w':World} {S S':Nat->Prop} (hk:∀k,S k->S' k/\w'.heap[k]?=w.heap[k]?) {v:Value} {l:List Int} (h:IntsS w S v l):IntsS w' S' v l :=
 Row.imp h fun b _ _ _ h=>⟨(hk b h.1).1,cell_keep hk h.1 h.2⟩
theorem AtS.keep {w w':World} {S S':Nat->Prop} (hk:∀k,S k->S' k/\w'.heap[k]?=w.heap[k]?):∀(d:Nat) (v:Value) (l:IL d),AtS w S d v l->AtS w' S' d v l
 | 0,_,_,h=>h
 | d+1,_,_,h=>Row.imp (α:=Ins (IL d)) h fun b _ _ _ ⟨hb,h⟩=>⟨(hk b hb).1,cell_keep hk hb h.op,cell_keep hk hb h.a,cell_keep hk hb h.b,cell_keep hk hb h.n,let ⟨v,a,c⟩:=h.labels;⟨v,cell_keep hk hb a,c.keep hk⟩,let ⟨v,a,c⟩:=h.body;⟨v,cell_keep hk hb a,AtS.keep hk d v _ c⟩,let ⟨v,a,c⟩:=h.els;⟨v,cell_keep hk hb a,AtS.keep hk d v _ c⟩⟩
def Since (B:Nat) (w:World) (row:Option Nat) (k:Nat):Prop:=B<=k/\k<w.heap.size/\some k≠row
theorem since_below {B:Nat} {w w':World} {row:Option Nat} (hb:Below w.heap.size w w'):∀k,Since B w row k->Since B w' row k/\w'.heap[k]?=w.heap[k]?:=fun k hk =>
 ⟨⟨hk.1,Nat.lt_of_lt_of_le hk.2.1 hb.size,hk.2.2⟩,hb.block k hk.2.1⟩
theorem since_grown {B:Nat} {w w':World} {v v':Value} (hg:w.grownBy w' v.ownBlock) (hv:v'.ownBlock=v.ownBlock\/v'.ownBlock=some w.heap.size):∀k,Since B w v.ownBlock k->Since B w' v'.ownBlock k/\w'.heap[k]?=w.heap[k]?:=fun k hk=>by
 refine ⟨⟨hk.1,Nat.lt_of_lt_of_le hk.2.1 hg.size,?_⟩,hg.block k hk.2.1 hk.2.2⟩
 rcases hv with h|h
 ·rw [h];exact hk.2.2
 ·rw [h]
  intro e
  injection e with e
  have:=hk.2.1
  omega
end Rep
end Go.Proofs.YtlcpagiljfpbpaaDoor

namespace Go.Proofs.YtlcpagiljfpbpaaDoor
open Go.RowKit Rep
set_option linter.unusedVariables false
theorem count_set {l:Array Bool} {i:Nat} (h:l.getD i true=false):(l.setIfInBounds i true).toList.count false+1=l.toList.count false:=by
 have hi:i<l.size:=by
  rcases Nat.lt_or_ge i l.size with h'|h'
  ·exact h'
  ·simp [Array.getD,Nat.not_lt.2 h'] at h
 have he:l[i]=false:=by simpa [Array.getD,hi] using h
 have hl:l.toList=l.toList.take i++false :: l.toList.drop (i+1):=by
  rw [<- he]
  have:i<l.toList.length:=by simpa using hi
  conv=>lhs;rw [<- List.take_append_drop i l.toList,List.drop_eq_getElem_cons this]
  simp
 have hs:(l.setIfInBounds i true).toList=l.toList.take i++true :: l.toList.drop (i+1):=by
  rw [Array.toList_setIfInBounds,List.set_eq_take_append_cons_drop,if_pos (by simpa using hi)]
 have e1:=congrArg (List.count false) hl
 have e2:=congrArg (List.count false) hs
 rw [List.count_append,List.count_cons_self] at e1
 rw [List.count_append,List.count_cons_of_ne (by simp)] at e2
 omega
theorem wpAny_inv {P:Program} {md:Region.Mode} {ops:Array Oper} {Q:Exit->Act->World->Prop} (Inv:Array Bool->Act->World->Prop)
  (hstep:∀listed i a w,i ∈ Region.ready md ops listed->Inv listed a w->wpOp P ops Q i (Inv (listed.setIfInBounds i true)) a w)
  (hdone:∀listed a w,Region.ready md ops listed = []->Inv listed a w->Q .normal a w) :
  ∀(fuel:Nat) (listed:Array Bool) (a:Act) (w:World),listed.toList.count false<=fuel->Inv listed a w->wpAny P md ops Q fuel listed a w:=by
 intro fuel
 induction fuel with
 | zero =>
  intro listed a w hc hI
  have hr:Region.ready md ops listed = []:=by
   cases hrr:Region.ready md ops listed with
   | nil=>rfl
   | cons i r =>
    have hm:i ∈ Region.ready md ops listed:=by rw [hrr];simp
    have:=count_set (mem_ready.1 hm).1
    omega
  exact ⟨hr,hdone _ _ _ hr hI⟩
 | succ fuel ih =>
  intro listed a w hc hI
  refine ⟨fun hr=>hdone _ _ _ hr hI,fun i hi=>?_⟩
  refine wpOp_mono (fun a' w' h=>ih _ a' w' ?_ h) (hstep listed i a w hi hI)
  have:=count_set (mem_ready.1 hi).1
  omega
theorem wp_region_inv {P:Program} {ops:Array Oper} {Q:Exit->Act->World->Prop} {id:Nat} {a:Act} {w:World} (Inv:Array Bool->Act->World->Prop) (hm:P.follows .mixedOrders=true)
  (hstep:∀listed i a w,i ∈ Region.ready .any ops listed->Inv listed a w->wpOp P ops Q i (Inv (listed.setIfInBounds i true)) a w)
  (hdone:∀listed a w,Region.ready .any ops listed = []->Inv listed a w->Q .normal a w)
  (h0:Inv (Array.replicate ops.size false) a { w with drawn:=w.drawn+1 }):(Code.region id ops true).wp P Q a w :=
 wp_region_any hm (wpAny_inv Inv hstep hdone _ _ _ _ (by simp) h0)
end Go.Proofs.YtlcpagiljfpbpaaDoor

