/- Texts that the claim needs. -/
import Derived.Test.YtkflfohoinbenaaQTS10
import Derived.Test.YtkflfohoinbenaaQTS9
import Derived.Deep.QuietTactic
import Derived.BigQuiet
import Derived.Test.YtkflfohoinbenaaQTS7
import Derived.Test.YtkflfohoinbenaaQTS8
namespace Go.Proofs.Ytkflfohoinbenaa
open Go.RowKit Lx Pz Rep Ty
set_option linter.unusedVariables false
namespace Ty
structure Iv (n:Nat) (h:Nat->Value):Prop where
 gd:Gd n h
 ac:AC n h
theorem unB_ok {n m c i:Nat} {h:Nat->Value} {y:Value} (H:Iv n h) (hi:i<n) (hu:h i=vr i) (hy:Gt n y) (hz:endT h y=y) (hne:y≠vr i) :
  (Iv n (unB m c h (vr i) y).2.2/\Ext h (unB m c h (vr i) y).2.2)/\((unB m c h (vr i) y).1=0->∀a b,Gt n a->endT h a=vr i->endT h b=y->EQ (unB m c h (vr i) y).2.2 a b):=by
 unfold unB
 rw [idx_vr,num_vr]
 by_cases h0:(lkT h ((i:Int)+1) m 0 y).1=0
 ·rw [if_pos h0]
  have hac:=H.ac.bd H.gd hy hz hne h0
  refine ⟨⟨⟨H.gd.bd hi hu hy hz hne,hac⟩,Ext.bd h i y⟩,fun _ a b ha ea eb=>hac.ends ha ?_⟩
  have e1:endT (bdH h i y) a=y:=by rw [endT_bd,ea,if_pos ((isV_vr i i).2 rfl)]
  have e2:endT (bdH h i y) b=y:=by rw [endT_bd,eb,if_neg (fun e=>hne (isV_eq hy e))]
  rw [e1,e2]
 ·rw [if_neg h0]
  exact ⟨⟨H,Ext.refl h⟩,fun e=>absurd e h0⟩
def StO (n:Nat) (F:Nat->(Nat->Value)->Value->Value->Int × Nat × (Nat->Value)):Prop:=∀c h a b,Iv n h->Gt n a->Gt n b->(Iv n (F c h a b).2.2/\Ext h (F c h a b).2.2)/\((F c h a b).1=0->EQ (F c h a b).2.2 a b)
theorem unL_ok {n:Nat} {F:Nat->(Nat->Value)->Value->Value->Int × Nat × (Nat->Value)} (hF:StO n F):∀(la lb:List Value) (c:Nat) (h:Nat->Value),Iv n h->(∀a ∈ la,Gt n a)->(∀b ∈ lb,Gt n b)->(Iv n (unL F c h la lb).2.2/\Ext h (unL F c h la lb).2.2)/\((unL F c h la lb).1=0->∀(i:Nat) (a b:Value),la[i]?=some a->lb[i]?=some b->EQ (unL F c h la lb).2.2 a b)
 | [],lb,c,h,H,_,_=>by unfold unL;exact ⟨⟨H,Ext.refl h⟩,fun _ i a b ha _=>by cases ha⟩
 | x :: la,[],c,h,H,_,_=>by unfold unL;exact ⟨⟨H,Ext.refl h⟩,fun _ i a b _ hb=>by cases hb⟩
 | x :: la,y :: lb,c,h,H,hla,hlb=>by
  have h1:=hF c h x y H (hla x (List.mem_cons_self ..)) (hlb y (List.mem_cons_self ..))
  unfold unL
  generalize F c h x y=Q at *
  obtain ⟨z,c1,h'⟩:=Q
  by_cases hz:z=0
  ·rw [if_pos hz]
   have h2:=unL_ok hF la lb c1 h' h1.1.1 (fun a ha=>hla a (List.mem_cons_of_mem _ ha)) (fun b hb=>hlb b (List.mem_cons_of_mem _ hb))
   refine ⟨⟨h2.1.1,h1.1.2.trans h2.1.2⟩,fun h0 i a b ha hb=>?_⟩
   cases i with
   | zero =>
    have e1:x=a:=Option.some.inj ha
    have e2:y=b:=Option.some.inj hb
    subst e1 e2
    exact h2.1.2.eq h1.1.1.gd h2.1.1.ac (hla x (List.mem_cons_self ..)) (hlb y (List.mem_cons_self ..)) (h1.2 hz)
   | succ i=>exact h2.2 h0 i a b ha hb
  ·rw [if_neg hz]
   exact ⟨h1.1,fun e=>absurd e hz⟩
theorem Gd.unb {n:Nat} {h:Nat->Value} (H:Gd n h) {t:Value} (hg:Gt n t) (hk:kindV (endT h t)=2):∃i,i<n/\endT h t=vr i/\h i=vr i:=by
 rcases (H.gt hg).2 with h1|h1
 ·exact h1
 ·exact absurd hk h1
theorem un_ok {n m:Nat}:∀(f:Nat),StO n (unT m f)
 | 0=>fun c h a b H ha hb=>by unfold unT;exact ⟨⟨H,Ext.refl h⟩,fun e=>by cases e⟩
 | f+1=>fun c h a b H ha hb=>by
  unfold unT
  by_cases hc:65536<c+1
  ·rw [if_pos hc];exact ⟨⟨H,Ext.refl h⟩,fun e=>by cases e⟩
  ·rw [if_neg hc]
   have hx:=(H.gd.gt ha).1
   have hy:=(H.gd.gt hb).1
   have ix:=H.gd.idem ha
   have iy:=H.gd.idem hb
   have ux:=fun e=>H.gd.unb ha e
   have uy:=fun e=>H.gd.unb hb e
   obtain ⟨x,hxd⟩:∃x,x=endT h a:=⟨_,rfl⟩
   obtain ⟨y,hyd⟩:∃y,y=endT h b:=⟨_,rfl⟩
   rw [<- hxd] at hx ix ux ⊢
   rw [<- hyd] at hy iy uy ⊢
   unfold unN
   by_cases kx:kindV x=2
   ·rw [if_pos kx]
    obtain ⟨i,hi,e,hu⟩:=ux kx
    by_cases ky:kindV y=2/\numT y=numT x
    ·rw [if_pos ky]
     obtain ⟨j,hj,e2,_⟩:=uy ky.1
     refine ⟨⟨H,Ext.refl h⟩,fun _=>H.ac.ends ha ?_⟩
     have h3:((j:Int)+1)=(i:Int)+1:=by have:=ky.2;rw [e,e2] at this;exact this
     rw [<- hxd,<- hyd,e,e2];congr 1;omega
    ·rw [if_neg ky]
     have hne:y≠vr i:=fun e2=>ky (by rw [e2,e];exact ⟨rfl,rfl⟩)
     have h1:=unB_ok (m:=m) (c:=c+1) H hi hu hy iy hne
     rw [<- e] at h1
     exact ⟨h1.1,fun h0=>h1.2 h0 a b ha hxd.symm hyd.symm⟩
   ·rw [if_neg kx]
    by_cases ky:kindV y=2
    ·rw [if_pos ky]
     obtain ⟨j,hj,e,hu⟩:=uy ky
     have hne:x≠vr j:=fun e2=>kx (by rw [e2];rfl)
     have h1:=unB_ok (m:=m) (c:=c+1) H hj hu hx ix hne
     rw [<- e] at h1
     exact ⟨h1.1,fun h0=>(h1.2 h0 b a hb hyd.symm hxd.symm).symm⟩
    ·rw [if_neg ky]
     by_cases hk:kindV x=kindV y/\namT x=namT y/\(argsV x).length=(argsV y).length
     ·rw [if_pos hk]
      have h1:=unL_ok (un_ok (m:=m) f) (argsV x) (argsV y) (c+1) h H (fun a ha=>hx.part ha) (fun b hb=>hy.part hb)
      refine ⟨h1.1,fun h0=>?_⟩
      obtain ⟨F,f1,f2⟩:=h1.1.2
      have ea:endT (unL (unT m f) (c+1) h (argsV x) (argsV y)).2.2 a=x:=by rw [f1,<- hxd,f2 x kx]
      have eb:endT (unL (unT m f) (c+1) h (argsV x) (argsV y)).2.2 b=y:=by rw [f1,<- hyd,f2 y ky]
      refine EQ.node (by rw [ea,eb];exact hk.1) (by rw [ea,eb];exact hk.2.1) (by rw [ea,eb,hx.num kx,hy.num ky]) ⟨by rw [ea,eb];exact hk.2.2,?_⟩
      rw [ea,eb]
      exact h1.2 h0
     ·rw [if_neg hk]
      exact ⟨⟨H,Ext.refl h⟩,fun e=>by cases e⟩
def Occ (h:Nat->Value) (v:Int):Nat->Value->Prop
 | 0,t=>kindV (endT h t)=2/\numT (endT h t)=v
 | k+1,t=>∃a ∈ argsV (endT h t),Occ h v k a
theorem lkL_res {f:Nat->Value->Int × Nat} {P:Value->Prop} (hf:∀c a,(f c a).1=0\/(f c a).1=3\/((f c a).1=151/\P a)):∀(l:List Value) (c:Nat),(lkL f c l).1=0\/(lkL f c l).1=3\/((lkL f c l).1=151/\∃a ∈ l,P a)
 | [],c=>.inl rfl
 | t :: l,c=>by
  unfold lkL
  by_cases h0:(f c t).1=0
  ·rw [if_pos h0]
   rcases lkL_res hf l (f c t).2 with h|h|⟨h,a,ha,hp⟩
   ·exact .inl h
   ·exact .inr (.inl h)
   ·exact .inr (.inr ⟨h,a,List.mem_cons_of_mem _ ha,hp⟩)
  ·rw [if_neg h0]
   rcases hf c t with h|h|⟨h,hp⟩
   ·exact .inl h
   ·exact .inr (.inl h)
   ·exact .inr (.inr ⟨h,t,List.mem_cons_self ..,hp⟩)
theorem lkT_res {h:Nat->Value} {v:Int}:∀(f c:Nat) (t:Value),(lkT h v f c t).1=0\/(lkT h v f c t).1=3\/((lkT h v f c t).1=151/\∃k,Occ h v k t)
 | 0,c,t=>by unfold lkT;exact .inr (.inl rfl)
 | f+1,c,t=>by
  unfold lkT
  by_cases h1:1024<c+1
  ·rw [if_pos h1];exact .inr (.inl rfl)
  ·rw [if_neg h1]
   by_cases h2:kindV (endT h t)=2/\numT (endT h t)=v
   ·rw [if_pos h2];exact .inr (.inr ⟨rfl,0,h2⟩)
   ·rw [if_neg h2]
    rcases lkL_res (P:=fun a=>∃k,Occ h v k a) (fun c a=>lkT_res f c a) (argsV (endT h t)) (c+1) with h|h|⟨h,a,ha,k,hk⟩
    ·exact .inl h
    ·exact .inr (.inl h)
    ·exact .inr (.inr ⟨h,k+1,a,ha,hk⟩)
def Mod (n:Nat) (g h:Nat->Value):Prop:=∀j,j<n->EQ g (vr j) (h j)
theorem Mod.head {n:Nat} {g h:Nat->Value} (M:Mod n g h) (G:Iv n g) {t:Value} (ht:Gt n t):EQ g t (endT h t):=by
 by_cases hk:kindV t=2
 ·obtain ⟨j,hj,rfl⟩:=ht.var hk
  rw [endT_vr];exact M j hj
 ·have e:endT h t=t:=by unfold endT;rw [if_neg hk]
  rw [e];exact G.ac.ends ht rfl
theorem occ_deep {n i:Nat} {g h:Nat->Value} (H:Iv n h) (M:Mod n g h) (G:Iv n g):∀(k d:Nat) (t:Value),Gt n t->Occ h ((i:Int)+1) k t->exT g d t->∃d',d=d'+k/\exT g d' (vr i)
 | 0,d,t,ht,ho,hx=>by
  obtain ⟨e,hq⟩:=M.head G ht
  obtain ⟨j,hj,he,_⟩:=H.gd.unb ht ho.1
  have h1:((j:Int)+1)=(i:Int)+1:=by have:=ho.2;rw [he] at this;exact this
  have h2:endT h t=vr i:=by rw [he];congr 1;omega
  rw [h2] at hq
  exact ⟨d,rfl,eqT_ex _ _ _ _ hq hx⟩
 | k+1,d,t,ht,⟨a,ha,ho⟩,hx=>by
  obtain ⟨e,hq⟩:=M.head G ht
  have hX:=eqT_ex _ _ _ _ hq hx
  have hgx:=(H.gd.gt ht).1
  have hk:kindV (endT h t)≠2:=fun hk=>by
   obtain ⟨j,_,he⟩:=hgx.var hk
   rw [he] at ha
   cases ha
  cases d with
  | zero=>exact hX.elim
  | succ d =>
   have hX':∀a ∈ argsV (endT g (endT h t)),exT g d a:=hX
   have e2:endT g (endT h t)=endT h t:=by
    generalize endT h t=X at *
    unfold endT;rw [if_neg hk]
   rw [e2] at hX'
   obtain ⟨d',h1,h2⟩:=occ_deep H M G k d a (hgx.part ha) ho (hX' a ha)
   exact ⟨d',by omega,h2⟩
theorem no_occ {n i:Nat} {g h:Nat->Value} (H:Iv n h) (M:Mod n g h) (G:Iv n g) {y:Value} (hi:i<n) (hy:Gt n y) (hz:endT h y=y) (hne:y≠vr i) (hq:EQ g (vr i) y) {k:Nat} (ho:Occ h ((i:Int)+1) k y):False:=by
 have key:∀d,exT g d (vr i)->False:=fun d=>by
  induction d using Nat.strongRecOn with
  | _ d ih =>
   intro hx
   obtain ⟨e,hq⟩:=hq
   obtain ⟨d',h1,h2⟩:=occ_deep H M G k d y hy ho (eqT_ex _ _ _ _ hq hx)
   cases k with
   | zero =>
    obtain ⟨j,hj,he,_⟩:=H.gd.unb hy ho.1
    rw [hz] at he
    have h3:((j:Int)+1)=(i:Int)+1:=by have:=ho.2;rw [hz,he] at this;exact this
    exact hne (by rw [he];congr 1;omega)
   | succ k=>exact ih d' (by omega) h2
 obtain ⟨e,hx⟩:=G.ac.of (Gt.vr hi)
 exact key e hx
def StM (n:Nat) (g:Nat->Value) (F:Nat->(Nat->Value)->Value->Value->Int × Nat × (Nat->Value)):Prop:=∀c h a b,Iv n h->Gt n a->Gt n b->Mod n g h->EQ g a b->((F c h a b).1=0\/(F c h a b).1=3)/\Mod n g (F c h a b).2.2
theorem unB_mod {n m c i:Nat} {g h:Nat->Value} {y:Value} (H:Iv n h) (G:Iv n g) (M:Mod n g h) (hi:i<n) (hy:Gt n y) (hz:endT h y=y) (hne:y≠vr i) (hq:EQ g (vr i) y):((unB m c h (vr i) y).1=0\/(unB m c h (vr i) y).1=3)/\Mod n g (unB m c h (vr i) y).2.2:=by
 unfold unB
 rw [idx_vr,num_vr]
 rcases lkT_res (h:=h) (v:=(i:Int)+1) m 0 y with h0|h0|⟨_,k,ho⟩
 ·rw [if_pos h0]
  refine ⟨.inl h0,fun j hj=>?_⟩
  show EQ g (vr j) (if isV i (h j)=true then y else h j)
  by_cases hv:isV i (h j)=true
  ·rw [if_pos hv]
   have e:=isV_eq (H.gd.good j hj) hv
   have h1:=M j hj
   rw [e] at h1
   exact h1.trans hq
  ·rw [if_neg hv];exact M j hj
 ·rw [if_neg (by rw [h0];decide)]
  exact ⟨.inr h0,M⟩
 ·exact (no_occ H M G hi hy hz hne hq ho).elim
theorem unL_mod {n:Nat} {g:Nat->Value} {F:Nat->(Nat->Value)->Value->Value->Int × Nat × (Nat->Value)} (hF:StO n F) (hM:StM n g F):∀(la lb:List Value) (c:Nat) (h:Nat->Value),Iv n h->(∀a ∈ la,Gt n a)->(∀b ∈ lb,Gt n b)->Mod n g h->(∀(i:Nat) (a b:Value),la[i]?=some a->lb[i]?=some b->EQ g a b)->((unL F c h la lb).1=0\/(unL F c h la lb).1=3)/\Mod n g (unL F c h la lb).2.2
 | [],lb,c,h,H,_,_,M,_=>by unfold unL;exact ⟨.inl rfl,M⟩
 | x :: la,[],c,h,H,_,_,M,_=>by unfold unL;exact ⟨.inl rfl,M⟩
 | x :: la,y :: lb,c,h,H,hla,hlb,M,hq=>by
  have h1:=hM c h x y H (hla x (List.mem_cons_self ..)) (hlb y (List.mem_cons_self ..)) M (hq 0 x y rfl rfl)
  have h2:=(hF c h x y H (hla x (List.mem_cons_self ..)) (hlb y (List.mem_cons_self ..))).1.1
  unfold unL
  generalize F c h x y=Q at *
  obtain ⟨z,c1,h'⟩:=Q
  by_cases hz:z=0
  ·rw [if_pos hz]
   exact unL_mod hF hM la lb c1 h' h2 (fun a ha=>hla a (List.mem_cons_of_mem _ ha)) (fun b hb=>hlb b (List.mem_cons_of_mem _ hb)) h1.2 (fun i a b ha hb=>hq (i+1) a b ha hb)
  ·rw [if_neg hz]
   exact h1
theorem un_mod {n m:Nat} {g:Nat->Value} (G:Iv n g):∀(f:Nat),StM n g (unT m f)
 | 0=>fun c h a b H ha hb M hq=>by unfold unT;exact ⟨.inr rfl,M⟩
 | f+1=>fun c h a b H ha hb M hq=>by
  unfold unT
  by_cases hc:65536<c+1
  ·rw [if_pos hc];exact ⟨.inr rfl,M⟩
  ·rw [if_neg hc]
   have hxy:EQ g (endT h a) (endT h b):=(M.head G ha).symm.trans (hq.trans (M.head G hb))
   have hx:=(H.gd.gt ha).1
   have hy:=(H.gd.gt hb).1
   have ix:=H.gd.idem ha
   have iy:=H.gd.idem hb
   have ux:=fun e=>H.gd.unb ha e
   have uy:=fun e=>H.gd.unb hb e
   generalize endT h a=x at *
   generalize endT h b=y at *
   unfold unN
   by_cases kx:kindV x=2
   ·rw [if_pos kx]
    obtain ⟨i,hi,e,hu⟩:=ux kx
    by_cases ky:kindV y=2/\numT y=numT x
    ·rw [if_pos ky];exact ⟨.inl rfl,M⟩
    ·rw [if_neg ky]
     have hne:y≠vr i:=fun e2=>ky (by rw [e2,e];exact ⟨rfl,rfl⟩)
     rw [e] at hxy ⊢
     exact unB_mod H G M hi hy iy hne hxy
   ·rw [if_neg kx]
    by_cases ky:kindV y=2
    ·rw [if_pos ky]
     obtain ⟨j,hj,e,hu⟩:=uy ky
     have hne:x≠vr j:=fun e2=>kx (by rw [e2];rfl)
     rw [e] at hxy ⊢
     exact unB_mod H G M hj hx ix hne hxy.symm
    ·rw [if_neg ky]
     have ex:endT g x=x:=by unfold endT;rw [if_neg kx]
     have ey:endT g y=y:=by unfold endT;rw [if_neg ky]
     have hp:=hxy.parts
     rw [ex,ey] at hp
     rw [if_pos ⟨hp.1,hp.2.1,hp.2.2.2.1⟩]
     exact unL_mod (un_ok (m:=m) f) (un_mod (m:=m) G f) (argsV x) (argsV y) (c+1) h H (fun a ha=>hx.part ha) (fun b hb=>hy.part hb) M hp.2.2.2.2
theorem un_res {m:Nat}:∀(f c:Nat) (h:Nat->Value) (a b:Value),(unT m f c h a b).1=0\/(unT m f c h a b).1=3\/(unT m f c h a b).1=150\/(unT m f c h a b).1=151
 | 0,c,h,a,b=>by unfold unT;exact .inr (.inl rfl)
 | f+1,c,h,a,b=>by
  have hB:∀x y,(unB m (c+1) h x y).1=0\/(unB m (c+1) h x y).1=3\/(unB m (c+1) h x y).1=150\/(unB m (c+1) h x y).1=151:=fun x y=>by
   rcases lkT_res (h:=h) (v:=numT x) m 0 y with h0|h0|⟨h0,_⟩
   ·exact .inl h0
   ·exact .inr (.inl h0)
   ·exact .inr (.inr (.inr h0))
  have hL:∀(la lb:List Value) (c:Nat) (h:Nat->Value),(unL (unT m f) c h la lb).1=0\/(unL (unT m f) c h la lb).1=3\/(unL (unT m f) c h la lb).1=150\/(unL (unT m f) c h la lb).1=151:=fun la=>by
   induction la with
   | nil=>intro lb c h;unfold unL;exact .inl rfl
   | cons x la ih =>
    intro lb c h
    cases lb with
    | nil=>unfold unL;exact .inl rfl
    | cons y lb =>
     unfold unL
     by_cases h0:(unT m f c h x y).1=0
     ·rw [if_pos h0];exact ih lb _ _
     ·rw [if_neg h0];exact un_res f c h x y
  unfold unT
  by_cases hc:65536<c+1
  ·rw [if_pos hc];exact .inr (.inl rfl)
  ·rw [if_neg hc]
   unfold unN
   split
   ·split
    ·exact .inl rfl
    ·exact hB _ _
   ·split
    ·exact hB _ _
    ·split
     ·exact hL _ _ _ _
     ·exact .inr (.inr (.inl rfl))
theorem un_turn {n m f c c':Nat} {h:Nat->Value} {a b:Value} (H:Iv n h) (ha:Gt n a) (hb:Gt n b) (h0:(unT m f c h a b).1=0):(unT m f c' h b a).1=0\/(unT m f c' h b a).1=3:=by
 have h1:=un_ok (m:=m) f c h a b H ha hb
 have M:Mod n (unT m f c h a b).2.2 h:=fun j hj=>by
  have hg:=H.gd.good j hj
  refine h1.1.1.ac.ends (Gt.vr hj) (h1.1.2.same ?_)
  have e:=H.gd.idem (Gt.vr hj)
  rw [endT_vr] at e ⊢
  exact e.symm
 exact (un_mod h1.1.1 f c' h b a H hb ha M (h1.2 h0).symm).1
theorem unL_again {n:Nat} {F:Nat->(Nat->Value)->Value->Value->Int × Nat × (Nat->Value)} {h:Nat->Value} (hF:∀c a b,Gt n a->Gt n b->EQ h a b->((F c h a b).1=0\/(F c h a b).1=3)/\(F c h a b).2.2=h):∀(la lb:List Value) (c:Nat),(∀a ∈ la,Gt n a)->(∀b ∈ lb,Gt n b)->(∀(i:Nat) (a b:Value),la[i]?=some a->lb[i]?=some b->EQ h a b)->((unL F c h la lb).1=0\/(unL F c h la lb).1=3)/\(unL F c h la lb).2.2=h
 | [],lb,c,_,_,_=>by unfold unL;exact ⟨.inl rfl,rfl⟩
 | x :: la,[],c,_,_,_=>by unfold unL;exact ⟨.inl rfl,rfl⟩
 | x :: la,y :: lb,c,hla,hlb,hq=>by
  have h1:=hF c x y (hla x (List.mem_cons_self ..)) (hlb y (List.mem_cons_self ..)) (hq 0 x y rfl rfl)
  unfold unL
  generalize F c h x y=Q at *
  obtain ⟨z,c1,h'⟩:=Q
  obtain rfl:h'=h:=h1.2
  by_cases hz:z=0
  ·rw [if_pos hz]
   exact unL_again hF la lb c1 (fun a ha=>hla a (List.mem_cons_of_mem _ ha)) (fun b hb=>hlb b (List.mem_cons_of_mem _ hb)) (fun i a b ha hb=>hq (i+1) a b ha hb)
  ·rw [if_neg hz]
   exact ⟨h1.1,rfl⟩
theorem un_again {n m:Nat} {h:Nat->Value} (H:Gd n h):∀(f c:Nat) (a b:Value),Gt n a->Gt n b->EQ h a b->((unT m f c h a b).1=0\/(unT m f c h a b).1=3)/\(unT m f c h a b).2.2=h
 | 0,c,a,b,_,_,_=>by unfold unT;exact ⟨.inr rfl,rfl⟩
 | f+1,c,a,b,ha,hb,hq=>by
  unfold unT
  by_cases hc:65536<c+1
  ·rw [if_pos hc];exact ⟨.inr rfl,rfl⟩
  ·rw [if_neg hc]
   have hp:=hq.parts
   have hx:=(H.gt ha).1
   have hy:=(H.gt hb).1
   generalize endT h a=x at *
   generalize endT h b=y at *
   unfold unN
   by_cases kx:kindV x=2
   ·rw [if_pos kx,if_pos ⟨by rw [<- hp.1];exact kx,hp.2.2.1.symm⟩];exact ⟨.inl rfl,rfl⟩
   ·rw [if_neg kx,if_neg (by rw [<- hp.1];exact kx),if_pos ⟨hp.1,hp.2.1,hp.2.2.2.1⟩]
    exact unL_again (fun c a b ga gb e=>un_again H f c a b ga gb e) _ _ _ (fun a ha=>hx.part ha) (fun b hb=>hy.part hb) hp.2.2.2.2
theorem lkL_pair {f:Nat->Value->Int × Nat}:∀(la lb:List Value) (c:Nat),la.length=lb.length->(∀(i:Nat) (a b:Value),la[i]?=some a->lb[i]?=some b->∀c,f c a=f c b)->lkL f c la=lkL f c lb
 | [],[],c,_,_=>rfl
 | [],y :: lb,c,h,_=>by cases h
 | x :: la,[],c,h,_=>by cases h
 | x :: la,y :: lb,c,hl,h=>by
  unfold lkL
  rw [h 0 x y rfl rfl c]
  by_cases h0:(f c y).1=0
  ·rw [if_pos h0,if_pos h0];exact lkL_pair la lb _ (Nat.succ.inj hl) (fun i a b ha hb=>h (i+1) a b ha hb)
  ·rw [if_neg h0,if_neg h0]
theorem lk_eq {h:Nat->Value} {v:Int}:∀(f c e:Nat) (x y:Value),eqT h e x y->lkT h v f c x=lkT h v f c y
 | 0,c,e,x,y,_=>rfl
 | f+1,c,0,x,y,hq=>hq.elim
 | f+1,c,e+1,x,y,hq=>by
  unfold lkT
  rw [hq.1,hq.2.2.1,lkL_pair _ _ _ hq.2.2.2.1 (fun i a b ha hb c=>lk_eq f c e a b (hq.2.2.2.2 i a b ha hb))]
theorem bt_eq {h:Nat->Value}:∀(f e:Nat) (x y:Value),eqT h e x y->exT h f x->btT h f x=btT h f y
 | 0,e,x,y,_,hx=>hx.elim
 | f+1,0,x,y,hq,_=>hq.elim
 | f+1,e+1,x,y,hq,hx=>by
  unfold btT
  rw [hq.1,hq.2.1,hq.2.2.1]
  congr 1
  apply List.ext_getElem?
  intro i
  rw [List.getElem?_map,List.getElem?_map]
  cases ha:(argsV (endT h x))[i]? with
  | none =>
   have h1:(argsV (endT h x)).length<=i:=List.getElem?_eq_none_iff.1 ha
   rw [hq.2.2.2.1] at h1
   rw [List.getElem?_eq_none_iff.2 h1]
  | some a =>
   obtain ⟨b,hb⟩:∃b,(argsV (endT h y))[i]?=some b:=⟨_,List.getElem?_eq_getElem (by rw [<- hq.2.2.2.1];exact (List.getElem?_eq_some_iff.1 ha).1)⟩
   rw [hb]
   show some _=some _
   rw [bt_eq f e a b (hq.2.2.2.2 i a b ha hb) (hx a (List.mem_of_getElem? ha))]
end Ty
namespace Ty
theorem DV.on {B r n:Nat} {xs:List Value} {vs:Value} {pr:Int} {u u':World} (h:DV B r n xs vs pr u) (hb:Below u.heap.size u u'):DV B r n xs vs pr u' :=
 ⟨(hb.block r (Array.getElem?_eq_some_iff.1 h.blk).1).trans h.blk,row_bel h.row hb,h.apart,h.few⟩
end Ty
namespace Ty
def TyW (S:Nat->Prop) (w:World) (n:Nat) (t v:Value):Prop:=∃d k x m es u,t=nd k x e0 m es [] 0/\v=.agg #[.int .i64 k,.string x,.int .i64 m,u]/\Row 4 (TyX false S w d) u es/\GT n d t
theorem TyW.on {S S':Nat->Prop} {w w':World} {n:Nat} {t v:Value} (h:TyW S w n t v) (hb:∀k,¬ S k->k<w.heap.size->w'.heap[k]?=w.heap[k]?) (hS:∀k,k<w.heap.size->S' k->S k):TyW S' w' n t v:=by
 obtain ⟨d,k,x,m,es,u,h0,h1,h2,h3⟩:=h
 exact ⟨d,k,x,m,es,u,h0,h1,h2.imp fun b o t _ h=>h.on hb hS,h3⟩
theorem TyW.bel {S:Nat->Prop} {w w':World} {n:Nat} {t v:Value} (h:TyW S w n t v) (hb:Below w.heap.size w w'):TyW S w' n t v:=h.on (fun k _ hl=>hb.block k hl) fun _ _ h=>h
theorem TyW.cases {S:Nat->Prop} {w:World} {n:Nat} {t v:Value} (h:TyW S w n t v):(∃j u,j<n/\t=vr j/\v=.agg #[.int .i64 2,.string e0,.int .i64 ((j:Int)+1),u]/\u.oneCell'=true)\/(∃k x m u,k≠2/\k≠0/\v=.agg #[.int .i64 k,.string x,.int .i64 m,u]/\u.oneCell'=true/\kindV t=k/\∀h,endT h t=t):=by
 obtain ⟨d,k,x,m,es,u,rfl,rfl,h2,h3⟩:=h
 obtain ⟨o1,c1,rfl⟩:=Row.len h2
 by_cases hk:k=2
 ·subst hk
  obtain ⟨j,hj,he⟩:=h3.var
  have h4:namT (nd 2 x e0 m es [] 0)=namT (vr j):=by rw [he]
  have h5:numT (nd 2 x e0 m es [] 0)=numT (vr j):=by rw [he]
  have h6:x=e0:=h4
  have h7:m=(j:Int)+1:=h5
  exact .inl ⟨j,_,hj,he,by rw [h6,h7],rfl⟩
 ·refine .inr ⟨k,x,m,_,hk,?_,rfl,rfl,rfl,fun h=>endT_nv hk⟩
  intro h0
  subst h0
  have h1:=h3.nd_ok.1
  unfold ndOk at h1
  simp at h1
def BdOk (S:Nat->Prop) (u:World) (n:Nat) (h:Nat->Value) (rk:Nat->Nat) (j:Nat) (c:Value):Prop :=
 (c=.agg #[.int .i64 0,.string ⟨#[]⟩,.int .i64 0,.slice none 0 0]/\h j=vr j)\/∃t,TyW S u n t c/\endT h t=h j/\(∀i,t=vr i->rk i<rk j)/\h j≠vr j
structure DL (S:Nat->Prop) (u:World) (n:Nat) (h:Nat->Value) (rk:Nat->Nat) (xs:List Value):Prop where
 len:xs.length=n*4
 ok:∀j,j<n->∃c0 c1 c2 c3,xs[j*4]?=some c0/\xs[j*4+1]?=some c1/\xs[j*4+2]?=some c2/\xs[j*4+3]?=some c3/\BdOk S u n h rk j (.agg #[c0,c1,c2,c3])
def DO (S:Nat->Prop) (B n:Nat) (h:Nat->Value) (r:Nat) (vs:Value) (pr:Int) (u:World):Prop:=(S r/\∀k,vs.ownBlock=some k->S k)/\∃xs rk,DV B r n xs vs pr u/\DL S u n h rk xs
theorem BdOk.on {S S':Nat->Prop} {w w':World} {n:Nat} {h:Nat->Value} {rk:Nat->Nat} {j:Nat} {c:Value} (H:BdOk S w n h rk j c) (hb:∀k,¬ S k->k<w.heap.size->w'.heap[k]?=w.heap[k]?) (hS:∀k,k<w.heap.size->S' k->S k):BdOk S' w' n h rk j c :=
 H.imp id fun ⟨t,a,b⟩=>⟨t,a.on hb hS,b⟩
theorem DL.on {S S':Nat->Prop} {w w':World} {n:Nat} {h:Nat->Value} {rk:Nat->Nat} {xs:List Value} (H:DL S w n h rk xs) (hb:∀k,¬ S k->k<w.heap.size->w'.heap[k]?=w.heap[k]?) (hS:∀k,k<w.heap.size->S' k->S k):DL S' w' n h rk xs :=
 ⟨H.len,fun j hj=>by
  obtain ⟨c0,c1,c2,c3,a0,a1,a2,a3,a4⟩:=H.ok j hj
  exact ⟨c0,c1,c2,c3,a0,a1,a2,a3,a4.on hb hS⟩⟩
theorem DO.bel {S:Nat->Prop} {B n r:Nat} {h:Nat->Value} {vs:Value} {pr:Int} {w w':World} (H:DO S B n h r vs pr w) (hk:Below w.heap.size w w'):DO S B n h r vs pr w':=by
 obtain ⟨h0,xs,rk,h1,h2⟩:=H
 exact ⟨h0,xs,rk,h1.on hk,h2.on (fun k _ hl=>hk.block k hl) fun _ _ h=>h⟩
theorem DV.form {B r n:Nat} {xs:List Value} {vs:Value} {pr:Int} {u:World} (h:DV B r n xs vs pr u) (hl:0<n):∃g cap,vs=.slice (some ⟨g,0,none⟩) n cap/\B<=g:=by
 obtain ⟨_,h1⟩:=h.row
 rcases h1 with ⟨_,h1⟩|⟨g,cap,cur,rfl,hB,_⟩
 ·omega
 ·exact ⟨g,cap,rfl,hB⟩
end Ty
namespace Ty
theorem TyW.open_ {S:Nat->Prop} {w:World} {n:Nat} {t v:Value} (h:TyW S w n t v):∃k x m oR cR,v=.agg #[.int .i64 k,.string x,.int .i64 m,.slice oR (argsV t).length cR]/\kindV t=k/\numT t=m/\(argsV t).length<=9223372036854775807/\∀i t1,(argsV t)[i]?=some t1->∃b off k1 x1 m1 u1,oR=some ⟨b,off,none⟩/\w.cell? ⟨b,off+i*4,none⟩=some (.int .i64 k1)/\w.cell? ⟨b,off+i*4+1,none⟩=some (.string x1)/\w.cell? ⟨b,off+i*4+2,none⟩=some (.int .i64 m1)/\w.cell? ⟨b,off+i*4+3,none⟩=some u1/\u1.oneCell'=true/\TyW S w n t1 (.agg #[.int .i64 k1,.string x1,.int .i64 m1,u1]):=by
 obtain ⟨d,k,x,m,es,u,rfl,rfl,h2,h3⟩:=h
 obtain ⟨oR,cR,rfl,hel⟩:=row_at h2
 refine ⟨k,x,m,oR,cR,rfl,rfl,rfl,h2.1,fun i t1 ht=>?_⟩
 obtain ⟨b,off,ho,hX⟩:=hel i t1 ht
 obtain ⟨d1,hd1,hG⟩:=h3.part ht
 subst hd1
 obtain ⟨_,k1,x1,m1,es1,u1,h0,g0,g1,g2,g3,hr⟩:=hX
 obtain ⟨o2,c2,hu2⟩:=Row.len hr
 exact ⟨b,off,k1,x1,m1,u1,ho,g0,g1,g2,g3,by rw [hu2];rfl,d1,k1,x1,m1,es1,u1,h0,rfl,hr,hG⟩
theorem DO.grow {S S':Nat->Prop} {B n r:Nat} {h:Nat->Value} {vs:Value} {pr:Int} {w w':World} (H:DO S B n h r vs pr w) (hk:Below w.heap.size w w') (h1:∀k,S k->S' k) (h2:∀k,k<w.heap.size->S' k->S k):DO S' B n h r vs pr w':=by
 obtain ⟨h0,xs,rk,h3,h4⟩:=H
 exact ⟨⟨h1 _ h0.1,fun k e=>h1 k (h0.2 k e)⟩,xs,rk,h3.on hk,h4.on (fun k _ hl=>hk.block k hl) h2⟩
end Ty
namespace Ty
def setL:List Value->Nat->List Value->List Value
 | xs,_,[]=>xs
 | xs,o,v :: r=>setL (xs.set o v) (o+1) r
theorem setL_len:∀(ns xs:List Value) (o:Nat),(setL xs o ns).length=xs.length
 | [],xs,o=>rfl
 | v :: r,xs,o=>by unfold setL;rw [setL_len r];simp
theorem setL_lo:∀(ns xs:List Value) (o i:Nat),i<o->(setL xs o ns)[i]?=xs[i]?
 | [],xs,o,i,_=>rfl
 | v :: r,xs,o,i,h=>by unfold setL;rw [setL_lo r _ _ _ (by omega),List.getElem?_set,if_neg (by omega)]
theorem setL_hi:∀(ns xs:List Value) (o i:Nat),o+ns.length<=i->(setL xs o ns)[i]?=xs[i]?
 | [],xs,o,i,_=>rfl
 | v :: r,xs,o,i,h=>by
  have h':o+(r.length+1)<=i:=h
  unfold setL;rw [setL_hi r _ _ _ (by omega),List.getElem?_set,if_neg (by omega)]
theorem setL_at:∀(ns xs:List Value) (o i:Nat) (v:Value),o+ns.length<=xs.length->ns[i]?=some v->(setL xs o ns)[o+i]?=some v
 | [],xs,o,i,v,_,h=>by cases h
 | a :: r,xs,o,0,v,h,h1=>by
  have h':o+(r.length+1)<=xs.length:=h
  have h2:a=v:=Option.some.inj h1
  unfold setL;rw [setL_lo r _ _ _ (by omega),List.getElem?_set,if_pos (by omega),if_pos (by omega),h2]
 | a :: r,xs,o,i+1,v,h,h1=>by
  have h':o+(r.length+1)<=xs.length:=h
  unfold setL
  rw [show o+(i+1)=(o+1)+i by omega]
  exact setL_at r _ _ _ _ (by rw [List.length_set];omega) h1
theorem row_put {w:World} {B n size g o:Nat} {e:TypeId} {v x:Value} {xs:List Value} (h:w.ownsRow B e size v n xs) (hg:v.ownBlock=some g) (ho:o<xs.length):(w.setCell ⟨g,o,none⟩ x).ownsRow B e size v n (xs.set o x):=by
 obtain ⟨hxl,h1⟩:=h
 rcases h1 with ⟨h1,h2⟩|⟨g',cap,cur,hv,hB,hgg,hc1,hc2,hc3,hc4⟩
 ·rw [h1] at hg;cases hg
 ·subst hv
  injection hg with hg
  subst hg
  refine ⟨by rw [List.length_set];exact hxl,.inr ⟨g',cap,_,rfl,hB,heap_setCell_same w g' o cur _ x hgg,by simpa using hc1,hc2,by simpa using hc3,?_⟩⟩
  first
  | rw [Array.toList_setIfInBounds,List.take_set,hc4]
  | (rw [List.length_set,Array.toList_setIfInBounds,List.take_set,hc4])
theorem row_cells {B n size g:Nat} {e:TypeId} {v:Value}:∀(ns xs:List Value) (o:Nat) (w:World),w.ownsRow B e size v n xs->v.ownBlock=some g->o+ns.length<=xs.length->(w.setCells g o ns).ownsRow B e size v n (setL xs o ns)
 | [],xs,o,w,h,_,_=>h
 | x :: r,xs,o,w,h,hg,hl=>by
  have h':o+(r.length+1)<=xs.length:=hl
  unfold setL World.setCells
  exact row_cells r _ _ _ (row_put h hg (by omega)) hg (by rw [List.length_set];omega)
theorem Kv.cells_in {vs:Value} {a:World} {g:Nat} (hg:vs.ownBlock=some g):∀(ns:List Value) (o:Nat) (w:World),Kv vs a w->Kv vs a (w.setCells g o ns)
 | [],o,w,h=>h
 | x :: r,o,w,h=>by unfold World.setCells;exact Kv.cells_in hg r _ _ (h.set hg o x)
theorem DL.fin {S:Nat->Prop} {w:World} {n:Nat} {h:Nat->Value} {rk:Nat->Nat} {xs:List Value} (H:DL S w n h rk xs):∀(R i:Nat),rk i<R->i<n->(∃a,a<n/\h i=vr a/\h a=vr a)\/kindV (h i)≠2
 | 0,i,hr,_=>by omega
 | R+1,i,hr,hi=>by
  obtain ⟨c0,c1,c2,c3,_,_,_,_,hb⟩:=H.ok i hi
  rcases hb with ⟨_,h1⟩|⟨t,h2,h3,h4,_⟩
  ·exact .inl ⟨i,hi,h1,h1⟩
  ·rcases h2.cases with ⟨a,_,ha,rfl,_⟩|⟨k,_,_,_,hk,_,_,_,hkk,hnv⟩
   ·rw [endT_vr] at h3
    rw [<- h3]
    exact DL.fin H R a (by have:=h4 a rfl;omega) ha
   ·rw [<- h3,hnv]
    exact .inr (by rw [hkk];exact hk)
theorem DL.isv {S:Nat->Prop} {w:World} {n:Nat} {h:Nat->Value} {rk:Nat->Nat} {xs:List Value} (H:DL S w n h rk xs) (j:Nat) {i:Nat} (hi:i<n):isV j (h i)=true↔h i=vr j:=by
 rcases H.fin (rk i+1) i (Nat.lt_succ_self _) hi with ⟨a,_,h1,_⟩|h1
 ·rw [h1,isV_vr]
  exact ⟨fun e=>by rw [e],vr_inj⟩
 ·rw [isV_nv h1]
  exact ⟨fun e=>(by cases e),fun e=>absurd (by rw [e];exact kind_vr j) h1⟩
theorem DL.bind {S:Nat->Prop} {w:World} {n:Nat} {h:Nat->Value} {rk:Nat->Nat} {xs:List Value} (H:DL S w n h rk xs) {j:Nat} {t c0 c1 c2 c3:Value} (hj:j<n) (hu:h j=vr j) (hz:TyW S w n t (.agg #[c0,c1,c2,c3])) (ht:endT h t=t) (hne:t≠vr j):∃rk',DL S w n (bdH h j t) rk' (setL xs (j*4) [c0,c1,c2,c3]):=by
 have hb1:∀i,i<n->h i=vr j->bdH h j t i=t:=fun i hi e=>if_pos ((H.isv j hi).2 e)
 have hb2:∀i,i<n->h i≠vr j->bdH h j t i=h i:=fun i hi e=>if_neg (fun e2=>e ((H.isv j hi).1 e2))
 have hx:∃X:Nat,∀i,t=vr i->rk i<X:=by
  rcases hz.cases with ⟨i,_,_,rfl,_⟩|⟨k,_,_,_,hk,_,_,_,hkk,_⟩
  ·exact ⟨rk i+1,fun i' e=>by rw [vr_inj e];omega⟩
  ·exact ⟨0,fun i e=>by rw [e] at hkk;exact absurd hkk.symm hk⟩
 obtain ⟨X,hX⟩:=hx
 have hti:∀i,t=vr i->h i=vr i:=fun i e=>by have h1:=ht;rw [e,endT_vr] at h1;exact h1
 have hlen:=H.len
 refine ⟨fun i=>if isV j (h i)=true then rk i+X else rk i,by rw [setL_len];exact H.len,fun i hi=>?_⟩
 by_cases hij:j=i
 ·subst hij
  have hl4:j*4+([c0,c1,c2,c3]:List Value).length<=xs.length:=by show j*4+4<=_;omega
  refine ⟨c0,c1,c2,c3,by have:=setL_at [c0,c1,c2,c3] xs (j*4) 0 _ hl4 rfl;exact this,setL_at [c0,c1,c2,c3] xs (j*4) 1 _ hl4 rfl,setL_at [c0,c1,c2,c3] xs (j*4) 2 _ hl4 rfl,setL_at [c0,c1,c2,c3] xs (j*4) 3 _ hl4 rfl,.inr ⟨t,hz,?_,fun i e=>?_,?_⟩⟩
  ·rw [hb1 j hj hu]
   rcases hz.cases with ⟨i,_,hi,rfl,_⟩|⟨k,_,_,_,hk,_,_,_,_,hnv⟩
   ·rw [endT_vr,hb2 i hi (by rw [hti i rfl];exact hne),hti i rfl]
   ·exact hnv _
  ·have hi:i<n:=by
    rcases hz.cases with ⟨i',_,hi',e',_⟩|⟨k,_,_,_,hk,_,_,_,hkk,_⟩
    ·rw [e] at e';rw [vr_inj e'];exact hi'
    ·rw [e] at hkk;exact absurd hkk.symm hk
   show (if isV j (h i)=true then rk i+X else rk i)<(if isV j (h j)=true then rk j+X else rk j)
   rw [if_neg (fun e2=>hne (by rw [e,<- hti i e];exact (H.isv j hi).1 e2)),if_pos ((H.isv j hj).2 hu)]
   have:=hX i e
   omega
  ·rw [hb1 j hj hu];exact hne
 ·obtain ⟨d0,d1,d2,d3,a0,a1,a2,a3,hb⟩:=H.ok i hi
  have hq:∀c,c<4->(setL xs (j*4) [c0,c1,c2,c3])[i*4+c]?=xs[i*4+c]?:=fun c hc=>by
   by_cases hlt:i<j
   ·exact setL_lo _ _ _ _ (by omega)
   ·exact setL_hi _ _ _ _ (by show j*4+4<=_;omega)
  refine ⟨d0,d1,d2,d3,(hq 0 (by omega)).trans a0,(hq 1 (by omega)).trans a1,(hq 2 (by omega)).trans a2,(hq 3 (by omega)).trans a3,?_⟩
  rcases hb with ⟨h1,h2⟩|⟨t3,h2,h3,h4,h5⟩
  ·refine .inl ⟨h1,?_⟩
   rw [hb2 i hi (by rw [h2];exact fun e=>hij (vr_inj e).symm),h2]
  ·have h6:∀a,t3=vr a->a<n/\h a=h i:=fun a e=>by
    subst e
    rcases h2.cases with ⟨a',_,ha',e',_⟩|⟨k,_,_,_,hk,_,_,_,hkk,_⟩
    ·obtain rfl:=vr_inj e'
     exact ⟨ha',by rw [<- h3,endT_vr]⟩
    ·exact absurd hkk.symm hk
   refine .inr ⟨t3,h2,?_,fun a e=>?_,?_⟩
   ·rcases h2.cases with ⟨a,_,ha,rfl,_⟩|⟨k,_,_,_,hk,_,_,_,hkk,hnv⟩
    ·rw [endT_vr]
     show (if isV j (h a)=true then t else h a)=(if isV j (h i)=true then t else h i)
     rw [(h6 a rfl).2]
    ·have h7:h i=t3:=h3.symm.trans (hnv h)
     rw [hnv,hb2 i hi (fun e=>by rw [<- h7,e] at hkk;exact hk hkk.symm),h7]
   ·show (if isV j (h a)=true then rk a+X else rk a)<(if isV j (h i)=true then rk i+X else rk i)
    rw [(h6 a e).2]
    have:=h4 a e
    split<;>omega
   ·by_cases h7:h i=vr j
    ·rw [hb1 i hi h7];exact fun e=>h5 (hti i e)
    ·rw [hb2 i hi h7];exact h5
theorem DV.kpW {B r n:Nat} {xs:List Value} {vs:Value} {pr:Int} {w w':World} (h:DV B r n xs vs pr w) (hr:w'.heap[r]?=w.heap[r]?) (hg:∀k,vs.ownBlock=some k->w'.heap[k]?=w.heap[k]?):DV B r n xs vs pr w':=by
 refine ⟨hr.trans h.blk,⟨h.row.1,h.row.2.imp id ?_⟩,h.apart,h.few⟩
 rintro ⟨g,cap,cur,rfl,hB,hg1,hc⟩
 exact ⟨g,cap,cur,rfl,hB,(hg g rfl).trans hg1,hc⟩
theorem DO.kpW {S:Nat->Prop} {B n r:Nat} {h:Nat->Value} {vs:Value} {pr:Int} {w w':World} (H:DO S B n h r vs pr w) (hr:w'.heap[r]?=w.heap[r]?) (hg:∀k,vs.ownBlock=some k->w'.heap[k]?=w.heap[k]?) (hb:∀k,¬ S k->k<w.heap.size->w'.heap[k]?=w.heap[k]?):DO S B n h r vs pr w':=by
 obtain ⟨h0,xs,rk,h1,h2⟩:=H
 exact ⟨h0,xs,rk,h1.kpW hr hg,h2.on hb fun _ _ h=>h⟩
theorem DO.count {S:Nat->Prop} {B n r:Nat} {h:Nat->Value} {vs:Value} {pr:Int} {w:World} (H:DO S B n h r vs pr w) (c:Int):w.frozen? ⟨r,1,none⟩=false/\DO S B n h r vs c (w.setCell ⟨r,1,none⟩ (.int .i64 c))/\Kp r vs.ownBlock w (w.setCell ⟨r,1,none⟩ (.int .i64 c)):=by
 obtain ⟨h0,xs,rk,h1,h2⟩:=H
 have hk:Kp r vs.ownBlock w (w.setCell ⟨r,1,none⟩ (.int .i64 c)):=(Kp.refl _ _ w).set _ _
 refine ⟨by unfold World.frozen?;rw [h1.blk];simp,⟨h0,xs,rk,⟨by rw [heap_setCell_same w r 1 _ _ _ h1.blk];rfl,row_set h1.row h1.apart,h1.apart,h1.few⟩,h2.on (hk.x h0.1 h0.2) fun _ _ h=>h⟩,hk⟩
theorem DO.bind {S:Nat->Prop} {B n r g:Nat} {h:Nat->Value} {vs:Value} {pr:Int} {w:World} (H:DO S B n h r vs pr w) {j:Nat} {t c0 c1 c2 c3:Value} (hj:j<n) (hu:h j=vr j) (hz:TyW S w n t (.agg #[c0,c1,c2,c3])) (ht:endT h t=t) (hne:t≠vr j) (hg:vs.ownBlock=some g):DO S B n (bdH h j t) r vs pr (w.setCells g (j*4) [c0,c1,c2,c3])/\Kv vs w (w.setCells g (j*4) [c0,c1,c2,c3]):=by
 have hkv:=Kv.cells_in hg [c0,c1,c2,c3] (j*4) w (Kv.refl vs w)
 obtain ⟨h0,xs,rk,hv,hk⟩:=H
 obtain ⟨rk',hk'⟩:=hk.bind hj hu hz ht hne
 have hlen:=hk.len
 have hgr:g≠r:=fun e=>hv.apart (by rw [hg,e])
 refine ⟨⟨h0,_,rk',⟨(cells_ne g r (Ne.symm hgr) _ _ w).trans hv.blk,row_cells _ _ _ _ hv.row hg (by show j*4+4<=_;omega),hv.apart,hv.few⟩,hk'.on (hkv.x h0.2) fun _ _ h=>h⟩,hkv⟩
theorem DO.lt {S:Nat->Prop} {B n r:Nat} {h:Nat->Value} {vs:Value} {pr:Int} {w:World} (H:DO S B n h r vs pr w):r<w.heap.size/\(∀k,vs.ownBlock=some k->k<w.heap.size)/\vs.ownBlock≠some r:=by
 obtain ⟨_,xs,rk,hv,_⟩:=H
 exact ⟨(Array.getElem?_eq_some_iff.1 hv.blk).1,fun k hk=>(hv.row.lt k hk).2,hv.apart⟩
theorem DO.form {S:Nat->Prop} {B n r:Nat} {h:Nat->Value} {vs:Value} {pr:Int} {w:World} (H:DO S B n h r vs pr w) (hn:0<n):w.heap[r]?=some (.cells #[vs,.int .i64 pr] 65 (0,0))/\∃g cap cur,vs=.slice (some ⟨g,0,none⟩) n cap/\w.heap[g]?=some (.cells cur 34 (0,0))/\n*4<=cur.size/\n<=4096:=by
 obtain ⟨_,xs,rk,hv,hl⟩:=H
 obtain ⟨hxl,h1⟩:=hv.row
 rcases h1 with ⟨h1,h2⟩|⟨g',cap,cur,hv',hB,hgg,hc1,hc2,hc3,hc4⟩
 ·omega
 ·refine ⟨hv.blk,g',cap,cur,hv',hgg,?_,hv.few⟩
  have h3:=congrArg List.length hc4
  rw [List.length_take,Array.length_toList,hxl] at h3
  omega
theorem Kp.cells {p:Nat} {q:Option Nat} {w u:World} (h:Kp p q w u) {g:Nat} (hg:w.heap.size<=g) (o:Nat) (vs:List Value):Kp p q w (u.setCells g o vs):=by
 have hcb:=cells_below g g (Nat.le_refl _) vs o u u (Below.refl _ _)
 exact ⟨hcb.os.trans h.os,hcb.tape.trans h.tape,hcb.output.trans h.output,Nat.le_trans h.size hcb.size,fun k hk h1 h2=>(cells_ne g k (by omega) _ o u).trans (h.block k hk h1 h2)⟩
theorem TyW.nam {S:Nat->Prop} {w:World} {n:Nat} {t u:Value} {k m:Int} {x:ByteArray} (h:TyW S w n t (.agg #[.int .i64 k,.string x,.int .i64 m,u])):kindV t=k/\namT t=x/\numT t=m:=by
 obtain ⟨d,k',x',m',es,u',rfl,h1,_⟩:=h
 injection h1 with h1
 simp only [Array.mk.injEq,List.cons.injEq,Value.int.injEq,Value.string.injEq,and_true,true_and] at h1
 obtain ⟨rfl,rfl,rfl,_⟩:=h1
 exact ⟨rfl,rfl,rfl⟩
theorem TyW.kp {S:Nat->Prop} {K:Nat} {vs:Value} {w w':World} {n:Nat} {t v:Value} (h:TyW S w n t v) (hk:Kp K vs.ownBlock w w') (hK:S K) (hs:∀k,vs.ownBlock=some k->S k):TyW S w' n t v:=h.on (hk.x hK hs) fun _ _ h=>h
theorem TyW.less {S S':Nat->Prop} {w:World} {n:Nat} {t v:Value} (h:TyW S' w n t v) (hs:∀k,S k->S' k):TyW S w n t v:=h.on (fun _ _ _=>rfl) fun k _ hk=>hs k hk
theorem DO.back {S S':Nat->Prop} {B n r:Nat} {h:Nat->Value} {vs:Value} {pr:Int} {w:World} (H:DO S' B n h r vs pr w) (h0:S r/\∀k,vs.ownBlock=some k->S k) (h1:∀k,S k->S' k):DO S B n h r vs pr w:=by
 obtain ⟨_,xs,rk,hv,hk⟩:=H
 exact ⟨h0,xs,rk,hv,hk.on (fun k _ _=>rfl) fun k _ hs=>h1 k hs⟩
theorem TyW.split {S:Nat->Prop} {w:World} {n:Nat} {t v:Value} (h:TyW S w n t v):(∃j u,j<n/\t=vr j/\v=.agg #[.int .i64 2,.string e0,.int .i64 ((j:Int)+1),u]/\u.oneCell'=true)\/(∃k x m oR cR,k≠2/\v=.agg #[.int .i64 k,.string x,.int .i64 m,.slice oR (argsV t).length cR]/\kindV t≠2/\kindV t=k/\namT t=x):=by
 rcases h.cases with ⟨j,u,h1,h2,h3,h4⟩|⟨k,x,m,u,h1,_,h3,_,h5,_⟩
 ·exact .inl ⟨j,u,h1,h2,h3,h4⟩
 ·obtain ⟨k',x',m',oR,cR,h6,h7,_⟩:=h.open_
  rw [h6] at h
  refine .inr ⟨k',x',m',oR,cR,?_,h6,by rw [h5];exact h1,h7,h.nam.2.1⟩
  rw [<- h7,h5];exact h1
end Ty
namespace Ty
def PrS (S:Nat->Prop) (B n r:Nat) (vs:Value) (R:Int × Nat × (Nat->Value)) (w:World) (e:Ending) (w':World):Prop:=∃c':Nat,e=.returned (.int .i64 R.1)/\(R.1=0->c'=R.2.1)/\DO S B n R.2.2 r vs (c':Int) w'/\Kp r vs.ownBlock w w'
theorem PrS.of {S:Nat->Prop} {B n r:Nat} {vs:Value} {R:Int × Nat × (Nat->Value)} {w w':World} {z:Int} {c1:Nat} {h1:Nat->Value} (hR:R=(z,c1,h1)) (c':Nat) (h0:z=0->c'=c1) (hd:DO S B n h1 r vs (c':Int) w') (hk:Kp r vs.ownBlock w w'):PrS S B n r vs R w (.returned (.int .i64 z)) w':=by
 subst hR
 exact ⟨c',rfl,h0,hd,hk⟩
end Ty
namespace Ty
theorem TyW.len {S:Nat->Prop} {w:World} {n:Nat} {t v:Value} (h:TyW S w n t v):(argsV t).length<=200010:=by
 obtain ⟨d,k,x,m,es,u,rfl,_,_,h3⟩:=h
 exact h3.len
end Ty
namespace Ty
def UnS (S:Nat->Prop) (B n r:Nat) (vs:Value) (g:Bool) (R:Int × Nat × (Nat->Value)) (h:Nat->Value) (w:World) (e:Ending) (w':World):Prop:=∃pr:Int,e=.returned (.int .i64 (if g=true then R.1 else 1))/\DO S B n (if g=true then R.2.2 else h) r vs pr w'/\Kp r vs.ownBlock w w'
theorem UnS.ok {S:Nat->Prop} {B n r:Nat} {vs:Value} {g:Bool} {R:Int × Nat × (Nat->Value)} {h:Nat->Value} {w w':World} {pr:Int} (hg:g=true) (hd:DO S B n R.2.2 r vs pr w') (hk:Kp r vs.ownBlock w w'):UnS S B n r vs g R h w (.returned (.int .i64 R.1)) w':=by
 subst hg
 exact ⟨pr,rfl,hd,hk⟩
theorem tk_split {n d:Nat} {t:Value}:tkT n d t=(decide (cnT (d+1) 0 t<=1024) && gdT n (d+1) t):=rfl
theorem InX.val {S:Nat->Prop} {w:World} {d:Nat} {t v:Value} (h:InX S w d t v):∃k x m u,v=.agg #[.int .i64 k,.string x,.int .i64 m,u]/\u.oneCell'=true:=by
 obtain ⟨k,x,m,es,u,h1,h2,h3⟩:=id h.at_
 obtain ⟨o1,c1,rfl⟩:=Row.len h3
 exact ⟨k,x,m,_,h2,rfl⟩
end Ty
namespace Ty
end Ty
namespace Ty
theorem cnL_cong {f g:Nat->Value->Nat}:∀(l:List Value) (c:Nat),(∀a ∈ l,∀c,f c a=g c a)->cnL f c l=cnL g c l
 | [],c,_=>rfl
 | t :: l,c,h=>by
  unfold cnL
  rw [h t (List.mem_cons_self ..) c,cnL_cong l _ (fun a ha=>h a (List.mem_cons_of_mem _ ha))]
theorem all_cong {f g:Value->Bool}:∀(l:List Value),(∀a ∈ l,f a=g a)->l.all f=l.all g
 | [],_=>rfl
 | t :: l,h=>by rw [List.all_cons,List.all_cons,h t (List.mem_cons_self ..),all_cong l (fun a ha=>h a (List.mem_cons_of_mem _ ha))]
theorem gc_few {n:Nat}:∀(d:Nat) (t:Value),Pz.few d t->∀k,gdT n (d+k+1) t=gdT n (d+1) t/\∀c,cnT (d+k+1) c t=cnT (d+1) c t
 | 0,t,h,k=>by
  have ha:argsV t = []:=h.2.1
  refine ⟨?_,fun c=>?_⟩
  ·unfold gdT;rw [ha];rfl
  ·unfold cnT;rw [ha];rfl
 | d+1,t,h,k=>by
  have ha:∀x ∈ argsV t,Pz.few d x:=h.2.2.2.1
  have e:d+1+k=d+k+1:=by omega
  rw [e]
  refine ⟨?_,fun c=>?_⟩
  ·show (_ && (argsV t).all (gdT n (d+k+1)))=(_ && (argsV t).all (gdT n (d+1)))
   rw [all_cong _ (fun x hx=>(gc_few d x (ha x hx) k).1)]
  ·show cnL (cnT (d+k+1)) (c+1) (argsV t)=cnL (cnT (d+1)) (c+1) (argsV t)
   rw [cnL_cong _ _ (fun x hx=>(gc_few (n:=n) d x (ha x hx) k).2)]
theorem tk_few {n d e:Nat} {t:Value} (h:Pz.few d t) (he:d<=e):tkT n e t=tkT n d t:=by
 obtain ⟨k,rfl⟩:∃k,e=d+k:=⟨e-d,by omega⟩
 rw [tk_split,tk_split,(gc_few d t h k).1,(gc_few (n:=n) d t h k).2]
theorem InX.low {S:Nat->Prop} {w w':World} {d:Nat} {t v:Value} (h:TyV 0 d w t v) (hb:Below w.heap.size w w') (hS:∀k,k<w.heap.size->¬ S k) (hf:Pz.few d t) (hs:∀e,smT e t):InX S w' d t v:=by
 obtain ⟨k,x,n,es,u,h1,h2,h3⟩:=h
 exact ⟨⟨k,x,n,es,u,h1,h2,h3.imp fun b o t _ h=>TyX.low hb hS _ _ _ _ h⟩,hf,hs⟩
def SB (p r:Nat) (vs bs:Value) (k:Nat):Prop:=k=p\/k=r\/vs.ownBlock=some k\/bs.ownBlock=some k
structure Apt (p r:Nat) (vs bs:Value):Prop where
 ne:p≠r
 a1:vs.ownBlock≠some r
 a2:bs.ownBlock≠some p
 a3:∀k,vs.ownBlock=some k->bs.ownBlock≠some k
theorem DO.kv {S:Nat->Prop} {B n p r:Nat} {h:Nat->Value} {vs bs:Value} {pr:Int} {w w':World} (H:DO S B n h r bs pr w) (hk:Kv vs w w') (hA:Apt p r vs bs) (hs:∀k,vs.ownBlock=some k->S k):DO S B n h r bs pr w' :=
 H.kpW (hk.block r H.lt.1 hA.a1) (fun k e=>hk.block k (H.lt.2.1 k e) (fun e2=>hA.a3 k e2 e)) (hk.x hs)
theorem SO.kpD {S:Nat->Prop} {B n p r:Nat} {h:Nat->Value} {vs bs:Value} {w w':World} (H:SO S B n h p vs w) (hk:Kp r bs.ownBlock w w') (hA:Apt p r vs bs) (hr:S r) (hs:∀k,bs.ownBlock=some k->S k):SO S B n h p vs w':=by
 obtain ⟨h0,ls,rk,h1,h2⟩:=H
 exact ⟨h0,ls,rk,h1.kp hk hA.ne hA.a2 hA.a1 (fun k e=>hA.a3 k e),h2.on (hk.x hr hs) fun _ _ h=>h⟩
theorem SO.newS {S:Nat->Prop} {B p n:Nat} {vs:Value} {w:World} (h:SV B p (List.replicate n (.pointer none)) vs w) (hp:S p) (hs:∀k,vs.ownBlock=some k->S k):SO S B n vr p vs w :=
 ⟨⟨hp,hs⟩,_,fun _=>0,h,List.length_replicate,fun j l hj=>.inl ⟨List.eq_of_mem_replicate (List.mem_of_getElem? hj),rfl⟩⟩
theorem DO.newS {S:Nat->Prop} {B r n:Nat} {xs:List Value} {bs:Value} {w:World} (h:DV B r n xs bs 0 w) (hz:∀j,j<n->∀c x,z4[c]?=some x->xs[j*4+c]?=some x) (hr:S r) (hs:∀k,bs.ownBlock=some k->S k):DO S B n vr r bs 0 w :=
 ⟨⟨hr,hs⟩,xs,fun _=>0,h,h.row.1,fun j hj=>⟨_,_,_,_,hz j hj 0 _ rfl,hz j hj 1 _ rfl,hz j hj 2 _ rfl,hz j hj 3 _ rfl,.inl ⟨rfl,rfl⟩⟩⟩
def nxH (m f n dl:Nat) (h:Nat->Value) (a b:Value):Nat->Value:=if (tkT n dl a && tkT n dl b)=true then (unT m f 0 h a b).2.2 else h
def nxZ (m f n dl:Nat) (h:Nat->Value) (a b:Value):Int:=if (tkT n dl a && tkT n dl b)=true then (unT m f 0 h a b).1 else 1
theorem unP_said {m f n dl e1 e2 B p:Nat} {S:Nat->Prop} {h:Nat->Value} {a b vs:Value} {e:Ending} {w':World} (hf1:Pz.few dl a) (hf2:Pz.few dl b) (h1:dl<=e1) (h2:dl<=e2) (hs:((tkT n e1 a && tkT n e2 b)=true/\e=.returned (.int .i64 (unT m f 0 h a b).1)/\SO S B n (unT m f 0 h a b).2.2 p vs w')\/((tkT n e1 a && tkT n e2 b)=false/\e=.returned (.int .i64 1)/\SO S B n h p vs w')):e=.returned (.int .i64 (nxZ m f n dl h a b))/\SO S B n (nxH m f n dl h a b) p vs w':=by
 rw [tk_few hf1 h1,tk_few hf2 h2] at hs
 unfold nxZ nxH
 rcases hs with ⟨g,h1,h2⟩|⟨g,h1,h2⟩
 ·rw [if_pos g,if_pos g];exact ⟨h1,h2⟩
 ·rw [g];exact ⟨h1,h2⟩
theorem tyU.one {B:Nat} {t v:Value} {w:World} (h:tyU B t v w):∃k x n u,v=.agg #[.int .i64 k,.string x,.int .i64 n,u]/\u.oneCell'=true:=h.val
end Ty
namespace Ty
theorem AC.new (n:Nat):AC n vr:=⟨1,fun j hj a ha=>by rw [endT_vr] at ha;cases ha⟩
theorem SO.kvO {S:Nat->Prop} {B n p p':Nat} {h:Nat->Value} {vs vs':Value} {w w':World} (H:SO S B n h p vs w) (hk:Kv vs' w w') (hA:Apt p p' vs vs') (hp:S p') (hs:∀k,vs'.ownBlock=some k->S k):SO S B n h p vs w':=H.kpD (hk.kp p') hA hp hs
theorem nx_ac {m f n dl:Nat} {h:Nat->Value} {a b:Value} (hG:Gd n h) (hA:AC n h) (ha:tkT n dl a=true->Gt n a) (hb:tkT n dl b=true->Gt n b):AC n (nxH m f n dl h a b):=by
 unfold nxH
 split
 ·rename_i g
  rw [Bool.and_eq_true] at g
  exact (un_ok (m:=m) f 0 h a b ⟨hG,hA⟩ (ha g.1) (hb g.2)).1.1.ac
 ·exact hA
theorem sm_cases {m f n d:Nat} {h:Nat->Value} {a b:Value} (hG:Gd n h) (hA:AC n h) (ha:tkT n d a=true->Gt n a) (hb:tkT n d b=true->Gt n b) :
  nxZ m f n d h a b=3\/(nxZ m f n d h a b≠3/\nxZ m f n d h b a=3)\/(nxZ m f n d h a b≠3/\nxZ m f n d h b a≠3/\nxZ m f n d h a b≠0/\nxZ m f n d h b a≠0/\(nxZ m f n d h a b=1↔nxZ m f n d h b a=1))\/(nxZ m f n d h a b=0/\nxZ m f n d h b a=0/\tkT n d a=true/\tkT n d b=true/\Gt n a/\Gt n b/\EQ (nxH m f n d h a b) a b):=by
 unfold nxZ nxH
 by_cases g:(tkT n d a && tkT n d b)=true
 ·have g':(tkT n d b && tkT n d a)=true:=by rw [Bool.and_comm];exact g
  rw [if_pos g,if_pos g',if_pos g]
  rw [Bool.and_eq_true] at g
  have hga:=ha g.1
  have hgb:=hb g.2
  have t1:=fun h0=>un_turn (m:=m) (f:=f) (c:=0) (c':=0) ⟨hG,hA⟩ hga hgb h0
  have t2:=fun h0=>un_turn (m:=m) (f:=f) (c:=0) (c':=0) ⟨hG,hA⟩ hgb hga h0
  have ok:=(un_ok (m:=m) f 0 h a b ⟨hG,hA⟩ hga hgb).2
  have r1:=un_res (m:=m) f 0 h a b
  have r2:=un_res (m:=m) f 0 h b a
  generalize (unT m f 0 h a b).1=z1 at *
  generalize (unT m f 0 h b a).1=z2 at *
  rcases r1 with rfl|rfl|rfl|rfl
  ·rcases t1 rfl with rfl|rfl
   ·exact .inr (.inr (.inr ⟨rfl,rfl,g.1,g.2,hga,hgb,ok rfl⟩))
   ·exact .inr (.inl ⟨by decide,rfl⟩)
  ·exact .inl rfl
  ·rcases r2 with rfl|rfl|rfl|rfl
   ·rcases t2 rfl with h|h<;>cases h
   ·exact .inr (.inl ⟨by decide,rfl⟩)
   ·exact .inr (.inr (.inl ⟨by decide,by decide,by decide,by decide,by decide⟩))
   ·exact .inr (.inr (.inl ⟨by decide,by decide,by decide,by decide,by decide⟩))
  ·rcases r2 with rfl|rfl|rfl|rfl
   ·rcases t2 rfl with h|h<;>cases h
   ·exact .inr (.inl ⟨by decide,rfl⟩)
   ·exact .inr (.inr (.inl ⟨by decide,by decide,by decide,by decide,by decide⟩))
   ·exact .inr (.inr (.inl ⟨by decide,by decide,by decide,by decide,by decide⟩))
 ·have g':¬ (tkT n d b && tkT n d a)=true:=by rw [Bool.and_comm];exact g
  rw [if_neg g,if_neg g']
  exact .inr (.inr (.inl ⟨by decide,by decide,by decide,by decide,by decide⟩))
def apX (h:Nat->Value) (m:Nat) (t:Value):Value:=if (lkT h 0 m 0 t).1=0 then btT h m t else nd 0 e0 e0 0 [] [] 0
theorem ap_eq {h:Nat->Value} {m:Nat} {a b:Value} (hq:EQ h a b):apX h m a=apX h m b/\(lkT h 0 m 0 a).1=(lkT h 0 m 0 b).1:=by
 obtain ⟨e,hq⟩:=hq
 have h1:=lk_eq (v:=0) m 0 e a b hq
 refine ⟨?_,by rw [h1]⟩
 unfold apX
 by_cases h0:(lkT h 0 m 0 a).1=0
 ·rw [if_pos h0,if_pos (by rw [<- h1];exact h0),bt_eq m e a b hq (lkT_ex m 0 a h0)]
 ·rw [if_neg h0,if_neg (by rw [<- h1];exact h0)]
theorem ap_val {S:Nat->Prop} {n m e1:Nat} {h:Nat->Value} {t va:Value} {za:Int} {u1 u2:World} (hg:tkT n e1 t=true) (hS:∀k,S k->k<u1.heap.size)
  (hP:(tkT n e1 t=false/\za=1/\va=.agg #[.int .i64 0,.string ⟨#[]⟩,.int .i64 0,.slice none 0 0])\/(tkT n e1 t=true/\(lkT h 0 m 0 t).1≠0/\za=(lkT h 0 m 0 t).1/\va=.agg #[.int .i64 0,.string ⟨#[]⟩,.int .i64 0,.slice none 0 0])\/(tkT n e1 t=true/\(lkT h 0 m 0 t).1=0/\za=0/\tyU u1.heap.size (btT h m t) va u2)):za=(lkT h 0 m 0 t).1/\∃d,AtX S u2 d (apX h m t) va:=by
 rcases hP with ⟨g,_⟩|⟨_,g2,rfl,rfl⟩|⟨_,g2,rfl,hP⟩
 ·rw [hg] at g;cases g
 ·refine ⟨rfl,0,?_⟩
  unfold apX
  rw [if_neg g2]
  exact ⟨0,e0,0,[],_,rfl,rfl,row_nil _ _⟩
 ·refine ⟨g2.symm,?_⟩
  unfold apX
  rw [if_pos g2]
  obtain ⟨k,x,n',es,u,h1,h2,d,h3⟩:=hP
  exact ⟨d,k,x,n',es,u,h1,h2,h3.imp fun b o t _ h=>TyX.weak _ _ _ _ (h.on (S':=S) (fun _ _ _=>rfl) fun k _ hk=>hS k hk)⟩
theorem AtX.le {S:Nat->Prop} {w:World} {d:Nat} {t v:Value} (h:AtX S w d t v):∀k,AtX S w (d+k) t v
 | 0=>h
 | k+1=>(AtX.le h k).up
theorem ap_two {S:Nat->Prop} {w:World} {d1 d2:Nat} {t v1 v2:Value} (h1:AtX S w d1 t v1) (h2:AtX S w d2 t v2):∃d,TyV 0 d w t v1/\TyV 0 d w t v2 :=
 ⟨d1+d2,(h1.le d2).tyv,by rw [Nat.add_comm];exact (h2.le d1).tyv⟩
theorem AtX.bel {S:Nat->Prop} {w w':World} {d:Nat} {t v:Value} (h:AtX S w d t v) (hb:Below w.heap.size w w'):AtX S w' d t v:=h.on fun k hl _=>hb.block k hl
theorem AtX.kv {S:Nat->Prop} {w w':World} {d:Nat} {t v vs:Value} (h:AtX S w d t v) (hk:Kv vs w w') (hs:∀k,vs.ownBlock=some k->S k):AtX S w' d t v:=h.on fun k hl hn=>hk.x hs k hn hl
theorem TyV.cells {w u:World} {d b o:Nat} {t:Value} {cs:Array Value} (h:TyV 0 d w t (.agg cs)) (hb:Below w.heap.size w u) (hc:∀j x,cs[j]?=some x->u.cell? ⟨b,o+j,none⟩=some x):TyC 0 u (d+1) b o t:=by
 obtain ⟨k,x,n,es,v,h0,h1,h2⟩:=h.but (Abv.of hb)
 injection h1 with h1
 subst h1
 exact ⟨Nat.zero_le _,k,x,n,es,v,h0,hc 0 _ rfl,hc 1 _ rfl,hc 2 _ rfl,hc 3 _ rfl,h2⟩
theorem row_pair {u:World} {d b:Nat} {x:Value × Value} (h:PrC u d b 0 x):Row 8 (PrC u d) (.slice (some ⟨b,0,none⟩) 1 1) [x] :=
 ⟨by simp,.inr ⟨b,0,1,rfl,fun k t hk=>by
  cases k with
  | zero =>
   have e:x=t:=Option.some.inj hk
   subst e
   exact h
  | succ k=>cases hk⟩⟩
theorem plen7 {l:List Value} (h:l.length=7):∃a0 a1 a2 a3 a4 a5 a6,l = [a0,a1,a2,a3,a4,a5,a6]:=by
 match l,h with
 | [a0,a1,a2,a3,a4,a5,a6],_=>exact ⟨_,_,_,_,_,_,_,rfl⟩
theorem nx_again {m f n d:Nat} {h:Nat->Value} {a b:Value} (hG:Gd n h) (ga:tkT n d a=true) (gb:tkT n d b=true) (ha:Gt n a) (hb:Gt n b) (hq:EQ h a b):(nxZ m f n d h a b=0\/nxZ m f n d h a b=3)/\nxH m f n d h a b=h:=by
 unfold nxZ nxH
 have g:(tkT n d a && tkT n d b)=true:=by rw [ga,gb];rfl
 rw [if_pos g,if_pos g]
 exact un_again hG f 0 a b ha hb hq
end Ty
end Go.Proofs.Ytkflfohoinbenaa
