/- Texts that the claim needs. -/
import Derived.Test.YtkdbgopgjbfhbaaGreatDoorQPW2
import Derived.Test.YtkdbgopgjbfhbaaGreatDoorQPW1
import Derived.Deep.QuietTactic
import Derived.Deep.RegionLaw
import Derived.BigQuiet
import Derived.Deep.CutRange
import Derived.Deep.RegionWith
namespace Go.Proofs.YtkdbgopgjbfhbaaGreatDoor
open Go.RowKit bq
set_option linter.unusedVariables false
namespace aj
def deps (o:Oper):List Nat:=(o.after.toList.filter (fun e=>Region.binds .any e)).map (·.on)
def jm (ops:Array Oper) (i:Nat):List Nat:=match ops[i]? with
 | some o=>deps o
 | none=>[]
def lv (ops:Array Oper):List Nat->Nat->List Nat
 | acc,0=>acc
 | acc,i+1=>lv ops (if acc.any (fun m=>(jm ops m).contains i) then i :: acc else acc) i
def Bj (ops:Array Oper) (n:Nat):Bool :=
 decide (n<ops.size) && (List.range ops.size).all (fun i=>(jm ops i).all (fun j=>decide (j<i)) && (decide (i<n) || (List.range i).all (fun j=>(lv ops [i] i).contains j)))
def Closed (ops:Array Oper) (L:Array Bool):Prop:=∀i,L.getD i false=true->∀j ∈ jm ops i,L.getD j false=true
theorem Bm {ops:Array Oper} {L:Array Bool} {k:Nat} (hc:Closed ops L) (hk:∀j ∈ jm ops k,L.getD j false=true):∀(i:Nat) (acc:List Nat),(∀m ∈ acc,m=k\/L.getD m false=true)->∀m ∈ lv ops acc i,m=k\/L.getD m false=true
 | 0,acc,h=>h
 | i+1,acc,h=>by
  unfold lv;refine Bm hc hk i _ ?_;split
  ·rename_i ha;intro m hm;rcases List.mem_cons.1 hm with rfl|hm
   ·obtain ⟨q,hq,hqi⟩:=List.any_eq_true.1 ha;have UD:m ∈ jm ops q:=by simpa using hqi
    rcases h q hq with rfl|hL
    ·exact .inr (hk _ UD)
    ·exact .inr (hc q hL _ UD)
   ·exact h m hm
  ·exact h
theorem lC (L:Array Bool) (i j:Nat) (hi:i<L.size):(L.setIfInBounds i true).getD j false=if j=i then true else L.getD j false:=by
 by_cases h:j=i
 ·subst h;rw [if_pos rfl];simp [Array.getD,hi]
 ·rw [if_neg h];simp only [Array.getD,Array.size_setIfInBounds];split
  ·rename_i hj;exact Array.getElem_setIfInBounds_ne (xs:=L) hj (fun e=>h e.symm)
  ·rfl
theorem FY {L:Array Bool} {i:Nat} (h:L.getD i true=false):i<L.size/\L.getD i false=false:=by
 have hi:i<L.size:=by
  rcases Nat.lt_or_ge i L.size with h'|h'
  ·exact h'
  ·simp [Array.getD,Nat.not_lt.2 h'] at h
 refine ⟨hi,?_⟩;simpa [Array.getD,hi] using h
structure Fr (a0:Act) (dst:Nat->Nat) (n:Nat) (a:Act):Prop where
 defers:a.defers=a0.defers
 size:a.tmps.size=a0.tmps.size
 rest:∀k,(∀i,i<n->dst i≠k)->a.tmps[k]?=a0.tmps[k]?
theorem Fr.eval {a0:Act} {dst:Nat->Nat} {n:Nat} {a:Act} (h:Fr a0 dst n a) (k:Nat) (hk:∀i,i<n->dst i≠k):a.eval (.tmp k)=a0.eval (.tmp k):=by
 show a.tmps.getD k undef=a0.tmps.getD k undef;rw [Array.getD_eq_getD_getElem?,Array.getD_eq_getD_getElem?,h.rest k hk]
theorem Fr.put {a0:Act} {dst:Nat->Nat} {n i:Nat} {a:Act} (h:Fr a0 dst n a) (hi:i<n) (v:Value):Fr a0 dst n (a.put (some (dst i)) v):=by
 refine ⟨h.defers,?_,fun k hk=>?_⟩
 ·show (a.tmps.setIfInBounds (dst i) v).size=_;rw [Array.size_setIfInBounds,h.size]
 ·show (a.tmps.setIfInBounds (dst i) v)[k]?=_;rw [Array.getElem?_setIfInBounds_ne (hk i hi),h.rest k hk]
theorem Fr.mono {a0:Act} {dst:Nat->Nat} {n n':Nat} {a:Act} (h:Fr a0 dst n a) (hn:n<=n'):Fr a0 dst n' a:=⟨h.defers,h.size,fun k hk=>h.rest k fun i hi=>hk i (by omega)⟩
theorem DF {a:Act} {k:Nat} (v:Value) (hk:k<a.tmps.size):(a.put (some k) v).eval (.tmp k)=v:=by
 show (a.tmps.setIfInBounds k v).getD k undef=v;simp [Array.getD,hk]
theorem wX {a:Act} {k j:Nat} (v:Value) (hk:k≠j):(a.put (some k) v).eval (.tmp j)=a.eval (.tmp j):=by
 show (a.tmps.setIfInBounds k v).getD j undef=a.tmps.getD j undef;rw [Array.getD_eq_getD_getElem?,Array.getD_eq_getD_getElem?,Array.getElem?_setIfInBounds_ne hk]
theorem ay {a:Act} {k:Nat} {v:Value} (h:a.eval (.tmp k)=v):a.tmps[k]?.getD undef=v:=by
 rw [<- Array.getD_eq_getD_getElem?];exact h
def UE (ops:Array Oper) (n:Nat) (dst:Nat->Nat) (size:Nat):Bool :=
 (List.range n).all fun i=>match ops[i]? with
  | some o=>o.dst == some (dst i) && o.guard.isNone && decide (dst i<size)
  | none=>false
theorem qi {ops:Array Oper} {n:Nat} {dst:Nat->Nat} {size:Nat} (h:UE ops n dst size=true):∀i,i<n->∃o,ops[i]?=some o/\o.dst=some (dst i)/\o.guard=none/\dst i<size:=fun i hi=>by
 unfold UE at h
 have:=(List.all_eq_true.1 h) i (List.mem_range.2 hi)
 cases ho:ops[i]? with
 | none=>rw [ho] at this;cases this
 | some o =>
  rw [ho] at this;simp only [Bool.and_eq_true,beq_iff_eq,decide_eq_true_eq,Option.isNone_iff_eq_none] at this;exact ⟨o,rfl,this.1.1,this.1.2,this.2⟩
theorem bB {P:Program} {o:Oper} {a:Act} {w:World} {R:Act->World->Prop} {Q:Exit->Act->World->Prop} (h:∀K:Act->World->Prop,(∀a w,R a w->K a w)->o.wp P a w K Q):o.wp P a w R Q:=h R (fun _ _ h=>h)
theorem Fr.lit {l:List Value} {ds:List Deferred} {n lo:Nat} {a:Act} (hF:Fr ⟨l.toArray,ds⟩ (fun i=>lo+i) n a) (hlo:lo+n<=l.length) :
  ∃x:List Value,x.length=n/\a=⟨(l.take lo++x++l.drop (lo+n)).toArray,ds⟩/\∀i,i<n->a.eval (.tmp (lo+i))=x.getD i undef:=by
 obtain ⟨t,d⟩:=a;obtain ⟨h1,h2,h3⟩:=hF;have h1':d=ds:=h1;subst h1';have h2':t.size=l.length:=by simpa using h2
 refine ⟨(t.toList.drop lo).take n,by rw [List.length_take,List.length_drop,Array.length_toList];omega,?_,fun i hi=>?_⟩
 ·congr 1;apply Array.ext';apply List.ext_getElem?;intro k;have hx:((t.toList.drop lo).take n).length=n:=by rw [List.length_take,List.length_drop,Array.length_toList];omega
  have hlt:(l.take lo).length=lo:=by rw [List.length_take];omega
  have Mm:=h3 k;simp only [List.getElem?_toArray] at Mm;rw [Array.getElem?_toList];show t[k]?=(l.take lo++(t.toList.drop lo).take n++l.drop (lo+n))[k]?;rcases Nat.lt_or_ge k lo with hk|hk
  ·rw [List.append_assoc,List.getElem?_append_left (by omega),List.getElem?_take,if_pos hk];exact Mm fun i _=>by omega
  ·rcases Nat.lt_or_ge k (lo+n) with hk2|hk2
   ·rw [List.append_assoc,List.getElem?_append_right (by omega),List.getElem?_append_left (by omega),List.getElem?_take,if_pos (by omega),List.getElem?_drop,hlt,Array.getElem?_toList];congr 1;omega
   ·rw [List.getElem?_append_right (by rw [List.length_append];omega),List.getElem?_drop,List.length_append,hlt,hx,show lo+n+(k-(lo+n))=k by omega];exact Mm fun i _=>by omega
 ·show t.getD (lo+i) undef=_;rw [Array.getD_eq_getD_getElem?,List.getD_eq_getElem?_getD,List.getElem?_take,if_pos hi,List.getElem?_drop,Array.getElem?_toList]
section
variable {P:Program} {ops:Array Oper} {Q:Exit->Act->World->Prop} {id:Nat} {a0:Act} {w0:World}
def Ahead (ops:Array Oper) (a0:Act) (w0:World) (n:Nat) (dst:Nat->Nat) (G:Nat->Value->World->Prop) (L:Array Bool) (a:Act) (w:World):Prop :=
 (∀k,n<=k->L.getD k false=false)/\Fr a0 dst n a/\Below w0.heap.size w0 w/\∀i,i<n->L.getD i false=true->G i (a.eval (.tmp (dst i))) w
def Behind (P:Program) (ops:Array Oper) (Q:Exit->Act->World->Prop) (n:Nat) (L:Array Bool) (a:Act) (w:World):Prop :=
 ∃k,n<=k/\(∀i,i<k->L.getD i false=true)/\(∀i,k<=i->L.getD i false=false)/\wpList P ops Q (ops.toList.drop k) a w
theorem tZ {o:Oper} {i:Nat} (h:ops[i]?=some o):jm ops i=deps o:=by unfold jm;rw [h]
theorem FX {L:Array Bool} {i:Nat} (h:i ∈ Region.ready .any ops L):L.getD i true=false/\∃o,ops[i]?=some o/\∀j ∈ deps o,L.getD j false=true:=by
 obtain ⟨h1,o,ho,hd⟩:=mem_ready.1 h;refine ⟨h1,o,ho,fun j hj=>?_⟩;obtain ⟨e,he,rfl⟩:=List.mem_map.1 hj;obtain ⟨he1,he2⟩:=List.mem_filter.1 he;exact hd e (by simpa using he1) he2
theorem KA {L:Array Bool} {i:Nat} {o:Oper} (ho:ops[i]?=some o) (h1:L.getD i true=false) (hd:∀j ∈ deps o,L.getD j false=true):i ∈ Region.ready .any ops L:=by
 refine mem_ready.2 ⟨h1,o,ho,fun e he hb=>hd _ ?_⟩;exact List.mem_map.2 ⟨e,List.mem_filter.2 ⟨by simpa using he,hb⟩,rfl⟩
theorem J3 {L:Array Bool} {n:Nat} (hT:Bj ops n=true) (hsz:L.size=ops.size) (hr:Region.ready .any ops L = []) (k:Nat) (hk:k<ops.size):L.getD k false=true:=by
 have hlow:∀i,i<ops.size->∀j ∈ jm ops i,j<i:=fun i hi j hj=>by
  unfold Bj at hT;rw [Bool.and_eq_true,List.all_eq_true] at hT
  have:=hT.2 i (List.mem_range.2 hi)
  rw [Bool.and_eq_true,List.all_eq_true] at this;exact of_decide_eq_true (this.1 j hj)
 induction k using Nat.strongRecOn with
 | _ k ih =>
  cases hL:L.getD k false with
  | true=>rfl
  | false =>
   obtain ⟨o,ho⟩:∃o,ops[k]?=some o:=⟨_,Array.getElem?_eq_getElem hk⟩
   have hm:k ∈ Region.ready .any ops L:=by
    refine KA ho ?_ fun j hj=>?_
    ·have:k<L.size:=by omega
     simp only [Array.getD,this] at hL ⊢;exact hL
    ·have hj':j ∈ jm ops k:=by rw [tZ ho];exact hj
     have:=hlow k hk j hj'
     exact ih j this (by omega)
   rw [hr] at hm;cases hm
theorem qh (n:Nat) (dst:Nat->Nat) (G:Nat->Value->World->Prop) (hm:P.follows .mixedOrders=true) (hT:Bj ops n=true)
  (hinj:∀i j,i<n->j<n->dst i=dst j->i=j)
  (hdst:∀i,i<n->∃o,ops[i]?=some o/\o.dst=some (dst i)/\o.guard=none/\dst i<a0.tmps.size)
  (mg:∀i v w w',i<n->G i v w->Below w.heap.size w w'->G i v w')
  (hstep:∀i o a w,i<n->ops[i]?=some o->Fr a0 dst n a->Below w0.heap.size w0 w->(∀j ∈ deps o,G j (a.eval (.tmp (dst j))) w)->o.wp P a w (fun a' w'=>∃v,a'=a.put o.dst v/\Below w.heap.size w w'/\G i v w') Q)
  (KR:∀a w,Fr a0 dst n a->Below w0.heap.size w0 w->(∀i,i<n->G i (a.eval (.tmp (dst i))) w)->wpList P ops Q (ops.toList.drop n) a w) :
  (Code.region id ops true).wp P Q a0 w0:=by
 have qf:=hT;unfold Bj at qf;rw [Bool.and_eq_true,List.all_eq_true,decide_eq_true_eq] at qf;obtain ⟨hn,qf⟩:=qf
 have hlow:∀i,i<ops.size->∀j ∈ jm ops i,j<i:=fun i hi j hj=>by
  have:=qf i (List.mem_range.2 hi)
  rw [Bool.and_eq_true,List.all_eq_true] at this;exact of_decide_eq_true (this.1 j hj)
 have hbig:∀(L:Array Bool) i,n<=i->i<ops.size->Closed ops L->(∀j ∈ jm ops i,L.getD j false=true)->∀j,j<i->L.getD j false=true:=fun L i hi hs hc hd j hj=>by
  have:=qf i (List.mem_range.2 hs)
  rw [Bool.and_eq_true,Bool.or_eq_true,decide_eq_true_eq] at this;rcases this.2 with h|h
  ·omega
  ·have hjm:j ∈ lv ops [i] i:=by simpa using (List.all_eq_true.1 h) j (List.mem_range.2 hj)
   rcases Bm hc hd i [i] (fun m hm=>.inl (List.mem_singleton.1 hm)) j hjm with h|h
   ·omega
   ·exact h
 refine FW (fun L a w=>L.size=ops.size/\Closed ops L/\(Ahead ops a0 w0 n dst G L a w\/Behind P ops Q n L a w)) hm ?_ ?_ ?_
 ·rintro L i a w hi ⟨hsz,hc,Ee⟩;obtain ⟨zB,o,ho,hd⟩:=FX hi;obtain ⟨jy,nQ⟩:=FY zB;have hd':∀j ∈ jm ops i,L.getD j false=true:=by rw [tZ ho];exact hd
  have hsz':(L.setIfInBounds i true).size=ops.size:=by rw [Array.size_setIfInBounds,hsz]
  have hc':Closed ops (L.setIfInBounds i true):=fun m hm j hj=>by
   rw [lC L i _ jy] at hm ⊢;split
   ·rfl
   ·by_cases he:m=i
    ·subst he;exact hd' j hj
    ·rw [if_neg he] at hm;exact hc m hm j hj
  have low:∀k,n<=k->(∀j,j<k->L.getD j false=true)->(∀j,k<=j->L.getD j false=false)->n<=i->i=k:=fun k hnk hk1 hk2 hni=>by
   have h1:=hbig L i hni (by omega) hc hd';rcases Nat.lt_trichotomy i k with h|h|h
   ·rw [hk1 i h] at nQ;cases nQ
   ·exact h
   ·have:=h1 k h;rw [hk2 k (Nat.le_refl _)] at this;cases this
  have UF:∀k,k=i->n<=k->(∀j,j<k->L.getD j false=true)->(∀j,k<=j->L.getD j false=false)->wpList P ops Q (ops.toList.drop k) a w->wpOp P ops Q i (fun a w=>(L.setIfInBounds i true).size=ops.size/\Closed ops (L.setIfInBounds i true)/\(Ahead ops a0 w0 n dst G (L.setIfInBounds i true) a w\/Behind P ops Q n (L.setIfInBounds i true) a w)) a w:=by
   rintro k rfl hnk hk1 hk2 hwp;have hks:k<ops.size:=by omega
   have J2:ops.toList.drop k=o :: ops.toList.drop (k+1):=by
    rw [List.drop_eq_getElem_cons (by simpa using hks)];congr 1
    have:=Array.getElem?_eq_getElem hks
    rw [ho] at this;simpa using (Option.some.inj this).symm
   rw [J2] at hwp
   have up:∀a w,wpList P ops Q (ops.toList.drop (k+1)) a w->(L.setIfInBounds k true).size=ops.size/\Closed ops (L.setIfInBounds k true)/\(Ahead ops a0 w0 n dst G (L.setIfInBounds k true) a w\/Behind P ops Q n (L.setIfInBounds k true) a w):=fun a w h =>
    ⟨hsz',hc',.inr ⟨k+1,by omega,fun j hj=>by
     rw [lC L k _ jy];split
     ·rfl
     ·exact hk1 j (by omega),fun j hj=>by
     rw [lC L k _ jy,if_neg (by omega)];exact hk2 j (by omega),h⟩⟩
   unfold wpOp;rw [ho];unfold wpList at hwp;show ite _ _ _;split
   ·rename_i hw;rw [if_pos hw] at hwp;exact hwp.imp (Oper.wp_mono up) (fun h=>h)
   ·rename_i hw;rw [if_neg hw] at hwp;exact up _ _ hwp
  rcases Ee with ⟨hk,hF,hB,hG⟩|⟨k,hnk,hk1,hk2,hwp⟩
  ·by_cases hin:i<n
   ·obtain ⟨o',ho',vp,hog,hos⟩:=hdst i hin
    have:o'=o:=by rw [ho] at ho';exact (Option.some.inj ho').symm
    subst this;have hs:=hstep i o' a w hin ho hF hB (fun j hj=>hG j (by have:=hlow i (by omega) j (by rw [tZ ho];exact hj);omega) (hd j hj));unfold wpOp;rw [ho];show ite _ _ _;rw [if_pos (by simp [Region.wanted,hog])];refine .inl (Oper.wp_mono ?_ hs);rintro a' w' ⟨v,rfl,hBw,Bq⟩;have DX:dst i<a.tmps.size:=by rw [hF.size];exact hos
    refine ⟨hsz',hc',.inl ⟨fun k hnk=>?_,by rw [vp];exact hF.put hin v,?_,fun j hj mV=>?_⟩⟩
    ·rw [lC L i _ jy,if_neg (by omega)];exact hk k hnk
    ·exact hB.trans (hBw.mono hB.size)
    ·rw [vp];by_cases he:j=i
     ·subst he;rw [DF v DX];exact Bq
     ·rw [lC L i _ jy,if_neg he] at mV;rw [wX v (fun e=>he (hinj i j hin hj e).symm)];exact mg j _ w w' hj (hG j hj mV) hBw
   ·have h1:=hbig L i (by omega) (by omega) hc hd'
    have acR:n=i:=by
     rcases Nat.lt_or_ge n i with h|h
     ·have:=h1 n h;rw [hk n (Nat.le_refl _)] at this;cases this
     ·omega
    refine UF n acR (Nat.le_refl _) (fun j hj=>h1 j (by omega)) hk (KR a w hF hB fun j hj=>hG j hj (h1 j (by omega)))
  ·rcases Nat.lt_or_ge i n with h|h
   ·rw [hk1 i (by omega)] at nQ;cases nQ
   ·exact UF k (low k hnk hk1 hk2 h).symm hnk hk1 hk2 hwp
 ·rintro L a w hr ⟨hsz,hc,⟨hk,_⟩|⟨k,hnk,hk1,hk2,hwp⟩⟩
  ·have:=J3 hT hsz hr n hn
   rw [hk n (Nat.le_refl _)] at this;cases this
  ·have:ops.size<=k:=by
    rcases Nat.lt_or_ge k ops.size with h|h
    ·have:=J3 hT hsz hr k h
     rw [hk2 k (Nat.le_refl _)] at this;cases this
    ·exact h
   rw [List.drop_eq_nil_of_le (by simpa using this)] at hwp;exact hwp
 ·have hf:∀k,(Array.replicate ops.size false).getD k false=false:=fun k=>by
   simp [Array.getD]
  refine ⟨by simp,fun i hi=>?_,.inl ⟨fun k _=>hf k,⟨rfl,rfl,fun _ _=>rfl⟩,⟨rfl,rfl,rfl,Nat.le_refl _,fun _ _=>rfl⟩,fun i _ hL=>?_⟩⟩
  ·rw [hf] at hi;cases hi
  ·rw [hf] at hL;cases hL
end
end aj
end Go.Proofs.YtkdbgopgjbfhbaaGreatDoor
namespace Go.Proofs.YtkdbgopgjbfhbaaGreatDoor
open Go.RowKit Lx Pz
set_option linter.unusedVariables false
namespace Pz
structure PR (w0:World) (p:Nat) (L:List Tk) (vL:Value) (en:Int) (i:Nat) (w:World):Prop where
 below:Below w0.heap.size w0 w
 base:w0.heap.size<=p
 blk:w.heap[p]?=some (.cells #[vL,.int .i64 i,.int .i64 en] 54 (0,0))
 le:i<=L.length
 toks:nH w vL L
 few:L.length<=4096
 rX:∀g o n c,vL=.slice (some ⟨g,o,none⟩) n c->g<p
section
variable {w0 w w':World} {p:Nat} {L:List Tk} {vL:Value} {en:Int} {i:Nat}
theorem PR.cell (h:PR w0 p L vL en i w) (j:Nat) (v:Value) (hv:#[vL,.int .i64 i,.int .i64 en][j]?=some v):w.cell? ⟨p,j,none⟩=some v:=by
 unfold World.cell?;rw [h.blk];exact hv
theorem PR.jb (h:PR w0 p L vL en i w) (j:Nat):w.frozen? ⟨p,j,none⟩=false:=by unfold World.frozen?;rw [h.blk];simp
theorem PR.lt (h:PR w0 p L vL en i w):p<w.heap.size:=(Array.getElem?_eq_some_iff.1 h.blk).1
theorem PR.on (h:PR w0 p L vL en i w) (hb:Below w.heap.size w w'):PR w0 p L vL en i w' :=
 ⟨h.below.trans (hb.mono h.below.size),h.base,by rw [hb.block p h.lt];exact h.blk,h.le,h.toks.on hb,h.few,h.rX⟩
structure But (p:Nat) (w w':World):Prop where
 os:w'.os=w.os
 tape:w'.tape=w.tape
 output:w'.output=w.output
 size:w.heap.size<=w'.heap.size
 block:∀k,k<w.heap.size->k≠p->w'.heap[k]?=w.heap[k]?
theorem But.refl (p:Nat) (w:World):But p w w:=⟨rfl,rfl,rfl,Nat.le_refl _,fun _ _ _=>rfl⟩
theorem But.of (p:Nat) (hb:Below w.heap.size w w'):But p w w':=⟨hb.os,hb.tape,hb.output,hb.size,fun k hk _=>hb.block k hk⟩
theorem But.trans {u:World} (h:But p w w') (h':But p w' u):But p w u :=
 ⟨h'.os.trans h.os,h'.tape.trans h.tape,h'.output.trans h.output,Nat.le_trans h.size h'.size,fun k hk hp=>(h'.block k (Nat.lt_of_lt_of_le hk h.size) hp).trans (h.block k hk hp)⟩
theorem But.set (p j:Nat) (w:World) (v:Value):But p w (w.setCell ⟨p,j,none⟩ v) :=
 ⟨rfl,rfl,rfl,by simp,fun k hk hp=>Below.heap_setCell _ _ _ _ (fun e=>hp (by rw [e]))⟩
theorem abf {w:World} {v:Value} {l:List Tk} (h:nH w v l) (h0:0<l.length):∃g c,v=.slice (some ⟨g,0,none⟩) l.length c/\∀i t,l[i]?=some t->∀j u,(wG t)[j]?=some u->w.cell? ⟨g,i*4+j,none⟩=some u:=by
 rcases h with ⟨h1,h2⟩|h
 ·subst h2;cases h0
 ·exact h
theorem DR {w:World} {v:Value} {l:List Tk} (h:nH w v l):∃o c,v=.slice o l.length c:=by
 rcases h with ⟨h1,h2⟩|⟨g,c,h1,_⟩
 ·exact ⟨none,0,by rw [h1,h2];rfl⟩
 ·exact ⟨_,_,h1⟩
theorem PR.at_ (h:PR w0 p L vL en i w) {j:Nat} (hj:j<=L.length):PR w0 p L vL en j (w.setCell ⟨p,1,none⟩ (.int .i64 j)) :=
 ⟨h.below.setCell h.base _,h.base,heap_setCell_same w p 1 _ _ _ h.blk,hj,by
  rcases h.toks with h1|⟨g,c,h1,h2⟩
  ·exact .inl h1
  ·by_cases h0:0<L.length
   ·have hg:g≠p:=Nat.ne_of_lt (h.rX g 0 _ c h1);refine .inr ⟨g,c,h1,fun i t hi j u hj=>?_⟩
    have:=h2 i t hi j u hj
    unfold World.cell? at this ⊢;rw [Below.heap_setCell w ⟨p,1,none⟩ _ _ (fun e=>hg e)];exact this
   ·exact .inr ⟨g,c,h1,fun i t hi=>by rw [List.getElem?_eq_none (by omega)] at hi;cases hi⟩,h.few,h.rX⟩
end
def Bg (a:Int):List PanicEntry:=[{ v:=.iface 48 (.int .i64 a),recovered:=false }]
def Rp {α:Type} (w0:World) (p:Nat) (L:List Tk) (vL:Value) (en:Int) (V:α->Value->World->Prop) (w:World) (x:Rd α) (e:Ending) (w':World):Prop :=
 match x with
 | .ok (a,j)=>(∃v,e=.returned v/\V a v w')/\PR w0 p L vL en j w'/\But p w w'
 | .error z=>e=.panicked (Bg z)/\Below w0.heap.size w0 w'
abbrev dO (t:Tk):Value:=.agg #[.int .i64 t.k,.string t.x,.int .i64 t.n,.int .i64 t.a]
end Pz
end Go.Proofs.YtkdbgopgjbfhbaaGreatDoor
namespace Go.Proofs.YtkdbgopgjbfhbaaGreatDoor
open Go.RowKit Lx
set_option linter.unusedVariables false
namespace Lx
theorem nH.len {w:World} {v:Value} {l:List Tk} (h:nH w v l):∃o c,v=.slice o l.length c:=by
 rcases h with ⟨h1,h2⟩|⟨g,c,h1,_⟩
 ·exact ⟨none,0,by rw [h1,h2];rfl⟩
 ·exact ⟨_,_,h1⟩
theorem nH.some {w:World} {v:Value} {l:List Tk} (h:nH w v l) (h0:0<l.length):∃g c,v=.slice (some ⟨g,0,none⟩) l.length c/\∀i t,l[i]?=some t->∀j u,(wG t)[j]?=some u->w.cell? ⟨g,i*4+j,none⟩=some u:=by
 rcases h with ⟨h1,h2⟩|h
 ·subst h2;cases h0
 ·exact h
theorem iF (w:World):Below w.heap.size w w.drew:=(Below.refl _ w).drew
theorem Tb.drew {b:Nat} {a0 a1 a2 a3:Value} {w:World} (h:Tb b a0 a1 a2 a3 w):Tb b a0 a1 a2 a3 w.drew:=h.on (iF w)
theorem ne_self (a:Int):(a != a)=false:=by simp
end Lx
end Go.Proofs.YtkdbgopgjbfhbaaGreatDoor
namespace Go.Proofs.YtkdbgopgjbfhbaaGreatDoor
open Go.RowKit Lx Pz
set_option linter.unusedVariables false
set_option maxRecDepth 100000
set_option maxHeartbeats 4000000
namespace Pz
def nB (p i g n cg:Nat) (tk:Int) (tx:ByteArray) (tn ta:Int):Nat->Value
 | 0=>.pointer (some ⟨p,0,none⟩)
 | 1=>.pointer (some ⟨p,0,none⟩)
 | 2=>.pointer (some ⟨p,0,none⟩)
 | 3=>.slice (some ⟨g,0,none⟩) n cg
 | 4=>.pointer (some ⟨p,0,none⟩)
 | 5=>.pointer (some ⟨p,0,none⟩)
 | 6=>.pointer (some ⟨p,1,none⟩)
 | 7=>.int .i64 i
 | 8=>.pointer (some ⟨g,i*4,none⟩)
 | _=>.agg #[.int .i64 tk,.string tx,.int .i64 tn,.int .i64 ta]
end Pz
theorem jc (w0:World) (p:Nat) (L:List Tk) (vL:Value) (en:Int) (i:Nat) (w:World) (h:PR w0 p L vL en i w) :
  Calls Tryz.prog 61 #[.pointer (some ⟨p,0,none⟩)] w fun e w'=>e=.returned (dO (tk L en i))/\Below w.heap.size w w':=by
 obtain ⟨o,c,DN⟩:=DR h.toks;have hA:=h.on (wP w);have c0:(wA w).cell? ⟨p,0,none⟩=some vL:=hA.cell 0 _ rfl;have c1:(wA w).cell? ⟨p,1,none⟩=some (.int .i64 i):=hA.cell 1 _ rfl;have c2:(wA w).cell? ⟨p,2,none⟩=some (.int .i64 en):=hA.cell 2 _ rfl;have hlt:=h.lt;have KQ:=h.few;by_cases hi:i<L.length
 ·obtain ⟨t,ht⟩:∃t,L[i]?=some t:=⟨_,List.getElem?_eq_getElem hi⟩;rw [jO L en ht];have q1:((i:Int) == (L.length:Int))=false:=beq_eq_false_iff_ne.2 (by omega);obtain ⟨g,cg,hvg,hcells⟩:=abf hA.toks (by omega);subst hvg;have y0:(wA w).cell? ⟨g,i*4,none⟩=some (.int .i64 t.k):=hcells i t ht 0 _ rfl;have y1:(wA w).cell? ⟨g,i*4+1,none⟩=some (.string t.x):=hcells i t ht 1 _ rfl;have y2:(wA w).cell? ⟨g,i*4+2,none⟩=some (.int .i64 t.n):=hcells i t ht 2 _ rfl;have y3:(wA w).cell? ⟨g,i*4+3,none⟩=some (.int .i64 t.a):=hcells i t ht 3 _ rfl;obtain ⟨tk,tx,tn,ta⟩:=t;simp only at y0 y1 y2 y3;clear hcells ht h hA DN;have su:w.alloc (.cells #[.int .i64 0,.string ⟨#[]⟩,.int .i64 0,.int .i64 0] 47)=wA w:=rfl;have Bc:=ae (An.start w);have wQ:=uU w;go_enter Tryz.func61,Tryz.ntmps61;go_upto_region 1 with fail;clear su;generalize wA w=u at *;go_quiet (fail);go_wp2_with fail;have aO:=ae (Bc.out.on (bq.GF u nq));have HCs:Hid (∀w2,Below (u.drewN nq).heap.size (u.drewN nq) w2->w2.cell? ⟨p,0,none⟩=some (.slice (some ⟨g,0,none⟩) L.length cg)/\w2.cell? ⟨p,1,none⟩=some (.int .i64 i)/\w2.cell? ⟨g,i*4,none⟩=some (.int .i64 tk)/\w2.cell? ⟨g,i*4+1,none⟩=some (.string tx)/\w2.cell? ⟨g,i*4+2,none⟩=some (.int .i64 tn)/\w2.cell? ⟨g,i*4+3,none⟩=some (.int .i64 ta)):=ae fun w2 hb=>⟨bq.ai hb c0,bq.ai hb c1,bq.ai hb y0,bq.ai hb y1,bq.ai hb y2,bq.ai hb y3⟩;generalize u.drewN nq=u2 at *;clear c0 c1 c2 y0 y1 y2 y3 Bc;refine aj.qh 10 (fun j=>18+j) (fun j v _=>v=nB p i g L.length cg tk tx tn ta j) (by kernel_rfl) (by kernel_rfl) (fun a b h1 h2 h=>by have h':18+a=18+b:=h;omega) (aj.qi (size:=28) (by kernel_rfl)) (fun a v w w' _ h _=>h) ?hstep ?KR
  case hstep =>
   intro j ob a w2 hj ho hF hB hd;obtain ⟨c0,c1,y0,y1,y2,y3⟩:=HCs.out w2 hB;have f0:a.tmps[0]?.getD undef=.pointer (some ⟨p,0,none⟩):=aj.ay (hF.eval 0 (fun i hi=>by show 18+i≠0;omega));have hcase:j=0\/j=1\/j=2\/j=3\/j=4\/j=5\/j=6\/j=7\/j=8\/j=9:=by omega
   clear hj;rcases hcase with rfl|rfl|rfl|rfl|rfl|rfl|rfl|rfl|rfl|rfl
   all_goals (
    simp only [List.getElem?_toArray,List.getElem?_cons_succ,List.getElem?_cons_zero,Option.some.injEq] at ho;subst ho;refine aj.bB fun K hK=>?_)
   ·go_simp;exact hK _ _ ⟨_,rfl,Below.refl _ _,rfl⟩
   ·have g0:a.tmps[18]?.getD undef=.pointer (some ⟨p,0,none⟩):=aj.ay (hd 0 (by decide));go_simp;exact hK _ _ ⟨_,rfl,Below.refl _ _,rfl⟩
   ·have g0:a.tmps[19]?.getD undef=.pointer (some ⟨p,0,none⟩):=aj.ay (hd 1 (by decide));go_simp;exact hK _ _ ⟨_,rfl,Below.refl _ _,rfl⟩
   ·have g0:a.tmps[20]?.getD undef=.pointer (some ⟨p,0,none⟩):=aj.ay (hd 2 (by decide));go_simp;exact hK _ _ ⟨_,rfl,Below.refl _ _,rfl⟩
   ·go_simp;exact hK _ _ ⟨_,rfl,Below.refl _ _,rfl⟩
   ·have g0:a.tmps[22]?.getD undef=.pointer (some ⟨p,0,none⟩):=aj.ay (hd 4 (by decide));go_simp;exact hK _ _ ⟨_,rfl,Below.refl _ _,rfl⟩
   ·have g0:a.tmps[23]?.getD undef=.pointer (some ⟨p,0,none⟩):=aj.ay (hd 5 (by decide));go_simp;exact hK _ _ ⟨_,rfl,Below.refl _ _,rfl⟩
   ·have g0:a.tmps[24]?.getD undef=.pointer (some ⟨p,1,none⟩):=aj.ay (hd 6 (by decide));go_simp;exact hK _ _ ⟨_,rfl,Below.refl _ _,rfl⟩
   ·have g0:a.tmps[21]?.getD undef=.slice (some ⟨g,0,none⟩) L.length cg:=aj.ay (hd 3 (by decide));have g1:a.tmps[25]?.getD undef=.int .i64 (i:Int):=aj.ay (hd 7 (by decide));go_simp;exact hK _ _ ⟨_,rfl,Below.refl _ _,rfl⟩
   ·have g0:a.tmps[26]?.getD undef=.pointer (some ⟨g,i*4,none⟩):=aj.ay (hd 8 (by decide));go_simp;exact hK _ _ ⟨_,rfl,Below.refl _ _,rfl⟩
  case KR =>
   intro a w2 hF hB hG;have g9:a.eval (.tmp 27)=.agg #[.int .i64 tk,.string tx,.int .i64 tn,.int .i64 ta]:=hG 9 (by decide);have g2:a.eval (.tmp 2)=.pointer (some ⟨w.heap.size,0,none⟩):=hF.eval 2 (fun i hi=>by show 18+i≠2;omega);obtain ⟨W2,bu,hth,z5,z6,z7,z8,hbl⟩:=(aO.out.on hB).put (.int .i64 tk) (.string tx) (.int .i64 tn) (.int .i64 ta);have hdf:=hF.defers;refine wpList_store_mid rfl 47 (.tmp 2) (.tmp 27) rfl w.heap.size 0 #[.int .i64 tk,.string tx,.int .i64 tn,.int .i64 ta] g2 g9 hth fI (by simp [Value.oneCell']) ?_;rw [bu];refine wpList_nil ?_;go_wp2_with fail;refine bodyPost_ret (v:=.agg #[.int .i64 tk,.string tx,.int .i64 tn,.int .i64 ta]) ?_ hdf ⟨rfl,hbl⟩;have h2:a.tmps[2]?.getD undef=.pointer (some ⟨w.heap.size,0,none⟩):=aj.ay g2;simp [results,Tryz.results61,go_sem,h2,z5,z6,z7,z8]
 ·have jy:i=L.length:=by have:=h.le;omega
  rw [AY L en (by omega)];have q1:((i:Int) == (L.length:Int))=true:=beq_iff_eq.2 (by omega);subst DN;have su:w.alloc (.cells #[.int .i64 0,.string ⟨#[]⟩,.int .i64 0,.int .i64 0] 47)=wA w:=rfl;have Bc:=ae (An.start w);have wQ:=uU w;clear h hA hi jy;go_enter Tryz.func61,Tryz.ntmps61;go_upto_region 1 with fail;clear su;generalize wA w=u at *;go_quiet (fail);have aO:=ae (Bc.out.on (bq.GF u nq));obtain ⟨W2,bu,hth,z5,z6,z7,z8,hbl⟩:=aO.out.put (.int .i64 0) (.string ⟨#[]⟩) (.int .i64 0) (.int .i64 en);have HW2:=ae bu;have aC:=ae hth;have cf:=ae hbl;clear bu hth hbl;go_wp2_with (refine wpList_store_mid rfl 47 (.tmp 2) (.tmp 17) rfl w.heap.size 0 #[.int .i64 0,.string ⟨#[]⟩,.int .i64 0,.int .i64 en] rfl rfl aC.out fI (by simp [Value.oneCell']) ?_;rw [HW2.out]);refine bodyPost_ret (v:=.agg #[.int .i64 0,.string ⟨#[]⟩,.int .i64 0,.int .i64 en]) (by simp [results,Tryz.results61,go_sem,z5,z6,z7,z8]) rfl ⟨rfl,cf.out⟩
namespace Pz
theorem Ya (t:Tk) (s:ByteArray):bn t s=((t.k == 5 || t.k == 6) && decide (t.x=s)):=rfl
end Pz
theorem vV (w0:World) (p:Nat) (L:List Tk) (vL:Value) (en:Int) (i:Nat) (s:ByteArray) (w:World) (h:PR w0 p L vL en i w) :
  Calls Tryz.prog 58 #[.pointer (some ⟨p,0,none⟩),.string s] w fun e w'=>e=.returned (.bool (bn (tk L en i) s))/\Below w.heap.size w w':=by
 have H:=ae (jc w0 p L vL en i w h);rw [Ya];generalize tk L en i=t at *;obtain ⟨k,x,n,a⟩:=t;simp only at *;clear h;cases h5:k == 5 with
 | true =>
  by_cases hx:x=s
  ·have qx:=uJ hx;rw [decide_eq_true hx];clear hx;go_enter Tryz.func58,Tryz.ntmps58;go_wp2_with fail;refine H.out.mono ?_;rintro e u ⟨rfl,hb⟩;have HB:=ae (aB hb ((Below.refl _ u).alloc (Nat.le_refl _) (.cells #[.int .i64 k,.string x,.int .i64 n,.int .i64 a] 47)));clear hb;go_wp2;go_ret;exact ⟨rfl,HB.out⟩
  ·have qx:=tN hx;rw [decide_eq_false hx];clear hx;go_enter Tryz.func58,Tryz.ntmps58;go_wp2_with fail;refine H.out.mono ?_;rintro e u ⟨rfl,hb⟩;have HB:=ae (aB hb ((Below.refl _ u).alloc (Nat.le_refl _) (.cells #[.int .i64 k,.string x,.int .i64 n,.int .i64 a] 47)));clear hb;go_wp2;go_ret;exact ⟨rfl,HB.out⟩
 | false =>
  cases h6:k == 6 with
  | true =>
   by_cases hx:x=s
   ·have qx:=uJ hx;rw [decide_eq_true hx];clear hx;go_enter Tryz.func58,Tryz.ntmps58;go_wp2_with fail;refine H.out.mono ?_;rintro e u ⟨rfl,hb⟩;have HB:=ae (aB hb ((Below.refl _ u).alloc (Nat.le_refl _) (.cells #[.int .i64 k,.string x,.int .i64 n,.int .i64 a] 47)));clear hb;go_wp2;go_ret;exact ⟨rfl,HB.out⟩
   ·have qx:=tN hx;rw [decide_eq_false hx];clear hx;go_enter Tryz.func58,Tryz.ntmps58;go_wp2_with fail;refine H.out.mono ?_;rintro e u ⟨rfl,hb⟩;have HB:=ae (aB hb ((Below.refl _ u).alloc (Nat.le_refl _) (.cells #[.int .i64 k,.string x,.int .i64 n,.int .i64 a] 47)));clear hb;go_wp2;go_ret;exact ⟨rfl,HB.out⟩
  | false =>
   go_enter Tryz.func58,Tryz.ntmps58;go_wp2_with fail;refine H.out.mono ?_;rintro e u ⟨rfl,hb⟩;have HB:=ae (aB hb ((Below.refl _ u).alloc (Nat.le_refl _) (.cells #[.int .i64 k,.string x,.int .i64 n,.int .i64 a] 47)));clear hb;go_wp2;go_ret;exact ⟨rfl,HB.out⟩
namespace Pz
theorem mK {w0:World} {p:Nat} {L:List Tk} {vL:Value} {en:Int} {i:Nat} {u:World} (h:PR w0 p L vL en i u) (k:Int) (x:ByteArray) (n a:Int):∃u2,u2=u.alloc (.cells #[.int .i64 k,.string x,.int .i64 n,.int .i64 a] 47)/\PR w0 p L vL en i u2/\Below u.heap.size u u2/\u2.cell? ⟨u.heap.size,0,none⟩=some (.int .i64 k)/\u2.cell? ⟨u.heap.size,1,none⟩=some (.string x)/\u2.cell? ⟨u.heap.size,2,none⟩=some (.int .i64 n)/\u2.cell? ⟨u.heap.size,3,none⟩=some (.int .i64 a)/\p<u.heap.size:=by
 have hb:Below u.heap.size u (u.alloc (.cells #[.int .i64 k,.string x,.int .i64 n,.int .i64 a] 47)):=(Below.refl _ u).alloc (Nat.le_refl _) _;refine ⟨_,rfl,h.on hb,hb,?_,?_,?_,?_,h.lt⟩
 all_goals (rw [World.cell?_alloc_at _ _ _ _ rfl];rfl)
theorem OZ {i n:Nat} (h:i<n) (hn:n<=4096):wrap64 ((i:Int)+1)=((i+1:Nat):Int):=by unfold wrap64;omega
end Pz
theorem ig (w0:World) (p:Nat) (L:List Tk) (vL:Value) (en:Int) (i:Nat) (s:ByteArray) (w:World) (h:PR w0 p L vL en i w) :
  Calls Tryz.prog 120 #[.pointer (some ⟨p,0,none⟩),.string s] w (Rp w0 p L vL en (fun (a:Int) v _=>v=.int .i64 a) w (match aY L en s i with | .ok j=>.ok ((tk L en i).a,j) | .error z=>.error z)):=by
 have H:=ae (jc w0 p L vL en i w h);have H2:=fun (u:World) (hb:Below w.heap.size w u)=>ae (vV w0 p L vL en i s u (h.on hb));unfold aY;have hi:bn (tk L en i) s=true->i<L.length:=fun hs=>CM L en (by rcases pV hs with e|e<;>rw [e]<;>decide)
 have HP:=ae h;generalize tk L en i=t at *;cases hs:bn t s with
 | true =>
  rw [if_pos rfl];have hi2:=hi hs;have hw1:=OZ hi2 h.few;have HI:=ae hi2;rw [hs] at H2;obtain ⟨k,x,n,a⟩:=t;simp only at *;clear hs h hi hi2;go_enter Tryz.func120,Tryz.ntmps120;go_wp2_with fail;refine H.out.mono ?_;rintro e u ⟨rfl,hb⟩;obtain ⟨u2,hu2,fM,hb2,m0,m1,m2,m3,hpl⟩:=mK (HP.out.on hb) k x n a;have HB2:=ae (aB hb hb2);have hlt2:u.heap.size<u2.heap.size:=by rw [hu2];simp
  have yO:=ae fM;go_upto_region 2 with fail;rw [<- hu2];generalize u.heap.size=q at *;clear hu2 hb hb2 fM H;go_wp2_with fail;refine (H2 _ HB2.out).out.mono ?_;rintro e u3 ⟨rfl,hb3⟩;have bb:=ae (aB HB2.out hb3);have Fp:=yO.out.on hb3;have c1:u3.cell? ⟨p,1,none⟩=some (.int .i64 i):=Fp.cell 1 _ rfl;have f1:=Fp.jb 1;have m3:=bq.ai hb3 m3;have HF:Hid (PR w0 p L vL en (i+1) (u3.setCell ⟨p,1,none⟩ (.int .i64 ((i+1:Nat):Int)))/\But p w (u3.setCell ⟨p,1,none⟩ (.int .i64 ((i+1:Nat):Int)))):=ae ⟨Fp.at_ (j:=i+1) HI.out,(But.of p bb.out).trans (But.set p 1 u3 _)⟩;have hne:p≠q:=by omega
  clear hb3 Fp H2 m0 m1 m2;go_wp2;go_ret;exact ⟨⟨_,rfl,rfl⟩,HF.out.1,HF.out.2⟩
 | false =>
  rw [if_neg (by decide)];rw [hs] at H2;obtain ⟨k,x,n,a⟩:=t;simp only at *;clear hs h hi;go_enter Tryz.func120,Tryz.ntmps120;go_wp2_with fail;refine H.out.mono ?_;rintro e u ⟨rfl,hb⟩;obtain ⟨u2,hu2,fM,hb2,m0,m1,m2,m3,hpl⟩:=mK (HP.out.on hb) k x n a;have HB2:=ae (aB hb hb2);have yO:=ae fM;go_upto_region 2 with fail;rw [<- hu2];generalize u.heap.size=q at *;clear hu2 hb hb2 fM H;go_wp2_with fail;refine (H2 _ HB2.out).out.mono ?_;rintro e u3 ⟨rfl,hb3⟩;have bb:=ae (yO.out.on hb3).below;have m3:=bq.ai hb3 m3;clear hb3 H2 m0 m1 m2;go_wp2;exact ⟨rfl,rfl,bb.out⟩
end Go.Proofs.YtkdbgopgjbfhbaaGreatDoor
