/- Texts that the claim needs. -/
import Derived.Test.YtkdbgopgjbfhbaaGreatDoorQPW3
import Derived.Test.YtkdbgopgjbfhbaaGreatDoorQPW10
namespace Go.Proofs.YtkdbgopgjbfhbaaGreatDoor
open Go.RowKit bq
set_option linter.unusedVariables false
namespace aj
def yR (ops:Array Oper) (n:Nat):Bool:=decide (ops.size=n) && (List.range ops.size).all (fun i=>(jm ops i).all (fun j=>decide (j<i)))
def Kz (ops:Array Oper) (n:Nat) (dst:Nat->Nat) (size:Nat):Bool :=
 (List.range n).all fun i=>match ops[i]? with
  | some o=>o.dst == some (dst i) && decide (dst i<size)
  | none=>false
theorem aaG {ops:Array Oper} {n:Nat} {dst:Nat->Nat} {size:Nat} (h:Kz ops n dst size=true):∀i,i<n->∃o,ops[i]?=some o/\o.dst=some (dst i)/\dst i<size:=fun i hi=>by
 unfold Kz at h
 have:=(List.all_eq_true.1 h) i (List.mem_range.2 hi)
 cases ho:ops[i]? with
 | none=>rw [ho] at this;cases this
 | some o =>
  rw [ho] at this;simp only [Bool.and_eq_true,beq_iff_eq,decide_eq_true_eq] at this;exact ⟨o,rfl,this.1,this.2⟩
theorem aaH {a:Act} {k:Nat} {b:Bool} (h:a.eval (.tmp k)=.bool b):a.tmps[k]?=some (.bool b):=by
 have h':=ay h;cases hk:a.tmps[k]? with
 | none=>rw [hk] at h';exact absurd h' (by simp [undef])
 | some v=>rw [hk] at h';exact congrArg some h'
theorem wants {ops:Array Oper} {o oj:Oper} {a:Act} {j k:Nat} {b want:Bool} (hg:o.guard=some (j,want)) (hj:ops[j]?=some oj) (hd:oj.dst=some k) (h:a.eval (.tmp k)=.bool b):Region.wanted o (yielded ops a.tmps)=(b == want):=by
 have hy:yielded ops a.tmps j=some b:=by
  unfold yielded;rw [hj]
  have:((some oj).bind (·.dst)).bind (a.tmps[·]?)=some (.bool b):=by
   show (oj.dst).bind (a.tmps[·]?)=_;rw [hd];exact aaH h
  rw [this]
 unfold Region.wanted;rw [hg];show (yielded ops a.tmps j == some want)=_;rw [hy];cases b<;>cases want<;>rfl
section
variable {P:Program} {ops:Array Oper} {Q:Exit->Act->World->Prop} {id:Nat} {a0:Act} {w0:World}
def Does (P:Program) (ops:Array Oper) (Q:Exit->Act->World->Prop) (p:Value->World->Prop) (o:Oper) (a:Act) (w:World):Prop :=
 (Region.wanted o (yielded ops a.tmps)=true/\o.wp P a w (fun a' w'=>∃v,a'=a.put o.dst v/\Below w.heap.size w w'/\p v w') Q)\/(Region.wanted o (yielded ops a.tmps)=false/\p undef w)
theorem Does.go {p:Value->World->Prop} {o:Oper} {a:Act} {w:World} (hg:o.guard=none) (h:o.wp P a w (fun a' w'=>∃v,a'=a.put o.dst v/\Below w.heap.size w w'/\p v w') Q):Does P ops Q p o a w:=.inl ⟨by simp [Region.wanted,hg],h⟩
theorem Does.wanted {p:Value->World->Prop} {o oj:Oper} {a:Act} {w:World} {j k:Nat} {b:Bool} (hg:o.guard=some (j,b)) (hj:ops[j]?=some oj) (hd:oj.dst=some k) (hb:a.eval (.tmp k)=.bool b) (h:o.wp P a w (fun a' w'=>∃v,a'=a.put o.dst v/\Below w.heap.size w w'/\p v w') Q):Does P ops Q p o a w :=
 .inl ⟨by rw [wants hg hj hd hb];cases b<;>rfl,h⟩
theorem Does.skip {p:Value->World->Prop} {o oj:Oper} {a:Act} {w:World} {j k:Nat} {b:Bool} (hg:o.guard=some (j,b)) (hj:ops[j]?=some oj) (hd:oj.dst=some k) (hb:a.eval (.tmp k)=.bool (!b)) (h:p undef w):Does P ops Q p o a w :=
 .inr ⟨by rw [wants hg hj hd hb];cases b<;>rfl,h⟩
theorem Does.op {p:Value->World->Prop} {o:Oper} {a:Act} {w:World} {K:Act->World->Prop} (h:Does P ops Q p o a w) (hK:∀v w',Below w.heap.size w w'->p v w'->K (a.put o.dst v) w') :
  if Region.wanted o (yielded ops a.tmps) then o.wp P a w K Q\/(o.asks P a w/\LetsOut Q) else K (a.put o.dst undef) w:=by
 rcases h with ⟨hw,h⟩|⟨hw,h⟩
 ·rw [if_pos hw];exact .inl (Oper.wp_mono (fun a' w' ⟨v,ha,hb,hp⟩=>by subst ha;exact hK v w' hb hp) h)
 ·rw [if_neg (by rw [hw];simp)];exact hK undef w (Below.refl _ _) h
theorem aaI (n:Nat) (dst:Nat->Nat) (G:Nat->Value->World->Prop) (hm:P.follows .mixedOrders=true) (hT:yR ops n=true)
  (hinj:∀i j,i<n->j<n->dst i=dst j->i=j)
  (hdst:∀i,i<n->∃o,ops[i]?=some o/\o.dst=some (dst i)/\dst i<a0.tmps.size)
  (mg:∀i v w w',i<n->G i v w->Below w.heap.size w w'->G i v w')
  (hstep:∀i o a w,i<n->ops[i]?=some o->Fr a0 dst n a->Below w0.heap.size w0 w->(∀j ∈ deps o,G j (a.eval (.tmp (dst j))) w)->Does P ops Q (G i) o a w)
  (hend:∀a w,Fr a0 dst n a->Below w0.heap.size w0 w->(∀i,i<n->G i (a.eval (.tmp (dst i))) w)->Q .normal a w) :
  (Code.region id ops true).wp P Q a0 w0:=by
 unfold yR at hT;rw [Bool.and_eq_true,decide_eq_true_eq,List.all_eq_true] at hT;obtain ⟨hn,hT⟩:=hT;have hlow:∀i,i<ops.size->∀j ∈ jm ops i,j<i:=fun i hi j hj=>of_decide_eq_true ((List.all_eq_true.1 (hT i (List.mem_range.2 hi))) j hj);refine FW (fun L a w=>L.size=ops.size/\Fr a0 dst n a/\Below w0.heap.size w0 w/\∀i,i<n->L.getD i false=true->G i (a.eval (.tmp (dst i))) w) hm ?_ ?_ ?_
 ·rintro L i a w hi ⟨hsz,hF,hB,hG⟩;obtain ⟨zB,o,ho,hd⟩:=FX hi;obtain ⟨jy,nQ⟩:=FY zB;have hin:i<n:=by omega
  obtain ⟨o',ho',vp,hos⟩:=hdst i hin
  have:o'=o:=by rw [ho] at ho';exact (Option.some.inj ho').symm
  subst this;have hs:=hstep i o' a w hin ho hF hB (fun j hj=>hG j (by have:=hlow i (by omega) j (by rw [tZ ho];exact hj);omega) (hd j hj));unfold wpOp;rw [ho];refine hs.op fun v w' hBw Bq=>?_;have DX:dst i<a.tmps.size:=by rw [hF.size];exact hos
  refine ⟨by rw [Array.size_setIfInBounds,hsz],by rw [vp];exact hF.put hin v,hB.trans (hBw.mono hB.size),fun j hj mV=>?_⟩;rw [vp];by_cases he:j=i
  ·subst he;rw [DF v DX];exact Bq
  ·rw [lC L i _ jy,if_neg he] at mV;rw [wX v (fun e=>he (hinj i j hin hj e).symm)];exact mg j _ w w' hj (hG j hj mV) hBw
 ·rintro L a w hr ⟨hsz,hF,hB,hG⟩;refine hend a w hF hB fun i hi=>hG i hi ?_
  have key:∀k,k<ops.size->L.getD k false=true:=by
   intro k
   induction k using Nat.strongRecOn with
   | _ k ih =>
    intro hk;cases hL:L.getD k false with
    | true=>rfl
    | false =>
     obtain ⟨o,ho⟩:∃o,ops[k]?=some o:=⟨_,Array.getElem?_eq_getElem hk⟩
     have hm:k ∈ Region.ready .any ops L:=by
      refine KA ho ?_ fun j hj=>?_
      ·have:k<L.size:=by omega
       simp only [Array.getD,this] at hL ⊢;exact hL
      ·have hj':j ∈ jm ops k:=by rw [tZ ho];exact hj
       have:=hlow k hk j hj'
       exact ih j this (by omega)
     rw [hr] at hm;cases hm
  exact key i (by omega)
 ·have hf:∀k,(Array.replicate ops.size false).getD k false=false:=fun k=>by
   simp [Array.getD]
  refine ⟨by simp,⟨rfl,rfl,fun _ _=>rfl⟩,⟨rfl,rfl,rfl,Nat.le_refl _,fun _ _=>rfl⟩,fun i _ hL=>?_⟩;rw [hf] at hL;cases hL
end
end aj
namespace aj
def J1 (ops:Array Oper) (C:List Nat) (lo size M:Nat):Bool :=
 Bj ops (ops.size-1) && decide (C.getLast?=some (ops.size-1)) && decide C.Nodup &&
 (List.range ops.size).all (fun i=>match ops[i]? with
  | some o=>o.guard.isNone && (if C.contains i then decide (o.dst=none\/(o.dst=some (lo+i)/\lo+i<size/\i<M)) else (decide (o.dst=some (lo+i)) && decide (lo+i<size) && decide (i<M) && (deps o).all (fun j=>!C.contains j)))
  | none=>false) &&
 (List.range (C.length-1)).all (fun k=>(jm ops (C.getD (k+1) 0)).contains (C.getD k 0))
section
variable {P:Program} {ops:Array Oper} {Q:Exit->Act->World->Prop} {id:Nat} {a0:Act} {w0:World}
def qd (C:List Nat) (lo:Nat) (a:Act) (j:Nat):Value:=a.eval (.tmp (lo+C.getD j 0))
structure nP (a0:Act) (lo N:Nat) (a:Act):Prop where
 defers:a.defers=a0.defers
 size:a.tmps.size=a0.tmps.size
 rest:∀k,k<lo\/lo+N<=k->a.tmps[k]?=a0.tmps[k]?
theorem nP.eval {lo N:Nat} {a:Act} (h:nP a0 lo N a) (k:Nat) (hk:k<lo\/lo+N<=k):a.eval (.tmp k)=a0.eval (.tmp k):=by
 show a.tmps.getD k undef=a0.tmps.getD k undef;rw [Array.getD_eq_getD_getElem?,Array.getD_eq_getD_getElem?,h.rest k hk]
theorem nP.put {lo N i:Nat} {a:Act} (h:nP a0 lo N a) (hi:i<N) (v:Value):nP a0 lo N (a.put (some (lo+i)) v):=by
 refine ⟨h.defers,?_,fun k hk=>?_⟩
 ·show (a.tmps.setIfInBounds (lo+i) v).size=_;rw [Array.size_setIfInBounds,h.size]
 ·show (a.tmps.setIfInBounds (lo+i) v)[k]?=_;rw [Array.getElem?_setIfInBounds_ne (by omega),h.rest k hk]
theorem nP.fr {lo N:Nat} {a:Act} (h:nP a0 lo N a):Fr a0 (fun i=>lo+i) N a :=
 ⟨h.defers,h.size,fun k hk=>h.rest k (by
  rcases Nat.lt_or_ge k lo with h1|h1
  ·exact .inl h1
  ·rcases Nat.lt_or_ge k (lo+N) with h2|h2
   ·exact absurd (show lo+(k-lo)=k by omega) (hk (k-lo) (by omega))
   ·exact .inr h2)⟩
theorem Qt {a:Act} {lo j:Nat} {v:Value} (h:a.eval (.tmp (lo+j))=v):a.tmps[j+lo]?.getD undef=v:=by
 rw [Nat.add_comm];exact ay h
theorem Zx (N lo size M:Nat) (vals:Nat->Value) (C:List Nat) (S:World->Prop) (U:Nat->(Nat->Value)->World->Prop) (hm:P.follows .mixedOrders=true) (hN:ops.size=N) (hok:J1 ops C lo size M=true) (hs:a0.tmps.size=size)
  (Qu:∀k f g w,(∀j,j<k->f j=g j)->U k f w->U k g w)
  (hread:∀i o a w,i<N->C.contains i=false->ops[i]?=some o->nP a0 lo M a->S w->(∀j ∈ deps o,a.tmps[j+lo]?.getD undef=vals j)->o.wp P a w (fun a' w'=>a'=a.put o.dst (vals i)/\w'=w) Q)
  (Zy:∀k i o a w,C[k]?=some i->ops[i]?=some o->nP a0 lo M a->S w->U k (qd C lo a) w->(∀j ∈ deps o,C.contains j=false->a.tmps[j+lo]?.getD undef=vals j)->o.wp P a w (fun a' w'=>∃v,a'=a.put o.dst v/\(k+1<C.length->S w'/\o.dst=some (lo+i))/\U (k+1) (fun j=>if j=k then v else qd C lo a j) w') Q)
  (hend:∀a w,nP a0 lo M a->(∃f,(∀j,j+1<C.length->f j=qd C lo a j)/\U C.length f w)->Q .normal a w)
  (hS0:S { w0 with drawn:=w0.drawn+1 }) (DD:∀f,U 0 f { w0 with drawn:=w0.drawn+1 }) :
  (Code.region id ops true).wp P Q a0 w0:=by
 subst hN;unfold J1 at hok;simp only [Bool.and_eq_true,List.all_eq_true,decide_eq_true_eq] at hok;obtain ⟨⟨⟨⟨hT,hlast⟩,hnd⟩,Zz⟩,J2⟩:=hok;have qf:=hT;unfold Bj at qf;rw [Bool.and_eq_true,List.all_eq_true,decide_eq_true_eq] at qf;obtain ⟨hn,qf⟩:=qf
 have ZA:∀i o,ops[i]?=some o->o.guard=none/\(C.contains i=true->o.dst=none\/(o.dst=some (lo+i)/\lo+i<size/\i<M))/\(C.contains i=false->o.dst=some (lo+i)/\lo+i<size/\i<M/\∀j ∈ deps o,C.contains j=false):=fun i o ho=>by
  have hi:i<ops.size:=(Array.getElem?_eq_some_iff.1 ho).1;have h:=Zz i (List.mem_range.2 hi);rw [ho] at h;simp only [Bool.and_eq_true,Option.isNone_iff_eq_none] at h;refine ⟨h.1,fun hc=>?_,fun hc=>?_⟩
  ·have h2:=h.2;rw [if_pos hc] at h2;exact of_decide_eq_true h2
  ·have h2:=h.2;rw [if_neg (by simp only [hc];decide)] at h2;simp only [Bool.and_eq_true,decide_eq_true_eq,List.all_eq_true,Bool.not_eq_true'] at h2;exact ⟨h2.1.1.1,h2.1.1.2,h2.1.2,h2.2⟩
 have hlen:0<C.length:=by
  cases C with
  | nil=>simp at hlast
  | cons x r=>simp
 have Qv:C[C.length-1]?=some (ops.size-1):=by rw [<- List.getLast?_eq_getElem?];exact hlast
 have hinj:∀j k i,C[j]?=some i->C[k]?=some i->j=k:=fun j k i h1 h2=>by
  obtain ⟨a1,a2⟩:=List.getElem?_eq_some_iff.1 h1;obtain ⟨b1,b2⟩:=List.getElem?_eq_some_iff.1 h2;have hp:=List.pairwise_iff_getElem.1 hnd;rcases Nat.lt_trichotomy j k with h|h|h
  ·exact absurd (a2.trans b2.symm) (hp j k a1 b1 h)
  ·exact h
  ·exact absurd (b2.trans a2.symm) (hp k j b1 a1 h)
 refine FW (fun L a w=>L.size=ops.size/\Closed ops L/\nP a0 lo M a/\∃k,k<=C.length/\(∀j i,C[j]?=some i->(L.getD i false=true↔j<k))/\(∀i,i<ops.size->C.contains i=false->L.getD i false=true->a.eval (.tmp (lo+i))=vals i)/\(k<C.length->S w/\U k (qd C lo a) w)/\(k=C.length->(∀i,i<ops.size->L.getD i false=true)/\∃f,(∀j,j+1<C.length->f j=qd C lo a j)/\U C.length f w)) hm ?_ ?_ ?_
 ·rintro L i a w hi ⟨hsz,hc,hF,k,hkl,hk,hG,hA,hB⟩;obtain ⟨zB,o,ho,hd⟩:=FX hi;obtain ⟨jy,nQ⟩:=FY zB;have his:i<ops.size:=by omega
  have hd':∀j ∈ jm ops i,L.getD j false=true:=by rw [tZ ho];exact hd
  have hkn:k<C.length:=by
   rcases Nat.lt_or_ge k C.length with h|h
   ·exact h
   ·have:=(hB (by omega)).1 i his;rw [this] at nQ;cases nQ
  obtain ⟨hS,hU⟩:=hA hkn;obtain ⟨hgd,hch,hrd⟩:=ZA i o ho;have hsz':(L.setIfInBounds i true).size=ops.size:=by rw [Array.size_setIfInBounds,hsz]
  have hc':Closed ops (L.setIfInBounds i true):=fun m hm j hj=>by
   rw [lC L i _ jy] at hm ⊢;split
   ·rfl
   ·by_cases he:m=i
    ·subst he;exact hd' j hj
    ·rw [if_neg he] at hm;exact hc m hm j hj
  have hlow:∀j ∈ deps o,j<ops.size:=fun j hj=>by
   have:=qf i (List.mem_range.2 his)
   rw [Bool.and_eq_true,List.all_eq_true] at this
   have:=of_decide_eq_true (this.1 j (by rw [tZ ho];exact hj))
   omega
  unfold wpOp;rw [ho];show ite _ _ _;rw [if_pos (by simp [Region.wanted,hgd])];left;cases hci:C.contains i with
  | false =>
   obtain ⟨hdst,hdl,ZB,fN⟩:=hrd hci;refine Oper.wp_mono ?_ (hread i o a w his hci ho hF hS fun j hj=>Qt (hG j (hlow j hj) (fN j hj) (hd j hj)));rintro a' w' ⟨rfl,rfl⟩;rw [hdst];refine ⟨hsz',hc',hF.put ZB _,k,hkl,fun j i' hj=>?_,fun i' hi' Bl hL'=>?_,fun h=>⟨hS,Qu k _ _ _ (fun j hj=>?_) hU⟩,fun h=>absurd h (by omega)⟩
   ·have hne:i'≠i:=fun e=>by (subst e;have:C.contains i'=true:=(by simpa using List.mem_of_getElem? hj);rw [hci] at this;cases this)
    rw [lC L i _ jy,if_neg hne];exact hk j i' hj
   ·by_cases he:i'=i
    ·subst he;exact DF _ (by rw [hF.size,hs];exact hdl)
    ·rw [lC L i _ jy,if_neg he] at hL';rw [wX _ (by omega)];exact hG i' hi' Bl hL'
   ·have hj':j<C.length:=by omega
    have hcm:C.contains (C.getD j 0)=true:=by
     rw [List.getD_eq_getElem?_getD,List.getElem?_eq_getElem hj'];simp
    exact (wX _ (fun e=>by (have:C.getD j 0=i:=(by omega);rw [this,hci] at hcm;cases hcm))).symm
  | true =>
   obtain ⟨kk,hkk⟩:∃kk,C[kk]?=some i:=List.getElem?_of_mem (by simpa using hci);have aew:kk<C.length:=(List.getElem?_eq_some_iff.1 hkk).1
   have e1:kk=k:=by
    have h1:¬ kk<k:=fun h=>by rw [(hk kk i hkk).2 h] at nQ;cases nQ
    rcases Nat.eq_zero_or_pos kk with h0|h0
    ·omega
    ·have hp:=J2 (kk-1) (List.mem_range.2 (by omega));rw [show kk-1+1=kk by omega] at hp;have hg1:C.getD kk 0=i:=by rw [List.getD_eq_getElem?_getD,hkk];rfl
     rw [hg1] at hp;have hpl:kk-1<C.length:=by omega
     have hq:C[kk-1]?=some (C.getD (kk-1) 0):=by rw [List.getD_eq_getElem?_getD,List.getElem?_eq_getElem hpl];rfl
     have:=(hk (kk-1) _ hq).1 (hd' _ (by simpa using hp))
     omega
   subst e1;have FZ:=hch hci;refine Oper.wp_mono ?_ (Zy kk i o a w hkk ho hF hS hU fun j hj hjc=>Qt (hG j (hlow j hj) hjc (hd j hj)));rintro a' w' ⟨v,rfl,h1,h2⟩;have hgi:C.getD kk 0=i:=by rw [List.getD_eq_getElem?_getD,hkk];rfl
   have hF':nP a0 lo M (a.put o.dst v):=by
    rcases FZ with h|h
    ·rw [h];exact hF
    ·rw [h.1];exact hF.put h.2.2 v
   refine ⟨hsz',hc',hF',kk+1,by omega,fun j i' hj=>?_,fun i' hi' Bl hL'=>?_,fun h=>?_,fun h=>?_⟩
   ·rw [lC L i _ jy];by_cases he:i'=i
    ·subst he;have:=hinj j kk i' hj hkk;subst this;simp
    ·rw [if_neg he]
     have:=hk j i' hj
     have hjk:j≠kk:=fun e=>he (by subst e;rw [hkk] at hj;exact (Option.some.inj hj).symm);rw [this];omega
   ·have hne:i'≠i:=fun e=>by subst e;rw [hci] at Bl;cases Bl
    rw [lC L i _ jy,if_neg hne] at hL';rcases FZ with h|h
    ·rw [h];exact hG i' hi' Bl hL'
    ·rw [h.1,wX _ (by omega)];exact hG i' hi' Bl hL'
   ·obtain ⟨ZC,hdd⟩:=h1 h;refine ⟨ZC,Qu _ _ _ _ (fun j hj=>?_) h2⟩;show (if j=kk then v else qd C lo a j)=_;unfold qd;rw [hdd];by_cases he:j=kk
    ·subst he;rw [if_pos rfl,hgi];exact (DF _ (by (rw [hF.size,hs];rcases FZ with h|h;(rw [h] at hdd;cases hdd);exact h.2.1))).symm
    ·rw [if_neg he]
     exact (wX _ (fun e=>by
      have hjl:j<C.length:=by omega
      have:C[j]?=some i:=by (rw [List.getElem?_eq_getElem hjl];congr 1;have:C.getD j 0=i:=(by omega);rw [List.getD_eq_getElem?_getD,List.getElem?_eq_getElem hjl] at this;exact this)
      exact he (hinj j kk i this hkk))).symm
   ·have hil:i=ops.size-1:=by
     have:kk=C.length-1:=by omega
     rw [this,Qv] at hkk;exact (Option.some.inj hkk).symm
    refine ⟨fun i' hi'=>?_,fun j=>if j=kk then v else qd C lo a j,fun j hj=>?_,by rw [<- h];exact h2⟩
    ·rw [lC L i _ jy];by_cases he:i'=i
     ·rw [if_pos he]
     ·rw [if_neg he]
      have:=qf i (List.mem_range.2 his)
      rw [Bool.and_eq_true,Bool.or_eq_true,decide_eq_true_eq] at this;rcases this.2 with h9|h9
      ·omega
      ·have hjm:i' ∈ lv ops [i] i:=by simpa using (List.all_eq_true.1 h9) i' (List.mem_range.2 (by omega))
       rcases Bm hc hd' i [i] (fun m hm=>.inl (List.mem_singleton.1 hm)) i' hjm with h8|h8
       ·exact absurd h8 he
       ·exact h8
    ·show (if j=kk then v else qd C lo a j)=qd C lo (a.put o.dst v) j;rw [if_neg (by omega)];unfold qd;rcases FZ with h7|h7
     ·rw [h7];rfl
     ·rw [h7.1]
      exact (wX _ (fun e=>by
       have hjl:j<C.length:=by omega
       have:C[j]?=some i:=by (rw [List.getElem?_eq_getElem hjl];congr 1;have:C.getD j 0=i:=(by omega);rw [List.getD_eq_getElem?_getD,List.getElem?_eq_getElem hjl] at this;exact this)
       have:=hinj j kk i this hkk
       omega)).symm
 ·rintro L a w hr ⟨hsz,hc,hF,k,hkl,hk,hG,hA,hB⟩;have hall:∀i,i<ops.size->L.getD i false=true:=fun i hi=>J3 hT hsz hr i hi
  have hkk:k=C.length:=by
   have:=(hk (C.length-1) (ops.size-1) Qv).1 (hall _ (by omega))
   omega
  exact hend a w hF (hB hkk).2
 ·have hf:∀k,(Array.replicate ops.size false).getD k false=false:=fun k=>by simp [Array.getD]
  have hcl:Closed ops (Array.replicate ops.size false):=by
   intro i hi;rw [hf] at hi;cases hi
  refine ⟨by simp,hcl,⟨rfl,rfl,fun _ _=>rfl⟩,0,by omega,fun j i hj=>by rw [hf];simp,fun i _ _ hL=>(by rw [hf] at hL;cases hL),fun _=>⟨hS0,DD _⟩,fun h=>by omega⟩
def CW (P:Program) (ops:Array Oper) (Q:Exit->Act->World->Prop) (a0:Act) (lo M:Nat) (vals:Nat->Value) (C:List Nat) (S:World->Prop):List Nat->Nat->(Nat->Value)->World->Prop
 | [],_,f,w=>∀a,nP a0 lo M a->(∀j,j+1<C.length->qd C lo a j=f j)->Q .normal a w
 | i :: r,k,f,w=>∀o a,ops[i]?=some o->nP a0 lo M a->S w->(∀j,j<k->qd C lo a j=f j)->(∀j ∈ deps o,C.contains j=false->a.tmps[j+lo]?.getD undef=vals j) ->
   o.wp P a w (fun a' w'=>∃v,a'=a.put o.dst v/\(r≠[]->S w'/\o.dst=some (lo+i))/\CW P ops Q a0 lo M vals C S r (k+1) (fun j=>if j=k then v else f j) w') Q
theorem CW.on {lo M:Nat} {vals:Nat->Value} {C:List Nat} {S:World->Prop}:∀(l:List Nat) (k:Nat) (f g:Nat->Value) (w:World),C.length<=k+l.length->(∀j,j<k->f j=g j)->CW P ops Q a0 lo M vals C S l k f w->CW P ops Q a0 lo M vals C S l k g w
 | [],k,f,g,w,hl,hfg,h=>fun a hL he=>h a hL fun j hj=>(he j hj).trans (hfg j (by simp at hl;omega)).symm
 | i :: r,k,f,g,w,hl,hfg,h=>fun o a ho hL hS he hd=>by
  refine Oper.wp_mono ?_ (h o a ho hL hS (fun j hj=>(he j hj).trans (hfg j hj).symm) hd);rintro a' w' ⟨v,h1,h2,h3⟩;refine ⟨v,h1,h2,CW.on r (k+1) _ _ w' (by simp at hl ⊢;omega) (fun j hj=>?_) h3⟩;show (if j=k then v else f j)=if j=k then v else g j;split
  ·rfl
  ·exact hfg j (by omega)
theorem rM (N lo size M:Nat) (vals:Nat->Value) (C:List Nat) (S:World->Prop) (hm:P.follows .mixedOrders=true) (hN:ops.size=N) (hok:J1 ops C lo size M=true) (hs:a0.tmps.size=size)
  (hread:∀i o a w,i<N->C.contains i=false->ops[i]?=some o->nP a0 lo M a->S w->(∀j ∈ deps o,a.tmps[j+lo]?.getD undef=vals j)->o.wp P a w (fun a' w'=>a'=a.put o.dst (vals i)/\w'=w) Q)
  (hS0:S { w0 with drawn:=w0.drawn+1 }) (hC:CW P ops Q a0 lo M vals C S C 0 (fun _=>undef) { w0 with drawn:=w0.drawn+1 }) :
  (Code.region id ops true).wp P Q a0 w0:=by
 refine Zx N lo size M vals C S (fun k f w=>k<=C.length/\CW P ops Q a0 lo M vals C S (C.drop k) k f w) hm hN hok hs ?_ hread ?_ ?_ hS0 ?_
 ·rintro k f g w hfg ⟨hk,h⟩;exact ⟨hk,CW.on _ k f g w (by rw [List.length_drop];omega) hfg h⟩
 ·rintro k i o a w hk ho hL hS ⟨hkl,hU⟩ hd;have hk1:=(List.getElem?_eq_some_iff.1 hk).1
  have hdr:C.drop k=i :: C.drop (k+1):=by
   rw [List.drop_eq_getElem_cons hk1,(List.getElem?_eq_some_iff.1 hk).2]
  rw [hdr] at hU;refine Oper.wp_mono ?_ (hU o a ho hL hS (fun j _=>rfl) hd);rintro a' w' ⟨v,h1,h2,h3⟩;exact ⟨v,h1,fun hlt=>h2 (fun e=>by have:=congrArg List.length e;rw [List.length_drop] at this;simp at this;omega),by omega,h3⟩
 ·rintro a w hL ⟨f,hf,_,hU⟩;rw [List.drop_length] at hU;exact hU a hL fun j hj=>(hf j hj).symm
 ·intro f;exact ⟨Nat.zero_le _,CW.on _ 0 _ f _ (by simp) (fun j hj=>absurd hj (Nat.not_lt_zero _)) hC⟩
end
end aj
end Go.Proofs.YtkdbgopgjbfhbaaGreatDoor
namespace Go.Proofs.YtkdbgopgjbfhbaaGreatDoor
open Go.RowKit Lx Pz bq
set_option linter.unusedVariables false
set_option maxRecDepth 100000
set_option maxHeartbeats 4000000
theorem Mo (w0:World) (p:Nat) (L:List Tk) (vL:Value) (en:Int) (i g:Nat) (xs:List ByteArray) (hxl:xs.length<1000) (w:World) (h:PR w0 p L vL en i w) (hg:w.heap[g]?=some (.cells (xs.map Value.string).toArray 9 (0,0))) :
  Calls Tryz.prog 188 #[.pointer (some ⟨p,0,none⟩),.slice (some ⟨g,0,none⟩) xs.length xs.length] w fun e w'=>e=.returned (.bool (xs.any (bn (tk L en i))))/\Below w.heap.size w w':=by
 obtain ⟨R,hR⟩:∃R,R=xs.any (bn (tk L en i)):=⟨_,rfl⟩;have st0:Hid ((xs.drop 0).any (bn (tk L en i))=R):=ae (by rw [hR];rfl);rw [<- hR];have HP:=ae h;have HG:=ae hg;have HXL:=ae hxl;clear hR h hg hxl;go_enter Tryz.func188,Tryz.ntmps188;go_wp2_with fail;go_loopw [9] (fun x wr=>∃k:Nat,x=.int .i64 k/\k<=xs.length/\Hid ((xs.drop k).any (bn (tk L en i))=R)/\Hid (Below w.heap.size w wr)) (fun x _=>match x with | .int _ k=>xs.length-k.toNat|_=>0)
 case atStart=>exact ⟨0,rfl,Nat.zero_le _,st0,ae (Below.refl _ _)⟩
 case round =>
  obtain ⟨k,rfl,hk,HN,HB⟩:=hrel;clear st0;by_cases hp:k<xs.length
  ·have q1:decide ((k:Int)<(xs.length:Int))=true:=decide_eq_true (by omega);obtain ⟨x,hx⟩:∃x,xs[k]?=some x:=⟨_,List.getElem?_eq_getElem hp⟩
   have hcell:wr.cell? ⟨g,k,none⟩=some (.string x):=by
    unfold World.cell?;rw [HB.out.block g (Array.getElem?_eq_some_iff.1 HG.out).1,HG.out];show ((xs.map Value.string).toArray)[k]?=_;simp [hx]
   have HQ:=ae (vV w0 p L vL en i x wr (HP.out.on HB.out))
   have hd:(xs.drop k).any (bn (tk L en i))=(bn (tk L en i) x || (xs.drop (k+1)).any (bn (tk L en i))):=by
    rw [List.drop_eq_getElem_cons hp,List.any_cons,(List.getElem?_eq_some_iff.1 hx).2]
   rw [HN.out] at hd;have hw1:wrap64 ((k:Int)+1)=((k+1:Nat):Int):=by have:=HXL.out;unfold wrap64;omega
   cases hs:bn (tk L en i) x with
   | true =>
    rw [hs] at hd HQ;have HS:Hid (R=true):=ae hd;clear hd hs hx HN;go_wp2_with fail;refine Calls.mono (show Calls _ _ _ _ _ from HQ.out) ?_;rintro e w1 ⟨rfl,hb1⟩;have HB1:=ae (aB HB.out hb1);clear hb1 HQ;go_wp2;go_ret;exact ⟨bf HS.out.symm,HB1.out⟩
   | false =>
    rw [hs] at hd HQ;have HS:Hid ((xs.drop (k+1)).any (bn (tk L en i))=R):=ae hd.symm;clear hd hs hx HN;go_wp2_with fail;refine Calls.mono (show Calls _ _ _ _ _ from HQ.out) ?_;rintro e w1 ⟨rfl,hb1⟩;have HB1:=ae (aB HB.out hb1);clear hb1 HQ;go_wp2;go_roundw
    case rel=>exact ⟨k+1,by first|rfl|(congr 1),hp,HS,HB1⟩
    case measure=>simp;omega
  ·have q1:decide ((k:Int)<(xs.length:Int))=false:=decide_eq_false (by omega);have HS:Hid (R=false):=ae (by rw [<- HN.out,List.drop_eq_nil_of_le (by omega)];rfl);clear HN;go_wp2;go_ret;exact ⟨bf HS.out.symm,HB.out⟩
end Go.Proofs.YtkdbgopgjbfhbaaGreatDoor
