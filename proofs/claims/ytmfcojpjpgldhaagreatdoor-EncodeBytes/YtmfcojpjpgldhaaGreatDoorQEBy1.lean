/- Texts that the claim needs. -/
import Derived.Test.YtmfcojpjpgldhaaGreatDoorQEBy0
import Derived.ProofKit
import Derived.OpenShut
import Derived.Lib.SmallJoins
namespace Go.Proofs.YtmfcojpjpgldhaaGreatDoor
open Go.RowKit aA
set_option linter.unusedVariables false
namespace ai
def deps (o:Oper):List Nat:=(o.after.toList.filter (λe=>Region.binds .any e)).map (·.on)
def lU (ops:Array Oper) (i:Nat):List Nat:=match ops[i]? with
 | some o=>deps o
 | none=>[]
def yS (ops:Array Oper):List Nat->Nat->List Nat
 | acc,0=>acc
 | acc,i+1=>yS ops (if acc.any (λm=>(lU ops m).contains i) then i :: acc else acc) i
def Bt (ops:Array Oper) (n:Nat):Bool :=
 decide (n<ops.size)&&(List.range ops.size).all (λi=>(lU ops i).all (λj=>decide (j<i))&&(decide (i<n) || (List.range i).all (λj=>(yS ops [i] i).contains j)))
def Closed (ops:Array Oper) (L:Array Bool):Prop:=∀i,L.getD i false=true->∀j ∈ lU ops i,L.getD j false=true
theorem EW {ops:Array Oper} {L:Array Bool} {k:Nat} (hc:Closed ops L) (hk:∀j ∈ lU ops k,L.getD j false=true):∀(i:Nat) (acc:List Nat),(∀m ∈ acc,m=k\/L.getD m false=true)->∀m ∈ yS ops acc i,m=k\/L.getD m false=true
 | 0,acc,h=>h
 | i+1,acc,h=>by
  unfold yS;refine EW hc hk i _ ?_;split
  ·rename_i ha;intro m hm;rcases pR.1 hm with rfl|hm
   ·obtain ⟨q,hq,hqi⟩:=List.any_eq_true.1 ha;have Np:m ∈ lU ops q:=by simpa using hqi
    rcases h q hq with rfl|hL
    ·exact .inr (hk _ Np)
    exact .inr (hc q hL _ Np)
   exact h m hm
  exact h
theorem kP (L:Array Bool) (i j:Nat) (hi:i<L.size):(L.setIfInBounds i true).getD j false=if j=i then true else L.getD j false:=by
 by_cases h:j=i
 ·subst h;rw [if_pos rfl];simp [Array.getD,hi]
 rw [if_neg h];simp only [Array.getD,Array.size_setIfInBounds];split
 ·rename_i hj;exact Array.getElem_setIfInBounds_ne (xs:=L) hj (λe=>h e.symm)
 rfl
theorem Ez {L:Array Bool} {i:Nat} (h:L.getD i true=false):i<L.size/\L.getD i false=false:=by
 have hi:i<L.size:=by
  rcases Nat.lt_or_ge i L.size with h'|h'
  ·exact h'
  simp [Array.getD,Nat.not_lt.2 h'] at h
 refine ⟨hi,?_⟩;simpa [Array.getD,hi] using h
structure Fr (a0:Act) (dst:Nat->Nat) (n:Nat) (a:Act):Prop where
 defers:a.defers=a0.defers
 size:a.tmps.size=a0.tmps.size
 rest:∀k,(∀i,i<n->dst i≠k)->a.tmps[k]?=a0.tmps[k]?
theorem Fr.eval {a0:Act} {dst:Nat->Nat} {n:Nat} {a:Act} (h:Fr a0 dst n a) (k:Nat) (hk:∀i,i<n->dst i≠k):a.eval (.tmp k)=a0.eval (.tmp k):=by
 show a.tmps.getD k undef=a0.tmps.getD k undef;rw [Array.getD_eq_getD_getElem?,Array.getD_eq_getD_getElem?,h.rest k hk]
theorem Fr.put {a0:Act} {dst:Nat->Nat} {n i:Nat} {a:Act} (h:Fr a0 dst n a) (hi:i<n) (v:Value):Fr a0 dst n (a.put (some (dst i)) v):=by
 refine ⟨h.defers,?_,λk hk=>?_⟩
 ·show (a.tmps.setIfInBounds (dst i) v).size=_;rw [Array.size_setIfInBounds,h.size]
 show (a.tmps.setIfInBounds (dst i) v)[k]?=_;rw [Array.getElem?_setIfInBounds_ne (hk i hi),h.rest k hk]
theorem Fr.mono {a0:Act} {dst:Nat->Nat} {n n':Nat} {a:Act} (h:Fr a0 dst n a) (hn:n<=n'):Fr a0 dst n' a:=⟨h.defers,h.size,λk hk=>h.rest k λi hi=>hk i (by omega)⟩
theorem xw {a:Act} {k:Nat} (v:Value) (hk:k<a.tmps.size):(a.put (some k) v).eval (.tmp k)=v:=by
 show (a.tmps.setIfInBounds k v).getD k undef=v;simp [Array.getD,hk]
theorem vP {a:Act} {k j:Nat} (v:Value) (hk:k≠j):(a.put (some k) v).eval (.tmp j)=a.eval (.tmp j):=by
 show (a.tmps.setIfInBounds k v).getD j undef=a.tmps.getD j undef;rw [Array.getD_eq_getD_getElem?,Array.getD_eq_getD_getElem?,Array.getElem?_setIfInBounds_ne hk]
theorem av {a:Act} {k:Nat} {v:Value} (h:a.eval (.tmp k)=v):a.tmps[k]?.getD undef=v:=by
 rw [<- Array.getD_eq_getD_getElem?];exact h
def Nq (ops:Array Oper) (n:Nat) (dst:Nat->Nat) (size:Nat):Bool :=
 (List.range n).all λi=>match ops[i]? with
  | some o=>o.dst==some (dst i)&&o.guard.isNone&&decide (dst i<size)
  | none=>false
theorem kz {ops:Array Oper} {n:Nat} {dst:Nat->Nat} {size:Nat} (h:Nq ops n dst size=true):∀i,i<n->∃o,ops[i]?=some o/\o.dst=some (dst i)/\o.guard=none/\dst i<size:=λi hi=>by
 unfold Nq at h
 have:=(iF.1 h) i (List.mem_range.2 hi)
 cases ho:ops[i]? with
 | none=>rw [ho] at this;cases this
 | some o =>
  rw [ho] at this;simp only [gm,beq_iff_eq,decide_eq_true_eq,Option.isNone_iff_eq_none] at this;exact ⟨o,rfl,this.1.1,this.1.2,this.2⟩
theorem az {P:Program} {o:Oper} {a:Act} {w:World} {R:Act->World->Prop} {Q:Exit->Act->World->Prop} (h:∀K:Act->World->Prop,(∀a w,R a w->K a w)->o.wp P a w K Q):o.wp P a w R Q:=h R (λ_ _ h=>h)
theorem Fr.lit {l:List Value} {ds:List Deferred} {n lo:Nat} {a:Act} (hF:Fr ⟨l.toArray,ds⟩ (λi=>lo+i) n a) (hlo:lo+n<=l.length) :
  ∃x:List Value,x.length=n/\a=⟨(l.take lo++x++l.drop (lo+n)).toArray,ds⟩/\∀i,i<n->a.eval (.tmp (lo+i))=x.getD i undef:=by
 obtain ⟨t,d⟩:=a;obtain ⟨h1,h2,h3⟩:=hF;have h1':d=ds:=h1;subst h1';have h2':t.size=l.length:=by simpa using h2
 refine ⟨(t.toList.drop lo).take n,by rw [jY,p7,Array.length_toList];omega,?_,λi hi=>?_⟩
 ·congr 1;apply Array.ext';apply List.ext_getElem?;intro k;have hx:((t.toList.drop lo).take n).length=n:=by rw [jY,p7,Array.length_toList];omega
  have hlt:(l.take lo).length=lo:=by rw [jY];omega
  have Ib:=h3 k;simp only [fI] at Ib;rw [Array.getElem?_toList];show t[k]?=(l.take lo++(t.toList.drop lo).take n++l.drop (lo+n))[k]?;rcases Nat.lt_or_ge k lo with hk|hk
  ·rw [bf,zX (by omega),List.getElem?_take,if_pos hk];exact Ib λi _=>by omega
  rcases Nat.lt_or_ge k (lo+n) with hk2|hk2
  ·rw [bf,zx (by omega),zX (by omega),List.getElem?_take,if_pos (by omega),List.getElem?_drop,hlt,Array.getElem?_toList];congr 1;omega
  rw [zx (by rw [aB];omega),List.getElem?_drop,aB,hlt,hx,show lo+n+(k-(lo+n))=k by omega];exact Ib λi _=>by omega
 show t.getD (lo+i) undef=_;rw [Array.getD_eq_getD_getElem?,List.getD_eq_getElem?_getD,List.getElem?_take,if_pos hi,List.getElem?_drop,Array.getElem?_toList]
theorem Fr.Jj {l:List Value} {ds:List Deferred} {n lo s:Nat} {a:Act} (hF:Fr ⟨l.toArray,ds⟩ (λi=>if i<n then lo+i else s) (n+1) a) (hs:s<lo) (hlo:lo+n<=l.length) :
  ∃(y:Value) (x:List Value),x.length=n/\a=⟨(l.take s++y :: (l.take lo).drop (s+1)++x++l.drop (lo+n)).toArray,ds⟩/\a.eval (.tmp s)=y/\∀i,i<n->a.eval (.tmp (lo+i))=x.getD i undef:=by
 have hF':Fr ⟨(l.set s (a.eval (.tmp s))).toArray,ds⟩ (λi=>lo+i) n a:=by
  refine ⟨hF.defers,by simpa using hF.size,λk hk=>?_⟩;by_cases he:k=s
  ·subst he;have hsz:k<a.tmps.size:=by rw [hF.size];simp;omega
   simp only [fI];rw [List.getElem?_set_self (by omega),uz hsz];show _=some (a.tmps.getD k undef);simp [Array.getD,hsz]
  have:=hF.rest k λi hi=>by
   show (if i<n then lo+i else s)≠k;split
   ·exact hk i (by assumption)
   exact λe=>he e.symm
  rw [this];simp only [fI];rw [List.getElem?_set_ne (λe=>he e.symm)]
 obtain ⟨x,hx,ha,hev⟩:=Fr.lit hF' (by rw [List.length_set];exact hlo);refine ⟨_,x,hx,?_,rfl,hev⟩;refine ha.trans ?_;congr 2;rw [List.drop_set_of_lt (by omega)];congr 2;rw [List.take_set,List.set_eq_take_append_cons_drop,if_pos (by rw [jY];omega),List.take_take,Nat.min_eq_left (by omega)]
section
variable {P:Program} {ops:Array Oper} {Q:Exit->Act->World->Prop} {id:Nat} {a0:Act} {w0:World}
def Ahead (ops:Array Oper) (a0:Act) (w0:World) (n:Nat) (dst:Nat->Nat) (G:Nat->Value->World->Prop) (L:Array Bool) (a:Act) (w:World):Prop :=
 (∀k,n<=k->L.getD k false=false)/\Fr a0 dst n a/\Below w0.heap.size w0 w/\∀i,i<n->L.getD i false=true->G i (a.eval (.tmp (dst i))) w
def Behind (P:Program) (ops:Array Oper) (Q:Exit->Act->World->Prop) (n:Nat) (L:Array Bool) (a:Act) (w:World):Prop :=
 ∃k,n<=k/\(∀i,i<k->L.getD i false=true)/\(∀i,k<=i->L.getD i false=false)/\wpList P ops Q (ops.toList.drop k) a w
theorem vO {o:Oper} {i:Nat} (h:ops[i]?=some o):lU ops i=deps o:=by unfold lU;rw [h]
theorem Ey {L:Array Bool} {i:Nat} (h:i ∈ Region.ready .any ops L):L.getD i true=false/\∃o,ops[i]?=some o/\∀j ∈ deps o,L.getD j false=true:=by
 obtain ⟨h1,o,ho,hd⟩:=mem_ready.1 h;refine ⟨h1,o,ho,λj hj=>?_⟩;obtain ⟨e,he,rfl⟩:=List.mem_map.1 hj;obtain ⟨he1,he2⟩:=List.mem_filter.1 he;exact hd e (by simpa using he1) he2
theorem GR {L:Array Bool} {i:Nat} {o:Oper} (ho:ops[i]?=some o) (h1:L.getD i true=false) (hd:∀j ∈ deps o,L.getD j false=true):i ∈ Region.ready .any ops L:=by
 refine mem_ready.2 ⟨h1,o,ho,λe he hb=>hd _ ?_⟩;exact List.mem_map.2 ⟨e,List.mem_filter.2 ⟨by simpa using he,hb⟩,rfl⟩
theorem EZ {L:Array Bool} {n:Nat} (hT:Bt ops n=true) (hsz:L.size=ops.size) (hr:Region.ready .any ops L = []) (k:Nat) (hk:k<ops.size):L.getD k false=true:=by
 have hlow:∀i,i<ops.size->∀j ∈ lU ops i,j<i:=λi hi j hj=>by
  unfold Bt at hT;rw [gm,iF] at hT
  have:=hT.2 i (List.mem_range.2 hi)
  rw [gm,iF] at this;exact of_decide_eq_true (this.1 j hj)
 induction k using Nat.strongRecOn with
 | _ k ih =>
  cases hL:L.getD k false with
  | true=>rfl
  | false =>
   obtain ⟨o,ho⟩:∃o,ops[k]?=some o:=⟨_,uz hk⟩
   have hm:k ∈ Region.ready .any ops L:=by
    refine GR ho ?_ λj hj=>?_
    ·have:k<L.size:=by omega
     simp only [Array.getD,this] at hL ⊢;exact hL
    have hj':j ∈ lU ops k:=by rw [vO ho];exact hj
    have:=hlow k hk j hj'
    exact ih j this (by omega)
   rw [hr] at hm;cases hm
theorem oH (n:Nat) (dst:Nat->Nat) (G:Nat->Value->World->Prop) (hm:P.follows .mixedOrders=true) (hT:Bt ops n=true)
  (hinj:∀i j,i<n->j<n->dst i=dst j->i=j)
  (hdst:∀i,i<n->∃o,ops[i]?=some o/\o.dst=some (dst i)/\o.guard=none/\dst i<a0.tmps.size)
  (uN:∀i v w w',i<n->G i v w->Below w.heap.size w w'->G i v w')
  (hstep:∀i o a w,i<n->ops[i]?=some o->Fr a0 dst n a->Below w0.heap.size w0 w->(∀j ∈ deps o,G j (a.eval (.tmp (dst j))) w)->o.wp P a w (λa' w'=>∃v,a'=a.put o.dst v/\Below w.heap.size w w'/\G i v w') Q)
  (cH:∀a w,Fr a0 dst n a->Below w0.heap.size w0 w->(∀i,i<n->G i (a.eval (.tmp (dst i))) w)->wpList P ops Q (ops.toList.drop n) a w) :
  (Code.region id ops true).wp P Q a0 w0:=by
 have qj:=hT;unfold Bt at qj;rw [gm,iF,decide_eq_true_eq] at qj;obtain ⟨hn,qj⟩:=qj
 have hlow:∀i,i<ops.size->∀j ∈ lU ops i,j<i:=λi hi j hj=>by
  have:=qj i (List.mem_range.2 hi)
  rw [gm,iF] at this;exact of_decide_eq_true (this.1 j hj)
 have hbig:∀(L:Array Bool) i,n<=i->i<ops.size->Closed ops L->(∀j ∈ lU ops i,L.getD j false=true)->∀j,j<i->L.getD j false=true:=λL i hi hs hc hd j hj=>by
  have:=qj i (List.mem_range.2 hs)
  rw [gm,Bool.or_eq_true,decide_eq_true_eq] at this;rcases this.2 with h|h
  ·omega
  have hjm:j ∈ yS ops [i] i:=by simpa using (iF.1 h) j (List.mem_range.2 hj)
  rcases EW hc hd i [i] (λm hm=>.inl (List.mem_singleton.1 hm)) j hjm with h|h
  ·omega
  exact h
 refine Ex (λL a w=>L.size=ops.size/\Closed ops L/\(Ahead ops a0 w0 n dst G L a w\/Behind P ops Q n L a w)) hm ?_ ?_ ?_
 ·rintro L i a w hi ⟨hsz,hc,zW⟩;obtain ⟨vN,o,ho,hd⟩:=Ey hi;obtain ⟨jT,oZ⟩:=Ez vN;have hd':∀j ∈ lU ops i,L.getD j false=true:=by rw [vO ho];exact hd
  have hsz':(L.setIfInBounds i true).size=ops.size:=by rw [Array.size_setIfInBounds,hsz]
  have hc':Closed ops (L.setIfInBounds i true):=λm hm j hj=>by
   rw [kP L i _ jT] at hm ⊢;split
   ·rfl
   by_cases he:m=i
   ·subst he;exact hd' j hj
   rw [if_neg he] at hm;exact hc m hm j hj
  have low:∀k,n<=k->(∀j,j<k->L.getD j false=true)->(∀j,k<=j->L.getD j false=false)->n<=i->i=k:=λk hnk hk1 hk2 hni=>by
   have h1:=hbig L i hni (by omega) hc hd';rcases Nat.lt_trichotomy i k with h|h|h
   ·rw [hk1 i h] at oZ;cases oZ
   ·exact h
   have:=h1 k h;rw [hk2 k (aI _)] at this;cases this
  have yT:∀k,k=i->n<=k->(∀j,j<k->L.getD j false=true)->(∀j,k<=j->L.getD j false=false)->wpList P ops Q (ops.toList.drop k) a w->wpOp P ops Q i (λa w=>(L.setIfInBounds i true).size=ops.size/\Closed ops (L.setIfInBounds i true)/\(Ahead ops a0 w0 n dst G (L.setIfInBounds i true) a w\/Behind P ops Q n (L.setIfInBounds i true) a w)) a w:=by
   rintro k rfl hnk hk1 hk2 hwp;have hks:k<ops.size:=by omega
   have xx:ops.toList.drop k=o :: ops.toList.drop (k+1):=by
    rw [lX (by simpa using hks)];congr 1
    have:=uz hks
    rw [ho] at this;simpa using (Option.some.inj this).symm
   rw [xx] at hwp
   have up:∀a w,wpList P ops Q (ops.toList.drop (k+1)) a w->(L.setIfInBounds k true).size=ops.size/\Closed ops (L.setIfInBounds k true)/\(Ahead ops a0 w0 n dst G (L.setIfInBounds k true) a w\/Behind P ops Q n (L.setIfInBounds k true) a w):=λa w h =>
    ⟨hsz',hc',.inr ⟨k+1,by omega,λj hj=>by
     rw [kP L k _ jT];split
     ·rfl
     ·exact hk1 j (by omega),λj hj=>by
     rw [kP L k _ jT,if_neg (by omega)];exact hk2 j (by omega),h⟩⟩
   unfold wpOp;rw [ho];unfold wpList at hwp;show ite _ _ _;split
   ·rename_i hw;rw [if_pos hw] at hwp;exact hwp.imp (Oper.wp_mono up) (λh=>h)
   rename_i hw;rw [if_neg hw] at hwp;exact up _ _ hwp
  rcases zW with ⟨hk,hF,hB,hG⟩|⟨k,hnk,hk1,hk2,hwp⟩
  ·by_cases hin:i<n
   ·obtain ⟨o',ho',lI,hog,hos⟩:=hdst i hin
    have:o'=o:=by rw [ho] at ho';exact (Option.some.inj ho').symm
    subst this;have hs:=hstep i o' a w hin ho hF hB (λj hj=>hG j (by have:=hlow i (by omega) j (by rw [vO ho];exact hj);omega) (hd j hj));unfold wpOp;rw [ho];show ite _ _ _;rw [if_pos (by simp [Region.wanted,hog])];refine .inl (Oper.wp_mono ?_ hs);rintro a' w' ⟨v,rfl,hBw,sO⟩;have qI:dst i<a.tmps.size:=by rw [hF.size];exact hos
    refine ⟨hsz',hc',.inl ⟨λk hnk=>?_,by rw [lI];exact hF.put hin v,?_,λj hj mJ=>?_⟩⟩
    ·rw [kP L i _ jT,if_neg (by omega)];exact hk k hnk
    ·exact hB.trans (hBw.mono hB.size)
    rw [lI];by_cases he:j=i
    ·subst he;rw [xw v qI];exact sO
    rw [kP L i _ jT,if_neg he] at mJ;rw [vP v (λe=>he (hinj i j hin hj e).symm)];exact uN j _ w w' hj (hG j hj mJ) hBw
   have h1:=hbig L i (by omega) (by omega) hc hd'
   have CW:n=i:=by
    rcases Nat.lt_or_ge n i with h|h
    ·have:=h1 n h;rw [hk n (aI _)] at this;cases this
    omega
   refine yT n CW (aI _) (λj hj=>h1 j (by omega)) hk (cH a w hF hB λj hj=>hG j hj (h1 j (by omega)))
  rcases Nat.lt_or_ge i n with h|h
  ·rw [hk1 i (by omega)] at oZ;cases oZ
  exact yT k (low k hnk hk1 hk2 h).symm hnk hk1 hk2 hwp
 ·rintro L a w hr ⟨hsz,hc,⟨hk,_⟩|⟨k,hnk,hk1,hk2,hwp⟩⟩
  ·have:=EZ hT hsz hr n hn
   rw [hk n (aI _)] at this;cases this
  have:ops.size<=k:=by
   rcases Nat.lt_or_ge k ops.size with h|h
   ·have:=EZ hT hsz hr k h
    rw [hk2 k (aI _)] at this;cases this
   exact h
  rw [zz (by simpa using this)] at hwp;exact hwp
 have hf:∀k,(Array.replicate ops.size false).getD k false=false:=λk=>by
  simp [Array.getD]
 refine ⟨by simp,λi hi=>?_,.inl ⟨λk _=>hf k,⟨rfl,rfl,λ_ _=>rfl⟩,⟨rfl,rfl,rfl,aI _,λ_ _=>rfl⟩,λi _ hL=>?_⟩⟩
 ·rw [hf] at hi;cases hi
 rw [hf] at hL;cases hL
theorem BK (n : Nat) (dst : Nat → Nat) (G : Nat → Value → World → Prop) (hn : n ≤ ops.size)
    (hinj : ∀ i j, i < n → j < n → dst i = dst j → i = j)
    (hdst : ∀ i, i < n → ∃ o, ops[i]? = some o ∧ o.dst = some (dst i) ∧ o.guard = none ∧ dst i < a0.tmps.size)
    (uN : ∀ i v w w', i < n → G i v w → Below w.heap.size w w' → G i v w')
    (hstep : ∀ i o a w, i < n → ops[i]? = some o → Fr a0 dst n a → Below w0.heap.size w0 w → (∀ j ∈ List.range i, G j (a.eval (.tmp (dst j))) w) → o.wp P a w (λa' w' => ∃ v, a' = a.put o.dst v ∧ Below w.heap.size w w' ∧ G i v w') Q)
    (cH : ∀ a w, Fr a0 dst n a → Below w0.heap.size w0 w → (∀ i, i < n → G i (a.eval (.tmp (dst i))) w) → wpList P ops Q (ops.toList.drop n) a w) :
    (Code.region id ops false).wp P Q a0 w0 := by
  have key : ∀ r k, k + r = n → ∀ a w, Fr a0 dst n a → Below w0.heap.size w0 w → (∀ j, j < k → G j (a.eval (.tmp (dst j))) w) → wpList P ops Q (ops.toList.drop k) a w := by
    intro r
    induction r with
    | zero => intro k hk a w hF hB hG; obtain rfl : k = n := by omega
              exact cH a w hF hB hG
    | succ r ih =>
      intro k hk a w hF hB hG;have hkn : k < n := by omega
      obtain ⟨o, ho, lI, hog, hos⟩ := hdst k hkn;have hks : k < ops.size := by omega
      have xx : ops.toList.drop k = o :: ops.toList.drop (k + 1) := by
        rw [lX (by simpa using hks)];congr 1;have := uz hks;rw [ho] at this;simpa using (Option.some.inj this).symm
      rw [xx];refine wpList_plain hog λK hK => ?_;refine Oper.wp_mono ?_ (hstep k o a w hkn ho hF hB λj hj => hG j (List.mem_range.1 hj));rintro a' w' ⟨v, rfl, hBw, sO⟩;have qI : dst k < a.tmps.size := by rw [hF.size]; exact hos
      refine hK _ _ (ih (k + 1) (by omega) _ w' (by rw [lI]; exact hF.put hkn v) (hB.trans (hBw.mono hB.size)) λj hj => ?_);rw [lI];by_cases he : j = k
      · subst he; rw [xw v qI]; exact sO
      rw [vP v (λe => he (hinj k j hkn (by omega) e).symm)];exact uN j _ w w' (by omega) (hG j (by omega)) hBw
  refine wp_region_list ?_;have := key n 0 (by omega) a0 w0 ⟨rfl, rfl, λ_ _ => rfl⟩ (Below.refl _ _) (λj hj => absurd hj (by omega));rwa [fB] at this
end
end ai
end Go.Proofs.YtmfcojpjpgldhaaGreatDoor
namespace Go.Proofs.YtmfcojpjpgldhaaGreatDoor
open Go.RowKit aA Go.Proofs.Tryz
set_option linter.unusedVariables false
namespace aA
theorem Fg {α:Type} (n:Nat) (f:Nat->α->Prop) (h:∀i,i<n->∃x,f i x):∃l:List α,l.length=n/\∀i x,l[i]?=some x->f i x:=by
 induction n with
 | zero=>exact ⟨[],rfl,λi x hx=>by simp at hx⟩
 | succ n ih =>
  obtain ⟨l,hl,hf⟩:=ih λi hi=>h i (by omega);obtain ⟨x,hx⟩:=h n (by omega);refine ⟨l++[x],by simp [hl],λi y hy=>?_⟩;by_cases hi:i<n
  ·rw [zX (by omega)] at hy;exact hf i y hy
  have hlt:i<(l++[x]).length:=(fZ.1 hy).1;have hi':i=n:=by simp [hl] at hlt;omega
  subst hi';rw [<- hl] at hy;simp at hy;subst hy;exact hx
theorem aav {w:World} {a:Addr} {v:Value} (h:w.cell? a=some v):a.spot=none:=by
 obtain ⟨b,o,sp⟩:=a;cases sp with
 | none=>rfl
 | some x =>
  unfold World.cell? at h;split at h<;>simp at h
theorem rC (b o k:Nat):(⟨b,o,none⟩:Addr).add k=⟨b,o+k,none⟩:=by
 by_cases hk:k=0
 ·subst hk;rfl
 simp [Addr.add,hk]
variable {H:Type} {enc:TypeId × Value->H} {P:Program} {w:World} {base:Nat} {spare:Nat->Bool} {held:Bool}
theorem uC {α:Type} {t e:TypeId} {v:Value} {x:DataW H × List MemPlace} {fuel:Nat} (c:Nat) (hc:0<c) (f:Nat->Nat->α->Prop) (ht:P.underlying t=some (.slice e)) (hce:P.cellsOf e=c)
  (h:DataW.trod enc P w base spare held fuel t [v]=some x)
  (hel:∀n cs y b o,fuel=n+1->DataW.trod enc P w base spare held n e cs=some y->cs.length=c->(∀j,j<c->w.cell? ⟨b,o+j,none⟩=cs[j]?)->∃z,f b o z) :
  (∃l,Row c f v l)/\∀n c',v=.slice none n c'->c'=0:=by
 rcases DataW.trod_slice ht h with ⟨hv,_⟩|⟨a,len,cap,elems,rest,n,hfu,hv,_,_,hlc,hcm,hlen,hget,_,_⟩
 ·obtain rfl:v=.slice none 0 0:=by simpa using hv
  exact ⟨⟨[],by simp,.inl ⟨rfl,none,0,rfl⟩⟩,λn c' h=>by injection h with _ _ h3;exact h3.symm⟩
 obtain rfl:v=.slice (some a) len cap:=by simpa using hv
 refine ⟨?_,λn c' h=>by injection h with h1;cases h1⟩;by_cases h0:len=0
 ·subst h0;exact ⟨[],by simp,.inl ⟨rfl,_,_,rfl⟩⟩
 have hbind:∀i,i<len->∃cs y,w.cells? base (a.add (i*c)) c=some cs/\DataW.trod enc P w base spare held n e cs=some y:=λi hi=>by
  have hg:=hget i hi;rw [hce] at hg;obtain ⟨y,hy⟩:∃y,elems[i]?=some y:=⟨_,aY (by omega)⟩;rw [hy] at hg;obtain ⟨cs,h1,h2⟩:=Option.bind_eq_some_iff.1 hg;exact ⟨cs,y,h1,h2⟩
 have hsp:a.spot=none:=by
  obtain ⟨cs,y,h1,h2⟩:=hbind 0 (by omega);obtain ⟨_,hl,hcell⟩:=World.cells?_some h1;have h3:=hcell 0 hc;rw [Nat.zero_mul] at h3
  have:cs[0]?=some (cs[0]'(by omega)):=aY (by omega)
  rw [this] at h3
  have:=aav h3
  simpa [Addr.add] using this
 obtain ⟨b,off,sp⟩:=a;simp only at hsp;subst hsp
 obtain ⟨l,hl,hf⟩:=Fg len (λi z=>f b (off+i*c) z) λi hi=>by
  obtain ⟨cs,y,h1,h2⟩:=hbind i hi;obtain ⟨_,hl,hcell⟩:=World.cells?_some h1;refine hel n cs y b (off+i*c) hfu h2 hl λj hj=>?_
  have:=hcell j hj
  rw [rC,rC] at this;exact this
 subst hl;exact ⟨l,by unfold maxLen at hcm;omega,.inr ⟨b,off,cap,rfl,hf⟩⟩
theorem ij {fs:Array Field} {xs:List (DataW H × List MemPlace)} {cs:List Value} {n:Nat} (hl:xs.length=fs.size)
  (hall:∀(i:Nat) (f:Field),fs[i]?=some f->DataW.trod enc P w base spare held n f.type ((cs.drop f.offset).take (P.cellsOf f.type))=xs[i]?) (i:Nat) (f:Field) (hf:fs[i]?=some f) :
  ∃y,DataW.trod enc P w base spare held n f.type ((cs.drop f.offset).take (P.cellsOf f.type))=some y:=by
 have hi:i<fs.size:=(kD.1 hf).1;exact ⟨xs[i]'(by omega),by rw [hall i f hf,aY]⟩
theorem take_one {cs:List Value} {o:Nat} {v:Value} (h:(cs.drop o).take 1 = [v]):cs[o]?=some v:=by
 have:=congrArg (·[0]?) h
 simpa [List.getElem?_take,List.getElem?_drop] using this
theorem uA {t:TypeId} {n:Nat} {cs:List Value} {o:Nat} {y:DataW H × List MemPlace} (ht:P.underlying t=some (.int .i64)) (hc:P.cellsOf t=1) (h:DataW.trod enc P w base spare held n t ((cs.drop o).take (P.cellsOf t))=some y):∃z:Int,cs[o]?=some (.int .i64 z)/\(Lit.int .i64 z).wf=true:=by
 rw [hc] at h;obtain ⟨z,h1,_,h2⟩:=DataW.trod_int ht h;exact ⟨z,take_one h1,h2⟩
theorem LZ {t:TypeId} {n:Nat} {cs:List Value} {o:Nat} {y:DataW H × List MemPlace} (ht:P.underlying t=some .bool) (hc:P.cellsOf t=1) (h:DataW.trod enc P w base spare held n t ((cs.drop o).take (P.cellsOf t))=some y):∃z:Bool,cs[o]?=some (.bool z):=by
 rw [hc] at h;obtain ⟨z,h1,_⟩:=DataW.trod_bool ht h;exact ⟨z,take_one h1⟩
theorem EK {t:TypeId} {n:Nat} {cs:List Value} {o:Nat} {y:DataW H × List MemPlace} (ht:P.underlying t=some .string) (hc:P.cellsOf t=1) (h:DataW.trod enc P w base spare held n t ((cs.drop o).take (P.cellsOf t))=some y):∃z:ByteArray,cs[o]?=some (.string z)/\z.size<=9223372036854775807:=by
 rw [hc] at h;obtain ⟨z,h1,_,h2⟩:=DataW.trod_string ht h;exact ⟨z,take_one h1,by unfold maxLen at h2;omega⟩
theorem oO {t e:TypeId} {n:Nat} {cs:List Value} {o:Nat} {y:DataW H × List MemPlace} (ht:P.underlying t=some (.slice e)) (hc:P.cellsOf t=1) (h:DataW.trod enc P w base spare held n t ((cs.drop o).take (P.cellsOf t))=some y):∃v,cs[o]?=some v/\DataW.trod enc P w base spare held n t [v]=some y:=by
 rw [hc] at h;rcases DataW.trod_slice ht h with ⟨hv,_⟩|⟨a,len,cap,_,_,_,_,hv,_⟩
 ·rw [hv] at h;exact ⟨_,take_one hv,h⟩
 rw [hv] at h;exact ⟨_,take_one hv,h⟩
theorem wQ {α:Type} {c:Nat} {f:Nat->Nat->α->Prop} {g:α->Prop} {v:Value} {l:List α} (h:Row c (λb o x=>f b o x/\g x) v l):∀x ∈ l,g x:=by
 intro x hx;rcases h.2 with ⟨rfl,_⟩|⟨b,off,cap,_,hc⟩
 ·cases hx
 obtain ⟨i,hi,rfl⟩:=List.getElem_of_mem hx;exact (hc i _ (aY hi)).2
end aA
theorem tN:prog.cellsOf 3=1:=by kernel_rfl
theorem L6:prog.cellsOf 4=1:=by kernel_rfl
theorem EL:prog.cellsOf 9=1:=by kernel_rfl
theorem Cg:prog.cellsOf 28=1:=by kernel_rfl
theorem FQ:prog.cellsOf 43=1:=by kernel_rfl
theorem DZ:prog.cellsOf 49=7:=by kernel_rfl
theorem WC:prog.cellsOf 47=2:=by kernel_rfl
theorem WE:prog.cellsOf 77=3:=by kernel_rfl
theorem WG:prog.cellsOf 45=3:=by kernel_rfl
theorem L8:prog.cellsOf 80=3:=by kernel_rfl
theorem WH:prog.cellsOf 55=9:=by kernel_rfl
theorem WI:prog.cellsOf 83=3:=by kernel_rfl
theorem WJ:prog.cellsOf 51=8:=by kernel_rfl
theorem WK:prog.cellsOf 53=8:=by kernel_rfl
theorem Tc:prog.cellsOf 32=10:=by kernel_rfl
section Of
variable {H:Type} {enc:TypeId × Value->H} {w:World} {base:Nat} {spare:Nat->Bool} {held:Bool}
theorem Ar {fuel:Nat} {v:Value} {x:DataW H × List MemPlace} (h:DataW.trod enc prog w base spare held fuel 28 [v]=some x):∃l,Ints w v l:=by
 refine (uC 1 (by omega) _ underlying28 tN h λn cs y b o _ hy hl hc=>?_).1;obtain ⟨z,h1,_,_⟩:=DataW.trod_int underlying3 hy;refine ⟨z,?_⟩
 have:=hc 0 (by omega)
 rw [h1] at this;simpa using this
end Of
end Go.Proofs.YtmfcojpjpgldhaaGreatDoor
namespace Go.Proofs.YtmfcojpjpgldhaaGreatDoor
open Go.RowKit aA
set_option linter.unusedVariables false
namespace aA
def Sub (w w':World):Prop:=∀b o u,w.cell? ⟨b,o,none⟩=.some u->w'.cell? ⟨b,o,none⟩=.some u
theorem Sub.refl (w:World):Sub w w:=λ_ _ _ h=>h
theorem Sub.trans {w1 w2 w3:World} (h:Sub w1 w2) (h':Sub w2 w3):Sub w1 w3:=λb o u e=>h' b o u (h b o u e)
section On
variable {w w':World} (hb:Sub w w')
include hb
theorem Ints.sub {v:Value} {l:List Int} (h:Ints w v l):Ints w' v l:=Row.imp h λ_ _ _ _ h=>hb _ _ _ h
theorem fA.sub {α : Type} {f g : Value → α → Prop} (hfg : ∀ v x, f v x → g v x) {b o : Nat} {x : Ins α} (h : fA w f b o x) : fA w' g b o x :=
  ⟨hb _ _ _ h.op, hb _ _ _ h.a, hb _ _ _ h.b, hb _ _ _ h.n,
   let ⟨v, h1, h2⟩ := h.labels; ⟨v, hb _ _ _ h1, h2.sub hb⟩,
   let ⟨v, h1, h2⟩ := h.body; ⟨v, hb _ _ _ h1, hfg _ _ h2⟩,
   let ⟨v, h1, h2⟩ := h.els; ⟨v, hb _ _ _ h1, hfg _ _ h2⟩⟩
theorem At.sub:∀(d:Nat) (v:Value) (l:IL d),At w d v l->At w' d v l
 | 0,_,_,h=>h
 | d+1,_,_,h=>Row.imp (α:=Ins (IL d)) h λ_ _ _ _ h=>h.sub hb (At.sub d)
theorem nu.sub {bk o:Nat} {x:FT} (h:nu w bk o x):nu w' bk o x :=
 ⟨let ⟨v,a,b⟩:=h.params;⟨v,hb _ _ _ a,b.sub hb⟩,let ⟨v,a,b⟩:=h.results;⟨v,hb _ _ _ a,b.sub hb⟩⟩
theorem pU.sub {bk o:Nat} {x:rY} (h:pU w bk o x):pU w' bk o x:=⟨hb _ _ _ h.mod,hb _ _ _ h.name,hb _ _ _ h.type⟩
theorem jW.sub {d bk o:Nat} {x:gy d} (h:jW w d bk o x):jW w' d bk o x :=
 ⟨hb _ _ _ h.type,let ⟨v,a,b⟩:=h.locals;⟨v,hb _ _ _ a,b.sub hb⟩,let ⟨v,a,b⟩:=h.body;⟨v,hb _ _ _ a,At.sub hb d v _ b⟩⟩
theorem gD.sub {bk o:Nat} {x:gN} (h:gD w bk o x):gD w' bk o x:=⟨hb _ _ _ h.min,hb _ _ _ h.max,hb _ _ _ h.has⟩
theorem mN.sub {d bk o:Nat} {x:qp d} (h:mN w d bk o x):mN w' d bk o x:=⟨hb _ _ _ h.type,hb _ _ _ h.jL,h.init.sub hb (At.sub hb d)⟩
theorem pV.sub {bk o:Nat} {x:rZ} (h:pV w bk o x):pV w' bk o x:=⟨hb _ _ _ h.name,hb _ _ _ h.kind,hb _ _ _ h.index⟩
theorem mO.sub {d bk o:Nat} {x:qq d} (h:mO w d bk o x):mO w' d bk o x:=⟨h.offset.sub hb (At.sub hb d),let ⟨v,a,b⟩:=h.funcs;⟨v,hb _ _ _ a,b.sub hb⟩⟩
theorem nR.sub {d bk o:Nat} {x:Dat d} (h:nR w d bk o x):nR w' d bk o x:=⟨h.offset.sub hb (At.sub hb d),hb _ _ _ h.bytes⟩
end On
def only (w:World) (S:Nat->Bool):World:={ w with heap:=w.heap.mapIdx λi x=>if S i then x else .cells #[] 0 (0,0) }
theorem ZG (w:World) (S:Nat->Bool) (k:Nat):(only w S).heap[k]?=(w.heap[k]?).map λx=>if S k then x else .cells #[] 0 (0,0):=by
 unfold only;simp [Array.getElem?_mapIdx]
theorem rG {w:World} {S:Nat->Bool} {b o:Nat} {u:Value}:(only w S).cell? ⟨b,o,none⟩=.some u↔S b=true/\w.cell? ⟨b,o,none⟩=.some u:=by
 unfold World.cell?;rw [ZG];cases hs:S b with
 | true=>simp
 | false =>
  cases w.heap[b]? with
  | none=>simp
  | some x=>simp
theorem mP (w:World) (S:Nat->Bool):Sub (only w S) w:=λb o u h=>(rG.1 h).2
theorem wG {w w':World} {S S':Nat->Bool} (h:∀k,k<w.heap.size->S k=true->S' k=true/\w'.heap[k]?=w.heap[k]?):Sub (only w S) (only w' S'):=λb o u hu=>by
 obtain ⟨h1,h2⟩:=rG.1 hu;obtain ⟨h3,h4⟩:=h b (World.block_lt_of_cell? _ _ h2) h1;exact rG.2 ⟨h3,(World.cell?_of_block (a:=⟨b,o,none⟩) h4).trans h2⟩
theorem Kk {w:World} {S':Nat->Prop} {S:Nat->Bool} (hS:∀k,S' k->S k=true) {v:Value} {l:List Int} (h:tT w S' v l):Ints (only w S) v l :=
 Row.imp h λb _ _ _ h=>rG.2 ⟨hS b h.1,h.2⟩
theorem FU {w:World} {S':Nat->Prop} {S:Nat->Bool} (hS:∀k,S' k->S k=true):∀(d:Nat) (v:Value) (l:IL d),jG w S' d v l->At (only w S) d v l
 | 0,_,_,h=>h
 | d+1,_,_,h=>Row.imp (α:=Ins (IL d)) h λb _ _ _ ⟨hb,h⟩=>⟨rG.2 ⟨hS b hb,h.op⟩,rG.2 ⟨hS b hb,h.a⟩,rG.2 ⟨hS b hb,h.b⟩,rG.2 ⟨hS b hb,h.n⟩,let ⟨v,a,c⟩:=h.labels;⟨v,rG.2 ⟨hS b hb,a⟩,Kk hS c⟩,let ⟨v,a,c⟩:=h.body;⟨v,rG.2 ⟨hS b hb,a⟩,FU hS d v _ c⟩,let ⟨v,a,c⟩:=h.els;⟨v,rG.2 ⟨hS b hb,a⟩,FU hS d v _ c⟩⟩
structure Piece {α:Type} (R:World) (c:Nat) (f:World->Nat->Nat->α->Prop) (x:α) (cs:List Value):Prop where
 len:cs.length=c
 one:∀u ∈ cs,u.oneCell'=true
 lay:∀R' b o,Sub R R'->(∀k u,cs[k]?=.some u->R'.cell? ⟨b,o+k,none⟩=.some u)->f R' b o x
theorem Piece.sub {α:Type} {R R2:World} {c:Nat} {f:World->Nat->Nat->α->Prop} {x:α} {cs:List Value} (h:Piece R c f x cs) (hs:Sub R R2):Piece R2 c f x cs :=
 ⟨h.len,h.one,λR' b o h' hc=>h.lay R' b o (hs.trans h') hc⟩
def flat {α:Type} (ps:List (α × List Value)):List Value:=ps.flatMap (·.2)
theorem Sw {α:Type} (ps:List (α × List Value)) (p:α × List Value):flat (ps++[p])=flat ps++p.2:=by
 unfold flat;rw [vR];simp
theorem CZ {α:Type} {c:Nat}:∀ps:List (α × List Value),(∀p ∈ ps,p.2.length=c)->(flat ps).length=ps.length*c
 | [],_=>by simp [flat]
 | p :: r,h=>by
  show (p.2++flat r).length=(r.length+1)*c;rw [aB,CZ r λq hq=>h q (List.mem_cons_of_mem _ hq),h p (List.mem_cons_self ..),Nat.add_mul];omega
theorem flat_get {α:Type} {c:Nat}:∀(ps:List (α × List Value)),(∀p ∈ ps,p.2.length=c)->∀(i:Nat) (p:α × List Value),ps[i]?=.some p->∀k u,p.2[k]?=.some u->(flat ps)[i*c+k]?=.some u
 | [],_,_,_,h,_,_,_=>by simp at h
 | q :: r,hl,0,p,h,k,u,hu=>by
  have:q=p:=by simpa using h
  subst this;show (q.2++flat r)[0*c+k]?=.some u;have hk:k<q.2.length:=(fZ.1 hu).1;rw [Nat.zero_mul,Nat.zero_add,zX hk];exact hu
 | q :: r,hl,i+1,p,h,k,u,hu=>by
  have h':r[i]?=.some p:=by simpa using h
  have hq:q.2.length=c:=hl q (List.mem_cons_self ..);show (q.2++flat r)[(i+1)*c+k]?=.some u;have e:(i+1)*c+k=c+(i*c+k):=by rw [Nat.add_mul];omega
  rw [zx (by omega),show (i+1)*c+k-q.2.length=i*c+k by omega];exact flat_get r (λp hp=>hl p (List.mem_cons_of_mem _ hp)) i p h' k u hu
theorem Km {α:Type} {w:World} {B:Nat} {e:TypeId} {c:Nat} {t:Value} {f:World->Nat->Nat->α->Prop} {S S':Nat->Bool} (ps:List (α × List Value)) (ho:w.ownsRow B e c t ps.length (flat ps)) (hp:∀p ∈ ps,Piece (only w S) c f p.1 p.2)
  (hS:∀k,S k=true->S' k=true) (ht:∀g,t.ownBlock=some g->S' g=true) (hn:ps.length<=9223372036854775807):Row c (f (only w S')) t (ps.map (·.1)):=by
 refine ⟨by rw [oI];exact hn,?_⟩;rcases ho.2 with ⟨rfl,h0⟩|⟨g,cap,cur,rfl,hbg,hg,_,_,_,_⟩
 ·have:ps = []:=mM.1 h0
  subst this;exact .inl ⟨rfl,none,0,rfl⟩
 refine .inr ⟨g,0,cap,by rw [oI],λi x hx=>?_⟩;rw [List.getElem?_map] at hx;obtain ⟨p,hpi,rfl⟩:=Option.map_eq_some_iff.1 hx;refine (hp p (dK hpi)).lay _ _ _ (wG λk _ hk=>⟨hS k hk,rfl⟩) λk u hu=>?_
 have:=ho.cells (g:=g) rfl (i*c+k) u (flat_get ps (λp hp'=>(hp p hp').len) i p hpi k u hu)
 rw [rC] at this;refine rG.2 ⟨ht g rfl,?_⟩;rw [Nat.add_assoc];exact this
def gU (B b:Nat) (t:Value) (k:Nat):Bool:=decide (B<=k)&&(k != b)&&(t.ownBlock != some k)
theorem sJ {B b:Nat} {t:Value} {k:Nat}:gU B b t k=true↔B<=k/\k≠b/\t.ownBlock≠some k:=by
 unfold gU;simp [and_assoc]
theorem zk {B b:Nat} {t:Value} {w w':World} (hb:Below w.heap.size w w'):Sub (only w (gU B b t)) (only w' (gU B b t)):=wG λk hk hs=>⟨hs,hb.block k hk⟩
theorem Kl {B b i:Nat} {t u:Value} {w:World}:Sub (only w (gU B b t)) (only (w.setCell ⟨b,i,none⟩ u) (gU B b t)):=wG λk hk hs=>⟨hs,Below.heap_setCell _ _ _ _ (by show k≠b;exact (sJ.1 hs).2.1)⟩
theorem Gf {B b:Nat} {t t':Value} {w w':World} (hg:w.grownBy w' t.ownBlock) (hv:t'.ownBlock=t.ownBlock\/t'.ownBlock=some w.heap.size):Sub (only w (gU B b t)) (only w' (gU B b t')):=wG λk hk hs=>by
 obtain ⟨h1,h2,h3⟩:=sJ.1 hs;refine ⟨sJ.2 ⟨h1,h2,?_⟩,hg.block k hk (λe=>h3 e.symm)⟩;rcases hv with h|h
 ·rw [h];exact h3
 rw [h];intro e;injection e with e;omega
section App
variable {P:Program}
theorem ZC (w:World) (base g:Nat) (t ty e:TypeId) (i:TypeInfo) (z:Value) (size bytes:Nat) (ht:P.underlying t=some (.slice e)) (hi:P.info? e=some i) (hz:i.zero=some z)
  (hsize:i.size=size) (hby:i.bytes=bytes) (hzs:z.cells.size=size) (hsz:0<size) (hb:base<=g) (hg:w.heap[g]?=some (.cells #[] e (0,0)))
  (xo:Option Addr) (m c:Nat) (news:List Value) (yK:xo=none->m=0) (hl:news.length=m*size) (hnews:∀ad,xo=some ad->∀j u,news[j]?=some u->w.cell? (ad.add j)=some u) (h1:∀u ∈ news,u.oneCell'=true)
  (h63:m<=maxLen) (hbytes:m*bytes<=140737488355328) :
  ∃v' w',(Builtin.append_ #[t,t] ty #[.slice (some ⟨g,0,none⟩) 0 0,.slice xo m c]).run P w=.ok v' w'/\w'.ownsRow base e size v' m news/\Below w.heap.size w w':=by
 have hgl:g<w.heap.size:=(kD.1 hg).1;have hown:w.ownsRow base e size (.slice (some ⟨g,0,none⟩) 0 0) 0 []:=⟨by simp,.inr ⟨g,0,#[],rfl,hb,hg,aI _,by unfold maxLen;omega,by simp,by simp⟩⟩;obtain ⟨v',w',hr,ho,_,_⟩:=FY (P:=P) w base t ty e i z size bytes ht hi hz hsize hby hzs hsz _ 0 [] hown xo m c news yK hl hnews h1 (by omega) (by simpa using hbytes) (by omega);refine ⟨v',w',hr,by simpa using ho,?_⟩;subst hsize;subst hby;cases xo with
 | none =>
  obtain rfl:=yK rfl;rw [LK w base t ty e i i.size ht hi _ 0 [] hown c] at hr;injection hr with _ hw;subst hw;exact Below.refl _ _
 | some a =>
  by_cases hm:m=0
  ·subst hm;obtain rfl:news = []:=List.eq_nil_of_length_eq_zero (by simpa using hl);rw [run_append_room (P:=P) w t ty e i ht hi g 0 0 #[] hg a 0 c [] (by simp) (by simp) (by simp) (aI _) (by simp)] at hr;injection hr with _ hw;rw [<- hw];have he:(List.take (0*i.size) (#[]:Array Value).toList++[]++List.drop (0*i.size+([]:List Value).length) (#[]:Array Value).toList).toArray=#[]:=by simp
   rw [he,setRow_self w g #[] e (0,0) hg];exact Below.refl _ _
  unfold maxLen at h63;rw [run_append_grow (P:=P) w t ty e i z ht hi hz ⟨g,0,none⟩ 0 0 [] (by simp) (by simp) a m c news hl (hnews a rfl) (by omega) (by omega) (growslice_fits (by omega) (by simpa using hbytes))] at hr;injection hr with _ hw;rw [<- hw];exact ⟨rfl,rfl,rfl,by simp,λk hk=>Below.heap_alloc w.drew _ k hk⟩
end App
end aA
end Go.Proofs.YtmfcojpjpgldhaaGreatDoor
