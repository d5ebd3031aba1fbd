/- Texts that the claim needs. -/
import Derived.Test.YtmfcojpjpgldhaaGreatDoorQEBy1
import Derived.Test.YtmfcojpjpgldhaaGreatDoorQEBy2
import Derived.Test.YtmfcojpjpgldhaaGreatDoorQEBy8
import Derived.Deep.CutRange
import Derived.Deep.RegionLaw
namespace Go.Proofs.YtmfcojpjpgldhaaGreatDoor
open Go.RowKit aA
set_option linter.unusedVariables false
namespace ai
def GN (ops:Array Oper) (n:Nat):Bool:=decide (ops.size=n)&&(List.range ops.size).all (λi=>(lU ops i).all (λj=>decide (j<i)))
def CK (ops:Array Oper) (n:Nat) (dst:Nat->Nat) (size:Nat):Bool :=
 (List.range n).all λi=>match ops[i]? with
  | some o=>o.dst==some (dst i)&&decide (dst i<size)
  | none=>false
theorem GQ {ops:Array Oper} {n:Nat} {dst:Nat->Nat} {size:Nat} (h:CK ops n dst size=true):∀i,i<n->∃o,ops[i]?=some o/\o.dst=some (dst i)/\dst i<size:=λi hi=>by
 unfold CK at h
 have:=(iF.1 h) i (List.mem_range.2 hi)
 cases ho:ops[i]? with
 | none=>rw [ho] at this;cases this
 | some o =>
  rw [ho] at this;simp only [gm,beq_iff_eq,decide_eq_true_eq] at this;exact ⟨o,rfl,this.1,this.2⟩
theorem U9 {a:Act} {k:Nat} {b:Bool} (h:a.eval (.tmp k)=.bool b):a.tmps[k]?=some (.bool b):=by
 have h':=av h;cases hk:a.tmps[k]? with
 | none=>rw [hk] at h';exact absurd h' (by simp [undef])
 | some v=>rw [hk] at h';exact congrArg some h'
theorem wants {ops:Array Oper} {o oj:Oper} {a:Act} {j k:Nat} {b want:Bool} (hg:o.guard=some (j,want)) (hj:ops[j]?=some oj) (hd:oj.dst=some k) (h:a.eval (.tmp k)=.bool b):Region.wanted o (yielded ops a.tmps)=(b==want):=by
 have hy:yielded ops a.tmps j=some b:=by
  unfold yielded;rw [hj]
  have:((some oj).bind (·.dst)).bind (a.tmps[·]?)=some (.bool b):=by
   show (oj.dst).bind (a.tmps[·]?)=_;rw [hd];exact U9 h
  rw [this]
 unfold Region.wanted;rw [hg];show (yielded ops a.tmps j==some want)=_;rw [hy];cases b<;>cases want<;>rfl
section
variable {P:Program} {ops:Array Oper} {Q:Exit->Act->World->Prop} {id:Nat} {a0:Act} {w0:World}
def Does (P:Program) (ops:Array Oper) (Q:Exit->Act->World->Prop) (p:Value->World->Prop) (o:Oper) (a:Act) (w:World):Prop :=
 (Region.wanted o (yielded ops a.tmps)=true/\o.wp P a w (λa' w'=>∃v,a'=a.put o.dst v/\Below w.heap.size w w'/\p v w') Q)\/(Region.wanted o (yielded ops a.tmps)=false/\p undef w)
theorem Does.go {p:Value->World->Prop} {o:Oper} {a:Act} {w:World} (hg:o.guard=none) (h:o.wp P a w (λa' w'=>∃v,a'=a.put o.dst v/\Below w.heap.size w w'/\p v w') Q):Does P ops Q p o a w:=.inl ⟨by simp [Region.wanted,hg],h⟩
theorem Does.wanted {p:Value->World->Prop} {o oj:Oper} {a:Act} {w:World} {j k:Nat} {b:Bool} (hg:o.guard=some (j,b)) (hj:ops[j]?=some oj) (hd:oj.dst=some k) (hb:a.eval (.tmp k)=.bool b) (h:o.wp P a w (λa' w'=>∃v,a'=a.put o.dst v/\Below w.heap.size w w'/\p v w') Q):Does P ops Q p o a w :=
 .inl ⟨by rw [wants hg hj hd hb];cases b<;>rfl,h⟩
theorem Does.skip {p:Value->World->Prop} {o oj:Oper} {a:Act} {w:World} {j k:Nat} {b:Bool} (hg:o.guard=some (j,b)) (hj:ops[j]?=some oj) (hd:oj.dst=some k) (hb:a.eval (.tmp k)=.bool (!b)) (h:p undef w):Does P ops Q p o a w :=
 .inr ⟨by rw [wants hg hj hd hb];cases b<;>rfl,h⟩
theorem Does.op {p:Value->World->Prop} {o:Oper} {a:Act} {w:World} {K:Act->World->Prop} (h:Does P ops Q p o a w) (hK:∀v w',Below w.heap.size w w'->p v w'->K (a.put o.dst v) w') :
  if Region.wanted o (yielded ops a.tmps) then o.wp P a w K Q\/(o.asks P a w/\LetsOut Q) else K (a.put o.dst undef) w:=by
 rcases h with ⟨hw,h⟩|⟨hw,h⟩
 ·rw [if_pos hw];exact .inl (Oper.wp_mono (λa' w' ⟨v,ha,hb,hp⟩=>by subst ha;exact hK v w' hb hp) h)
 rw [if_neg (by rw [hw];simp)];exact hK undef w (Below.refl _ _) h
theorem Va (n:Nat) (dst:Nat->Nat) (G:Nat->Value->World->Prop) (hm:P.follows .mixedOrders=true) (hT:GN ops n=true)
  (hinj:∀i j,i<n->j<n->dst i=dst j->i=j)
  (hdst:∀i,i<n->∃o,ops[i]?=some o/\o.dst=some (dst i)/\dst i<a0.tmps.size)
  (uN:∀i v w w',i<n->G i v w->Below w.heap.size w w'->G i v w')
  (hstep:∀i o a w,i<n->ops[i]?=some o->Fr a0 dst n a->Below w0.heap.size w0 w->(∀j ∈ deps o,G j (a.eval (.tmp (dst j))) w)->Does P ops Q (G i) o a w)
  (hend:∀a w,Fr a0 dst n a->Below w0.heap.size w0 w->(∀i,i<n->G i (a.eval (.tmp (dst i))) w)->Q .normal a w) :
  (Code.region id ops true).wp P Q a0 w0:=by
 unfold GN at hT;rw [gm,decide_eq_true_eq,iF] at hT;obtain ⟨hn,hT⟩:=hT;have hlow:∀i,i<ops.size->∀j ∈ lU ops i,j<i:=λi hi j hj=>of_decide_eq_true ((iF.1 (hT i (List.mem_range.2 hi))) j hj);refine Ex (λL a w=>L.size=ops.size/\Fr a0 dst n a/\Below w0.heap.size w0 w/\∀i,i<n->L.getD i false=true->G i (a.eval (.tmp (dst i))) w) hm ?_ ?_ ?_
 ·rintro L i a w hi ⟨hsz,hF,hB,hG⟩;obtain ⟨vN,o,ho,hd⟩:=Ey hi;obtain ⟨jT,oZ⟩:=Ez vN;have hin:i<n:=by omega
  obtain ⟨o',ho',lI,hos⟩:=hdst i hin
  have:o'=o:=by rw [ho] at ho';exact (Option.some.inj ho').symm
  subst this;have hs:=hstep i o' a w hin ho hF hB (λj hj=>hG j (by have:=hlow i (by omega) j (by rw [vO ho];exact hj);omega) (hd j hj));unfold wpOp;rw [ho];refine hs.op λv w' hBw sO=>?_;have qI:dst i<a.tmps.size:=by rw [hF.size];exact hos
  refine ⟨by rw [Array.size_setIfInBounds,hsz],by rw [lI];exact hF.put hin v,hB.trans (hBw.mono hB.size),λj hj mJ=>?_⟩;rw [lI];by_cases he:j=i
  ·subst he;rw [xw v qI];exact sO
  rw [kP L i _ jT,if_neg he] at mJ;rw [vP v (λe=>he (hinj i j hin hj e).symm)];exact uN j _ w w' hj (hG j hj mJ) hBw
 ·rintro L a w hr ⟨hsz,hF,hB,hG⟩;refine hend a w hF hB λi hi=>hG i hi ?_
  have key:∀k,k<ops.size->L.getD k false=true:=by
   intro k
   induction k using Nat.strongRecOn with
   | _ k ih =>
    intro hk;cases hL:L.getD k false with
    | true=>rfl
    | false =>
     obtain ⟨o,ho⟩:∃o,ops[k]?=some o:=⟨_,uz hk⟩
     have hm:k ∈ Region.ready .any ops L:=by
      refine GR ho ?_ λj hj=>?_
      ·have:k<L.size:=by omega
       simp only [Array.getD,this] at hL ⊢;exact hL
      have hj':j ∈ lU ops k:=by rw [vO ho];exact hj
      have:=hlow k hk j hj'
      exact ih j this (by omega)
     rw [hr] at hm;cases hm
  exact key i (by omega)
 have hf:∀k,(Array.replicate ops.size false).getD k false=false:=λk=>by
  simp [Array.getD]
 refine ⟨by simp,⟨rfl,rfl,λ_ _=>rfl⟩,⟨rfl,rfl,rfl,aI _,λ_ _=>rfl⟩,λi _ hL=>?_⟩;rw [hf] at hL;cases hL
theorem Lu (n:Nat) (dst:Nat->Nat) (G:Nat->Value->World->Prop) (hn:n<=ops.size)
  (hinj:∀i j,i<n->j<n->dst i=dst j->i=j)
  (hdst:∀i,i<n->∃o,ops[i]?=some o/\o.dst=some (dst i)/\dst i<a0.tmps.size)
  (uN:∀i v w w',i<n->G i v w->Below w.heap.size w w'->G i v w')
  (hstep:∀i o a w,i<n->ops[i]?=some o->Fr a0 dst n a->Below w0.heap.size w0 w->(∀j ∈ List.range i,G j (a.eval (.tmp (dst j))) w)->Does P ops Q (G i) o a w)
  (cH:∀a w,Fr a0 dst n a->Below w0.heap.size w0 w->(∀i,i<n->G i (a.eval (.tmp (dst i))) w)->wpList P ops Q (ops.toList.drop n) a w) :
  (Code.region id ops false).wp P Q a0 w0:=by
 have key:∀r k,k+r=n->∀a w,Fr a0 dst n a->Below w0.heap.size w0 w->(∀j,j<k->G j (a.eval (.tmp (dst j))) w)->wpList P ops Q (ops.toList.drop k) a w:=by
  intro r
  induction r with
  | zero =>
   intro k hk a w hF hB hG;obtain rfl:k=n:=by omega
   exact cH a w hF hB hG
  | succ r ih =>
   intro k hk a w hF hB hG;have hkn:k<n:=by omega
   obtain ⟨o,ho,lI,hos⟩:=hdst k hkn;have hks:k<ops.size:=by omega
   have xx:ops.toList.drop k=o :: ops.toList.drop (k+1):=by
    rw [lX (by simpa using hks)];congr 1
    have:=uz hks
    rw [ho] at this;simpa using (Option.some.inj this).symm
   rw [xx];unfold wpList;refine (hstep k o a w hkn ho hF hB λj hj=>hG j (List.mem_range.1 hj)).op λv w' hBw sO=>?_;have qI:dst k<a.tmps.size:=by rw [hF.size];exact hos
   refine ih (k+1) (by omega) _ w' (by rw [lI];exact hF.put hkn v) (hB.trans (hBw.mono hB.size)) λj hj=>?_;rw [lI];by_cases he:j=k
   ·subst he;rw [xw v qI];exact sO
   rw [vP v (λe=>he (hinj k j hkn (by omega) e).symm)];exact uN j _ w w' (by omega) (hG j (by omega)) hBw
 refine wp_region_list ?_
 have:=key n 0 (by omega) a0 w0 ⟨rfl,rfl,λ_ _=>rfl⟩ (Below.refl _ _) (λj hj=>absurd hj (by omega))
 rwa [fB] at this
end
end ai
namespace ai
def qB (L:List Value) (i:Nat) (v:Value) (_:World):Prop:=v=L.getD i undef
section
variable {P:Program} {ops:Array Oper} {Q:Exit->Act->World->Prop} {id:Nat} {a0:Act} {w0:World}
theorem Ii {a:Act} {lo j:Nat} {L:List Value} (h:a.eval (.tmp (lo+j))=L.getD j undef):a.tmps[j+lo]?.getD undef=L.getD j undef:=by
 rw [Nat.add_comm];exact av h
theorem xG (n lo size:Nat) (L:List Value) (hm:P.follows .mixedOrders=true) (hT:GN ops n=true) (hd:CK ops n (λi=>lo+i) size=true) (hs:a0.tmps.size=size)
  (hstep:∀i o a w,i<n->ops[i]?=some o->Fr a0 (λi=>lo+i) n a->Below w0.heap.size w0 w->(∀j ∈ deps o,a.tmps[j+lo]?.getD undef=L.getD j undef)->Does P ops Q (qB L i) o a w)
  (hend:∀a w,Fr a0 (λi=>lo+i) n a->Below w0.heap.size w0 w->(∀i,i<n->a.eval (.tmp (lo+i))=L.getD i undef)->Q .normal a w) :
  (Code.region id ops true).wp P Q a0 w0 :=
 Va n (λi=>lo+i) (qB L) hm hT (λi j _ _ h=>by have h':lo+i=lo+j:=h;omega) (λi hi=>by rw [hs];exact GQ hd i hi) (λ_ _ _ _ _ h _=>h)
  (λi o a w hi ho hF hB hG=>hstep i o a w hi ho hF hB λj hj=>Ii (hG j hj)) (λa w hF hB hG=>hend a w hF hB λi hi=>hG i hi)
theorem ZH (n lo size:Nat) (L:List Value) (hn:n<=ops.size) (hd:CK ops n (λi=>lo+i) size=true) (hs:a0.tmps.size=size)
  (hstep:∀i o a w,i<n->ops[i]?=some o->Fr a0 (λi=>lo+i) n a->Below w0.heap.size w0 w->(∀j,j<i->a.tmps[j+lo]?.getD undef=L.getD j undef)->Does P ops Q (qB L i) o a w)
  (cH:∀a w,Fr a0 (λi=>lo+i) n a->Below w0.heap.size w0 w->(∀i,i<n->a.eval (.tmp (lo+i))=L.getD i undef)->wpList P ops Q (ops.toList.drop n) a w) :
  (Code.region id ops false).wp P Q a0 w0 :=
 Lu n (λi=>lo+i) (qB L) hn (λi j _ _ h=>by have h':lo+i=lo+j:=h;omega) (λi hi=>by rw [hs];exact GQ hd i hi) (λ_ _ _ _ _ h _=>h)
  (λi o a w hi ho hF hB hG=>hstep i o a w hi ho hF hB λj hj=>Ii (hG j (List.mem_range.2 hj))) (λa w hF hB hG=>cH a w hF hB λi hi=>hG i hi)
theorem Qe (n lo z size:Nat) (L:List Value) (hn:n<=ops.size) (hd:CK ops n (λi=>if i<n-1 then lo+i else z) size=true) (hs:a0.tmps.size=size) (hz:z<lo/\0<n)
  (hstep:∀i o a w,i<n->ops[i]?=some o->Fr a0 (λi=>if i<n-1 then lo+i else z) n a->Below w0.heap.size w0 w->(∀j,j<i->a.tmps[j+lo]?.getD undef=L.getD j undef)->Does P ops Q (qB L i) o a w)
  (cH:∀a w,Fr a0 (λi=>if i<n-1 then lo+i else z) n a->Below w0.heap.size w0 w->a.eval (.tmp z)=L.getD (n-1) undef->wpList P ops Q (ops.toList.drop n) a w) :
  (Code.region id ops false).wp P Q a0 w0 :=
 Lu n (λi=>if i<n-1 then lo+i else z) (qB L) hn (λi j h1 h2 h=>by have h':(if i<n-1 then lo+i else z)=(if j<n-1 then lo+j else z):=h;split at h'<;>split at h'<;>omega) (λi hi=>by rw [hs];exact GQ hd i hi) (λ_ _ _ _ _ h _=>h)
  (λi o a w hi ho hF hB hG=>hstep i o a w hi ho hF hB λj hj=>by
   have h:=hG j (List.mem_range.2 hj);have e:(if j<n-1 then lo+j else z)=lo+j:=if_pos (by omega);rw [e] at h;exact Ii h)
  (λa w hF hB hG=>cH a w hF hB (by
   have h:=hG (n-1) (by omega);have e:(if n-1<n-1 then lo+(n-1) else z)=z:=if_neg (by omega);rw [e] at h;exact h))
theorem vA {p:Value->World->Prop} {o oj:Oper} {a:Act} {w:World} {j lo:Nat} {b:Bool} {L:List Value} (hg:o.guard=some (j,b)) (hj:ops[j]?=some oj) (hk:oj.dst=some (j+lo)) (hb:L.getD j undef=.bool b) (hd:a.tmps[j+lo]?.getD undef=L.getD j undef) (h:o.wp P a w (λa' w'=>∃v,a'=a.put o.dst v/\Below w.heap.size w w'/\p v w') Q):Does P ops Q p o a w :=
 Does.wanted hg hj hk (by show a.tmps.getD (j+lo) undef=_;rw [Array.getD_eq_getD_getElem?,hd,hb]) h
end
end ai
end Go.Proofs.YtmfcojpjpgldhaaGreatDoor
namespace Go.Proofs.YtmfcojpjpgldhaaGreatDoor
open Go.RowKit aA Go.Proofs.Tryz
set_option linter.unusedVariables false
set_option maxHeartbeats 32000000
set_option maxRecDepth 100000
namespace aA
theorem Kq {α:Type} (w:World) (f:Value->α->Prop) (t:TypeId) (b:Nat) (x:Ins α) (v4 v5 v6:Value) (hb:b=w.heap.size)
  (h4:Ints (w.alloc (.cells #[.int .i64 x.op,.int .i64 x.a,.int .i64 x.b,.int .i64 x.n,v4,v5,v6] t)) v4 x.labels) (h5:f v5 x.body) (h6:f v6 x.els) :
  fA (w.alloc (.cells #[.int .i64 x.op,.int .i64 x.a,.int .i64 x.b,.int .i64 x.n,v4,v5,v6] t)) f b 0 x:=by
 have hc:∀(i:Nat) (v:Value),#[Value.int .i64 x.op,.int .i64 x.a,.int .i64 x.b,.int .i64 x.n,v4,v5,v6][i]?=some v->(w.alloc (.cells #[.int .i64 x.op,.int .i64 x.a,.int .i64 x.b,.int .i64 x.n,v4,v5,v6] t)).cell? ⟨b,i,none⟩=some v:=λi v h=>by
  rw [World.cell?_alloc_at _ t _ _ hb];exact h
 exact ⟨hc _ _ rfl,hc _ _ rfl,hc _ _ rfl,hc _ _ rfl,⟨_,hc _ _ rfl,h4⟩,⟨_,hc _ _ rfl,h5⟩,⟨_,hc _ _ rfl,h6⟩⟩
theorem Kr {α:Type} (k:Nat) (f:Nat->Nat->α->Prop) (b cap:Nat) (x:α) (h:f b 0 x):Row k f (.slice (some ⟨b,0,none⟩) 1 cap) [x] :=
 ⟨by simp,.inr ⟨b,0,cap,rfl,λi y hi=>by
  match i,hi with
  | 0,hi=>simp at hi;subst hi;simpa using h
  | i+1,hi=>simp at hi⟩⟩
end aA
theorem Sz (d:Nat) (x y:Ins (IL d)) (o4 o5 o6 p4 p5 p6:Option Addr) (n4 n5 n6 m4 m5 m6 c4 c5 c6 e4 e5 e6:Nat) (w:World) (b1 b2:Nat) (h1:b1=w.heap.size) (h2:b2=w.heap.size+1)
  (a4:Ints w (.slice o4 n4 c4) x.labels) (a5:At w d (.slice o5 n5 c5) x.body) (a6:At w d (.slice o6 n6 c6) x.els) (b4:Ints w (.slice p4 m4 e4) y.labels) (b5:At w d (.slice p5 m5 e5) y.body) (b6:At w d (.slice p6 m6 e6) y.els) :
  Calls prog 21 #[.slice (some ⟨b1,0,none⟩) 1 1,.slice (some ⟨b2,0,none⟩) 1 1] ((w.alloc (.cells #[.int .i64 x.op,.int .i64 x.a,.int .i64 x.b,.int .i64 x.n,.slice o4 n4 c4,.slice o5 n5 c5,.slice o6 n6 c6] 49)).alloc (.cells #[.int .i64 y.op,.int .i64 y.a,.int .i64 y.b,.int .i64 y.n,.slice p4 m4 e4,.slice p5 m5 e5,.slice p6 m6 e6] 49)) λe w'=>e=.returned (.bool (rW (nY d) x y))/\Below w.heap.size w w':=by
 have hb1:=aU w (.cells #[.int .i64 x.op,.int .i64 x.a,.int .i64 x.b,.int .i64 x.n,.slice o4 n4 c4,.slice o5 n5 c5,.slice o6 n6 c6] 49);have i1:=Kq w (At (w.alloc (.cells #[.int .i64 x.op,.int .i64 x.a,.int .i64 x.b,.int .i64 x.n,.slice o4 n4 c4,.slice o5 n5 c5,.slice o6 n6 c6] 49)) d) 49 b1 x _ _ _ h1 (a4.on hb1) (At.on hb1 _ _ _ a5) (At.on hb1 _ _ _ a6);have b4:=b4.on hb1;have b5:=At.on hb1 _ _ _ b5;have b6:=At.on hb1 _ _ _ b6;have hs:(w.alloc (.cells #[.int .i64 x.op,.int .i64 x.a,.int .i64 x.b,.int .i64 x.n,.slice o4 n4 c4,.slice o5 n5 c5,.slice o6 n6 c6] 49)).heap.size=w.heap.size+1:=by simp
 generalize w.alloc (.cells #[.int .i64 x.op,.int .i64 x.a,.int .i64 x.b,.int .i64 x.n,.slice o4 n4 c4,.slice o5 n5 c5,.slice o6 n6 c6] 49)=w1 at *;have hb2:=aU w1 (.cells #[.int .i64 y.op,.int .i64 y.a,.int .i64 y.b,.int .i64 y.n,.slice p4 m4 e4,.slice p5 m5 e5,.slice p6 m6 e6] 49);have i2:=Kq w1 (At (w1.alloc (.cells #[.int .i64 y.op,.int .i64 y.a,.int .i64 y.b,.int .i64 y.n,.slice p4 m4 e4,.slice p5 m5 e5,.slice p6 m6 e6] 49)) d) 49 b2 y _ _ _ (by rw [h2,hs]) (b4.on hb2) (At.on hb2 _ _ _ b5) (At.on hb2 _ _ _ b6);have i1:=i1.on hb2 (At.on hb2 d)
 have hE:nY (d+1) ([x]:List (Ins (IL d))) ([y]:List (Ins (IL d)))=rW (nY d) x y:=by
  show (rW (nY d) x y&&true)=_;rw [Bool.and_true]
 rw [<- hE];exact (Gg (d+1) (.slice (some ⟨b1,0,none⟩) 1 1) (.slice (some ⟨b2,0,none⟩) 1 1) ([x]:List (Ins (IL d))) ([y]:List (Ins (IL d))) _ (Kr _ _ _ _ _ i1) (Kr _ _ _ _ _ i2)).mono λe w' ⟨h1,h2⟩=>⟨h1,ky (ky hb1 hb2) h2⟩
theorem Gh (d:Nat) (x y:Ins (IL d)) (o4 o5 o6 p4 p5 p6:Option Addr) (n4 n5 n6 m4 m5 m6 c4 c5 c6 e4 e5 e6:Nat) (w:World)
  (a4:Ints w (.slice o4 n4 c4) x.labels) (a5:At w d (.slice o5 n5 c5) x.body) (a6:At w d (.slice o6 n6 c6) x.els) (b4:Ints w (.slice p4 m4 e4) y.labels) (b5:At w d (.slice p5 m5 e5) y.body) (b6:At w d (.slice p6 m6 e6) y.els) :
  Calls prog 22 #[.agg #[.int .i64 x.op,.int .i64 x.a,.int .i64 x.b,.int .i64 x.n,.slice o4 n4 c4,.slice o5 n5 c5,.slice o6 n6 c6],.agg #[.int .i64 y.op,.int .i64 y.a,.int .i64 y.b,.int .i64 y.n,.slice p4 m4 e4,.slice p5 m5 e5,.slice p6 m6 e6]] w λe w'=>e=.returned (.bool (rW (nY d) x y))/\Below w.heap.size w w':=by
 have HC:=aa (λ(w':World) (hb:Below w.heap.size w w') (b1 b2:Nat) (h1:b1=w'.heap.size) (h2:b2=w'.heap.size+1)=>Sz d x y o4 o5 o6 p4 p5 p6 n4 n5 n6 m4 m5 m6 c4 c5 c6 e4 e5 e6 w' b1 b2 h1 h2 (a4.on hb) (At.on hb _ _ _ a5) (At.on hb _ _ _ a6) (b4.on hb) (At.on hb _ _ _ b5) (At.on hb _ _ _ b6));have HB:=aa (ky (aU w (.cells #[.int .i64 x.op,.int .i64 x.a,.int .i64 x.b,.int .i64 x.n,.slice o4 n4 c4,.slice o5 n5 c5,.slice o6 n6 c6] 49)) (aU (w.alloc (.cells #[.int .i64 x.op,.int .i64 x.a,.int .i64 x.b,.int .i64 x.n,.slice o4 n4 c4,.slice o5 n5 c5,.slice o6 n6 c6] 49)) (.cells #[.int .i64 y.op,.int .i64 y.a,.int .i64 y.b,.int .i64 y.n,.slice p4 m4 e4,.slice p5 m5 e5,.slice p6 m6 e6] 49)));obtain ⟨R,hR⟩:∃R,R=rW (nY d) x y:=⟨_,rfl⟩;rw [<- hR] at HC ⊢;clear hR a4 a5 a6 b4 b5 b6;go_enter func22,ntmps22;go_wp2_with fail;refine (HC.out _ HB.out _ _ (by simp) (by simp)).mono ?_;rintro e u ⟨rfl,hb⟩;have HB2:=aa (ky HB.out hb);clear hb;go_wp2;go_ret;exact ⟨rfl,HB2.out⟩
namespace aA
theorem JP {α:Type} {f:α->α->Bool} (hf:∀x,f x x=true):∀l,rz f l l=true
 | []=>rfl
 | x :: r=>by unfold rz rW;rw [JP hf r,hf,hf];simp
theorem DV:∀(d:Nat) (l:IL d),nY d l l=true
 | 0,_=>rfl
 | d+1,l=>JP (DV d) l
theorem FJ {d:Nat} (x:Ins (IL d)):rW (nY d) x x=true:=by unfold rW;rw [DV,DV];simp
theorem BX {w w':World} (h:∃n,w'=w.drewN n):Below w.heap.size w w':=by obtain ⟨n,rfl⟩:=h;exact yd w n
end aA
theorem Qd (d:Nat) (v0 v1 v2 v3 v4 v5 v6 v7 v8 v9 u0 u1 u2 u3 u4 u5 u6 u7 u8 u9:Value) (m:Mod d) (w:World) (hM:da w d v0 v1 v2 v3 v4 v5 v6 v7 v8 v9 m) (hK:da w d u0 u1 u2 u3 u4 u5 u6 u7 u8 u9 m):Calls prog 19 #[.agg #[v0,v1,v2,v3,v4,v5,v6,v7,v8,v9],.agg #[u0,u1,u2,u3,u4,u5,u6,u7,u8,u9]] w (λe w'=>e=.returned (.bool true)/\Below w.heap.size w w'):=by
 obtain ⟨o0,k0,rfl⟩:=Row.len hM.types;obtain ⟨o1,k1,rfl⟩:=Row.len hM.imports;obtain ⟨o2,k2,rfl⟩:=Row.len hM.funcs;obtain ⟨o3,k3,rfl⟩:=Row.len hM.tables;obtain ⟨o4,k4,rfl⟩:=Row.len hM.aD;obtain ⟨o5,k5,rfl⟩:=Row.len hM.globals;obtain ⟨o6,k6,rfl⟩:=Row.len hM.exports;obtain ⟨o7,k7,rfl⟩:=Row.len hM.start;obtain ⟨o8,k8,rfl⟩:=Row.len hM.elems;obtain ⟨o9,k9,rfl⟩:=Row.len hM.ax;obtain ⟨g0,h0,rfl⟩:=Row.len hK.types;obtain ⟨g1,h1,rfl⟩:=Row.len hK.imports;obtain ⟨g2,h2,rfl⟩:=Row.len hK.funcs;obtain ⟨g3,h3,rfl⟩:=Row.len hK.tables;obtain ⟨g4,h4,rfl⟩:=Row.len hK.aD;obtain ⟨g5,h5,rfl⟩:=Row.len hK.globals;obtain ⟨g6,h6,rfl⟩:=Row.len hK.exports;obtain ⟨g7,h7,rfl⟩:=Row.len hK.start;obtain ⟨g8,h8,rfl⟩:=Row.len hK.elems;obtain ⟨g9,h9,rfl⟩:=Row.len hK.ax;have HM:=aa hM;have HK:=aa hK;clear hM hK;generalize hn0:m.types.length=n0 at *;generalize iK:m.imports.length=n1 at *;generalize gW:m.funcs.length=n2 at *;generalize ja:m.tables.length=n3 at *;generalize iG:m.aD.length=n4 at *;generalize iS:m.globals.length=n5 at *;generalize jD:m.exports.length=n6 at *;generalize iE:m.start.length=n7 at *;generalize iO:m.elems.length=n8 at *;generalize jb:m.ax.length=n9 at *;go_enter func19,ntmps19;go_upto_region 1 with fail;obtain ⟨u1,hu1⟩:∃u1,u1=(w.alloc (.cells #[.slice o0 n0 k0,.slice o1 n1 k1,.slice o2 n2 k2,.slice o3 n3 k3,.slice o4 n4 k4,.slice o5 n5 k5,.slice o6 n6 k6,.slice o7 n7 k7,.slice o8 n8 k8,.slice o9 n9 k9] 32)).alloc (.cells #[.slice g0 n0 h0,.slice g1 n1 h1,.slice g2 n2 h2,.slice g3 n3 h3,.slice g4 n4 h4,.slice g5 n5 h5,.slice g6 n6 h6,.slice g7 n7 h7,.slice g8 n8 h8,.slice g9 n9 h9] 32):=⟨_,rfl⟩;have HP:Hid (bG u1 w.heap.size (.slice o0 n0 k0) (.slice o1 n1 k1) (.slice o2 n2 k2) (.slice o3 n3 k3) (.slice o4 n4 k4) (.slice o5 n5 k5) (.slice o6 n6 k6) (.slice o7 n7 k7) (.slice o8 n8 k8) (.slice o9 n9 k9)):=aa (by rw [hu1];exact (bG.new rfl).on (aU _ _));have HQ:Hid (bG u1 (w.heap.size+1) (.slice g0 n0 h0) (.slice g1 n1 h1) (.slice g2 n2 h2) (.slice g3 n3 h3) (.slice g4 n4 h4) (.slice g5 n5 h5) (.slice g6 n6 h6) (.slice g7 n7 h7) (.slice g8 n8 h8) (.slice g9 n9 h9)):=aa (by rw [hu1];exact bG.new (by simp));have HU:Hid (Below w.heap.size w u1):=aa (by rw [hu1];exact ky (aU _ _) (aU _ _));have ig:=aa (HM.out.on HU.out);have nG:=aa (HK.out.on HU.out);rw [<- hu1];clear hu1;obtain ⟨p2,hp2⟩:∃p2,p2=w.heap.size+1:=⟨_,rfl⟩;rw [<- hp2] at HQ ⊢;clear hp2;generalize hp1:w.heap.size=p1 at HP ⊢;simp only [List.append_eq,iy,ed];refine ai.Qe 87 5 4 91 [.pointer (some ⟨p1,0,none⟩),.slice o0 n0 k0,.int .i64 (n0:Nat),.pointer (some ⟨p2,0,none⟩),.slice g0 n0 h0,.int .i64 (n0:Nat),.bool true,.bool true,.pointer (some ⟨p1,1,none⟩),.slice o1 n1 k1,.int .i64 (n1:Nat),.pointer (some ⟨p2,1,none⟩),.slice g1 n1 h1,.int .i64 (n1:Nat),.bool true,.bool true,.bool true,.pointer (some ⟨p1,2,none⟩),.slice o2 n2 k2,.int .i64 (n2:Nat),.pointer (some ⟨p2,2,none⟩),.slice g2 n2 h2,.int .i64 (n2:Nat),.bool true,.bool true,.bool true,.pointer (some ⟨p1,3,none⟩),.slice o3 n3 k3,.int .i64 (n3:Nat),.pointer (some ⟨p2,3,none⟩),.slice g3 n3 h3,.int .i64 (n3:Nat),.bool true,.bool true,.bool true,.pointer (some ⟨p1,4,none⟩),.slice o4 n4 k4,.int .i64 (n4:Nat),.pointer (some ⟨p2,4,none⟩),.slice g4 n4 h4,.int .i64 (n4:Nat),.bool true,.bool true,.bool true,.pointer (some ⟨p1,5,none⟩),.slice o5 n5 k5,.int .i64 (n5:Nat),.pointer (some ⟨p2,5,none⟩),.slice g5 n5 h5,.int .i64 (n5:Nat),.bool true,.bool true,.bool true,.pointer (some ⟨p1,6,none⟩),.slice o6 n6 k6,.int .i64 (n6:Nat),.pointer (some ⟨p2,6,none⟩),.slice g6 n6 h6,.int .i64 (n6:Nat),.bool true,.bool true,.bool true,.pointer (some ⟨p1,7,none⟩),.slice o7 n7 k7,.pointer (some ⟨p2,7,none⟩),.slice g7 n7 h7,.bool true,.bool true,.bool true,.pointer (some ⟨p1,8,none⟩),.slice o8 n8 k8,.int .i64 (n8:Nat),.pointer (some ⟨p2,8,none⟩),.slice g8 n8 h8,.int .i64 (n8:Nat),.bool true,.bool true,.bool true,.pointer (some ⟨p1,9,none⟩),.slice o9 n9 k9,.int .i64 (n9:Nat),.pointer (some ⟨p2,9,none⟩),.slice g9 n9 h9,.int .i64 (n9:Nat),.bool true,.bool true,.bool true] (by simp) (by kernel_rfl) rfl (by decide) ?hstep ?cH
 case hstep =>
  intro i o a w hi ho hF hB hd;have f2:a.tmps[2]?.getD undef=.pointer (some ⟨p1,0,none⟩):=ai.av (hF.eval 2 (λi hi=>by show (if i<86 then 5+i else 4)≠2;split<;>omega))
  have f3:a.tmps[3]?.getD undef=.pointer (some ⟨p2,0,none⟩):=ai.av (hF.eval 3 (λi hi=>by show (if i<86 then 5+i else 4)≠3;split<;>omega))
  have c0:=(HP.out.on hB).cell 0 _ rfl;have c1:=(HP.out.on hB).cell 1 _ rfl;have c2:=(HP.out.on hB).cell 2 _ rfl;have c3:=(HP.out.on hB).cell 3 _ rfl;have c4:=(HP.out.on hB).cell 4 _ rfl;have c5:=(HP.out.on hB).cell 5 _ rfl;have c6:=(HP.out.on hB).cell 6 _ rfl;have c7:=(HP.out.on hB).cell 7 _ rfl;have c8:=(HP.out.on hB).cell 8 _ rfl;have c9:=(HP.out.on hB).cell 9 _ rfl;have d0:=(HQ.out.on hB).cell 0 _ rfl;have d1:=(HQ.out.on hB).cell 1 _ rfl;have d2:=(HQ.out.on hB).cell 2 _ rfl;have d3:=(HQ.out.on hB).cell 3 _ rfl;have d4:=(HQ.out.on hB).cell 4 _ rfl;have d5:=(HQ.out.on hB).cell 5 _ rfl;have d6:=(HQ.out.on hB).cell 6 _ rfl;have d7:=(HQ.out.on hB).cell 7 _ rfl;have d8:=(HQ.out.on hB).cell 8 _ rfl;have d9:=(HQ.out.on hB).cell 9 _ rfl
  iterate 87 (rcases Nat.lt_succ_iff_lt_or_eq.1 hi with hi|rfl)
  exact absurd hi (Nat.not_lt_zero _)
  all_goals (
   simp only [fI,gX,gz,gA] at ho;subst ho
   first
   | refine ai.Does.go rfl (ai.az λK hK=>?_)
   | refine ai.vA rfl rfl rfl rfl (hd _ (by decide)) (ai.az λK hK=>?_)
   go_simp
   first|exact hK _ _ ⟨_,rfl,Below.refl _ _,rfl⟩|(refine (Aq _ _ _ _ w ((ig.out.on hB).start) ((nG.out.on hB).start)).mono ?_;rintro e w' ⟨rfl,hw⟩;exact hK _ _ ⟨_,rfl,aA.BX hw,by simp [ai.qB]⟩))
 case cH =>
  intro a w2 hF hB hG;have gl:a.eval (.tmp 4)=.bool true:=hG;have HW:=aa (ky HU.out hB);rw [zz (by simp)];refine wpList_nil ?_;go_wp2_with fail;refine bodyPost_ret (v:=.bool true) ((results_tmp rfl _ _ _).trans (congrArg (λv=>Result.ok v w2) gl)) hF.defers ⟨rfl,hp1 ▸ HW.out⟩
end Go.Proofs.YtmfcojpjpgldhaaGreatDoor
