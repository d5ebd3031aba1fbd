/- Texts that the claim needs. -/
import Derived.Test.YtlcpagiljfpbpaaDoorQEUn5
import Derived.Test.YtlcpagiljfpbpaaDoorQEUn7
import Derived.Test.YtlcpagiljfpbpaaDoorQEUn11
namespace Go.Proofs.YtlcpagiljfpbpaaDoor
open Go.RowKit Rep
set_option linter.unusedVariables false
namespace Rep
theorem insAt_put {α:Type} (w:World) (f:Value->α->Prop) (t:TypeId) (b:Nat) (x:Ins α) (v4 v5 v6:Value) (hb:b=w.heap.size)
  (h4:Ints (w.alloc (.cells #[.int .i64 x.op,.int .i64 x.a,.int .i64 x.b,.int .i64 x.n,v4,v5,v6] t)) v4 x.labels) (h5:f v5 x.body) (h6:f v6 x.els) :
  InsAt (w.alloc (.cells #[.int .i64 x.op,.int .i64 x.a,.int .i64 x.b,.int .i64 x.n,v4,v5,v6] t)) f b 0 x:=by
 have hc:∀(i:Nat) (v:Value),#[Value.int .i64 x.op,.int .i64 x.a,.int .i64 x.b,.int .i64 x.n,v4,v5,v6][i]?=some v->(w.alloc (.cells #[.int .i64 x.op,.int .i64 x.a,.int .i64 x.b,.int .i64 x.n,v4,v5,v6] t)).cell? ⟨b,i,none⟩=some v:=fun i v h=>by
  rw [World.cell?_alloc_at _ t _ _ hb];exact h
 exact ⟨hc _ _ rfl,hc _ _ rfl,hc _ _ rfl,hc _ _ rfl,⟨_,hc _ _ rfl,h4⟩,⟨_,hc _ _ rfl,h5⟩,⟨_,hc _ _ rfl,h6⟩⟩
theorem row_put {α:Type} (k:Nat) (f:Nat->Nat->α->Prop) (b cap:Nat) (x:α) (h:f b 0 x):Row k f (.slice (some ⟨b,0,none⟩) 1 cap) [x] :=
 ⟨by simp,.inr ⟨b,0,cap,rfl,fun i y hi=>by
  match i,hi with
  | 0,hi=>simp at hi;subst hi;simpa using h
  | i+1,hi=>simp at hi⟩⟩
end Rep
theorem refInstrAt (d:Nat) (x y:Ins (IL d)) (o4 o5 o6 p4 p5 p6:Option Addr) (n4 n5 n6 m4 m5 m6 c4 c5 c6 e4 e5 e6:Nat) (w:World) (b1 b2:Nat) (h1:b1=w.heap.size) (h2:b2=w.heap.size+1)
  (a4:Ints w (.slice o4 n4 c4) x.labels) (a5:At w d (.slice o5 n5 c5) x.body) (a6:At w d (.slice o6 n6 c6) x.els) (b4:Ints w (.slice p4 m4 e4) y.labels) (b5:At w d (.slice p5 m5 e5) y.body) (b6:At w d (.slice p6 m6 e6) y.els) :
  Calls Tryd.prog 20 #[.slice (some ⟨b1,0,none⟩) 1 1,.slice (some ⟨b2,0,none⟩) 1 1] ((w.alloc (.cells #[.int .i64 x.op,.int .i64 x.a,.int .i64 x.b,.int .i64 x.n,.slice o4 n4 c4,.slice o5 n5 c5,.slice o6 n6 c6] 50)).alloc (.cells #[.int .i64 y.op,.int .i64 y.a,.int .i64 y.b,.int .i64 y.n,.slice p4 m4 e4,.slice p5 m5 e5,.slice p6 m6 e6] 50)) fun e w'=>e=.returned (.bool (sam1 (samI d) x y))/\Below w.heap.size w w':=by
 have hb1:=new_on' w (.cells #[.int .i64 x.op,.int .i64 x.a,.int .i64 x.b,.int .i64 x.n,.slice o4 n4 c4,.slice o5 n5 c5,.slice o6 n6 c6] 50)
 have i1:=insAt_put w (At (w.alloc (.cells #[.int .i64 x.op,.int .i64 x.a,.int .i64 x.b,.int .i64 x.n,.slice o4 n4 c4,.slice o5 n5 c5,.slice o6 n6 c6] 50)) d) 50 b1 x _ _ _ h1 (a4.on hb1) (At.on hb1 _ _ _ a5) (At.on hb1 _ _ _ a6)
 have b4:=b4.on hb1
 have b5:=At.on hb1 _ _ _ b5
 have b6:=At.on hb1 _ _ _ b6
 have hs:(w.alloc (.cells #[.int .i64 x.op,.int .i64 x.a,.int .i64 x.b,.int .i64 x.n,.slice o4 n4 c4,.slice o5 n5 c5,.slice o6 n6 c6] 50)).heap.size=w.heap.size+1:=by simp
 generalize w.alloc (.cells #[.int .i64 x.op,.int .i64 x.a,.int .i64 x.b,.int .i64 x.n,.slice o4 n4 c4,.slice o5 n5 c5,.slice o6 n6 c6] 50)=w1 at *
 have hb2:=new_on' w1 (.cells #[.int .i64 y.op,.int .i64 y.a,.int .i64 y.b,.int .i64 y.n,.slice p4 m4 e4,.slice p5 m5 e5,.slice p6 m6 e6] 50)
 have i2:=insAt_put w1 (At (w1.alloc (.cells #[.int .i64 y.op,.int .i64 y.a,.int .i64 y.b,.int .i64 y.n,.slice p4 m4 e4,.slice p5 m5 e5,.slice p6 m6 e6] 50)) d) 50 b2 y _ _ _ (by rw [h2,hs]) (b4.on hb2) (At.on hb2 _ _ _ b5) (At.on hb2 _ _ _ b6)
 have i1:=i1.on hb2 (At.on hb2 d)
 have hE:samI (d+1) ([x]:List (Ins (IL d))) ([y]:List (Ins (IL d)))=sam1 (samI d) x y:=by
  show (sam1 (samI d) x y && true)=_
  rw [Bool.and_true]
 rw [<- hE]
 exact (refInstrs (d+1) (.slice (some ⟨b1,0,none⟩) 1 1) (.slice (some ⟨b2,0,none⟩) 1 1) ([x]:List (Ins (IL d))) ([y]:List (Ins (IL d))) _ (row_put _ _ _ _ _ i1) (row_put _ _ _ _ _ i2)).mono fun e w' ⟨h1,h2⟩=>⟨h1,below_go' (below_go' hb1 hb2) h2⟩
set_option maxHeartbeats 1000000 in
theorem refInstr (d:Nat) (x y:Ins (IL d)) (o4 o5 o6 p4 p5 p6:Option Addr) (n4 n5 n6 m4 m5 m6 c4 c5 c6 e4 e5 e6:Nat) (w:World)
  (a4:Ints w (.slice o4 n4 c4) x.labels) (a5:At w d (.slice o5 n5 c5) x.body) (a6:At w d (.slice o6 n6 c6) x.els) (b4:Ints w (.slice p4 m4 e4) y.labels) (b5:At w d (.slice p5 m5 e5) y.body) (b6:At w d (.slice p6 m6 e6) y.els) :
  Calls Tryd.prog 21 #[.agg #[.int .i64 x.op,.int .i64 x.a,.int .i64 x.b,.int .i64 x.n,.slice o4 n4 c4,.slice o5 n5 c5,.slice o6 n6 c6],.agg #[.int .i64 y.op,.int .i64 y.a,.int .i64 y.b,.int .i64 y.n,.slice p4 m4 e4,.slice p5 m5 e5,.slice p6 m6 e6]] w fun e w'=>e=.returned (.bool (sam1 (samI d) x y))/\Below w.heap.size w w':=by
 have HC:=hideR (fun (w':World) (hb:Below w.heap.size w w') (b1 b2:Nat) (h1:b1=w'.heap.size) (h2:b2=w'.heap.size+1)=>refInstrAt d x y o4 o5 o6 p4 p5 p6 n4 n5 n6 m4 m5 m6 c4 c5 c6 e4 e5 e6 w' b1 b2 h1 h2 (a4.on hb) (At.on hb _ _ _ a5) (At.on hb _ _ _ a6) (b4.on hb) (At.on hb _ _ _ b5) (At.on hb _ _ _ b6))
 have HB:=hideR (below_go' (new_on' w (.cells #[.int .i64 x.op,.int .i64 x.a,.int .i64 x.b,.int .i64 x.n,.slice o4 n4 c4,.slice o5 n5 c5,.slice o6 n6 c6] 50)) (new_on' (w.alloc (.cells #[.int .i64 x.op,.int .i64 x.a,.int .i64 x.b,.int .i64 x.n,.slice o4 n4 c4,.slice o5 n5 c5,.slice o6 n6 c6] 50)) (.cells #[.int .i64 y.op,.int .i64 y.a,.int .i64 y.b,.int .i64 y.n,.slice p4 m4 e4,.slice p5 m5 e5,.slice p6 m6 e6] 50)))
 obtain ⟨R,hR⟩:∃R,R=sam1 (samI d) x y:=⟨_,rfl⟩
 rw [<- hR] at HC ⊢
 clear hR a4 a5 a6 b4 b5 b6
 go_enter Tryd.func21,Tryd.ntmps21
 go_wp2_with fail
 refine (HC.out _ HB.out _ _ (by simp) (by simp)).mono ?_
 rintro e u ⟨rfl,hb⟩
 have HB2:=hideR (below_go' HB.out hb)
 clear hb
 go_wp2
 go_ret
 exact ⟨rfl,HB2.out⟩
end Go.Proofs.YtlcpagiljfpbpaaDoor

namespace Go.Proofs.YtlcpagiljfpbpaaDoor
open Go.RowKit Rep
set_option linter.unusedVariables false
namespace Reg
def lowOk (ops:Array Oper) (n:Nat):Bool:=decide (ops.size=n) && (List.range ops.size).all (fun i=>(depsAt ops i).all (fun j=>decide (j<i)))
def dstOkG (ops:Array Oper) (n:Nat) (dst:Nat->Nat) (size:Nat):Bool :=
 (List.range n).all fun i=>match ops[i]? with
  | some o=>o.dst == some (dst i) && decide (dst i<size)
  | none=>false
theorem dst_okG {ops:Array Oper} {n:Nat} {dst:Nat->Nat} {size:Nat} (h:dstOkG ops n dst size=true):∀i,i<n->∃o,ops[i]?=some o/\o.dst=some (dst i)/\dst i<size:=fun i hi=>by
 unfold dstOkG at h
 have:=(List.all_eq_true.1 h) i (List.mem_range.2 hi)
 cases ho:ops[i]? with
 | none=>rw [ho] at this;cases this
 | some o =>
  rw [ho] at this
  simp only [Bool.and_eq_true,beq_iff_eq,decide_eq_true_eq] at this
  exact ⟨o,rfl,this.1,this.2⟩
theorem get_of_eval {a:Act} {k:Nat} {b:Bool} (h:a.eval (.tmp k)=.bool b):a.tmps[k]?=some (.bool b):=by
 have h':=ev_get h
 cases hk:a.tmps[k]? with
 | none=>rw [hk] at h';exact absurd h' (by simp [undef])
 | some v=>rw [hk] at h';exact congrArg some h'
theorem wants {ops:Array Oper} {o oj:Oper} {a:Act} {j k:Nat} {b want:Bool} (hg:o.guard=some (j,want)) (hj:ops[j]?=some oj) (hd:oj.dst=some k) (h:a.eval (.tmp k)=.bool b):Region.wanted o (yielded ops a.tmps)=(b == want):=by
 have hy:yielded ops a.tmps j=some b:=by
  unfold yielded
  rw [hj]
  have:((some oj).bind (·.dst)).bind (a.tmps[·]?)=some (.bool b):=by
   show (oj.dst).bind (a.tmps[·]?)=_
   rw [hd];exact get_of_eval h
  rw [this]
 unfold Region.wanted
 rw [hg]
 show (yielded ops a.tmps j == some want)=_
 rw [hy]
 cases b<;>cases want<;>rfl
section
variable {P:Program} {ops:Array Oper} {Q:Exit->Act->World->Prop} {id:Nat} {a0:Act} {w0:World}
def Does (P:Program) (ops:Array Oper) (Q:Exit->Act->World->Prop) (p:Value->World->Prop) (o:Oper) (a:Act) (w:World):Prop :=
 (Region.wanted o (yielded ops a.tmps)=true/\o.wp P a w (fun a' w'=>∃v,a'=a.put o.dst v/\Below w.heap.size w w'/\p v w') Q)\/(Region.wanted o (yielded ops a.tmps)=false/\p undef w)
theorem Does.go {p:Value->World->Prop} {o:Oper} {a:Act} {w:World} (hg:o.guard=none) (h:o.wp P a w (fun a' w'=>∃v,a'=a.put o.dst v/\Below w.heap.size w w'/\p v w') Q):Does P ops Q p o a w:=.inl ⟨by simp [Region.wanted,hg],h⟩
theorem Does.wanted {p:Value->World->Prop} {o oj:Oper} {a:Act} {w:World} {j k:Nat} {b:Bool} (hg:o.guard=some (j,b)) (hj:ops[j]?=some oj) (hd:oj.dst=some k) (hb:a.eval (.tmp k)=.bool b) (h:o.wp P a w (fun a' w'=>∃v,a'=a.put o.dst v/\Below w.heap.size w w'/\p v w') Q):Does P ops Q p o a w :=
 .inl ⟨by rw [wants hg hj hd hb];cases b<;>rfl,h⟩
theorem Does.skip {p:Value->World->Prop} {o oj:Oper} {a:Act} {w:World} {j k:Nat} {b:Bool} (hg:o.guard=some (j,b)) (hj:ops[j]?=some oj) (hd:oj.dst=some k) (hb:a.eval (.tmp k)=.bool (!b)) (h:p undef w):Does P ops Q p o a w :=
 .inr ⟨by rw [wants hg hj hd hb];cases b<;>rfl,h⟩
theorem Does.op {p:Value->World->Prop} {o:Oper} {a:Act} {w:World} {K:Act->World->Prop} (h:Does P ops Q p o a w) (hK:∀v w',Below w.heap.size w w'->p v w'->K (a.put o.dst v) w') :
  if Region.wanted o (yielded ops a.tmps) then o.wp P a w K Q\/(o.asks P a w/\LetsOut Q) else K (a.put o.dst undef) w:=by
 rcases h with ⟨hw,h⟩|⟨hw,h⟩
 ·rw [if_pos hw]
  exact .inl (Oper.wp_mono (fun a' w' ⟨v,ha,hb,hp⟩=>by subst ha;exact hK v w' hb hp) h)
 ·rw [if_neg (by rw [hw];simp)]
  exact hK undef w (Below.refl _ _) h
theorem wp_region_all (n:Nat) (dst:Nat->Nat) (G:Nat->Value->World->Prop) (hm:P.follows .mixedOrders=true) (hT:lowOk ops n=true)
  (hinj:∀i j,i<n->j<n->dst i=dst j->i=j)
  (hdst:∀i,i<n->∃o,ops[i]?=some o/\o.dst=some (dst i)/\dst i<a0.tmps.size)
  (hstab:∀i v w w',i<n->G i v w->Below w.heap.size w w'->G i v w')
  (hstep:∀i o a w,i<n->ops[i]?=some o->Fr a0 dst n a->Below w0.heap.size w0 w->(∀j ∈ deps o,G j (a.eval (.tmp (dst j))) w)->Does P ops Q (G i) o a w)
  (hend:∀a w,Fr a0 dst n a->Below w0.heap.size w0 w->(∀i,i<n->G i (a.eval (.tmp (dst i))) w)->Q .normal a w) :
  (Code.region id ops true).wp P Q a0 w0:=by
 unfold lowOk at hT
 rw [Bool.and_eq_true,decide_eq_true_eq,List.all_eq_true] at hT
 obtain ⟨hn,hT⟩:=hT
 have hlow:∀i,i<ops.size->∀j ∈ depsAt ops i,j<i:=fun i hi j hj=>of_decide_eq_true ((List.all_eq_true.1 (hT i (List.mem_range.2 hi))) j hj)
 refine wp_region_inv (fun L a w=>L.size=ops.size/\Fr a0 dst n a/\Below w0.heap.size w0 w/\∀i,i<n->L.getD i false=true->G i (a.eval (.tmp (dst i))) w) hm ?_ ?_ ?_
 ·rintro L i a w hi ⟨hsz,hF,hB,hG⟩
  obtain ⟨hLi,o,ho,hd⟩:=ready_deps hi
  obtain ⟨hiL,hLf⟩:=getD_false hLi
  have hin:i<n:=by omega
  obtain ⟨o',ho',hod,hos⟩:=hdst i hin
  have:o'=o:=by rw [ho] at ho';exact (Option.some.inj ho').symm
  subst this
  have hs:=hstep i o' a w hin ho hF hB (fun j hj=>hG j (by have:=hlow i (by omega) j (by rw [depsAt_some ho];exact hj);omega) (hd j hj))
  unfold wpOp
  rw [ho]
  refine hs.op fun v w' hBw hGv=>?_
  have hos':dst i<a.tmps.size:=by rw [hF.size];exact hos
  refine ⟨by rw [Array.size_setIfInBounds,hsz],by rw [hod];exact hF.put hin v,hB.trans (hBw.mono hB.size),fun j hj hLj=>?_⟩
  rw [hod]
  by_cases he:j=i
  ·subst he;rw [put_eval_same v hos'];exact hGv
  ·rw [getD_set L i _ hiL,if_neg he] at hLj
   rw [put_eval_ne v (fun e=>he (hinj i j hin hj e).symm)]
   exact hstab j _ w w' hj (hG j hj hLj) hBw
 ·rintro L a w hr ⟨hsz,hF,hB,hG⟩
  refine hend a w hF hB fun i hi=>hG i hi ?_
  have key:∀k,k<ops.size->L.getD k false=true:=by
   intro k
   induction k using Nat.strongRecOn with
   | _ k ih =>
    intro hk
    cases hL:L.getD k false with
    | true=>rfl
    | false =>
     obtain ⟨o,ho⟩:∃o,ops[k]?=some o:=⟨_,Array.getElem?_eq_getElem hk⟩
     have hm:k ∈ Region.ready .any ops L:=by
      refine ready_of ho ?_ fun j hj=>?_
      ·have:k<L.size:=by omega
       simp only [Array.getD,this] at hL ⊢
       exact hL
      ·have hj':j ∈ depsAt ops k:=by rw [depsAt_some ho];exact hj
       have:=hlow k hk j hj'
       exact ih j this (by omega)
     rw [hr] at hm
     cases hm
  exact key i (by omega)
 ·have hf:∀k,(Array.replicate ops.size false).getD k false=false:=fun k=>by
   simp [Array.getD]
  refine ⟨by simp,⟨rfl,rfl,fun _ _=>rfl⟩,⟨rfl,rfl,rfl,Nat.le_refl _,fun _ _=>rfl⟩,fun i _ hL=>?_⟩
  rw [hf] at hL;cases hL
theorem wp_region_allq (n:Nat) (dst:Nat->Nat) (G:Nat->Value->World->Prop) (hn:n<=ops.size)
  (hinj:∀i j,i<n->j<n->dst i=dst j->i=j)
  (hdst:∀i,i<n->∃o,ops[i]?=some o/\o.dst=some (dst i)/\dst i<a0.tmps.size)
  (hstab:∀i v w w',i<n->G i v w->Below w.heap.size w w'->G i v w')
  (hstep:∀i o a w,i<n->ops[i]?=some o->Fr a0 dst n a->Below w0.heap.size w0 w->(∀j ∈ List.range i,G j (a.eval (.tmp (dst j))) w)->Does P ops Q (G i) o a w)
  (htail:∀a w,Fr a0 dst n a->Below w0.heap.size w0 w->(∀i,i<n->G i (a.eval (.tmp (dst i))) w)->wpList P ops Q (ops.toList.drop n) a w) :
  (Code.region id ops false).wp P Q a0 w0:=by
 have key:∀r k,k+r=n->∀a w,Fr a0 dst n a->Below w0.heap.size w0 w->(∀j,j<k->G j (a.eval (.tmp (dst j))) w)->wpList P ops Q (ops.toList.drop k) a w:=by
  intro r
  induction r with
  | zero =>
   intro k hk a w hF hB hG
   obtain rfl:k=n:=by omega
   exact htail a w hF hB hG
  | succ r ih =>
   intro k hk a w hF hB hG
   have hkn:k<n:=by omega
   obtain ⟨o,ho,hod,hos⟩:=hdst k hkn
   have hks:k<ops.size:=by omega
   have hcons:ops.toList.drop k=o :: ops.toList.drop (k+1):=by
    rw [List.drop_eq_getElem_cons (by simpa using hks)]
    congr 1
    have:=Array.getElem?_eq_getElem hks
    rw [ho] at this
    simpa using (Option.some.inj this).symm
   rw [hcons]
   unfold wpList
   refine (hstep k o a w hkn ho hF hB fun j hj=>hG j (List.mem_range.1 hj)).op fun v w' hBw hGv=>?_
   have hos':dst k<a.tmps.size:=by rw [hF.size];exact hos
   refine ih (k+1) (by omega) _ w' (by rw [hod];exact hF.put hkn v) (hB.trans (hBw.mono hB.size)) fun j hj=>?_
   rw [hod]
   by_cases he:j=k
   ·subst he;rw [put_eval_same v hos'];exact hGv
   ·rw [put_eval_ne v (fun e=>he (hinj k j hkn (by omega) e).symm)]
    exact hstab j _ w w' (by omega) (hG j (by omega)) hBw
 refine wp_region_list ?_
 have:=key n 0 (by omega) a0 w0 ⟨rfl,rfl,fun _ _=>rfl⟩ (Below.refl _ _) (fun j hj=>absurd hj (by omega))
 rwa [List.drop_zero] at this
end
end Reg
end Go.Proofs.YtlcpagiljfpbpaaDoor

namespace Go.Proofs.YtlcpagiljfpbpaaDoor
open Go.RowKit Rep
set_option linter.unusedVariables false
namespace Rep
def samB {α:Type} (f:α->α->Bool):List α->List α->Bool
 | [],[]=>true
 | x :: r,y :: s=>f x y && samB f r s
 | _,_=>false
theorem samB_on {α:Type} {f:α->α->Bool} {a b:List α} {j:Nat} {x y:α} {R S:Bool} (hx:a[j]?=some x) (hy:b[j]?=some y) (h:R=(samB f (a.drop j) (b.drop j) && S)):R=((f x y && samB f (a.drop (j+1)) (b.drop (j+1))) && S):=by
 have e1:a.drop j=x :: a.drop (j+1):=by
  rw [List.drop_eq_getElem_cons (List.getElem?_eq_some_iff.1 hx).1,(List.getElem?_eq_some_iff.1 hx).2]
 have e2:b.drop j=y :: b.drop (j+1):=by
  rw [List.drop_eq_getElem_cons (List.getElem?_eq_some_iff.1 hy).1,(List.getElem?_eq_some_iff.1 hy).2]
 rw [e1,e2] at h
 exact h
theorem samB_end {α:Type} {f:α->α->Bool} {a b:List α} {j:Nat} {R S:Bool} (ha:a.length<=j) (hb:b.length<=j) (h:R=(samB f (a.drop j) (b.drop j) && S)):R=S:=by
 rw [List.drop_eq_nil_of_le ha,List.drop_eq_nil_of_le hb] at h
 exact h
theorem samB_refl {α:Type} {f:α->α->Bool} (hf:∀x,f x x=true):∀l,samB f l l=true
 | []=>rfl
 | x :: r=>by unfold samB;rw [hf,samB_refl hf r];rfl
theorem samL_refl {α:Type} {f:α->α->Bool} (hf:∀x,f x x=true):∀l,samL f l l=true
 | []=>rfl
 | x :: r=>by unfold samL sam1;rw [samL_refl hf r,hf,hf];simp
theorem samI_refl:∀(d:Nat) (l:IL d),samI d l l=true
 | 0,_=>rfl
 | d+1,l=>samL_refl (samI_refl d) l
theorem sam1_refl {d:Nat} (x:Ins (IL d)):sam1 (samI d) x x=true:=by unfold sam1;rw [samI_refl,samI_refl];simp
def fT (x y:FT):Bool:=decide (x.params=y.params) && decide (x.results=y.results)
def fI (x y:Imp):Bool:=(x.mod.toList == y.mod.toList) && ((x.name.toList == y.name.toList) && (x.type == y.type))
def fF {d:Nat} (x y:Fun d):Bool:=((x.type == y.type) && decide (x.locals=y.locals)) && samI d x.body y.body
def fL (x y:Lim):Bool:=(x.min == y.min) && ((x.max == y.max) && (x.has == y.has))
def fG {d:Nat} (x y:Glo d):Bool:=((x.type == y.type) && (x.mtb == y.mtb)) && sam1 (samI d) x.init y.init
def fX (x y:Exp):Bool:=(x.name.toList == y.name.toList) && ((x.kind == y.kind) && (x.index == y.index))
def fE {d:Nat} (x y:Elm d):Bool:=sam1 (samI d) x.offset y.offset && decide (x.funcs=y.funcs)
def fD {d:Nat} (x y:Dat d):Bool:=(x.bytes.toList == y.bytes.toList) && sam1 (samI d) x.offset y.offset
def lq (a b:Nat):Bool:=((a:Int) == (b:Int))
theorem lq_iff {a b:Nat}:lq a b=true↔a=b:=by unfold lq;rw [beq_iff_eq];omega
def szs {d:Nat} (m k:Mod d):Bool:=(((((((((lq m.types.length k.types.length && lq m.imports.length k.imports.length) && lq m.funcs.length k.funcs.length) && lq m.tables.length k.tables.length) && lq m.mems.length k.mems.length) && lq m.globals.length k.globals.length) && lq m.exports.length k.exports.length) && decide (m.start=k.start)) && lq m.elems.length k.elems.length) && lq m.datas.length k.datas.length)
def samM {d:Nat} (m k:Mod d):Bool:=szs m k && (samB fT m.types k.types && (samB fI m.imports k.imports && (samB fF m.funcs k.funcs && (samB fL m.tables k.tables && (samB fL m.mems k.mems && (samB fG m.globals k.globals && (samB fX m.exports k.exports && (samB fE m.elems k.elems && (samB fD m.datas k.datas && true)))))))))
theorem samM_refl {d:Nat} (m:Mod d):samM m m=true:=by
 unfold samM szs
 rw [samB_refl (f:=fT) (fun x=>by simp [fT]),samB_refl (f:=fI) (fun x=>by simp [fI]),samB_refl (f:=fF) (fun x=>by simp [fF,samI_refl]),samB_refl (f:=fL) (fun x=>by simp [fL]),samB_refl (f:=fL) (fun x=>by simp [fL]),samB_refl (f:=fG) (fun x=>by simp [fG,sam1_refl]),samB_refl (f:=fX) (fun x=>by simp [fX]),samB_refl (f:=fE) (fun x=>by simp [fE,sam1_refl]),samB_refl (f:=fD) (fun x=>by simp [fD,sam1_refl])]
 simp [lq]
def sIf (c:Bool) (x:Value):Stab:=sEq (if c then x else undef)
end Rep
end Go.Proofs.YtlcpagiljfpbpaaDoor

