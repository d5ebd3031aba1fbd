/- Texts that the claim needs. -/
import Derived.Test.YtkdbgopgjbfhbaaGreatDoorQPW11
import Derived.Test.YtkdbgopgjbfhbaaGreatDoorQPW12
namespace Go.Proofs.YtkdbgopgjbfhbaaGreatDoor
open Go.RowKit bq
set_option linter.unusedVariables false
namespace aj
def live (ops:Array Oper) (need:List Nat) (i k:Nat):Bool:=need.contains i || (List.range ops.size).any (fun j=>decide (j≠k) && (jm ops j).contains i && !(lv ops [k] k).contains j)
def Fx (ops:Array Oper) (n:Nat) (dst:Nat->Nat) (N:List Nat) (size:Nat):Bool :=
 (List.range n).all fun i=>match ops[i]? with
  | some o=>o.guard.isNone && decide (dst i<size) && (if N.contains i then decide (o.dst=none) else decide (o.dst=some (dst i)))
  | none=>false
def Fv (n:Nat) (dst:Nat->Nat):Bool:=(List.range n).all fun i=>(List.range n).all fun j=>decide (dst i=dst j->i=j)
section
variable {P:Program} {ops:Array Oper} {Q:Exit->Act->World->Prop} {id:Nat} {a0:Act} {w0:World}
theorem CX {Z:Type} (z0:Z) (n size:Nat) (dst:Nat->Nat) (N need:List Nat) (T:Nat->Z->Z->World->World->Prop) (K:Z->World->Prop) (R:Z->Nat->World->Prop) (G:Z->Nat->Value->World->Prop) (hm:P.follows .mixedOrders=true) (hT:yR ops n=true)
  (hij:Fv n dst=true) (hno:Fx ops n dst N size=true) (hs0:a0.tmps.size=size) (hN:∀i,N.contains i=true->∀z v v' w,G z i v w->G z i v' w)
  (mg:∀i k v z z' w w',i<n->k<n->i≠k->(lv ops [i] i).contains k=false->live ops need i k=true->K z w->G z i v w->T k z z' w w'->G z' i v w')
  (hres:∀i k z z' w w',i<n->k<n->i≠k->(lv ops [k] k).contains i=false->K z w->R z i w->T k z z' w w'->R z' i w')
  (hK:∀k z z' w w',k<n->K z w->T k z z' w w'->K z' w')
  (hstep:∀i o a z w,i<n->ops[i]?=some o->Fr a0 dst n a->K z w->R z i w->(∀j ∈ deps o,G z j (a.eval (.tmp (dst j))) w)->o.wp P a w (fun a' w'=>∃v z',a'=a.put o.dst v/\T i z z' w w'/\G z' i v w') Q)
  (hend:∀a z w,Fr a0 dst n a->K z w->(∀i ∈ need,i<n->G z i (a.eval (.tmp (dst i))) w)->Q .normal a w)
  (LX:K z0 { w0 with drawn:=w0.drawn+1 }) (Be:∀i,i<n->R z0 i { w0 with drawn:=w0.drawn+1 }) :
  (Code.region id ops true).wp P Q a0 w0:=by
 have hinj:∀i j,i<n->j<n->dst i=dst j->i=j:=fun i j hi hj=>by
  unfold Fv at hij
  have:=(List.all_eq_true.1 ((List.all_eq_true.1 hij) i (List.mem_range.2 hi))) j (List.mem_range.2 hj)
  exact of_decide_eq_true this
 have hdst:∀i o,i<n->ops[i]?=some o->o.guard=none/\dst i<size/\(o.dst=some (dst i)\/(o.dst=none/\N.contains i=true)):=fun i o hi ho=>by
  unfold Fx at hno
  have:=(List.all_eq_true.1 hno) i (List.mem_range.2 hi)
  rw [ho] at this;simp only [Bool.and_eq_true,decide_eq_true_eq,Option.isNone_iff_eq_none] at this;refine ⟨this.1.1,this.1.2,?_⟩;have h2:=this.2;split at h2
  ·rename_i hc;exact .inr ⟨of_decide_eq_true h2,hc⟩
  ·exact .inl (of_decide_eq_true h2)
 unfold yR at hT;rw [Bool.and_eq_true,decide_eq_true_eq,List.all_eq_true] at hT;obtain ⟨hn,hT⟩:=hT;have hlow:∀i,i<ops.size->∀j ∈ jm ops i,j<i:=fun i hi j hj=>of_decide_eq_true ((List.all_eq_true.1 (hT i (List.mem_range.2 hi))) j hj);refine FW (fun L a w=>L.size=ops.size/\Closed ops L/\Fr a0 dst n a/\∃z,K z w/\(∀i,i<n->L.getD i false=false->R z i w)/\∀i,i<n->L.getD i false=true->(i ∈ need\/∃j,j<n/\L.getD j false=false/\i ∈ jm ops j)->G z i (a.eval (.tmp (dst i))) w) hm ?_ ?_ ?_
 ·rintro L i a w hi ⟨hsz,hc,hF,z,hB,hR,hG⟩;obtain ⟨zB,o,ho,hd⟩:=FX hi;obtain ⟨jy,nQ⟩:=FY zB;have hin:i<n:=by omega
  have hd':∀j ∈ jm ops i,L.getD j false=true:=by rw [tZ ho];exact hd
  obtain ⟨hog,hos,vp⟩:=hdst i o hin ho
  have hs:=hstep i o a z w hin ho hF hB (hR i hin nQ) (fun j hj=>by
   have hj':j ∈ jm ops i:=by rw [tZ ho];exact hj
   have:=hlow i (by omega) j hj'
   exact hG j (by omega) (hd j hj) (.inr ⟨i,hin,nQ,hj'⟩))
  unfold wpOp;rw [ho];show ite _ _ _;rw [if_pos (by simp [Region.wanted,hog])];left;refine Oper.wp_mono ?_ hs;rintro a' w' ⟨v,z',rfl,LY,Bq⟩;have DX:dst i<a.tmps.size:=by rw [hF.size,hs0];exact hos
  refine ⟨by rw [Array.size_setIfInBounds,hsz],?_,?_,z',hK i z z' w w' hin hB LY,fun j hj mV=>?_,fun j hj mV hw=>?_⟩
  ·intro m hm' j hj;rw [lC L i _ jy] at hm' ⊢;split
   ·rfl
   ·by_cases he:m=i
    ·subst he;exact hd' j hj
    ·rw [if_neg he] at hm';exact hc m hm' j hj
  ·rcases vp with h|h
   ·rw [h];exact hF.put hin v
   ·rw [h.1];exact hF
  ·have hne:j≠i:=fun e=>by subst e;rw [lC L j _ jy,if_pos rfl] at mV;cases mV
   rw [lC L i _ jy,if_neg hne] at mV;refine hres j i z z' w w' hj hin hne ?_ hB (hR j hj mV) LY;cases hcj:(lv ops [i] i).contains j with
   | false=>rfl
   | true =>
    rcases Bm hc hd' i [i] (fun q hq=>.inl (List.mem_singleton.1 hq)) j (by simpa using hcj) with h8|h8
    ·exact absurd h8 hne
    ·rw [h8] at mV;cases mV
  ·by_cases he:j=i
   ·subst he;rcases vp with h|h
    ·rw [h,DF v DX];exact Bq
    ·exact hN j h.2 _ _ _ _ Bq
   ·rw [lC L i _ jy,if_neg he] at mV
    have hev:(a.put o.dst v).eval (.tmp (dst j))=a.eval (.tmp (dst j)):=by
     rcases vp with h|h
     ·rw [h];exact wX v (fun e=>he (hinj i j hin hj e).symm)
     ·rw [h.1];rfl
    rw [hev]
    have hw':j ∈ need\/∃m,m<n/\L.getD m false=false/\j ∈ jm ops m:=by
     rcases hw with h|⟨m,hm1,hm2,LZ⟩
     ·exact .inl h
     ·refine .inr ⟨m,hm1,?_,LZ⟩;rw [lC L i _ jy] at hm2;split at hm2
      ·cases hm2
      ·exact hm2
    refine mg j i _ z z' w w' hj hin he ?_ ?_ hB (hG j hj mV hw') LY
    ·cases hcj:(lv ops [j] j).contains i with
     | false=>rfl
     | true =>
      rcases Bm hc (fun m hm=>hc j mV m hm) j [j] (fun q hq=>.inl (List.mem_singleton.1 hq)) i (by simpa using hcj) with h8|h8
      ·exact absurd h8.symm he
      ·rw [h8] at nQ;cases nQ
    ·unfold live;rcases hw with h|⟨m,hm1,hm2,LZ⟩
     ·rw [Bool.or_eq_true];left;simpa using h
     ·rw [Bool.or_eq_true];right;refine List.any_eq_true.2 ⟨m,List.mem_range.2 (by omega),?_⟩;rw [lC L i _ jy] at hm2;split at hm2
      ·cases hm2
      ·rename_i Ul;simp only [Bool.and_eq_true,decide_eq_true_eq,Bool.not_eq_true'];refine ⟨⟨Ul,by simpa using LZ⟩,?_⟩;cases hcm:(lv ops [i] i).contains m with
       | false=>rfl
       | true =>
        rcases Bm hc hd' i [i] (fun q hq=>.inl (List.mem_singleton.1 hq)) m (by simpa using hcm) with h8|h8
        ·exact absurd h8 Ul
        ·rw [h8] at hm2;cases hm2
 ·rintro L a w hr ⟨hsz,hc,hF,z,hB,hR,hG⟩;refine hend a z w hF hB fun i hi hin=>hG i hin ?_ (.inl hi)
  have key:∀k,k<ops.size->L.getD k false=true:=by
   intro k
   induction k using Nat.strongRecOn with
   | _ k ih =>
    intro hk;cases hL:L.getD k false with
    | true=>rfl
    | false =>
     obtain ⟨o,ho⟩:∃o,ops[k]?=some o:=⟨_,Array.getElem?_eq_getElem hk⟩
     have hm:k ∈ Region.ready .any ops L:=by
      refine KA ho ?_ fun j hj=>?_
      ·have:k<L.size:=by omega
       simp only [Array.getD,this] at hL ⊢;exact hL
      ·have hj':j ∈ jm ops k:=by rw [tZ ho];exact hj
       have:=hlow k hk j hj'
       exact ih j this (by omega)
     rw [hr] at hm;cases hm
  exact key i (by omega)
 ·have hf:∀k,(Array.replicate ops.size false).getD k false=false:=fun k=>by simp [Array.getD]
  refine ⟨by simp,fun i hi=>?_,⟨rfl,rfl,fun _ _=>rfl⟩,z0,LX,fun i hi _=>Be i hi,fun i _ hL=>?_⟩
  ·rw [hf] at hi;cases hi
  ·rw [hf] at hL;cases hL
theorem J0 (n size:Nat) (dst:Nat->Nat) (N need:List Nat) (T:Nat->World->World->Prop) (K:World->Prop) (R:Nat->World->Prop) (G:Nat->Value->World->Prop) (hm:P.follows .mixedOrders=true) (hT:yR ops n=true)
  (hij:Fv n dst=true) (hno:Fx ops n dst N size=true) (hs0:a0.tmps.size=size) (hN:∀i,N.contains i=true->∀v v' w,G i v w->G i v' w)
  (mg:∀i k v w w',i<n->k<n->i≠k->(lv ops [i] i).contains k=false->live ops need i k=true->K w->G i v w->T k w w'->G i v w')
  (hres:∀i k w w',i<n->k<n->i≠k->(lv ops [k] k).contains i=false->K w->R i w->T k w w'->R i w')
  (hK:∀k w w',k<n->K w->T k w w'->K w')
  (hstep:∀i o a w,i<n->ops[i]?=some o->Fr a0 dst n a->K w->R i w->(∀j ∈ deps o,G j (a.eval (.tmp (dst j))) w)->o.wp P a w (fun a' w'=>∃v,a'=a.put o.dst v/\T i w w'/\G i v w') Q)
  (hend:∀a w,Fr a0 dst n a->K w->(∀i ∈ need,i<n->G i (a.eval (.tmp (dst i))) w)->Q .normal a w)
  (LX:K { w0 with drawn:=w0.drawn+1 }) (Be:∀i,i<n->R i { w0 with drawn:=w0.drawn+1 }) :
  (Code.region id ops true).wp P Q a0 w0:=by
 refine CX () n size dst N need (fun k _ _=>T k) (fun _=>K) (fun _=>R) (fun _=>G) hm hT hij hno hs0 (fun i hi _=>hN i hi) (fun i k v _ _=>mg i k v) (fun i k _ _=>hres i k) (fun k _ _=>hK k) (fun i o a _ w hi ho hF hB hR hd=>?_) (fun a _=>hend a) LX Be;refine Oper.wp_mono ?_ (hstep i o a w hi ho hF hB hR hd);rintro a' w' ⟨v,h1,h2,h3⟩;exact ⟨v,(),h1,h2,h3⟩
end
end aj
end Go.Proofs.YtkdbgopgjbfhbaaGreatDoor
namespace Go.Proofs.YtkdbgopgjbfhbaaGreatDoor
open Go.RowKit Lx Pz bq
set_option linter.unusedVariables false
set_option maxRecDepth 100000
set_option maxHeartbeats 8000000
namespace Pz
def gY (N:List Nat) (p:Nat) (F:World->Prop) (w:World):Prop:=∀w',ia N p w w'->F w'
theorem gY.but {N:List Nat} {p:Nat} {F:World->Prop} {w w':World} (h:gY N p F w) (hb:But p w w'):gY N p F w':=fun u hu=>h u fun k hk hp hn=>(hu k (Nat.lt_of_lt_of_le hk hb.size) hp hn).trans (hb.block k hk hp)
theorem gY.imp {N:List Nat} {p:Nat} {F G:World->Prop} {w:World} (h:gY N p F w) (hfg:∀w',F w'->G w'):gY N p G w:=fun u hu=>hfg u (h u hu)
def Qq {α:Type} (R:Rd α):Option (α × Nat):=match R with
 | .ok x=>some x
 | .error _=>none
def Dy (w0:World) (p:Nat) (L:List Tk) (vL:Value) (en:Int) (N:List Nat) (B b:Nat) (V1 PU:Array Value) (va:Int) (t1 tp:Value) (X:Option (Value × Nat)) (fin:World->Prop):Nat->Value->World->Prop
 | 0,v,_=>v=.agg V1
 | 1,v,_=>v=.pointer (some ⟨p,0,none⟩)
 | 2,v,w=>match X with
  | none=>False
  | some (t2,j2)=>(∃rk rx ry rn ru rz ra,v=.agg #[.int .i64 rk,.string rx,.string ry,.int .i64 rn,ru,rz,.int .i64 ra])/\PR w0 p L vL en j2 w/\gY N p (aX B t2 v) w
 | 3,v,w=>match X with
  | none=>False
  | some (t2,j2)=>PR w0 p L vL en j2 w/\∃g,v=.slice (some ⟨g,0,none⟩) 2 2/\gY N p (mf B v [t1,t2]) w
 | 4,v,_=>v=.agg PU
 | 5,v,w=>∃g,v=.slice (some ⟨g,0,none⟩) 1 1/\gY N p (kz B v [tp]) w
 | 6,v,_=>v=.pointer (some ⟨b,6,none⟩)
 | 7,v,_=>v=.int .i64 va
 | 8,v,w=>match X with
  | none=>False
  | some (t2,j2)=>PR w0 p L vL en j2 w/\∃g g',v=.agg #[.int .i64 7,.string e0,.string e0,.int .i64 0,.slice (some ⟨g,0,none⟩) 2 2,.slice (some ⟨g',0,none⟩) 1 1,.int .i64 va]/\gY N p (aX B (nd 7 e0 e0 0 [t1,t2] [tp] va) v) w
 | 9,_,w=>fin w
 | _,_,_=>False
def jG (PP:World->Prop) (p:Nat) (k:Nat) (w w':World):Prop:=if k=2 then But p w w'/\PP w' else if k=9 then True else Below w.heap.size w w'
theorem jG.but {PP:World->Prop} {p k:Nat} {w w':World} (h:jG PP p k w w') (hk:k≠9):But p w w':=by
 unfold jG at h;by_cases h2:k=2
 ·rw [if_pos h2] at h;exact h.1
 ·rw [if_neg h2,if_neg hk] at h;exact But.of p h
theorem jG.below {PP:World->Prop} {p k:Nat} {w w':World} (h:jG PP p k w w') (hk:k≠9) (h2:k≠2):Below w.heap.size w w':=by
 unfold jG at h;rw [if_neg h2,if_neg hk] at h;exact h
theorem jG.mk {PP:World->Prop} {p k:Nat} {w w':World} (h2:k≠2) (hb:Below w.heap.size w w'):jG PP p k w w':=by
 unfold jG;rw [if_neg h2];split
 ·trivial
 ·exact hb
theorem jG.pp {PP:World->Prop} (Zq:∀w w',PP w->Below w.heap.size w w'->PP w') {p k:Nat} {w w':World} (h:jG PP p k w w') (hk:k≠9) (hw:PP w):PP w':=by
 by_cases h2:k=2
 ·unfold jG at h;rw [if_pos h2] at h;exact h.2
 ·exact Zq w w' hw (h.below hk h2)
theorem Dy.on {PP:World->Prop} {w0:World} {p:Nat} {L:List Tk} {vL:Value} {en:Int} {N:List Nat} {B b:Nat} {V1 PU:Array Value} {va:Int} {t1 tp:Value} {X:Option (Value × Nat)} {fin:World->Prop} {i k:Nat} {v:Value} {w w':World} (hi:i<9) (hk:k≠9) (h32:i=3\/i=8\/i=2->k≠2) (hT:jG PP p k w w') (h:Dy w0 p L vL en N B b V1 PU va t1 tp X fin i v w):Dy w0 p L vL en N B b V1 PU va t1 tp X fin i v w':=by
 have hb:=hT.but hk
 match i,hi,h with
 | 0,_,h=>exact h
 | 1,_,h=>exact h
 | 2,_,h =>
  have hB:=hT.below hk (h32 (by simp));cases X with
  | none=>exact h
  | some x=>exact ⟨h.1,h.2.1.on hB,h.2.2.but hb⟩
 | 3,_,h =>
  have hB:=hT.below hk (h32 (by simp));cases X with
  | none=>exact h
  | some x=>obtain ⟨h1,g,h2,h3⟩:=h;exact ⟨h1.on hB,g,h2,h3.but hb⟩
 | 4,_,h=>exact h
 | 5,_,h=>obtain ⟨g,h2,h3⟩:=h;exact ⟨g,h2,h3.but hb⟩
 | 6,_,h=>exact h
 | 7,_,h=>exact h
 | 8,_,h =>
  have hB:=hT.below hk (h32 (by simp));cases X with
  | none=>exact h
  | some x=>obtain ⟨h1,g,g',h2,h3⟩:=h;exact ⟨h1.on hB,g,g',h2,h3.but hb⟩
end Pz
theorem Zr (w0:World) (p:Nat) (L:List Tk) (vL:Value) (en:Int) (i:Nat) (C E:Nat->Rd Value) (eD:cn C) (HA:∀u,PR w0 p L vL en i u->Calls Tryz.prog 180 #[.pointer (some ⟨p,0,none⟩)] u (Rp w0 p L vL en (aX u.heap.size) u (C i))) (HE:∀j u,i<j->PR w0 p L vL en j u->Calls Tryz.prog 60 #[.pointer (some ⟨p,0,none⟩)] u (Rp w0 p L vL en (aX u.heap.size) u (E j))) (w:World) (h:PR w0 p L vL en i w) :
  Calls Tryz.prog 158 #[.pointer (some ⟨p,0,none⟩)] w (Rp w0 p L vL en (aX w.heap.size) w (match C i with | .error z=>.error z | .ok (e,j)=>match aY L en kD j with | .error _=>.ok (e,j) | .ok j=>match E j with | .error z=>.error z | .ok (u,j)=>.ok (nd 7 e0 e0 0 [e,u] [nd 4 mP e0 0 [] [] (iS e)] (iS e),j))):=by
 have ck:=ae ((ST.om h).new bO 27);obtain ⟨az,aW⟩:∃X,X=(match C i with | .error z=>.error z | .ok (e,j)=>match aY L en kD j with | .error _=>.ok (e,j) | .ok j=>match E j with | .error z=>.error z | .ok (u,j)=>.ok (nd 7 e0 e0 0 [e,u] [nd 4 mP e0 0 [] [] (iS e)] (iS e),j):Rd Value):=⟨_,rfl⟩
 rw [<- aW];have HX:=ae aW;have JZ:=ae HA;have cH:=ae HE;have ja:=ae eD;clear h aW HA HE eD;have bW:=ae (JZ.out _ ck.out.pr);go_enter Tryz.func158,Tryz.ntmps158;go_wp2_with fail;refine Calls.mono (show Calls _ _ _ _ _ from bW.out) ?_;intro e u1 hr;cases hR:C i with
 | error z =>
  obtain ⟨rfl,hb⟩:=bE hr hR;have HB:=ae hb;have aA:Hid (az=.error z):=ae (by have hq:=HX.out;rw [hR] at hq;exact hq);clear hb hR hr bW HX;go_wp2;exact ⟨rfl,bA aA.out HB.out⟩
 | ok r =>
  obtain ⟨t1,j1⟩:=r;obtain ⟨⟨v,rfl,hv0⟩,hp,hbt⟩:=bw hr hR;obtain ⟨fq,fu,jg,fw,dX,jh,eF,hv,c11,c12⟩:=hv0.val;subst hv;have gP:=ae (ja.out _ _ _ hR);have hq:=HX.out;rw [hR] at hq;dsimp only at hq;have bI:=ae hq;clear hq;have aT:=ae (ck.out.jM (B:=w.heap.size) (by have:=ck.out.but.size;omega) hp hbt hv0);clear hp hbt bW HX hR hr ck hv0;have hat:=(aT.out.out (List.Mem.head _)).at_;obtain ⟨W2,hW,hth,cJ⟩:=aT.out.kE 27 bO #[.int .i64 fq,.string fu,.string jg,.int .i64 fw,dX,jh,.int .i64 eF] rfl;have HW2:=ae hW;have fW:=ae hth;have ba:=ae cJ;clear hW hth cJ aT;have HQ:=ae (vV w0 p L vL en j1 kD _ ba.out.pr);cases hb:bn (tk L en j1) kD with
  | false =>
   have bz:Hid (az=.ok (t1,j1)):=ae (by have hq:=bI.out;rw [show aY L en kD j1=.error (tk L en j1).a from if_neg (by rw [hb];decide)] at hq;exact hq);rw [hb] at HQ;clear hb bI;go_wp2_with (refine wpList_store_mid rfl 27 (.tmp 3) (.tmp 6) rfl u1.heap.size 0 #[.int .i64 fq,.string fu,.string jg,.int .i64 fw,dX,jh,.int .i64 eF] rfl rfl fW.out cO (by simp [Value.oneCell'] at c11 c12 ⊢;exact ⟨c11,c12⟩) ?_;rw [HW2.out]);refine Calls.mono (show Calls _ _ _ _ _ from HQ.out) ?_;rintro e w1 ⟨rfl,hb1⟩;have bG:=ae (ba.out.on hb1);clear hb1 HQ ba;have y0:=bG.out.cell 1 rfl 0 rfl;have y1:=bG.out.cell 1 rfl 1 rfl;have y2:=bG.out.cell 1 rfl 2 rfl;have y3:=bG.out.cell 1 rfl 3 rfl;have y4:=bG.out.cell 1 rfl 4 rfl;have y5:=bG.out.cell 1 rfl 5 rfl;have y6:=bG.out.cell 1 rfl 6 rfl;obtain ⟨WA,dR,dS,dJ⟩:=bG.out.put 0 rfl #[.int .i64 fq,.string fu,.string jg,.int .i64 fw,dX,jh,.int .i64 eF] rfl;have gQ:=ae dR;have gS:=ae dS;have aD:=ae dJ;clear dR dS dJ;go_wp2_with (refine wpList_store_mid rfl 27 (.tmp 2) (.tmp 10) rfl w.heap.size 0 #[.int .i64 fq,.string fu,.string jg,.int .i64 fw,dX,jh,.int .i64 eF] rfl rfl gS.out cO (by simp [Value.oneCell'] at c11 c12 ⊢;exact ⟨c11,c12⟩) ?_;rw [gQ.out]);have z0:=aD.out.cell 0 rfl 0 rfl;have z1:=aD.out.cell 0 rfl 1 rfl;have z2:=aD.out.cell 0 rfl 2 rfl;have z3:=aD.out.cell 0 rfl 3 rfl;have z4:=aD.out.cell 0 rfl 4 rfl;have z5:=aD.out.cell 0 rfl 5 rfl;have z6:=aD.out.cell 0 rfl 6 rfl;refine bodyPost_ret (v:=.agg #[.int .i64 fq,.string fu,.string jg,.int .i64 fw,dX,jh,.int .i64 eF]) (by simp [results,Tryz.results158,go_sem,z0,z1,z2,z3,z4,z5,z6]) rfl (cz bz.out (aD.out.out (List.Mem.head _)) aD.out.pr aD.out.but)
  | true =>
   have hmk:aY L en kD j1=.ok (j1+1):=if_pos hb;have hq:=bI.out;rw [hmk] at hq;dsimp only at hq;have bD:=ae hq;have qE:=ae hmk;rw [hb] at HQ;clear hb bI hq hmk;go_wp2_with (refine wpList_store_mid rfl 27 (.tmp 3) (.tmp 6) rfl u1.heap.size 0 #[.int .i64 fq,.string fu,.string jg,.int .i64 fw,dX,jh,.int .i64 eF] rfl rfl fW.out cO (by simp [Value.oneCell'] at c11 c12 ⊢;exact ⟨c11,c12⟩) ?_;rw [HW2.out]);refine Calls.mono (show Calls _ _ _ _ _ from HQ.out) ?_;rintro e w1 ⟨rfl,hb1⟩;have bG:=ae (ba.out.on hb1);clear hb1 HQ ba;have kF:=ae (ig w0 p L vL en j1 kD _ bG.out.pr);go_wp2_with fail;refine Calls.mono (show Calls _ _ _ _ _ from kF.out) ?_;intro e u3 hr;obtain ⟨⟨v,rfl,hv⟩,hp,hbt⟩:=bw hr (dU qE.out);subst hv;have eQ:=ae (bG.out.call hp hbt);clear hp hbt hr kF bG qE fW HW2;have y6:=eQ.out.cell 1 rfl 6 rfl;obtain ⟨W5,hW,hth,cJ⟩:=eQ.out.kE 101 iz #[.int .i64 4,.string mP,.int .i64 0,.slice none 0 0,.int .i64 eF] rfl;have Dz:=ae hW;have DC:=ae hth;have dB:=ae cJ;clear hW hth cJ eQ;go_upto_region 6 with (refine wpList_store_mid rfl 101 (.tmp 4) (.tmp 15) rfl u3.heap.size 0 #[.int .i64 4,.string mP,.int .i64 0,.slice none 0 0,.int .i64 eF] rfl rfl DC.out jk (by simp [Value.oneCell']) ?_;rw [Dz.out])
   try dsimp only [Act.put]
   clear y6 DC Dz;have Zu:∃fin:World->Prop,fin=(fun w1=>match Qq (E (j1+1)) with|none=>False|some (t2,j2)=>∃g g',ST w0 p L vL en [] w j2 [(w.heap.size,#[.int .i64 7,.string e0,.string e0,.int .i64 0,.slice (some ⟨g,0,none⟩) 2 2,.slice (some ⟨g',0,none⟩) 1 1,.int .i64 eF],27),(u1.heap.size,#[.int .i64 fq,.string fu,.string jg,.int .i64 fw,dX,jh,.int .i64 eF],27),(u3.heap.size,#[.int .i64 4,.string mP,.int .i64 0,.slice none 0 0,.int .i64 eF],101)] [aX w.heap.size (nd 7 e0 e0 0 [t1,t2] [nd 4 mP e0 0 [] [] eF] eF) (.agg #[.int .i64 7,.string e0,.string e0,.int .i64 0,.slice (some ⟨g,0,none⟩) 2 2,.slice (some ⟨g',0,none⟩) 1 1,.int .i64 eF])] w1):=⟨_,rfl⟩
   obtain ⟨fin,hfin⟩:=Zu;have l6:=ae hfin;clear hfin;have Qr:=ae (fun u (hu:PR w0 p L vL en (j1+1) u)=>cH.out (j1+1) u (by have:=gP.out;omega) hu);clear cH;refine aj.J0 10 25 (fun i=>if i=9 then 15 else 16+i) [9] [9] (jG (fun u=>∃j,PR w0 p L vL en j u) p) (fun _=>True) (fun i u=>But p W5 u/\(∃j,PR w0 p L vL en j u)/\(i=2->PR w0 p L vL en (j1+1) u)) (Dy w0 p L vL en [w.heap.size,u1.heap.size,u3.heap.size] w.heap.size u1.heap.size #[.int .i64 fq,.string fu,.string jg,.int .i64 fw,dX,jh,.int .i64 eF] #[.int .i64 4,.string mP,.int .i64 0,.slice none 0 0,.int .i64 eF] eF t1 (nd 4 mP e0 0 [] [] eF) (Qq (E (j1+1))) fin) (by kernel_rfl) (by kernel_rfl) (by kernel_rfl) (by kernel_rfl) rfl ?hN ?mg ?hres (fun _ _ _ _ _ _=>trivial) ?hstep ?hend trivial (fun i _=>⟨But.of p (iF W5),⟨_,dB.out.pr.on (iF W5)⟩,fun _=>dB.out.pr.on (iF W5)⟩)
   case hN =>
    intro i hi v v' u h
    have:i=9:=by simpa using hi
    subst this;exact h
   case mg =>
    intro i k v u u' hi hk hne hdp hlv _ hG hT;by_cases Bh:k=9
    ·subst Bh;exfalso
     iterate 10 (rcases Nat.lt_succ_iff_lt_or_eq.1 hi with hi|rfl)
     exact absurd hi (Nat.not_lt_zero _)
     all_goals (first|exact hne rfl|(revert hlv;intro hlv;exact absurd hlv (by decide +kernel)))
    ·by_cases Zv:i=9
     ·subst Zv;exfalso;clear hlv
      iterate 10 (rcases Nat.lt_succ_iff_lt_or_eq.1 hk with hk|rfl)
      exact absurd hk (Nat.not_lt_zero _)
      all_goals (first|exact hne rfl|exact absurd hdp (by decide +kernel))
     ·refine Dy.on (by omega) Bh (fun h32 e=>?_) hT hG;subst e;rcases h32 with rfl|rfl|rfl
      ·exact absurd hdp (by decide +kernel)
      ·exact absurd hdp (by decide +kernel)
      ·exact hne rfl
   case hres =>
    intro i k u u' hi hk hne hdp _ hR hT
    have Bh:k≠9:=by
     rintro rfl
     iterate 10 (rcases Nat.lt_succ_iff_lt_or_eq.1 hi with hi|rfl)
     exact absurd hi (Nat.not_lt_zero _)
     all_goals (first|exact hne rfl|exact absurd hdp (by decide +kernel))
    exact ⟨hR.1.trans (hT.but Bh),hT.pp (fun _ _ ⟨j,h⟩ hb=>⟨j,h.on hb⟩) Bh hR.2.1,fun e=>(hR.2.2 e).on (hT.below Bh (fun e2=>hne (by omega)))⟩
   case hstep =>
    intro i o a u hi ho hF _ hR hd;have hb1:=hR.1.blk (dB.out.at_ (k:=1) rfl) (by have:=dB.out.FV (x:=(u1.heap.size,#[.int .i64 fq,.string fu,.string jg,.int .i64 fw,dX,jh,.int .i64 eF],27)) (List.Mem.tail _ (List.Mem.head _));exact this);have hb2:=hR.1.blk (dB.out.at_ (k:=2) rfl) (by have:=dB.out.FV (x:=(u3.heap.size,#[.int .i64 4,.string mP,.int .i64 0,.slice none 0 0,.int .i64 eF],101)) (List.Mem.tail _ (List.Mem.tail _ (List.Mem.head _)));exact this);have y0:=dc hb1 0 rfl;have y1:=dc hb1 1 rfl;have y2:=dc hb1 2 rfl;have y3:=dc hb1 3 rfl;have y4:=dc hb1 4 rfl;have y5:=dc hb1 5 rfl;have y6:=dc hb1 6 rfl;have q0:=dc hb2 0 rfl;have q1:=dc hb2 1 rfl;have q2:=dc hb2 2 rfl;have q3:=dc hb2 3 rfl;have q4:=dc hb2 4 rfl;have f0:a.tmps[0]?.getD undef=.pointer (some ⟨p,0,none⟩):=aj.ay (hF.eval 0 (fun i hi=>by show (if i=9 then 15 else 16+i)≠0;split<;>omega))
    have f2:a.eval (.tmp 2)=.pointer (some ⟨w.heap.size,0,none⟩):=hF.eval 2 (fun i hi=>by show (if i=9 then 15 else 16+i)≠2;split<;>omega)
    have f3:a.tmps[3]?.getD undef=.pointer (some ⟨u1.heap.size,0,none⟩):=aj.ay (hF.eval 3 (fun i hi=>by show (if i=9 then 15 else 16+i)≠3;split<;>omega))
    have f4:a.tmps[4]?.getD undef=.pointer (some ⟨u3.heap.size,0,none⟩):=aj.ay (hF.eval 4 (fun i hi=>by show (if i=9 then 15 else 16+i)≠4;split<;>omega))
    have HR:=ae hR;have zx:=ae hF.defers;clear hb1 hb2
    iterate 10 (rcases Nat.lt_succ_iff_lt_or_eq.1 hi with hi|rfl)
    exact absurd hi (Nat.not_lt_zero _)
    all_goals (simp only [List.getElem?_toArray,List.getElem?_cons_succ,List.getElem?_cons_zero,Option.some.injEq] at ho;subst ho;refine aj.bB fun KK ax=>?_;have dA:=ae ax;clear ax)
    ·go_simp;exact dA.out _ _ ⟨_,rfl,jG.mk (by decide) (Below.refl _ _),rfl⟩
    ·go_simp;exact dA.out _ _ ⟨_,rfl,jG.mk (by decide) (Below.refl _ _),rfl⟩
    ·have g0:a.tmps[17]?.getD undef=.pointer (some ⟨p,0,none⟩):=aj.ay (hd 1 (by decide));clear hd;go_simp;refine Calls.mono (show Calls _ _ _ _ _ from Qr.out u (HR.out.2.2 rfl)) ?_;intro e u5 hr;have hS:=dB.out.call (HR.out.2.2 rfl) HR.out.1;cases hRR:E (j1+1) with
     | error z =>
      obtain ⟨rfl,hb⟩:=bE hr hRR;have dQ:az=.error z:=by have hq:=bD.out;rw [hRR] at hq;exact hq
      exact ⟨zx.out,bA dQ hb⟩
     | ok r =>
      obtain ⟨t2,j2⟩:=r;obtain ⟨⟨v,rfl,hv0⟩,hp,hbt⟩:=bw hr hRR;obtain ⟨rk,rx,ry,rn,ru,rz,ra,hv,o3,o4⟩:=hv0.val;subst hv;have jr:=hS.jM (B:=w.heap.size) hS.but.size hp hbt hv0;exact dA.out _ _ ⟨_,rfl,⟨hbt,⟨_,hp⟩⟩,by rw [hRR];exact ⟨⟨_,_,_,_,_,_,_,rfl⟩,hp,fun w' hw=>jr.gq _ (List.Mem.head _) w' hw⟩⟩
    ·have g0:a.tmps[16]?.getD undef=.agg #[.int .i64 fq,.string fu,.string jg,.int .i64 fw,dX,jh,.int .i64 eF]:=aj.ay (hd 0 (by decide));have h2:=hd 2 (by decide);cases hRR:E (j1+1) with
     | error z=>rw [hRR] at h2;exact h2.elim
     | ok r =>
      obtain ⟨t2,j2⟩:=r;rw [hRR] at h2;obtain ⟨⟨rk,rx,ry,rn,ru,rz,ra,hv⟩,hpr,hst⟩:=h2;have g1:a.tmps[18]?.getD undef=.agg #[.int .i64 rk,.string rx,.string ry,.int .i64 rn,ru,rz,.int .i64 ra]:=aj.ay hv;rw [hv] at hst;have HST:=ae hst;have tY:=ae hpr;clear hd hst hpr hv;go_simp;have hS:=(dB.out.call tY.out HR.out.1).add _ HST.out
      have hr:=hS.uA (B:=w.heap.size) hS.but.size #[.int .i64 fq,.string fu,.string jg,.int .i64 fw,dX,jh,.int .i64 eF,.int .i64 rk,.string rx,.string ry,.int .i64 rn,ru,rz,.int .i64 ra] 27 [t1,t2] 2 (by simp) (fun k s hk=>by
       match k,hk with
       | 0,hk=>injection hk with hk;subst hk;exact ⟨#[.int .i64 fq,.string fu,.string jg,.int .i64 fw,dX,jh,.int .i64 eF],List.Mem.tail _ (List.Mem.head _),fun j v hj=>by match j,hj with|0,hj=>exact hj|1,hj=>exact hj|2,hj=>exact hj|3,hj=>exact hj|4,hj=>exact hj|5,hj=>exact hj|6,hj=>exact hj⟩
       | 1,hk=>injection hk with hk;subst hk;exact ⟨#[.int .i64 rk,.string rx,.string ry,.int .i64 rn,ru,rz,.int .i64 ra],List.Mem.head _,fun j v hj=>by match j,hj with|0,hj=>exact hj|1,hj=>exact hj|2,hj=>exact hj|3,hj=>exact hj|4,hj=>exact hj|5,hj=>exact hj|6,hj=>exact hj⟩)
      exact dA.out _ _ ⟨_,rfl,jG.mk (by decide) (dF _ _),by rw [hRR];exact ⟨hr.pr,_,rfl,fun w' hw=>hr.gq _ (List.Mem.head _) w' hw⟩⟩
    ·go_simp;exact dA.out _ _ ⟨_,rfl,jG.mk (by decide) (Below.refl _ _),rfl⟩
    ·have g0:a.tmps[20]?.getD undef=.agg #[.int .i64 4,.string mP,.int .i64 0,.slice none 0 0,.int .i64 eF]:=aj.ay (hd 4 (by decide));clear hd;go_simp;obtain ⟨j9,Zw⟩:=HR.out.2.1;have hS:=(dB.out.call Zw HR.out.1).uW (B:=w.heap.size) 4 mP 0 eF
     have hr:=hS.rowP (B:=w.heap.size) hS.but.size #[.int .i64 4,.string mP,.int .i64 0,.slice none 0 0,.int .i64 eF] 101 [nd 4 mP e0 0 [] [] eF] 1 (by simp) (fun k s hk=>by
      match k,hk with
      | 0,hk=>injection hk with hk;subst hk;exact ⟨#[.int .i64 4,.string mP,.int .i64 0,.slice none 0 0,.int .i64 eF],List.Mem.head _,fun j v hj=>by match j,hj with|0,hj=>exact hj|1,hj=>exact hj|2,hj=>exact hj|3,hj=>exact hj|4,hj=>exact hj⟩)
     exact dA.out _ _ ⟨_,rfl,jG.mk (by decide) (dF _ _),⟨_,rfl,fun w' hw=>hr.gq _ (List.Mem.head _) w' hw⟩⟩
    ·go_simp;exact dA.out _ _ ⟨_,rfl,jG.mk (by decide) (Below.refl _ _),rfl⟩
    ·have g0:a.tmps[22]?.getD undef=.pointer (some ⟨u1.heap.size,6,none⟩):=aj.ay (hd 6 (by decide));go_simp;exact dA.out _ _ ⟨_,rfl,jG.mk (by decide) (Below.refl _ _),rfl⟩
    ·have h3:=hd 3 (by decide);obtain ⟨g5,mQ,hs5⟩:=hd 5 (by decide);have g3:a.tmps[23]?.getD undef=.int .i64 eF:=aj.ay (hd 7 (by decide));cases hRR:E (j1+1) with
     | error z=>rw [hRR] at h3;exact h3.elim
     | ok r =>
      obtain ⟨t2,j2⟩:=r;rw [hRR] at h3;obtain ⟨hpr,g2,jK,zy⟩:=h3;have g0:a.tmps[19]?.getD undef=.slice (some ⟨g2,0,none⟩) 2 2:=aj.ay jK;have g1:a.tmps[21]?.getD undef=.slice (some ⟨g5,0,none⟩) 1 1:=aj.ay mQ;rw [jK] at zy;rw [mQ] at hs5;have HP:=ae hpr;have H3:=ae zy;have H5:=ae hs5;clear hd hpr zy hs5 jK mQ;go_simp;exact dA.out _ _ ⟨_,rfl,jG.mk (by decide) (Below.refl _ _),by rw [hRR];exact ⟨HP.out,g2,g5,rfl,fun w' hw=>Pz.Bi 7 e0 e0 0 eF (H3.out w' hw) (H5.out w' hw)⟩⟩
    ·have h8:=hd 8 (by decide);cases hRR:E (j1+1) with
     | error z=>rw [hRR] at h8;exact h8.elim
     | ok r =>
      obtain ⟨t2,j2⟩:=r;rw [hRR] at h8;obtain ⟨hpr,g2,g5,Qs,FD⟩:=h8;rw [Qs] at FD;have hS:=(dB.out.call hpr HR.out.1).add _ FD;obtain ⟨W,hW,hth,cJ⟩:=hS.put 0 rfl #[.int .i64 7,.string e0,.string e0,.int .i64 0,.slice (some ⟨g2,0,none⟩) 2 2,.slice (some ⟨g5,0,none⟩) 1 1,.int .i64 eF] rfl;refine wp_store_mid 27 (.tmp 2) (.tmp 24) rfl w.heap.size 0 #[.int .i64 7,.string e0,.string e0,.int .i64 0,.slice (some ⟨g2,0,none⟩) 2 2,.slice (some ⟨g5,0,none⟩) 1 1,.int .i64 eF] f2 Qs hth cO (by simp [Value.oneCell']) (dA.out _ _ ⟨undef,rfl,trivial,?_⟩);rw [hW];show fin W;rw [l6.out,hRR];exact ⟨g2,g5,cJ.drop (fun F hF=>by rw [List.mem_singleton.1 hF];exact List.Mem.head _)⟩
   case hend =>
    intro a u hF _ hn;have h9:fin u:=hn 9 (by simp) (by decide);rw [l6.out] at h9;cases hRR:E (j1+1) with
    | error z=>rw [hRR] at h9;exact h9.elim
    | ok r =>
     obtain ⟨t2,j2⟩:=r;rw [hRR] at h9;obtain ⟨g2,g5,hS⟩:=h9;have bz:Hid (az=.ok (nd 7 e0 e0 0 [t1,t2] [nd 4 mP e0 0 [] [] eF] eF,j2)):=ae (by have hq:=bD.out;rw [hRR,hat] at hq;exact hq);have hdf:a.defers = []:=hF.defers;have h2:a.tmps[2]?.getD undef=.pointer (some ⟨w.heap.size,0,none⟩):=aj.ay (hF.eval 2 (fun i hi=>by show (if i=9 then 15 else 16+i)≠2;split<;>omega))
     have aD:=ae hS;clear hS hn hRR bD dB l6 Qr;go_wp2_with fail;have z0:=aD.out.cell 0 rfl 0 rfl;have z1:=aD.out.cell 0 rfl 1 rfl;have z2:=aD.out.cell 0 rfl 2 rfl;have z3:=aD.out.cell 0 rfl 3 rfl;have z4:=aD.out.cell 0 rfl 4 rfl;have z5:=aD.out.cell 0 rfl 5 rfl;have z6:=aD.out.cell 0 rfl 6 rfl;refine bodyPost_ret (v:=.agg #[.int .i64 7,.string e0,.string e0,.int .i64 0,.slice (some ⟨g2,0,none⟩) 2 2,.slice (some ⟨g5,0,none⟩) 1 1,.int .i64 eF]) (by simp [results,Tryz.results158,go_sem,h2,z0,z1,z2,z3,z4,z5,z6]) hdf (cz bz.out (aD.out.out (List.Mem.head _)) aD.out.pr aD.out.but)
end Go.Proofs.YtkdbgopgjbfhbaaGreatDoor
