/- Texts that the claim needs. -/
import Derived.Test.YtegboefdolfdgaaGreatDoorQDM25
import Derived.Test.YtegboefdolfdgaaGreatDoorQDM5
import Derived.Test.YtegboefdolfdgaaGreatDoorQDM21
namespace Go.Proofs.YtegboefdolfdgaaGreatDoor
open Go.RowKit aA ai
set_option linter.unusedVariables false
set_option maxRecDepth 100000
set_option maxHeartbeats 4000000
namespace ai
def oG (s:ByteArray) (en:Nat):Nat->List Int->Nat->R (List Int)
 | 0,l,i=>.ok (l,i)
 | r+1,l,i=>bd (ru s en i) fun c j=>if c<=256-(l.length:Int) then bd (rt s en j) fun t j2=>oG s en r (l++List.replicate c.toNat t) j2 else .error 3
def wP (s:ByteArray) (en i:Nat):R (List Int):=bd (rc s en i) fun n j=>oG s en n.toNat [] j
end ai
theorem QY (w0:World) (p:Nat) (s:ByteArray) (c:Nat->Value) (en k i n:Nat) (w:World) (h:RS w0 p s c en k i n w) :
  Calls Tryz.prog 77 #[.pointer (some ⟨p,0,none⟩)] w (bw w0 p s c en k n (jN w.heap.size) w (wP s en i)):=by
 have HC:=aa (nQ w0 p s c en k i n w h);have hpw:=h.lt;have hlen:=h.len;have hle:=h.le;clear h;unfold wP;cases hx:rc s en i with
 | error z =>
  rw [hx] at HC;rw [bg];clear hx;go_enter Tryz.func77,Tryz.ntmps77;go_wp2_with fail;refine HC.out.mono ?_;rintro e w1 ⟨rfl,hb⟩;exact ⟨rfl,rfl,hb⟩
 | ok v =>
  obtain ⟨x,j⟩:=v;have hrc:=jl hlen hx;rw [hx] at HC;rw [aM];obtain ⟨m,rfl⟩:∃m:Nat,x=(m:Int):=⟨x.toNat,by omega⟩;have hm:m<=4096:=by omega
  rw [show ((m:Int).toNat)=m by omega];obtain ⟨R,hR⟩:∃R,R=oG s en m [] j:=⟨_,rfl⟩;rw [<- hR];have HR:=aa hR;clear hx hrc hR hle;go_enter Tryz.func77,Tryz.ntmps77;go_wp2_with fail;refine HC.out.mono ?_;rintro e w1 ⟨⟨v,rfl,hv⟩,h1,h2⟩;have hv:v=.int .i64 m:=hv;subst hv;have H1:=aa h1;have H2:=aa h2;clear h1 h2 HC;go_wp2_with fail;go_loopw [3,7] (fun t u wr=>∃(q:Nat) (l:List Int) (jq:Nat),q<=m/\u=.int .i64 q/\l.length<=256/\(∃o c,t=.slice o l.length c)/\Hid (R=oG s en (m-q) l jq)/\Hid (RS w0 p s c en k jq n wr)/\Hid (But p w wr)/\Hid (wr.ownsRow w.heap.size 3 1 t l.length (l.map fun z=>Value.int .i64 z))) (fun _ u _=>m-(RowKit.intOf u).toNat)
  case atStart=>exact ⟨0,[],j,by omega,rfl,by simp,⟨none,0,rfl⟩,aa (by rw [HR.out];rfl),H1,H2,aa (World.ownsRow_nil _ _ _ _)⟩
  case round =>
   obtain ⟨q,l,jq,hq,rfl,hl,⟨oT,cT,rfl⟩,HP,HS,HB,HO⟩:=hrel;by_cases hgo:q<m
   ·have hU:=gh w0 p s c en k jq n wr HS.out;obtain ⟨r,hr⟩:∃r,m-q=r+1:=⟨m-q-1,by omega⟩;have hr1:m-(q+1)=r:=by omega
    cases hu:ru s en jq with
    | error z =>
     rw [hu] at hU;have HU:=aa hU;have HZ:Hid (R=.error z):=aa (by rw [HP.out,hr];unfold oG;rw [hu];rfl);clear hU hu HP HO;go_wp2_with fail;refine HU.out.mono ?_;rintro e w2 ⟨rfl,hb⟩;exact ⟨rfl,by rw [HZ.out];exact ⟨rfl,hb⟩⟩
    | ok v =>
     obtain ⟨y,j2⟩:=v;rw [hu] at hU;have iH:=iP hlen hu;obtain ⟨y,rfl⟩:∃y':Nat,y=y':=⟨y.toNat,by omega⟩;have HU:=aa hU;have hw1:IntKind.i64.wrap (256-(l.length:Int))=256-(l.length:Int):=by rw [IntKind.wrap_i64];omega
     by_cases hy:(y:Int)<=256-(l.length:Int)
     ·have hy':(y:Int)<=256-(l.length:Int):=by omega
      have dY:decide ((y:Int)<=256-(l.length:Int))=true:=decide_eq_true hy';have HN:=fun u=>aa (bH 3 u);have hT:=fun (u:World) (hu:RS w0 p s c en k j2 n u)=>Dt (h:=hu);cases ht:rt s en j2 with
      | error z =>
       rw [ht] at hT;have HT:=aa hT;have HZ:Hid (R=.error z):=aa (by rw [HP.out,hr];unfold oG;rw [hu,aM,if_pos hy',ht];rfl);clear hU hu HP HO hT ht;go_wp2_with fail;refine HU.out.mono ?_;rintro e w2 ⟨⟨v,rfl,hv⟩,h1,h2⟩;have hv:v=.int .i64 y:=hv;subst hv;go_wp2_with fail;refine (HN _).out.mono ?_;rintro e w3 ⟨rfl,hw⟩;subst hw;go_wp2_with fail;refine (HT.out _ h1).mono ?_;rintro e w4 ⟨rfl,hb⟩;exact ⟨rfl,by rw [HZ.out];exact ⟨rfl,hb⟩⟩
      | ok v =>
       obtain ⟨t,j3⟩:=v;rw [ht] at hT;have HT:=aa hT
       have HZ:Hid (R=oG s en (m-(q+1)) (l++List.replicate y t) j3):=aa (by
        rw [HP.out,hr,hr1]
        conv=>lhs;unfold oG;rw [hu,aM,if_pos hy',ht]
        rfl)
       clear hU hu HP hT ht;go_wp2_with fail;refine HU.out.mono ?_;rintro e w2 ⟨⟨v,rfl,hv⟩,h1,h2⟩;have hv:v=.int .i64 y:=hv;subst hv;go_wp2_with fail;refine (HN _).out.mono ?_;rintro e w3 ⟨rfl,hw⟩;subst hw;go_wp2_with fail;refine (HT.out _ h1).mono ?_;rintro e w4 ⟨⟨v,rfl,hv⟩,h3,h4⟩;have hv:v=.int .i64 t:=hv;subst hv;obtain ⟨w5,BQ⟩:∃w5,w5=w4.alloc (.cells #[.int .i64 t] 3):=⟨_,rfl⟩;have hb5:Below w4.heap.size w4 w5:=by rw [BQ];exact aD w4 _
       have Kk:w5.cell? ⟨w4.heap.size,0,none⟩=some (.int .i64 t):=by rw [BQ];exact qU w4 (.int .i64 t) 3 0 _ rfl
       have Kl:=aa (Ov t y w4.heap.size 1 w5 (by omega) Kk);have xd:=aa (Ei (fA (fA HO.out hpw h2) hpw h4) hb5);have vO:=aa (((HB.out.trans h2).trans h4).trans (But.of p hb5));have Km:=aa (h3.on hb5);clear h1 h2 h3 h4 HU HN HT HO HS HB Kk hb5;go_wp2_with fail;rw [<- BQ];clear BQ;refine Kl.out.mono ?_;rintro e w6 ⟨rfl,jG⟩;have Ex:=aa (Ei xd.out jG.below);have vP:=aa (vO.out.trans (But.of p jG.below));have Kn:=aa (Km.out.on jG.below);have bY:Hid (w.heap.size<=w6.heap.size):=aa vP.out.size
       have Ko:Hid (∀j u,(List.replicate y (Value.int .i64 t))[j]?=some u->w6.cell? ((⟨w5.heap.size,0,none⟩:Addr).add j)=some u):=aa fun j u hj=>by
        rw [List.getElem?_replicate] at hj;split at hj
        ·rename_i h;cases hj;rw [ry,Nat.zero_add];exact jG.cell h
        ·cases hj
       clear jG Kl xd vO Km;obtain ⟨i0,hi,hz0,hz1,hz2⟩:=info_parts qV;go_wp2_with (first|(at_builtin;refine iN rfl _ _ 29 rfl w.heap.size 3 i0 _ 1 8 Tryz.underlying29 hi hz0 hz1 hz2 rfl (by decide) _ _ _ rfl Ex.out (some ⟨w5.heap.size,0,none⟩) y y (List.replicate y (.int .i64 t)) rfl ?c6 ?c0 ?c1 ?c2 ?c3 ?c4 ?c5 ?_))
       case c6=>intro h;cases h
       case c0=>rw [List.length_replicate,Nat.mul_one]
       case c1=>exact fun ad h=>by injection h with h;subst h;exact Ko.out
       case c2=>exact fun u hu=>by rw [List.eq_of_mem_replicate hu];rfl
       case c3=>unfold maxLen;omega
       case c4=>omega
       case c5=>have:=bY.out;omega
       intro v9 w9 aW aP _;have aS:∀q',(Value.slice oT l.length cT).ownBlock=some q'->w.heap.size<=q':=fun q' hq'=>(Ex.out.lt q' hq').1;have bP:=aa (Kn.out.grown aP (fun q' hq'=>Nat.lt_of_lt_of_le hpw (aS q' hq')));have cG:=aa (But.grown (p:=p) vP.out aP aS);have Kq:(l++List.replicate y t).length=l.length+y:=by simp
       have dF:Hid (w9.ownsRow w.heap.size 3 1 v9 (l++List.replicate y t).length ((l++List.replicate y t).map fun z=>Value.int .i64 z)):=aa (by rw [Kq,List.map_append,List.map_replicate];exact aW);have hsl:=fU aW;rw [<- Kq] at hsl;clear aW aP aS Ex Ko vP Kn;obtain ⟨oN,cN,rfl⟩:=hsl;generalize VY:l++List.replicate y t=l9 at *;go_wp2;go_roundw
       case rel=>exact ⟨q+1,l9,j3,by omega,by go_num,by omega,⟨_,_,rfl⟩,HZ,bP,cG,dF⟩
       case measure=>simp [RowKit.intOf];omega
     ·have hy':¬ (y:Int)<=256-(l.length:Int):=by omega
      have dY:decide ((y:Int)<=256-(l.length:Int))=false:=decide_eq_false hy';have HN:=fun u=>aa (eZ 3 u);have HZ:Hid (R=.error 3):=aa (by rw [HP.out,hr];unfold oG;rw [hu,aM,if_neg hy']);clear hU hu HP HO;go_wp2_with fail;refine HU.out.mono ?_;rintro e w2 ⟨⟨v,rfl,hv⟩,h1,h2⟩;have hv:v=.int .i64 y:=hv;subst hv;go_wp2_with fail;refine (HN _).out.mono ?_;rintro e w3 ⟨rfl,hw⟩;exact ⟨rfl,by rw [HZ.out];exact ⟨rfl,by rw [hw];exact h1.below⟩⟩
   ·obtain rfl:q=m:=by omega
    have HZ:Hid (R=.ok (l,jq)):=aa (by rw [HP.out,Nat.sub_self];rfl);have HV:Hid (jN w.heap.size l (.slice oT l.length cT) wr):=aa (vZ (l:=l) HO.out (by omega));clear HP HO;go_wp2;go_ret;rw [HZ.out];exact ⟨⟨_,rfl,HV.out⟩,HS.out,HB.out⟩
end Go.Proofs.YtegboefdolfdgaaGreatDoor
namespace Go.Proofs.YtegboefdolfdgaaGreatDoor
open Go.RowKit aA
set_option linter.unusedVariables false
namespace af
section
variable {P:Program} {ops:Array Oper} {Q:Exit->Act->World->Prop} {id:Nat} {a0:Act} {w0:World}
def wV (ops:Array Oper) (a0:Act) (n:Nat) (dst:Nat->Nat) (K:World->Prop) (R:Nat->World->Prop) (G:Nat->Value->World->Prop) (L:Array Bool) (a:Act) (w:World):Prop :=
 (∀k,n<=k->L.getD k false=false)/\Fr a0 dst n a/\K w/\(∀i,i<n->L.getD i false=false->R i w)/\∀i,i<n->L.getD i false=true->G i (a.eval (.tmp (dst i))) w
theorem Dz (n:Nat) (dst:Nat->Nat) (fp:Nat->Option Nat) (K:World->Prop) (R:Nat->World->Prop) (G:Nat->Value->World->Prop) (hm:P.follows .mixedOrders=true) (hT:qc ops n=true)
  (hinj:∀i j,i<n->j<n->dst i=dst j->i=j)
  (hdst:∀i,i<n->∃o,ops[i]?=some o/\o.dst=some (dst i)/\o.guard=none/\dst i<a0.tmps.size)
  (lC:∀i k v w w',i<n->k<n->i≠k->K w->G i v w->w.grownBy w' (fp k)->G i v w')
  (hres:∀i k w w',i<n->k<n->i≠k->R i w->w.grownBy w' (fp k)->R i w')
  (hK:∀k w w',k<n->K w->w.grownBy w' (fp k)->K w')
  (hstep:∀i o a w,i<n->ops[i]?=some o->Fr a0 dst n a->K w->R i w->(∀j ∈ deps o,G j (a.eval (.tmp (dst j))) w)->o.wp P a w (fun a' w'=>∃v,a'=a.put o.dst v/\w.grownBy w' (fp i)/\G i v w') Q)
  (fu:∀a w,Fr a0 dst n a->K w->(∀i,i<n->G i (a.eval (.tmp (dst i))) w)->wpList P ops Q (ops.toList.drop n) a w)
  (Eh:K { w0 with drawn:=w0.drawn+1 }) (oz:∀i,i<n->R i { w0 with drawn:=w0.drawn+1 }) :
  (Code.region id ops true).wp P Q a0 w0:=by
 have fM:=hT;unfold qc at fM;rw [Bool.and_eq_true,List.all_eq_true,decide_eq_true_eq] at fM;obtain ⟨hn,fM⟩:=fM
 have hlow:∀i,i<ops.size->∀j ∈ iw ops i,j<i:=fun i hi j hj=>by
  have:=fM i (List.mem_range.2 hi)
  rw [Bool.and_eq_true,List.all_eq_true] at this;exact of_decide_eq_true (this.1 j hj)
 have hbig:∀(L:Array Bool) i,n<=i->i<ops.size->Closed ops L->(∀j ∈ iw ops i,L.getD j false=true)->∀j,j<i->L.getD j false=true:=fun L i hi hs hc hd j hj=>by
  have:=fM i (List.mem_range.2 hs)
  rw [Bool.and_eq_true,Bool.or_eq_true,decide_eq_true_eq] at this;rcases this.2 with h|h
  ·omega
  ·have hjm:j ∈ sK ops [i] i:=by simpa using (List.all_eq_true.1 h) j (List.mem_range.2 hj)
   rcases xH hc hd i [i] (fun m hm=>.inl (List.mem_singleton.1 hm)) j hjm with h|h
   ·omega
   ·exact h
 refine xE (fun L a w=>L.size=ops.size/\Closed ops L/\(wV ops a0 n dst K R G L a w\/Behind P ops Q n L a w)) hm ?_ ?_ ?_
 ·rintro L i a w hi ⟨hsz,hc,zZ⟩;obtain ⟨qN,o,ho,hd⟩:=xF hi;obtain ⟨dW,iK⟩:=xG qN;have hd':∀j ∈ iw ops i,L.getD j false=true:=by rw [oJ ho];exact hd
  have hsz':(L.setIfInBounds i true).size=ops.size:=by rw [Array.size_setIfInBounds,hsz]
  have hc':Closed ops (L.setIfInBounds i true):=fun m hm j hj=>by
   rw [fN L i _ dW] at hm ⊢;split
   ·rfl
   ·by_cases he:m=i
    ·subst he;exact hd' j hj
    ·rw [if_neg he] at hm;exact hc m hm j hj
  have low:∀k,n<=k->(∀j,j<k->L.getD j false=true)->(∀j,k<=j->L.getD j false=false)->n<=i->i=k:=fun k hnk hk1 hk2 hni=>by
   have h1:=hbig L i hni (by omega) hc hd';rcases Nat.lt_trichotomy i k with h|h|h
   ·rw [hk1 i h] at iK;cases iK
   ·exact h
   ·have:=h1 k h;rw [hk2 k (Nat.le_refl _)] at this;cases this
  have tZ:∀k,k=i->n<=k->(∀j,j<k->L.getD j false=true)->(∀j,k<=j->L.getD j false=false)->wpList P ops Q (ops.toList.drop k) a w->wpOp P ops Q i (fun a w=>(L.setIfInBounds i true).size=ops.size/\Closed ops (L.setIfInBounds i true)/\(wV ops a0 n dst K R G (L.setIfInBounds i true) a w\/Behind P ops Q n (L.setIfInBounds i true) a w)) a w:=by
   rintro k rfl hnk hk1 hk2 hwp;have hks:k<ops.size:=by omega
   have qM:ops.toList.drop k=o :: ops.toList.drop (k+1):=by
    rw [List.drop_eq_getElem_cons (by simpa using hks)];congr 1
    have:=Array.getElem?_eq_getElem hks
    rw [ho] at this;simpa using (Option.some.inj this).symm
   rw [qM] at hwp
   have up:∀a w,wpList P ops Q (ops.toList.drop (k+1)) a w->(L.setIfInBounds k true).size=ops.size/\Closed ops (L.setIfInBounds k true)/\(wV ops a0 n dst K R G (L.setIfInBounds k true) a w\/Behind P ops Q n (L.setIfInBounds k true) a w):=fun a w h =>
    ⟨hsz',hc',.inr ⟨k+1,by omega,fun j hj=>by
     rw [fN L k _ dW];split
     ·rfl
     ·exact hk1 j (by omega),fun j hj=>by
     rw [fN L k _ dW,if_neg (by omega)];exact hk2 j (by omega),h⟩⟩
   unfold wpOp;rw [ho];unfold wpList at hwp;show ite _ _ _;split
   ·rename_i hw;rw [if_pos hw] at hwp;exact hwp.imp (Oper.wp_mono up) (fun h=>h)
   ·rename_i hw;rw [if_neg hw] at hwp;exact up _ _ hwp
  rcases zZ with ⟨hk,hF,hB,hR,hG⟩|⟨k,hnk,hk1,hk2,hwp⟩
  ·by_cases hin:i<n
   ·obtain ⟨o',ho',ja,hog,hos⟩:=hdst i hin
    have:o'=o:=by rw [ho] at ho';exact (Option.some.inj ho').symm
    subst this;have hs:=hstep i o' a w hin ho hF hB (hR i hin iK) (fun j hj=>hG j (by have:=hlow i (by omega) j (by rw [oJ ho];exact hj);omega) (hd j hj));unfold wpOp;rw [ho];show ite _ _ _;rw [if_pos (by simp [Region.wanted,hog])];refine .inl (Oper.wp_mono ?_ hs);rintro a' w' ⟨v,rfl,hBw,qB⟩;have rG:dst i<a.tmps.size:=by rw [hF.size];exact hos
    refine ⟨hsz',hc',.inl ⟨fun k hnk=>?_,by rw [ja];exact hF.put hin v,?_,fun j hj iD=>?_,fun j hj iD=>?_⟩⟩
    ·rw [fN L i _ dW,if_neg (by omega)];exact hk k hnk
    ·exact hK i w w' hin hB hBw
    ·by_cases he:j=i
     ·subst he;rw [fN L j _ dW,if_pos rfl] at iD;cases iD
     ·rw [fN L i _ dW,if_neg he] at iD;exact hres j i w w' hj hin he (hR j hj iD) hBw
    ·rw [ja];by_cases he:j=i
     ·subst he;rw [uD v rG];exact qB
     ·rw [fN L i _ dW,if_neg he] at iD;rw [qg v (fun e=>he (hinj i j hin hj e).symm)];exact lC j i _ w w' hj hin he hB (hG j hj iD) hBw
   ·have h1:=hbig L i (by omega) (by omega) hc hd'
    have Aa:n=i:=by
     rcases Nat.lt_or_ge n i with h|h
     ·have:=h1 n h;rw [hk n (Nat.le_refl _)] at this;cases this
     ·omega
    refine tZ n Aa (Nat.le_refl _) (fun j hj=>h1 j (by omega)) hk (fu a w hF hB fun j hj=>hG j hj (h1 j (by omega)))
  ·rcases Nat.lt_or_ge i n with h|h
   ·rw [hk1 i (by omega)] at iK;cases iK
   ·exact tZ k (low k hnk hk1 hk2 h).symm hnk hk1 hk2 hwp
 ·rintro L a w hr ⟨hsz,hc,⟨hk,_⟩|⟨k,hnk,hk1,hk2,hwp⟩⟩
  ·have:=uE hT hsz hr n hn
   rw [hk n (Nat.le_refl _)] at this;cases this
  ·have:ops.size<=k:=by
    rcases Nat.lt_or_ge k ops.size with h|h
    ·have:=uE hT hsz hr k h
     rw [hk2 k (Nat.le_refl _)] at this;cases this
    ·exact h
   rw [List.drop_eq_nil_of_le (by simpa using this)] at hwp;exact hwp
 ·have hf:∀k,(Array.replicate ops.size false).getD k false=false:=fun k=>by
   simp [Array.getD]
  refine ⟨by simp,fun i hi=>?_,.inl ⟨fun k _=>hf k,⟨rfl,rfl,fun _ _=>rfl⟩,Eh,fun i hi _=>oz i hi,fun i _ hL=>?_⟩⟩
  ·rw [hf] at hi;cases hi
  ·rw [hf] at hL;cases hL
end
end af
end Go.Proofs.YtegboefdolfdgaaGreatDoor
namespace Go.Proofs.YtegboefdolfdgaaGreatDoor
open Go.RowKit aA ai
set_option linter.unusedVariables false
set_option maxRecDepth 100000
set_option maxHeartbeats 1000000
namespace ai
def FB (g ob L:Nat) (ty:Nat->Int) (a b:Nat->Value) (w:World):Prop :=
 ∃cur:Array Value,w.heap[g]?=some (.cells cur 68 (0,0))/\∀j,j<L->cur[ob+j*3]?=some (.int .i64 (ty j))/\cur[ob+j*3+1]?=some (a j)/\cur[ob+j*3+2]?=some (b j)
section
variable {g ob L:Nat} {ty:Nat->Int} {a b:Nat->Value} {w w':World}
theorem FB.cell (h:FB g ob L ty a b w) {j:Nat} (hj:j<L):w.cell? ⟨g,ob+j*3,none⟩=some (.int .i64 (ty j))/\w.cell? ⟨g,ob+j*3+1,none⟩=some (a j)/\w.cell? ⟨g,ob+j*3+2,none⟩=some (b j):=by
 obtain ⟨cur,h1,h2⟩:=h;unfold World.cell?;rw [h1];exact h2 j hj
theorem FB.ag (h:FB g ob L ty a b w) (o:Nat):w.frozen? ⟨g,o,none⟩=false:=by
 obtain ⟨cur,h1,h2⟩:=h;unfold World.frozen?;rw [h1];simp
theorem FB.lt (h:FB g ob L ty a b w):g<w.heap.size:=by
 obtain ⟨cur,h1,h2⟩:=h;exact (Array.getElem?_eq_some_iff.1 h1).1
theorem FB.keep (h:FB g ob L ty a b w) (hw:w'.heap[g]?=w.heap[g]?):FB g ob L ty a b w':=by
 obtain ⟨cur,h1,h2⟩:=h;exact ⟨cur,by rw [hw];exact h1,h2⟩
theorem FB.Gj (h:FB g ob L ty a b w) {q:Nat} (hq:q<L) (v:Value):FB g ob L ty (upd a q v) b (w.setCell ⟨g,ob+q*3+1,none⟩ v):=by
 obtain ⟨cur,h1,h2⟩:=h;refine ⟨cur.setIfInBounds (ob+q*3+1) v,heap_setCell_same w g _ cur _ v h1,fun j hj=>?_⟩;have hlt:ob+q*3+1<cur.size:=(Array.getElem?_eq_some_iff.1 (h2 q hq).2.1).1;obtain ⟨a1,a2,a3⟩:=h2 j hj;refine ⟨?_,?_,?_⟩
 ·rw [Array.getElem?_setIfInBounds,if_neg (by omega)];exact a1
 ·rw [Array.getElem?_setIfInBounds];unfold upd;by_cases hjq:j=q
  ·rw [if_pos (by omega),if_pos hlt,if_pos hjq]
  ·rw [if_neg (by omega),if_neg hjq];exact a2
 ·rw [Array.getElem?_setIfInBounds,if_neg (by omega)];exact a3
theorem FB.Gl (h:FB g ob L ty a b w) {q:Nat} (hq:q<L) (v:Value):FB g ob L ty a (upd b q v) (w.setCell ⟨g,ob+q*3+2,none⟩ v):=by
 obtain ⟨cur,h1,h2⟩:=h;refine ⟨cur.setIfInBounds (ob+q*3+2) v,heap_setCell_same w g _ cur _ v h1,fun j hj=>?_⟩;have hlt:ob+q*3+2<cur.size:=(Array.getElem?_eq_some_iff.1 (h2 q hq).2.2).1;obtain ⟨a1,a2,a3⟩:=h2 j hj;refine ⟨?_,?_,?_⟩
 ·rw [Array.getElem?_setIfInBounds,if_neg (by omega)];exact a1
 ·rw [Array.getElem?_setIfInBounds,if_neg (by omega)];exact a2
 ·rw [Array.getElem?_setIfInBounds];unfold upd;by_cases hjq:j=q
  ·rw [if_pos (by omega),if_pos hlt,if_pos hjq]
  ·rw [if_neg (by omega),if_neg hjq];exact a3
structure bn (p g:Nat) (w w':World):Prop where
 os:w'.os=w.os
 tape:w'.tape=w.tape
 output:w'.output=w.output
 size:w.heap.size<=w'.heap.size
 block:∀k,k<w.heap.size->k≠p->k≠g->w'.heap[k]?=w.heap[k]?
theorem bn.of {p:Nat} (h:But p w w'):bn p g w w':=⟨h.os,h.tape,h.output,h.size,fun k hk hp _=>h.block k hk (by simpa using hp)⟩
theorem bn.refl (p g:Nat) (w:World):bn p g w w:=⟨rfl,rfl,rfl,Nat.le_refl _,fun _ _ _ _=>rfl⟩
theorem bn.trans {p:Nat} {u:World} (h:bn p g w w') (h':bn p g w' u):bn p g w u :=
 ⟨h'.os.trans h.os,h'.tape.trans h.tape,h'.output.trans h.output,Nat.le_trans h.size h'.size,fun k hk hp hg=>(h'.block k (Nat.lt_of_lt_of_le hk h.size) hp hg).trans (h.block k hk hp hg)⟩
theorem bn.set (p g o:Nat) (w:World) (v:Value):bn p g w (w.setCell ⟨g,o,none⟩ v) :=
 ⟨rfl,rfl,rfl,by simp,fun k hk hp hg=>Below.heap_setCell _ _ _ _ hg⟩
theorem bn.t {p:Nat} (h:bn p g w w') (hf:FB g ob L ty a b w):oQ p w w':=⟨h.os,h.tape,h.output,h.size,fun k hk hp hn=>h.block k hk hp (fun e=>by
 obtain ⟨cur,h1,_⟩:=hf;subst e;exact hn cur _ h1)⟩
theorem bn.heap {p:Nat} (h:bn p g w w') {k:Nat} {o:Obj} (hp:k≠p) (hg:k≠g) (hk:w.heap[k]?=some o):w'.heap[k]?=some o:=by rw [h.block k (Array.getElem?_eq_some_iff.1 hk).1 hp hg];exact hk
end
theorem RS.other {w0 w:World} {p:Nat} {s:ByteArray} {c:Nat->Value} {en k i n:Nat} (h:RS w0 p s c en k i n w) {g:Nat} (hg:g≠p) (h0:w0.heap.size<=g) (o:Nat) (v:Value):RS w0 p s c en k i n (w.setCell ⟨g,o,none⟩ v) :=
 ⟨h.below.setCell h0 _,h.base,by rw [Below.heap_setCell _ _ _ _ (by exact fun e=>hg e.symm)];exact h.blk,h.le,h.len,h.big⟩
def qD (s:ByteArray) (en i n:Nat):R2 (List Int × IL 81):=bL (lift (wP s en i) n) fun l j m=>bL (ny s en j m) fun b j2 m2=>.ok ((l,b),j2,m2)
def nV (w0:World) (p:Nat) (s:ByteArray) (c:Nat->Value) (en k g ob L:Nat) (ty:Nat->Int) (a b:Nat->Value) (q:Nat) (w:World) (x:R2 (List Int × IL 81)) (e:Ending) (w':World):Prop :=
 match x with
 | .ok (lb,j,m)=>e=.returned (.tuple #[])/\(∃vl vb,RS w0 p s c en k j m w'/\FB g ob L ty (upd a q vl) (upd b q vb) w'/\aH w' (Since w.heap.size w' none) vl lb.1/\ah w' (Since w.heap.size w' none) 81 vb lb.2)/\bn p g w w'
 | .error z=>e=.panicked (gave z)/\Below w0.heap.size w0 w'
end ai
namespace ai
theorem rN {w w':World} (h:w.grownBy w' none):Below w.heap.size w w':=⟨h.os,h.tape,h.output,h.size,fun k hk=>h.block k hk (by simp)⟩
theorem DC {p:Nat} {w w':World} {o:Option Nat} (ho:o=none\/o=some p) (h:w.grownBy w' o):But p w w':=by
 rcases ho with rfl|rfl
 ·exact But.of p (rN h)
 ·exact h
theorem oD {w w':World} (h:Below w.heap.size w w'):w.grownBy w' none:=⟨h.os,h.tape,h.output,h.size,fun k hk _=>h.block k hk⟩
def kC (p:Nat) (i:Nat):Option Nat:=if i=2 then some p else none
theorem DD (p i:Nat):kC p i=none\/kC p i=some p:=by unfold kC;split<;>simp
structure KF (p g ob L:Nat) (ty:Nat->Int) (a b:Nat->Value) (q br bf:Nat) (W w:World):Prop where
 but:But p W w
 hr:w.heap[br]?=some (.cells #[.pointer (some ⟨p,0,none⟩)] 48 (0,0))
 hx:w.heap[bf]?=some (.cells #[.pointer (some ⟨g,ob+q*3,none⟩)] 112 (0,0))
 fb:FB g ob L ty a b w
theorem KF.on {p g ob L:Nat} {ty:Nat->Int} {a b:Nat->Value} {q br bf:Nat} {W w w':World} (h:KF p g ob L ty a b q br bf W w) (oF:g≠p) (jG:br≠p) (hfp:bf≠p) (hb:But p w w'):KF p g ob L ty a b q br bf W w' :=
 ⟨h.but.trans hb,wO hb jG h.hr,wO hb hfp h.hx,h.fb.keep (hb.block g h.fb.lt (by simpa using oF))⟩
def G1 {α:Type} (V:α->Value->World->Prop) (RD:α->World->Prop) (X:Option α) (p g o:Nat) (f:Nat):Nat->Value->World->Prop
 | 0,v,_=>v=.pointer (some ⟨g,o,none⟩)
 | 1,v,_=>v=.pointer (some ⟨p,0,none⟩)
 | 2,v,w=>match X with
  | some x=>V x v w/\RD x w
  | none=>False
 | 3,v,_=>v=.pointer (some ⟨g,o,none⟩)
 | _,v,_=>v=.pointer (some ⟨g,o+f,none⟩)
theorem DF {l:List Value} (h:l.length=5):∃a b c d e,l = [a,b,c,d,e]:=by
 match l,h with
 | [a,b,c,d,e],_=>exact ⟨a,b,c,d,e,rfl⟩
end ai
theorem QX (w0:World) (p:Nat) (s:ByteArray) (c:Nat->Value) (en k i n g ob L:Nat) (ty:Nat->Int) (a b:Nat->Value) (q br bf:Nat) (w:World) (h:RS w0 p s c en k i n w) (hn:n<=65536) (hf:FB g ob L ty a b w) (hq:q<L) (oF:g≠p) (hg0:w0.heap.size<=g) (hrg:br≠g) (hfg:bf≠g) (jG:br≠p) (hfp:bf≠p)
  (hr:w.heap[br]?=some (.cells #[.pointer (some ⟨p,0,none⟩)] 48 (0,0))) (hx:w.heap[bf]?=some (.cells #[.pointer (some ⟨g,ob+q*3,none⟩)] 112 (0,0))) :
  Calls Tryz.prog 76 #[.pointer (some ⟨br,0,none⟩),.pointer (some ⟨bf,0,none⟩)] w (nV w0 p s c en k g ob L ty a b q w (qD s en i n)):=by
 have hd:Below w.heap.size w w.drew:=⟨rfl,rfl,rfl,Nat.le_refl _,fun _ _=>rfl⟩;have HL:=fun u hu=>aa (QY w0 p s c en k i n u hu);have HK:Hid (KF p g ob L ty a b q br bf w w.drew):=aa ⟨But.of p hd,vH hd hr,vH hd hx,hf.keep (hd.block g hf.lt)⟩;have HR:=aa (h.on hd);have QZ:=hf.lt;have Q0:=h.lt;unfold qD;generalize wP s en i=X at HL ⊢;clear h hf hr hx hd;go_enter Tryz.func76,Tryz.ntmps76;go_wp2_with fail;refine af.Dz 5 (fun i=>2+i) (kC p) (KF p g ob L ty a b q br bf w) (fun j u=>j=2->RS w0 p s c en k i n u) (G1 (fun (x:List Int × Nat) v u=>aH u (Since w.heap.size u none) v x.1) (fun x u=>RS w0 p s c en k x.2 n u) (match X with | .ok x=>some x | .error _=>none) p g (ob+q*3) 1) (by kernel_rfl) (by kernel_rfl) (fun i j h1 h2 h=>by have h':2+i=2+j:=h;omega) (af.tP (size:=12) (by kernel_rfl)) ?lC ?hres ?hK ?hstep ?fu HK.out (fun j hj e=>HR.out)
 case hK=>exact fun k' u u' hk cZ hg=>cZ.on oF jG hfp (DC (DD p k') hg)
 case hres =>
  intro i' k' u u' hi hk hne pM hg e;subst e
  have:kC p k'=none:=by unfold kC;rw [if_neg (by omega)]
  rw [this] at hg;exact (pM rfl).on (rN hg)
 case lC =>
  intro i' k' v u u' hi hk hne cZ hG hg
  match i',hi with
  | 0,_=>exact hG
  | 1,_=>exact hG
  | 2,_ =>
   have:kC p k'=none:=by unfold kC;rw [if_neg (by omega)]
   rw [this] at hg;cases X with
   | error z=>exact hG
   | ok x=>exact ⟨aH.keep (fw (rN hg)) hG.1,RS.on hG.2 (rN hg)⟩
  | 3,_=>exact hG
  | 4,_=>exact hG
 case hstep =>
  intro j o a1 u hj ho hF cZ pM hd;have c1:=qE cZ.hr;have c2:=qE cZ.hx;have q0:a1.tmps[0]?.getD undef=.pointer (some ⟨br,0,none⟩):=af.av (hF.eval 0 (fun i hi=>by show 2+i≠0;omega));have q1:a1.tmps[1]?.getD undef=.pointer (some ⟨bf,0,none⟩):=af.av (hF.eval 1 (fun i hi=>by show 2+i≠1;omega));have hcase:j=0\/j=1\/j=2\/j=3\/j=4:=by omega
  clear hj;rcases hcase with rfl|rfl|rfl|rfl|rfl
  all_goals (simp only [List.getElem?_toArray,List.getElem?_cons_succ,List.getElem?_cons_zero,Option.some.injEq] at ho;subst ho;refine af.aR fun K hK=>?_)
  ·go_simp;exact hK _ _ ⟨_,rfl,oD (Below.refl _ _),rfl⟩
  ·go_simp;exact hK _ _ ⟨_,rfl,oD (Below.refl _ _),rfl⟩
  ·have q3:a1.tmps[3]?.getD undef=.pointer (some ⟨p,0,none⟩):=af.av (hd 1 (by decide));go_simp;refine (HL u (pM rfl)).out.mono ?_;intro e u2 hr2;cases X with
   | error z =>
    obtain ⟨rfl,hb⟩:=hr2;exact ⟨hF.defers,rfl,hb⟩
   | ok x =>
    obtain ⟨l,j⟩:=x;obtain ⟨⟨v,rfl,hv⟩,h1,h2⟩:=hr2;exact hK _ _ ⟨_,rfl,h2,aH.keep (fun k' hk'=>⟨⟨Nat.le_trans cZ.but.size hk'.1,hk'.2⟩,rfl⟩) hv,h1⟩
  ·have q2:a1.tmps[2]?.getD undef=.pointer (some ⟨g,ob+q*3,none⟩):=af.av (hd 0 (by decide));go_simp;exact hK _ _ ⟨_,rfl,oD (Below.refl _ _),rfl⟩
  ·have q2:a1.tmps[5]?.getD undef=.pointer (some ⟨g,ob+q*3,none⟩):=af.av (hd 3 (by decide));go_simp;exact hK _ _ ⟨_,rfl,oD (Below.refl _ _),rfl⟩
 case fu =>
  intro a1 u hF cZ hG;have tQ:=hG 2 (by omega);cases X with
  | error z=>exact absurd tQ id
  | ok x =>
   obtain ⟨l,j⟩:=x;obtain ⟨hv,hrs⟩:=tQ;have hv:aH u (Since w.heap.size u none) (a1.eval (.tmp 4)) l:=hv;have hrs:RS w0 p s c en k j n u:=hrs;have g4:a1.eval (.tmp 6)=.pointer (some ⟨g,ob+q*3+1,none⟩):=hG 4 (by omega);obtain ⟨xl,hxl,rfl,hev⟩:=hF.lit (by simp);obtain ⟨x0,x1,x2,x3,x4,rfl⟩:=DF hxl;have e2:=hev 2 (by omega);have e4:=hev 4 (by omega);simp only [List.getD_cons_succ,List.getD_cons_zero] at e2 e4;rw [show (2+4)=6 from rfl,g4] at e4;rw [show (2+2)=4 from rfl] at e2;rw [e2] at hv;subst e4;clear hev hxl hF hG g4 e2 HL HR HK;obtain ⟨oV,kV,rfl⟩:=Row.len hv;have c1:=(cZ.fb.cell hq).2.1;have f1:=cZ.fb.ag (ob+q*3+1);obtain ⟨W1,hW1⟩:∃W1,W1=u.setCell ⟨g,ob+q*3+1,none⟩ (.slice oV l.length kV):=⟨_,rfl⟩;have yH:bn p g w W1:=by rw [hW1];exact (bn.of cZ.but).trans (bn.set p g _ u _)
   have DK:FB g ob L ty (upd a q (.slice oV l.length kV)) b W1:=by rw [hW1];exact cZ.fb.Gj hq _
   have lD:RS w0 p s c en k j n W1:=by rw [hW1];exact hrs.other oF hg0 _ _
   have rz:g<w.heap.size:=QZ
   have hS1:aH W1 (fun k'=>w.heap.size<=k'/\k'<W1.heap.size) (.slice oV l.length kV) l:=by
    rw [hW1];exact hv.keep fun k' hk'=>⟨⟨hk'.1,by simpa using hk'.2.1⟩,Below.heap_setCell _ _ _ _ (by show k'≠g;have:=hk'.1;omega)⟩
   have hr1:W1.heap[br]?=some (.cells #[.pointer (some ⟨p,0,none⟩)] 48 (0,0)):=by rw [hW1,Below.heap_setCell _ _ _ _ (by exact hrg)];exact cZ.hr
   have hx1:W1.heap[bf]?=some (.cells #[.pointer (some ⟨g,ob+q*3,none⟩)] 112 (0,0)):=by rw [hW1,Below.heap_setCell _ _ _ _ (by exact hfg)];exact cZ.hx
   have HW1:=aa hW1;have HB1:=aa yH;have aB:=aa hS1;have hd1:Below W1.heap.size W1 W1.drew:=⟨rfl,rfl,rfl,Nat.le_refl _,fun _ _=>rfl⟩;have lZ:Hid (KF p g ob L ty (upd a q (.slice oV l.length kV)) b q br bf W1 W1.drew):=aa ⟨But.of p hd1,vH hd1 hr1,vH hd1 hx1,DK.keep (hd1.block g DK.lt)⟩;have HR1:=aa (lD.on hd1);have HE:=fun u hu=>aa (Q3 w0 p s c en k j n u hu hn);clear hd1 hr1 hx1 lD DK yH hS1 hv hrs cZ hW1;simp only [List.take_succ_cons,List.take_zero,List.drop_succ_cons,List.drop_zero,List.cons_append,List.nil_append];show wpList _ _ _ _ _ _;generalize l.length=nl at *;go_wp2_with fail;rw [<- HW1.out];clear HW1;show Code.wp _ _ _ _ _;generalize hY:ny s en j n=Y at HE;refine af.Dz 5 (fun i=>7+i) (kC p) (KF p g ob L ty (upd a q (.slice oV nl kV)) b q br bf W1) (fun j' u=>j'=2->RS w0 p s c en k j n u) (G1 (fun (x:IL 81 × Nat × Nat) v u=>ah u (Since W1.heap.size u none) 81 v x.1) (fun x u=>RS w0 p s c en k x.2.1 x.2.2 u) (match Y with | .ok x=>some x | .error _=>none) p g (ob+q*3) 2) (by kernel_rfl) (by kernel_rfl) (fun i j h1 h2 h=>by have h':7+i=7+j:=h;omega) (af.tP (size:=12) (by kernel_rfl)) ?lC ?hres ?hK ?hstep ?fu lZ.out (fun j hj e=>HR1.out)
   case hK=>exact fun k' u u' hk cZ hg=>cZ.on oF jG hfp (DC (DD p k') hg)
   case hres =>
    intro i' k' u u' hi hk hne pM hg e;subst e
    have:kC p k'=none:=by unfold kC;rw [if_neg (by omega)]
    rw [this] at hg;exact (pM rfl).on (rN hg)
   case lC =>
    intro i' k' v u u' hi hk hne cZ hG hg
    match i',hi with
    | 0,_=>exact hG
    | 1,_=>exact hG
    | 2,_ =>
     have:kC p k'=none:=by unfold kC;rw [if_neg (by omega)]
     rw [this] at hg;cases Y with
     | error z=>exact hG
     | ok x=>exact ⟨ah.keep (fw (rN hg)) _ _ _ hG.1,RS.on hG.2 (rN hg)⟩
    | 3,_=>exact hG
    | 4,_=>exact hG
   case hstep =>
    intro j' o a1 u hj ho hF cZ pM hd;have c1:=qE cZ.hr;have c2:=qE cZ.hx;have q0:a1.tmps[0]?.getD undef=.pointer (some ⟨br,0,none⟩):=af.av (hF.eval 0 (fun i hi=>by show 7+i≠0;omega));have q1:a1.tmps[1]?.getD undef=.pointer (some ⟨bf,0,none⟩):=af.av (hF.eval 1 (fun i hi=>by show 7+i≠1;omega));have hcase:j'=0\/j'=1\/j'=2\/j'=3\/j'=4:=by omega
    clear hj;rcases hcase with rfl|rfl|rfl|rfl|rfl
    all_goals (simp only [List.getElem?_toArray,List.getElem?_cons_succ,List.getElem?_cons_zero,Option.some.injEq] at ho;subst ho;refine af.aR fun K hK=>?_)
    ·go_simp;exact hK _ _ ⟨_,rfl,oD (Below.refl _ _),rfl⟩
    ·go_simp;exact hK _ _ ⟨_,rfl,oD (Below.refl _ _),rfl⟩
    ·have q3:a1.tmps[8]?.getD undef=.pointer (some ⟨p,0,none⟩):=af.av (hd 1 (by decide));go_simp;refine (HE u (pM rfl)).out.mono ?_;intro e u2 hr2;cases Y with
     | error z =>
      obtain ⟨rfl,hb⟩:=hr2;refine ⟨hF.defers,?_⟩;show nV w0 p s c en k g ob L ty a b q w (bL (ny s en j n) fun b j2 m2=>.ok ((l,b),j2,m2)) _ _;rw [hY];exact ⟨rfl,hb⟩
     | ok x =>
      obtain ⟨l2,j2,m2⟩:=x;obtain ⟨⟨v,rfl,o9,n9,k9,rfl,hv⟩,h1,h2⟩:=hr2;exact hK _ _ ⟨_,rfl,h2,ah.keep (fun k' hk'=>⟨⟨Nat.le_trans cZ.but.size hk'.1,hk'.2⟩,rfl⟩) _ _ _ hv,h1⟩
    ·have q2:a1.tmps[7]?.getD undef=.pointer (some ⟨g,ob+q*3,none⟩):=af.av (hd 0 (by decide));go_simp;exact hK _ _ ⟨_,rfl,oD (Below.refl _ _),rfl⟩
    ·have q2:a1.tmps[10]?.getD undef=.pointer (some ⟨g,ob+q*3,none⟩):=af.av (hd 3 (by decide));go_simp;exact hK _ _ ⟨_,rfl,oD (Below.refl _ _),rfl⟩
   case fu =>
    intro a1 u hF cZ hG;have tQ:=hG 2 (by omega);cases Y with
    | error z=>exact absurd tQ id
    | ok x =>
     obtain ⟨l2,j2,m2⟩:=x;obtain ⟨hv,hrs⟩:=tQ;have hv:ah u (Since W1.heap.size u none) 81 (a1.eval (.tmp 9)) l2:=hv;have hrs:RS w0 p s c en k j2 m2 u:=hrs;have g4:a1.eval (.tmp 11)=.pointer (some ⟨g,ob+q*3+2,none⟩):=hG 4 (by omega);obtain ⟨xl,hxl,rfl,hev⟩:=hF.lit (by simp);obtain ⟨y0,y1,y2,y3,y4,rfl⟩:=DF hxl;have e2:=hev 2 (by omega);have e4:=hev 4 (by omega);simp only [List.getD_cons_succ,List.getD_cons_zero] at e2 e4;rw [show (7+4)=11 from rfl,g4] at e4;rw [show (7+2)=9 from rfl] at e2;rw [e2] at hv;subst e4;clear hev hxl hF hG g4 e2 HE HR1 lZ;obtain ⟨oW,kW,rfl⟩:=At.len 81 _ _ (ah.at 81 _ _ hv);have c1:=(cZ.fb.cell hq).2.2;have f1:=cZ.fb.ag (ob+q*3+2);obtain ⟨W2,aX⟩:∃W2,W2=u.setCell ⟨g,ob+q*3+2,none⟩ (.slice oW (size 81 l2) kW):=⟨_,rfl⟩;have hs1:w.heap.size<=W1.heap.size:=HB1.out.size;have iB:bn p g w W2:=by rw [aX];exact HB1.out.trans ((bn.of cZ.but).trans (bn.set p g _ u _))
     have hF2:FB g ob L ty (upd a q (.slice oV nl kV)) (upd b q (.slice oW (size 81 l2) kW)) W2:=by rw [aX];exact cZ.fb.Gl hq _
     have Hg:RS w0 p s c en k j2 m2 W2:=by rw [aX];exact hrs.other oF hg0 _ _
     have hpw:p<w.heap.size:=Q0
     have hA2:ah W2 (Since w.heap.size W2 none) 81 (.slice oW (size 81 l2) kW) l2:=by
      rw [aX];exact ah.keep (fun k' hk'=>⟨⟨Nat.le_trans hs1 hk'.1,by simpa using hk'.2.1,by simp⟩,Below.heap_setCell _ _ _ _ (by show k'≠g;have:=hk'.1;omega)⟩) _ _ _ hv
     have Hh:aH W2 (Since w.heap.size W2 none) (.slice oV nl kV) l:=by
      rw [aX]
      exact aB.out.keep fun k' hk'=>⟨⟨hk'.1,by have:=cZ.but.size;have:=hk'.2;simp;omega,by simp⟩,by
       rw [Below.heap_setCell _ _ _ _ (by show k'≠g;have:=hk'.1;omega)];exact cZ.but.block k' hk'.2 (by have:=hk'.1;simp;omega)⟩
     have bq:Hid (nV w0 p s c en k g ob L ty a b q w (bL (.ok (l2,j2,m2)) fun b j2 m2=>.ok ((l,b),j2,m2)) (.returned (.tuple #[])) W2):=aa ⟨rfl,⟨_,_,Hg,hF2,Hh,hA2⟩,iB⟩;have HW2:=aa aX;clear iB hF2 Hg hA2 Hh cZ hrs hv aX;simp only [List.take_succ_cons,List.take_zero,List.drop_succ_cons,List.drop_zero,List.cons_append,List.nil_append];generalize size 81 l2=n2 at *;go_wp2;go_end0;rw [<- HW2.out];show nV w0 p s c en k g ob L ty a b q w (bL (ny s en j n) fun b j2 m2=>.ok ((l,b),j2,m2)) _ _;rw [hY];exact bq.out
end Go.Proofs.YtegboefdolfdgaaGreatDoor
