/- Texts that the claim needs. -/
import Derived.Test.YtpaefhceiliaiaaGreatDoorQPAk40
import Derived.Test.YtpaefhceiliaiaaGreatDoorQPAk34
import Derived.Test.YtpaefhceiliaiaaGreatDoorQPAk38
namespace Go.Proofs.YtpaefhceiliaiaaGreatDoor
open Go.RowKit Lx Pz bB
set_option linter.unusedVariables false
set_option maxRecDepth 100000
set_option maxHeartbeats 8000000
namespace Pz
def Dz (pl:Bool) (a b:Value):Bool:=(iQ a == iQ b) && (decide (sJ a=sJ b) && (decide (AV a=AV b) && ((qU a == qU b) && (!pl || (iW a == iW b)))))
def jm (pl:Bool):Nat->List Value->List Value->Bool
 | 0,l,k=>bV (fun _ _=>false) l k
 | d+1,l,k=>bV (fun a b=>Dz pl a b && (jm pl d (dc a) (dc b) && jm pl d (gm a) (gm b))) l k
def sm (pl:Bool) (d:Nat) (a b:Value):Bool:=Dz pl a b && (jm pl d (dc a) (dc b) && jm pl d (gm a) (gm b))
theorem Nz {α:Type} {f g:α->α->Bool}:∀ {l k:List α},(∀a ∈ l,∀b ∈ k,f a b=g a b)->bV f l k=bV g l k
 | [],[],_=>rfl
 | [],_ :: _,_=>rfl
 | _ :: _,[],_=>rfl
 | a :: l,b :: k,h=>by
  unfold bV;rw [h a (List.Mem.head _) b (List.Mem.head _),Nz (fun x hx y hy=>h x (List.Mem.tail _ hx) y (List.Mem.tail _ hy))]
theorem Wn {α:Type} {f g:α->α->Bool} {l k:List α} (h:l = []):bV f l k=bV g l k:=by subst h;cases k<;>rfl
def sF:Nat->List Value->Prop
 | 0,l=>l = []
 | d+1,l=>∀x ∈ l,fit d x
theorem qN:∀ {d:Nat} {t:Value},fit d t->sF d (dc t)/\sF d (gm t)
 | 0,t,h=>⟨h.2.1,h.2.2⟩
 | d+1,t,h=>⟨h.2.1,h.2.2⟩
theorem AB {pl:Bool} {d:Nat} {l k:List Value} (g:Value->Value->Bool) (h:sF d l) (hg:∀d0,d=d0+1->∀a ∈ l,∀b ∈ k,g a b=sm pl d0 a b):bV g l k=jm pl d l k:=by
 cases d with
 | zero=>exact Wn h
 | succ d=>exact Nz (fun a ha b hb=>hg d rfl a ha b hb)
def xb (d:Nat) (a b:Value):Bool:=decide (uP a=uP b) && jm false d (wU a) (wU b)
def yI (d:Nat) (a b:Value):Bool:=decide (uP a=uP b) && (bV (fun x y=>decide (x=y)) ((Ao a).map sH) ((Ao b).map sH) && bV (xb d) (sw a) (sw b))
def AF (d dt:Nat) (ds ks:List Value) (a b:Value):Bool:=bV (yI dt) ds ks && sm false d a b
def G9 (d:Nat) (c:Value):Prop:=sF d (wU c)
def yH (d:Nat) (c:Value):Prop:=∀x ∈ sw c,G9 d x
theorem str_eq (x y:ByteArray):(x.toList == y.toList)=decide (x=y):=by
 rw [ByteArray.toList_eq,ByteArray.toList_eq];by_cases he:x=y
 ·subst he;simp
 ·rw [decide_eq_false he,beq_eq_false_iff_ne];exact fun e=>he (ByteArray.ext (Array.toList_inj.1 e))
theorem M9 (ps:List ByteArray):(ps.map Value.string).map sH=ps:=by
 rw [List.map_map];exact List.map_id' ps
end Pz
theorem VF:∀(m:Nat) (t s v z:Value) (w:World),fit m t->dX 0 t v w->dX 0 s z w->Calls Tryz.prog 148 #[v,z] w fun e w'=>e=.returned (.bool (sm false m t s))/\Below w.heap.size w w':=by
 intro m
 induction m using Nat.strongRecOn with
 | ind m ih =>
  intro t s v z w hf h h2;obtain ⟨d,k,x,n,es,u,rfl,rfl,hrow⟩:=h;obtain ⟨d2,k2,x2,n2,es2,u2,rfl,rfl,pG⟩:=h2;obtain ⟨oR,cR,rfl,_⟩:=bP hrow;obtain ⟨oS,cS,rfl,_⟩:=bP pG;obtain ⟨W,hW⟩:∃W,W=(w.alloc (.cells #[.int .i64 k,.string x,.int .i64 n,.slice oR es.length cR] 79)).alloc (.cells #[.int .i64 k2,.string x2,.int .i64 n2,.slice oS es2.length cS] 79):=⟨_,rfl⟩;have hb1:=bO w (.cells #[.int .i64 k,.string x,.int .i64 n,.slice oR es.length cR] 79);have hb2:=bO (w.alloc (.cells #[.int .i64 k,.string x,.int .i64 n,.slice oR es.length cR] 79)) (.cells #[.int .i64 k2,.string x2,.int .i64 n2,.slice oS es2.length cS] 79);have HB:Hid (Below w.heap.size w W):=ae (by rw [hW];exact au hb1 hb2);have HX:Hid (W.heap[w.heap.size]?=some (.cells #[.int .i64 k,.string x,.int .i64 n,.slice oR es.length cR] 79 (0,0))):=ae (by rw [hW,hb2.block _ (by simp)];exact heap_alloc_new w _);have HY:Hid (W.heap[w.heap.size+1]?=some (.cells #[.int .i64 k2,.string x2,.int .i64 n2,.slice oS es2.length cS] 79 (0,0))):=ae (by rw [hW];exact qM _ _ (by simp))
  have HA:=ae (fun (u:World) (hu:Below w.heap.size w u)=>M8 (sm false (m-1)) es es2 (.slice oR es.length cR) (.slice oS es2.length cS) u d d2 (hrow.imp (fun b o t _ ht=>dN.but (fun kk _ hl=>hu.block kk hl) _ b o t ht)) (pG.imp (fun b o t _ ht=>dN.but (fun kk _ hl=>hu.block kk hl) _ b o t ht)) (fun a b va vb w' hm hm2 ho lJ hw'=>by
   have hq:=(qN hf).1;cases m with
   | zero=>have hq':es = []:=hq;rw [hq'] at hm;cases hm
   | succ m=>exact ih m (Nat.lt_succ_self m) a b va vb w' (hq a hm) ho lJ))
  have pq:bV (sm false (m-1)) es es2=jm false m es es2:=AB _ (qN hf).1 (fun d0 he a _ b _=>by subst he;rfl);obtain ⟨R,hR⟩:∃R,R=sm false m (nd k x e0 n es [] 0) (nd k2 x2 e0 n2 es2 [] 0):=⟨_,rfl⟩;rw [<- hR]
  have hR':R=((k == k2) && (decide (x=x2) && ((n == n2) && (bV (sm false (m-1)) es es2)))):=by
   rw [hR,pq];show (((k == k2) && (decide (x=x2) && (true && ((n == n2) && true)))) && (jm false m es es2 && jm false m [] []))=_;rw [show jm false m [] []=true by cases m<;>rfl,Bool.and_true,Bool.and_true,Bool.true_and,Bool.and_assoc,Bool.and_assoc]
  generalize bV (sm false (m-1)) es es2=A at *;clear hR pq hrow pG hf ih hb1 hb2;have z0:=af HX.out 0 _ rfl;have u0:=af HY.out 0 _ rfl;have z1:=af HX.out 1 _ rfl;have u1:=af HY.out 1 _ rfl;have z2:=af HX.out 2 _ rfl;have u2:=af HY.out 2 _ rfl;have z3:=af HX.out 3 _ rfl;have u3:=af HY.out 3 _ rfl;cases q1:(k == k2) with
  | false =>
   have p1:(k != k2)=true:=by rw [bne,q1];rfl
   have HS:Hid (false=R):=ae (by rw [hR',q1];simp);clear hR' HA;go_enter Tryz.func148,Tryz.ntmps148;go_upto_region 1 with fail;rw [<- hW];clear hW;go_wp2;go_ret;exact ⟨aC HS.out,HB.out⟩
  | true =>
   have p1:(k != k2)=false:=by rw [bne,q1];rfl
   rw [q1,Bool.true_and] at hR';cases q2:decide (x=x2) with
   | false =>
    have r2:(x.toList == x2.toList)=false:=by rw [str_eq,q2]
    have p2:(x.toList != x2.toList)=true:=by rw [bne,r2];rfl
    have HS:Hid (false=R):=ae (by rw [hR',q2];simp);clear hR' HA;go_enter Tryz.func148,Tryz.ntmps148;go_upto_region 1 with fail;rw [<- hW];clear hW;go_wp2;go_ret;exact ⟨aC HS.out,HB.out⟩
   | true =>
    have r2:(x.toList == x2.toList)=true:=by rw [str_eq,q2]
    have p2:(x.toList != x2.toList)=false:=by rw [bne,r2];rfl
    rw [q2,Bool.true_and] at hR';cases q3:(n == n2) with
    | false =>
     have p3:(n != n2)=true:=by rw [bne,q3];rfl
     have HS:Hid (false=R):=ae (by rw [hR',q3];simp);clear hR' HA;go_enter Tryz.func148,Tryz.ntmps148;go_upto_region 1 with fail;rw [<- hW];clear hW;go_wp2;go_ret;exact ⟨aC HS.out,HB.out⟩
    | true =>
     have p3:(n != n2)=false:=by rw [bne,q3];rfl
     rw [q3,Bool.true_and] at hR';have HR:=ae hR';clear hR';go_enter Tryz.func148,Tryz.ntmps148;go_upto_region 1 with fail;rw [<- hW];clear hW;go_wp2_with fail;refine Calls.mono (show Calls _ _ _ _ _ from (HA.out W HB.out)) ?_;rintro e w1 ⟨rfl,hb1⟩;have HB1:=ae (au HB.out hb1);clear hb1 HA;go_wp2;go_ret;exact ⟨aC HR.out.symm,HB1.out⟩
theorem Wo:∀(m:Nat) (t s v z:Value) (w:World),fit m t->bU 0 t v w->bU 0 s z w->Calls Tryz.prog 106 #[v,z] w fun e w'=>e=.returned (.bool (sm false m t s))/\Below w.heap.size w w':=by
 intro m
 induction m using Nat.strongRecOn with
 | ind m ih =>
  intro t s v z w hf h h2;obtain ⟨d,k,x,n,es,a,u,rfl,rfl,hrow⟩:=h;obtain ⟨d2,k2,x2,n2,es2,a2,u2,rfl,rfl,pG⟩:=h2;obtain ⟨oR,cR,rfl,_⟩:=bP hrow;obtain ⟨oS,cS,rfl,_⟩:=bP pG;obtain ⟨W,hW⟩:∃W,W=(w.alloc (.cells #[.int .i64 k,.string x,.int .i64 n,.slice oR es.length cR,.int .i64 a] 101)).alloc (.cells #[.int .i64 k2,.string x2,.int .i64 n2,.slice oS es2.length cS,.int .i64 a2] 101):=⟨_,rfl⟩;have hb1:=bO w (.cells #[.int .i64 k,.string x,.int .i64 n,.slice oR es.length cR,.int .i64 a] 101);have hb2:=bO (w.alloc (.cells #[.int .i64 k,.string x,.int .i64 n,.slice oR es.length cR,.int .i64 a] 101)) (.cells #[.int .i64 k2,.string x2,.int .i64 n2,.slice oS es2.length cS,.int .i64 a2] 101);have HB:Hid (Below w.heap.size w W):=ae (by rw [hW];exact au hb1 hb2);have HX:Hid (W.heap[w.heap.size]?=some (.cells #[.int .i64 k,.string x,.int .i64 n,.slice oR es.length cR,.int .i64 a] 101 (0,0))):=ae (by rw [hW,hb2.block _ (by simp)];exact heap_alloc_new w _);have HY:Hid (W.heap[w.heap.size+1]?=some (.cells #[.int .i64 k2,.string x2,.int .i64 n2,.slice oS es2.length cS,.int .i64 a2] 101 (0,0))):=ae (by rw [hW];exact qM _ _ (by simp))
  have HA:=ae (fun (u:World) (hu:Below w.heap.size w u)=>NA (sm false (m-1)) es es2 (.slice oR es.length cR) (.slice oS es2.length cS) u d d2 (hrow.imp (fun b o t _ ht=>cf.but (fun kk _ hl=>hu.block kk hl) _ b o t ht)) (pG.imp (fun b o t _ ht=>cf.but (fun kk _ hl=>hu.block kk hl) _ b o t ht)) (fun a b va vb w' hm hm2 ho lJ hw'=>by
   have hq:=(qN hf).1;cases m with
   | zero=>have hq':es = []:=hq;rw [hq'] at hm;cases hm
   | succ m=>exact ih m (Nat.lt_succ_self m) a b va vb w' (hq a hm) ho lJ))
  have pq:bV (sm false (m-1)) es es2=jm false m es es2:=AB _ (qN hf).1 (fun d0 he a _ b _=>by subst he;rfl);obtain ⟨R,hR⟩:∃R,R=sm false m (nd k x e0 n es [] a) (nd k2 x2 e0 n2 es2 [] a2):=⟨_,rfl⟩;rw [<- hR]
  have hR':R=((k == k2) && (decide (x=x2) && ((n == n2) && (bV (sm false (m-1)) es es2)))):=by
   rw [hR,pq];show (((k == k2) && (decide (x=x2) && (true && ((n == n2) && true)))) && (jm false m es es2 && jm false m [] []))=_;rw [show jm false m [] []=true by cases m<;>rfl,Bool.and_true,Bool.and_true,Bool.true_and,Bool.and_assoc,Bool.and_assoc]
  generalize bV (sm false (m-1)) es es2=A at *;clear hR pq hrow pG hf ih hb1 hb2;have z0:=af HX.out 0 _ rfl;have u0:=af HY.out 0 _ rfl;have z1:=af HX.out 1 _ rfl;have u1:=af HY.out 1 _ rfl;have z2:=af HX.out 2 _ rfl;have u2:=af HY.out 2 _ rfl;have z3:=af HX.out 3 _ rfl;have u3:=af HY.out 3 _ rfl;have z4:=af HX.out 4 _ rfl;have u4:=af HY.out 4 _ rfl;cases q1:(k == k2) with
  | false =>
   have p1:(k != k2)=true:=by rw [bne,q1];rfl
   have HS:Hid (false=R):=ae (by rw [hR',q1];simp);clear hR' HA;go_enter Tryz.func106,Tryz.ntmps106;go_upto_region 1 with fail;rw [<- hW];clear hW;go_wp2;go_ret;exact ⟨aC HS.out,HB.out⟩
  | true =>
   have p1:(k != k2)=false:=by rw [bne,q1];rfl
   rw [q1,Bool.true_and] at hR';cases q2:decide (x=x2) with
   | false =>
    have r2:(x.toList == x2.toList)=false:=by rw [str_eq,q2]
    have p2:(x.toList != x2.toList)=true:=by rw [bne,r2];rfl
    have HS:Hid (false=R):=ae (by rw [hR',q2];simp);clear hR' HA;go_enter Tryz.func106,Tryz.ntmps106;go_upto_region 1 with fail;rw [<- hW];clear hW;go_wp2;go_ret;exact ⟨aC HS.out,HB.out⟩
   | true =>
    have r2:(x.toList == x2.toList)=true:=by rw [str_eq,q2]
    have p2:(x.toList != x2.toList)=false:=by rw [bne,r2];rfl
    rw [q2,Bool.true_and] at hR';cases q3:(n == n2) with
    | false =>
     have p3:(n != n2)=true:=by rw [bne,q3];rfl
     have HS:Hid (false=R):=ae (by rw [hR',q3];simp);clear hR' HA;go_enter Tryz.func106,Tryz.ntmps106;go_upto_region 1 with fail;rw [<- hW];clear hW;go_wp2;go_ret;exact ⟨aC HS.out,HB.out⟩
    | true =>
     have p3:(n != n2)=false:=by rw [bne,q3];rfl
     rw [q3,Bool.true_and] at hR';have HR:=ae hR';clear hR';go_enter Tryz.func106,Tryz.ntmps106;go_upto_region 1 with fail;rw [<- hW];clear hW;go_wp2_with fail;refine Calls.mono (show Calls _ _ _ _ _ from (HA.out W HB.out)) ?_;rintro e w1 ⟨rfl,hb1⟩;have HB1:=ae (au HB.out hb1);clear hb1 HA;go_wp2;go_ret;exact ⟨aC HR.out.symm,HB1.out⟩
theorem VL:∀(m:Nat) (t s v z:Value) (w:World),fit m t->aU 0 t v w->aU 0 s z w->Calls Tryz.prog 51 #[v,z] w fun e w'=>e=.returned (.bool (sm false m t s))/\Below w.heap.size w w':=by
 intro m
 induction m using Nat.strongRecOn with
 | ind m ih =>
  intro t s v z w hf h h2;obtain ⟨d,k,x,y,n,es,ps,a,u,up,rfl,rfl,hrow,jI⟩:=h;obtain ⟨d2,k2,x2,y2,n2,es2,ja,a2,u2,up2,rfl,rfl,pG,Hr⟩:=h2;obtain ⟨oR,cR,rfl,_⟩:=bP hrow;obtain ⟨oS,cS,rfl,_⟩:=bP pG;obtain ⟨oP,cP,rfl,_⟩:=bP jI;obtain ⟨oQ,cQ,rfl,_⟩:=bP Hr;obtain ⟨W,hW⟩:∃W,W=(w.alloc (.cells #[.int .i64 k,.string x,.string y,.int .i64 n,.slice oR es.length cR,.slice oP ps.length cP,.int .i64 a] 27)).alloc (.cells #[.int .i64 k2,.string x2,.string y2,.int .i64 n2,.slice oS es2.length cS,.slice oQ ja.length cQ,.int .i64 a2] 27):=⟨_,rfl⟩;have hb1:=bO w (.cells #[.int .i64 k,.string x,.string y,.int .i64 n,.slice oR es.length cR,.slice oP ps.length cP,.int .i64 a] 27);have hb2:=bO (w.alloc (.cells #[.int .i64 k,.string x,.string y,.int .i64 n,.slice oR es.length cR,.slice oP ps.length cP,.int .i64 a] 27)) (.cells #[.int .i64 k2,.string x2,.string y2,.int .i64 n2,.slice oS es2.length cS,.slice oQ ja.length cQ,.int .i64 a2] 27);have HB:Hid (Below w.heap.size w W):=ae (by rw [hW];exact au hb1 hb2);have HX:Hid (W.heap[w.heap.size]?=some (.cells #[.int .i64 k,.string x,.string y,.int .i64 n,.slice oR es.length cR,.slice oP ps.length cP,.int .i64 a] 27 (0,0))):=ae (by rw [hW,hb2.block _ (by simp)];exact heap_alloc_new w _);have HY:Hid (W.heap[w.heap.size+1]?=some (.cells #[.int .i64 k2,.string x2,.string y2,.int .i64 n2,.slice oS es2.length cS,.slice oQ ja.length cQ,.int .i64 a2] 27 (0,0))):=ae (by rw [hW];exact qM _ _ (by simp))
  have HA:=ae (fun (u:World) (hu:Below w.heap.size w u)=>Wp (sm false (m-1)) es es2 (.slice oR es.length cR) (.slice oS es2.length cS) u d d2 (hrow.imp (fun b o t _ ht=>dm.but (fun kk _ hl=>hu.block kk hl) _ b o t ht)) (pG.imp (fun b o t _ ht=>dm.but (fun kk _ hl=>hu.block kk hl) _ b o t ht)) (fun a b va vb w' hm hm2 ho lJ hw'=>by
   have hq:=(qN hf).1;cases m with
   | zero=>have hq':es = []:=hq;rw [hq'] at hm;cases hm
   | succ m=>exact ih m (Nat.lt_succ_self m) a b va vb w' (hq a hm) ho lJ))
  have pq:bV (sm false (m-1)) es es2=jm false m es es2:=AB _ (qN hf).1 (fun d0 he a _ b _=>by subst he;rfl)
  have HP:=ae (fun (u:World) (hu:Below w.heap.size w u)=>NA (sm false (m-1)) ps ja (.slice oP ps.length cP) (.slice oQ ja.length cQ) u d d2 (jI.imp (fun b o t _ ht=>cf.but (fun kk _ hl=>hu.block kk hl) _ b o t ht)) (Hr.imp (fun b o t _ ht=>cf.but (fun kk _ hl=>hu.block kk hl) _ b o t ht)) (fun a b va vb w' hm hm2 ho lJ hw'=>by
   have hq:=(qN hf).2;cases m with
   | zero=>have hq':ps = []:=hq;rw [hq'] at hm;cases hm
   | succ m=>exact Wo m a b va vb w' (hq a hm) ho lJ))
  have NB:bV (sm false (m-1)) ps ja=jm false m ps ja:=AB _ (qN hf).2 (fun d0 he a _ b _=>by subst he;rfl);obtain ⟨R,hR⟩:∃R,R=sm false m (nd k x y n es ps a) (nd k2 x2 y2 n2 es2 ja a2):=⟨_,rfl⟩;rw [<- hR]
  have hR':R=((k == k2) && (decide (x=x2) && (decide (y=y2) && ((n == n2) && (bV (sm false (m-1)) es es2 && bV (sm false (m-1)) ps ja))))):=by
   rw [hR,pq,NB];show (((k == k2) && (decide (x=x2) && (decide (y=y2) && ((n == n2) && true)))) && (jm false m es es2 && jm false m ps ja))=_;rw [Bool.and_true,Bool.and_assoc,Bool.and_assoc,Bool.and_assoc]
  generalize bV (sm false (m-1)) es es2=A at *;generalize bV (sm false (m-1)) ps ja=Pb at *;clear hR pq hrow pG hf ih hb1 hb2 NB jI Hr;have z0:=af HX.out 0 _ rfl;have u0:=af HY.out 0 _ rfl;have z1:=af HX.out 1 _ rfl;have u1:=af HY.out 1 _ rfl;have z2:=af HX.out 2 _ rfl;have u2:=af HY.out 2 _ rfl;have z3:=af HX.out 3 _ rfl;have u3:=af HY.out 3 _ rfl;have z4:=af HX.out 4 _ rfl;have u4:=af HY.out 4 _ rfl;have z5:=af HX.out 5 _ rfl;have u5:=af HY.out 5 _ rfl;have z6:=af HX.out 6 _ rfl;have u6:=af HY.out 6 _ rfl;cases q1:(k == k2) with
  | false =>
   have p1:(k != k2)=true:=by rw [bne,q1];rfl
   have HS:Hid (false=R):=ae (by rw [hR',q1];simp);clear hR' HA HP;go_enter Tryz.func51,Tryz.ntmps51;go_upto_region 1 with fail;rw [<- hW];clear hW;go_wp2;go_ret;exact ⟨aC HS.out,HB.out⟩
  | true =>
   have p1:(k != k2)=false:=by rw [bne,q1];rfl
   rw [q1,Bool.true_and] at hR';cases q2:decide (x=x2) with
   | false =>
    have r2:(x.toList == x2.toList)=false:=by rw [str_eq,q2]
    have p2:(x.toList != x2.toList)=true:=by rw [bne,r2];rfl
    have HS:Hid (false=R):=ae (by rw [hR',q2];simp);clear hR' HA HP;go_enter Tryz.func51,Tryz.ntmps51;go_upto_region 1 with fail;rw [<- hW];clear hW;go_wp2;go_ret;exact ⟨aC HS.out,HB.out⟩
   | true =>
    have r2:(x.toList == x2.toList)=true:=by rw [str_eq,q2]
    have p2:(x.toList != x2.toList)=false:=by rw [bne,r2];rfl
    rw [q2,Bool.true_and] at hR';cases q3:decide (y=y2) with
    | false =>
     have r3:(y.toList == y2.toList)=false:=by rw [str_eq,q3]
     have p3:(y.toList != y2.toList)=true:=by rw [bne,r3];rfl
     have HS:Hid (false=R):=ae (by rw [hR',q3];simp);clear hR' HA HP;go_enter Tryz.func51,Tryz.ntmps51;go_upto_region 1 with fail;rw [<- hW];clear hW;go_wp2;go_ret;exact ⟨aC HS.out,HB.out⟩
    | true =>
     have r3:(y.toList == y2.toList)=true:=by rw [str_eq,q3]
     have p3:(y.toList != y2.toList)=false:=by rw [bne,r3];rfl
     rw [q3,Bool.true_and] at hR';cases q4:(n == n2) with
     | false =>
      have p4:(n != n2)=true:=by rw [bne,q4];rfl
      have HS:Hid (false=R):=ae (by rw [hR',q4];simp);clear hR' HA HP;go_enter Tryz.func51,Tryz.ntmps51;go_upto_region 1 with fail;rw [<- hW];clear hW;go_wp2;go_ret;exact ⟨aC HS.out,HB.out⟩
     | true =>
      have p4:(n != n2)=false:=by rw [bne,q4];rfl
      rw [q4,Bool.true_and] at hR';have HR:=ae hR';clear hR';go_enter Tryz.func51,Tryz.ntmps51;go_upto_region 1 with fail;rw [<- hW];clear hW;go_wp2_with fail;refine Calls.mono (show Calls _ _ _ _ _ from (HA.out W HB.out)) ?_;rintro e w1 ⟨rfl,hb1⟩;have HB1:=ae (au HB.out hb1);have hx1:=(hb1.block _ (Array.getElem?_eq_some_iff.1 HX.out).1).trans HX.out;have hy1:=(hb1.block _ (Array.getElem?_eq_some_iff.1 HY.out).1).trans HY.out;have zz5:=af hx1 5 _ rfl;have uu5:=af hy1 5 _ rfl;have jK:=ae (HP.out w1 HB1.out);clear hb1 HA HP hx1 hy1;cases A with
      | false =>
       have HS:Hid (false=R):=ae (by rw [HR.out];rfl);clear HR jK;go_wp2;go_ret;exact ⟨aC HS.out,HB1.out⟩
      | true =>
       have HS:Hid (Pb=R):=ae (by rw [HR.out];rfl);clear HR;go_wp2_with fail;refine Calls.mono (show Calls _ _ _ _ _ from jK.out) ?_;rintro e w2 ⟨rfl,hb2⟩;have HB2:=ae (au HB1.out hb2);clear hb2 jK;go_wp2;go_ret;exact ⟨aC HS.out,HB2.out⟩
theorem VE (m:Nat) (t s v z:Value) (w:World) (hf:G9 m t) (h:gS 0 t v w) (h2:gS 0 s z w):Calls Tryz.prog 103 #[v,z] w fun e w'=>e=.returned (.bool (xb m t s))/\Below w.heap.size w w':=by
 obtain ⟨x,ts,u,rfl,rfl,d,hr⟩:=h;obtain ⟨x2,ts2,u2,rfl,rfl,d2,hr2⟩:=h2;obtain ⟨oR,cR,rfl,_⟩:=bP hr;obtain ⟨oS,cS,rfl,_⟩:=bP hr2;obtain ⟨W,hW⟩:∃W,W=(w.alloc (.cells #[.string x,.slice oR ts.length cR] 76)).alloc (.cells #[.string x2,.slice oS ts2.length cS] 76):=⟨_,rfl⟩;have hb1:=bO w (.cells #[.string x,.slice oR ts.length cR] 76);have hb2:=bO (w.alloc (.cells #[.string x,.slice oR ts.length cR] 76)) (.cells #[.string x2,.slice oS ts2.length cS] 76);have HB:Hid (Below w.heap.size w W):=ae (by rw [hW];exact au hb1 hb2);have HX:Hid (W.heap[w.heap.size]?=some (.cells #[.string x,.slice oR ts.length cR] 76 (0,0))):=ae (by rw [hW,hb2.block _ (by simp)];exact heap_alloc_new w _);have HY:Hid (W.heap[w.heap.size+1]?=some (.cells #[.string x2,.slice oS ts2.length cS] 76 (0,0))):=ae (by rw [hW];exact qM _ _ (by simp));have hf':sF m ts:=hf
 have HA:=ae (M8 (sm false (m-1)) ts ts2 (.slice oR ts.length cR) (.slice oS ts2.length cS) W d d2 (hr.imp (fun b o t _ ht=>dN.but (fun kk _ hl=>HB.out.block kk hl) _ b o t ht)) (hr2.imp (fun b o t _ ht=>dN.but (fun kk _ hl=>HB.out.block kk hl) _ b o t ht)) (fun a b va vb w' hm hm2 ho lJ hw'=>by
  cases m with
  | zero=>have hq':ts = []:=hf';rw [hq'] at hm;cases hm
  | succ m=>exact VF m a b va vb w' (hf' a hm) ho lJ))
 have pq:bV (sm false (m-1)) ts ts2=jm false m ts ts2:=AB _ hf' (fun d0 he a _ b _=>by subst he;rfl);obtain ⟨R,hR⟩:∃R,R=xb m (lX x ts) (lX x2 ts2):=⟨_,rfl⟩;rw [<- hR];have hR':R=(decide (x=x2) && bV (sm false (m-1)) ts ts2):=by rw [hR,pq];rfl
 generalize bV (sm false (m-1)) ts ts2=A at *;clear hR pq hr hr2 hf hf' hb1 hb2;have z0:=af HX.out 0 _ rfl;have z1:=af HX.out 1 _ rfl;have u0:=af HY.out 0 _ rfl;have u1:=af HY.out 1 _ rfl;cases q1:decide (x=x2) with
 | false =>
  have r1:(x.toList == x2.toList)=false:=by rw [str_eq,q1]
  have HS:Hid (false=R):=ae (by rw [hR',q1];rfl);clear hR' HA;go_enter Tryz.func103,Tryz.ntmps103;go_upto_region 1 with fail;rw [<- hW];clear hW;go_wp2;go_ret;exact ⟨aC HS.out,HB.out⟩
 | true =>
  have r1:(x.toList == x2.toList)=true:=by rw [str_eq,q1]
  have HS:Hid (A=R):=ae (by rw [hR',q1];rfl);clear hR';go_enter Tryz.func103,Tryz.ntmps103;go_upto_region 1 with fail;rw [<- hW];clear hW;go_wp2_with fail;refine Calls.mono (show Calls _ _ _ _ _ from HA.out) ?_;rintro e w1 ⟨rfl,hb1⟩;have HB1:=ae (au HB.out hb1);clear hb1 HA;go_wp2;go_ret;exact ⟨aC HS.out,HB1.out⟩
theorem VG (m:Nat) (t s v z:Value) (w:World) (hf:yH m t) (h:il 0 t v w) (h2:il 0 s z w):Calls Tryz.prog 50 #[v,z] w fun e w'=>e=.returned (.bool (yI m t s))/\Below w.heap.size w w':=by
 obtain ⟨x,ps,cs,a,u,uz,rfl,rfl,hs,hc⟩:=h;obtain ⟨x2,ja,sG,a2,u2,Dx,rfl,rfl,hs2,hc2⟩:=h2;obtain ⟨oP,cP,rfl,_⟩:=bP hs;obtain ⟨oC,cC,rfl,_⟩:=bP hc;obtain ⟨oQ,cQ,rfl,_⟩:=bP hs2;obtain ⟨oD,cD,rfl,_⟩:=bP hc2;rw [List.length_map,List.length_map];rw [List.length_map] at hs hs2;obtain ⟨W,hW⟩:∃W,W=(w.alloc (.cells #[.string x,.slice oP ps.length cP,.slice oC cs.length cC,.int .i64 a] 62)).alloc (.cells #[.string x2,.slice oQ ja.length cQ,.slice oD sG.length cD,.int .i64 a2] 62):=⟨_,rfl⟩;have hb1:=bO w (.cells #[.string x,.slice oP ps.length cP,.slice oC cs.length cC,.int .i64 a] 62);have hb2:=bO (w.alloc (.cells #[.string x,.slice oP ps.length cP,.slice oC cs.length cC,.int .i64 a] 62)) (.cells #[.string x2,.slice oQ ja.length cQ,.slice oD sG.length cD,.int .i64 a2] 62);have HB:Hid (Below w.heap.size w W):=ae (by rw [hW];exact au hb1 hb2);have HX:Hid (W.heap[w.heap.size]?=some (.cells #[.string x,.slice oP ps.length cP,.slice oC cs.length cC,.int .i64 a] 62 (0,0))):=ae (by rw [hW,hb2.block _ (by simp)];exact heap_alloc_new w _);have HY:Hid (W.heap[w.heap.size+1]?=some (.cells #[.string x2,.slice oQ ja.length cQ,.slice oD sG.length cD,.int .i64 a2] 62 (0,0))):=ae (by rw [hW];exact qM _ _ (by simp));have HS:=ae (VH ps ja (.slice oP ps.length cP) (.slice oQ ja.length cQ) W (kQ.on (C:=0) (B:=0) hs (fun kk _ hl=>HB.out.block kk hl) (Nat.le_refl _)) (kQ.on (C:=0) (B:=0) hs2 (fun kk _ hl=>HB.out.block kk hl) (Nat.le_refl _)));have HC:=ae (fun (w1:World) (hw1:Below w.heap.size w w1)=>VI (xb m) cs sG (.slice oC cs.length cC) (.slice oD sG.length cD) w1 (qI.on (C:=0) (B:=0) hc (fun kk _ hl=>hw1.block kk hl) (Nat.le_refl _)) (qI.on (C:=0) (B:=0) hc2 (fun kk _ hl=>hw1.block kk hl) (Nat.le_refl _)) (fun a b va vb w' hm hm2 ho lJ hw'=>VE m a b va vb w' (hf a hm) ho lJ));obtain ⟨R,hR⟩:∃R,R=yI m (lG x ps cs a) (lG x2 ja sG a2):=⟨_,rfl⟩;rw [<- hR]
 have hR':R=(decide (x=x2) && (bV (fun x y=>decide (x=y)) ps ja && bV (xb m) cs sG)):=by
  rw [hR];show (decide (x=x2) && (bV _ ((ps.map Value.string).map sH) ((ja.map Value.string).map sH) && _))=_;rw [M9,M9];rfl
 generalize bV (fun x y=>decide (x=y)) ps ja=A at *;generalize bV (xb m) cs sG=C at *;clear hR hs hs2 hc hc2 hf hb1 hb2;have z0:=af HX.out 0 _ rfl;have z1:=af HX.out 1 _ rfl;have u0:=af HY.out 0 _ rfl;have u1:=af HY.out 1 _ rfl;cases q1:decide (x=x2) with
 | false =>
  have r1:(x.toList == x2.toList)=false:=by rw [str_eq,q1]
  have aY:Hid (false=R):=ae (by rw [hR',q1];rfl);clear hR' HS HC;go_enter Tryz.func50,Tryz.ntmps50;go_upto_region 1 with fail;rw [<- hW];clear hW;go_wp2;go_ret;exact ⟨aC aY.out,HB.out⟩
 | true =>
  have r1:(x.toList == x2.toList)=true:=by rw [str_eq,q1]
  rw [q1,Bool.true_and] at hR';have HR:=ae hR';clear hR';go_enter Tryz.func50,Tryz.ntmps50;go_upto_region 1 with fail;rw [<- hW];clear hW;go_wp2_with fail;refine Calls.mono (show Calls _ _ _ _ _ from HS.out) ?_;rintro e w1 ⟨rfl,hb1⟩;have HB1:=ae (au HB.out hb1);have hx1:=(hb1.block _ (Array.getElem?_eq_some_iff.1 HX.out).1).trans HX.out;have hy1:=(hb1.block _ (Array.getElem?_eq_some_iff.1 HY.out).1).trans HY.out;have z2:=af hx1 2 _ rfl;have u2:=af hy1 2 _ rfl;have uN:=ae (HC.out w1 HB1.out);clear hb1 HS HC hx1 hy1 HX HY HB z0 z1 u0 u1;cases A with
  | false =>
   have aY:Hid (false=R):=ae (by rw [HR.out];rfl);clear HR uN;go_wp2;go_ret;exact ⟨aC aY.out,HB1.out⟩
  | true =>
   have aY:Hid (C=R):=ae (by rw [HR.out];rfl);clear HR;go_wp2_with fail;refine Calls.mono (show Calls _ _ _ _ _ from uN.out) ?_;rintro e w2 ⟨rfl,hb2⟩;have HB2:=ae (au HB1.out hb2);clear hb2 uN;go_wp2;go_ret;exact ⟨aC aY.out,HB2.out⟩
theorem VJ (m dt:Nat) (ds ks:List Value) (t s v z:Value) (w:World) (hf:fit m t) (Na:∀c ∈ ds,yH dt c) (h:kY 0 (ds,t) v w) (h2:kY 0 (ks,s) z w):Calls Tryz.prog 19 #[v,z] w fun e w'=>e=.returned (.bool (AF m dt ds ks t s))/\Below w.heap.size w w':=by
 obtain ⟨uD,k,x,y,n,u,uz,a,rfl,hD,hM⟩:=h;obtain ⟨Dy,k2,x2,y2,n2,u2,Dx,a2,rfl,hD2,hM2⟩:=h2;obtain ⟨W,hW⟩:∃W,W=(w.alloc (.cells #[uD,.int .i64 k,.string x,.string y,.int .i64 n,u,uz,.int .i64 a] 29)).alloc (.cells #[Dy,.int .i64 k2,.string x2,.string y2,.int .i64 n2,u2,Dx,.int .i64 a2] 29):=⟨_,rfl⟩;have hb1:=bO w (.cells #[uD,.int .i64 k,.string x,.string y,.int .i64 n,u,uz,.int .i64 a] 29);have hb2:=bO (w.alloc (.cells #[uD,.int .i64 k,.string x,.string y,.int .i64 n,u,uz,.int .i64 a] 29)) (.cells #[Dy,.int .i64 k2,.string x2,.string y2,.int .i64 n2,u2,Dx,.int .i64 a2] 29);have HB:Hid (Below w.heap.size w W):=ae (by rw [hW];exact au hb1 hb2);have HX:Hid (W.heap[w.heap.size]?=some (.cells #[uD,.int .i64 k,.string x,.string y,.int .i64 n,u,uz,.int .i64 a] 29 (0,0))):=ae (by rw [hW,hb2.block _ (by simp)];exact heap_alloc_new w _);have HY:Hid (W.heap[w.heap.size+1]?=some (.cells #[Dy,.int .i64 k2,.string x2,.string y2,.int .i64 n2,u2,Dx,.int .i64 a2] 29 (0,0))):=ae (by rw [hW];exact qM _ _ (by simp));have HC:=ae (VK (yI dt) ds ks uD Dy W (lK.on (C:=0) (B:=0) hD (fun kk _ hl=>HB.out.block kk hl) (Nat.le_refl _)) (lK.on (C:=0) (B:=0) hD2 (fun kk _ hl=>HB.out.block kk hl) (Nat.le_refl _)) (fun a b va vb w' hm hm2 ho lJ hw'=>VG dt a b va vb w' (Na a hm) ho lJ));have HE:=ae (fun (w1:World) (hw1:Below w.heap.size w w1)=>VL m t s _ _ w1 hf (hM.pE (fun kk _ hl=>hw1.block kk hl)) (hM2.pE (fun kk _ hl=>hw1.block kk hl)));obtain ⟨R,hR⟩:∃R,R=AF m dt ds ks t s:=⟨_,rfl⟩;rw [<- hR];unfold AF at hR;generalize bV (yI dt) ds ks=A at *;generalize sm false m t s=E at *;have HR:=ae hR;clear hR hD hD2 hM hM2 hf Na hb1 hb2;have z0:=af HX.out 0 _ rfl;have u0:=af HY.out 0 _ rfl;go_enter Tryz.func19,Tryz.ntmps19;go_upto_region 1 with fail;rw [<- hW];clear hW;go_wp2_with fail;refine Calls.mono (show Calls _ _ _ _ _ from HC.out) ?_;rintro e w1 ⟨rfl,hb1⟩;have HB1:=ae (au HB.out hb1);have hx1:=(hb1.block _ (Array.getElem?_eq_some_iff.1 HX.out).1).trans HX.out;have hy1:=(hb1.block _ (Array.getElem?_eq_some_iff.1 HY.out).1).trans HY.out;have z1:=af hx1 1 _ rfl;have z2:=af hx1 2 _ rfl;have z3:=af hx1 3 _ rfl;have z4:=af hx1 4 _ rfl;have z5:=af hx1 5 _ rfl;have z6:=af hx1 6 _ rfl;have z7:=af hx1 7 _ rfl;have u1:=af hy1 1 _ rfl;have u2':=af hy1 2 _ rfl;have u3:=af hy1 3 _ rfl;have u4:=af hy1 4 _ rfl;have u5:=af hy1 5 _ rfl;have u6:=af hy1 6 _ rfl;have u7:=af hy1 7 _ rfl;have xc:=ae (HE.out w1 HB1.out);clear hb1 HC HE hx1 hy1 HX HY HB z0 u0;cases A with
 | false =>
  have aY:Hid (false=R):=ae (by rw [HR.out];rfl);clear HR xc;go_wp2;go_ret;exact ⟨aC aY.out,HB1.out⟩
 | true =>
  have aY:Hid (E=R):=ae (by rw [HR.out];rfl);clear HR;go_wp2_with fail;refine Calls.mono (show Calls _ _ _ _ _ from xc.out) ?_;rintro e w2 ⟨rfl,hb2⟩;have HB2:=ae (au HB1.out hb2);clear hb2 xc;go_wp2;go_ret;exact ⟨aC aY.out,HB2.out⟩
namespace Pz
theorem Nc (pl:Bool) (a:Value):Dz pl a a=true:=by unfold Dz;simp
theorem AJ {α:Type} {f:α->α->Bool}:∀ {l:List α},(∀a ∈ l,f a a=true)->bV f l l=true
 | [],_=>rfl
 | a :: l,h=>by unfold bV;rw [h a (List.Mem.head _),AJ (fun b hb=>h b (List.Mem.tail _ hb))];rfl
theorem AK (pl:Bool):∀(d:Nat) (l:List Value),sF d l->jm pl d l l=true
 | 0,l,h=>by have h':l = []:=h;subst h';rfl
 | d+1,l,h=>by
  refine AJ fun a ha=>?_;obtain ⟨h1,h2⟩:=qN (h a ha);rw [Nc,AK pl d _ h1,AK pl d _ h2];rfl
theorem VM {pl:Bool} {d:Nat} {t:Value} (h:fit d t):sm pl d t t=true:=by
 obtain ⟨h1,h2⟩:=qN h;unfold sm;rw [Nc,AK pl d _ h1,AK pl d _ h2];rfl
theorem VN {d dt:Nat} {ds:List Value} {t:Value} (hf:fit d t) (hd:∀c ∈ ds,yH dt c):AF d dt ds ds t t=true:=by
 unfold AF;rw [VM hf,AJ (fun c hc=>?_)];rfl;unfold yI;rw [AJ (fun x _=>?_),AJ (fun x hx=>?_)];simp
 ·unfold xb;rw [AK false dt _ (hd c hc x hx)];simp
 ·simp
end Pz
end Go.Proofs.YtpaefhceiliaiaaGreatDoor
