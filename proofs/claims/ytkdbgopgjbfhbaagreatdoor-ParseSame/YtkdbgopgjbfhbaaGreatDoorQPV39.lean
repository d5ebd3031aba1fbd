/- Texts that the claim needs. -/
import Derived.Test.YtkdbgopgjbfhbaaGreatDoorQPV38
import Derived.Test.YtkdbgopgjbfhbaaGreatDoorQPV34
import Derived.Test.YtkdbgopgjbfhbaaGreatDoorQPV37
namespace Go.Proofs.YtkdbgopgjbfhbaaGreatDoor
open Go.RowKit Lx Pz bw
set_option linter.unusedVariables false
set_option maxRecDepth 100000
set_option maxHeartbeats 8000000
namespace Pz
def uA (pl:Bool) (a b:Value):Bool:=(jF a == jF b) && (decide (wG a=wG b) && (decide (Fb a=Fb b) && ((uE a == uE b) && (!pl || (jL a == jL b)))))
def dY (pl:Bool):Nat->List Value->List Value->Bool
 | 0,l,k=>bD (fun _ _=>false) l k
 | d+1,l,k=>bD (fun a b=>uA pl a b && (dY pl d (dD a) (dD b) && dY pl d (gD a) (gD b))) l k
def sm (pl:Bool) (d:Nat) (a b:Value):Bool:=uA pl a b && (dY pl d (dD a) (dD b) && dY pl d (gD a) (gD b))
theorem EL (pl:Bool) (d:Nat) (l k:List Value):dY pl (d+1) l k=bD (sm pl d) l k:=rfl
theorem Om {α:Type} {f g:α->α->Bool}:∀ {l k:List α},(∀a ∈ l,∀b ∈ k,f a b=g a b)->bD f l k=bD g l k
 | [],[],_=>rfl
 | [],_ :: _,_=>rfl
 | _ :: _,[],_=>rfl
 | a :: l,b :: k,h=>by
  unfold bD;rw [h a (List.Mem.head _) b (List.Mem.head _),Om (fun x hx y hy=>h x (List.Mem.tail _ hx) y (List.Mem.tail _ hy))]
theorem WK {α:Type} {f g:α->α->Bool} {l k:List α} (h:l = []):bD f l k=bD g l k:=by subst h;cases k<;>rfl
def kW:Nat->List Value->Prop
 | 0,l=>l = []
 | d+1,l=>∀x ∈ l,fit d x
theorem nM:∀ {d:Nat} {t:Value},fit d t->kW d (dD t)/\kW d (gD t)
 | 0,t,h=>⟨h.2.1,h.2.2⟩
 | d+1,t,h=>⟨h.2.1,h.2.2⟩
theorem Cr {pl:Bool} {d:Nat} {l k:List Value} (g:Value->Value->Bool) (h:kW d l) (hg:∀d0,d=d0+1->∀a ∈ l,∀b ∈ k,g a b=sm pl d0 a b):bD g l k=dY pl d l k:=by
 cases d with
 | zero=>exact WK h
 | succ d=>exact Om (fun a ha b hb=>hg d rfl a ha b hb)
def jP (d:Nat) (a b:Value):Bool:=decide (sU a=sU b) && dY false d (oJ a) (oJ b)
def wC (d:Nat) (a b:Value):Bool:=decide (sU a=sU b) && (bD (fun x y=>decide (x=y)) ((p8 a).map qd) ((p8 b).map qd) && bD (jP d) (kH a) (kH b))
def wD (d dt:Nat) (ds ks:List Value) (a b:Value):Bool:=bD (wC dt) ds ks && sm false d a b
def EY (d:Nat) (c:Value):Prop:=kW d (oJ c)
def yo (d:Nat) (c:Value):Prop:=∀x ∈ kH c,EY d x
theorem str_eq (x y:ByteArray):(x.toList == y.toList)=decide (x=y):=by
 rw [ByteArray.toList_eq,ByteArray.toList_eq];by_cases he:x=y
 ·subst he;simp
 ·rw [decide_eq_false he,beq_eq_false_iff_ne];exact fun e=>he (ByteArray.ext (Array.toList_inj.1 e))
theorem EZ (ps:List ByteArray):(ps.map Value.string).map qd=ps:=by
 rw [List.map_map];exact List.map_id' ps
end Pz
theorem Wd:∀(m:Nat) (t s v z:Value) (w:World),fit m t->eu 0 t v w->eu 0 s z w->Calls Tryz.prog 148 #[v,z] w fun e w'=>e=.returned (.bool (sm false m t s))/\Below w.heap.size w w':=by
 intro m
 induction m using Nat.strongRecOn with
 | ind m ih =>
  intro t s v z w hf h h2;obtain ⟨d,k,x,n,es,u,rfl,rfl,hrow⟩:=h;obtain ⟨d2,k2,x2,n2,es2,u2,rfl,rfl,rJ⟩:=h2;obtain ⟨oR,cR,rfl,_⟩:=bz hrow;obtain ⟨oS,cS,rfl,_⟩:=bz rJ;obtain ⟨W,hW⟩:∃W,W=(w.alloc (.cells #[.int .i64 k,.string x,.int .i64 n,.slice oR es.length cR] 79)).alloc (.cells #[.int .i64 k2,.string x2,.int .i64 n2,.slice oS es2.length cS] 79):=⟨_,rfl⟩;have hb1:=bN w (.cells #[.int .i64 k,.string x,.int .i64 n,.slice oR es.length cR] 79);have hb2:=bN (w.alloc (.cells #[.int .i64 k,.string x,.int .i64 n,.slice oR es.length cR] 79)) (.cells #[.int .i64 k2,.string x2,.int .i64 n2,.slice oS es2.length cS] 79);have HB:Hid (Below w.heap.size w W):=ae (by rw [hW];exact ax hb1 hb2);have HX:Hid (W.heap[w.heap.size]?=some (.cells #[.int .i64 k,.string x,.int .i64 n,.slice oR es.length cR] 79 (0,0))):=ae (by rw [hW,hb2.block _ (by simp)];exact heap_alloc_new w _);have HY:Hid (W.heap[w.heap.size+1]?=some (.cells #[.int .i64 k2,.string x2,.int .i64 n2,.slice oS es2.length cS] 79 (0,0))):=ae (by rw [hW];exact qc _ _ (by simp))
  have HA:=ae (fun (u:World) (hu:Below w.heap.size w u)=>N8 (sm false (m-1)) es es2 (.slice oR es.length cR) (.slice oS es2.length cS) u d d2 (hrow.imp (fun b o t _ ht=>dw.but (fun kk _ hl=>hu.block kk hl) _ b o t ht)) (rJ.imp (fun b o t _ ht=>dw.but (fun kk _ hl=>hu.block kk hl) _ b o t ht)) (fun a b va vb w' hm hm2 ho oU hw'=>by
   have hq:=(nM hf).1;cases m with
   | zero=>have hq':es = []:=hq;rw [hq'] at hm;cases hm
   | succ m=>exact ih m (Nat.lt_succ_self m) a b va vb w' (hq a hm) ho oU))
  have rq:bD (sm false (m-1)) es es2=dY false m es es2:=Cr _ (nM hf).1 (fun d0 he a _ b _=>by subst he;rfl);obtain ⟨R,hR⟩:∃R,R=sm false m (nd k x e0 n es [] 0) (nd k2 x2 e0 n2 es2 [] 0):=⟨_,rfl⟩;rw [<- hR]
  have hR':R=((k == k2) && (decide (x=x2) && ((n == n2) && (bD (sm false (m-1)) es es2)))):=by
   rw [hR,rq];show (((k == k2) && (decide (x=x2) && (true && ((n == n2) && true)))) && (dY false m es es2 && dY false m [] []))=_;rw [show dY false m [] []=true by cases m<;>rfl,Bool.and_true,Bool.and_true,Bool.true_and,Bool.and_assoc,Bool.and_assoc]
  generalize bD (sm false (m-1)) es es2=A at *;clear hR rq hrow rJ hf ih hb1 hb2;have z0:=af HX.out 0 _ rfl;have u0:=af HY.out 0 _ rfl;have z1:=af HX.out 1 _ rfl;have u1:=af HY.out 1 _ rfl;have z2:=af HX.out 2 _ rfl;have u2:=af HY.out 2 _ rfl;have z3:=af HX.out 3 _ rfl;have u3:=af HY.out 3 _ rfl;cases q1:(k == k2) with
  | false =>
   have p1:(k != k2)=true:=by rw [bne,q1];rfl
   have HS:Hid (false=R):=ae (by rw [hR',q1];simp);clear hR' HA;go_enter Tryz.func148,Tryz.ntmps148;go_upto_region 1 with fail;rw [<- hW];clear hW;go_wp2;go_ret;exact ⟨aO HS.out,HB.out⟩
  | true =>
   have p1:(k != k2)=false:=by rw [bne,q1];rfl
   rw [q1,Bool.true_and] at hR';cases q2:decide (x=x2) with
   | false =>
    have r2:(x.toList == x2.toList)=false:=by rw [str_eq,q2]
    have p2:(x.toList != x2.toList)=true:=by rw [bne,r2];rfl
    have HS:Hid (false=R):=ae (by rw [hR',q2];simp);clear hR' HA;go_enter Tryz.func148,Tryz.ntmps148;go_upto_region 1 with fail;rw [<- hW];clear hW;go_wp2;go_ret;exact ⟨aO HS.out,HB.out⟩
   | true =>
    have r2:(x.toList == x2.toList)=true:=by rw [str_eq,q2]
    have p2:(x.toList != x2.toList)=false:=by rw [bne,r2];rfl
    rw [q2,Bool.true_and] at hR';cases q3:(n == n2) with
    | false =>
     have p3:(n != n2)=true:=by rw [bne,q3];rfl
     have HS:Hid (false=R):=ae (by rw [hR',q3];simp);clear hR' HA;go_enter Tryz.func148,Tryz.ntmps148;go_upto_region 1 with fail;rw [<- hW];clear hW;go_wp2;go_ret;exact ⟨aO HS.out,HB.out⟩
    | true =>
     have p3:(n != n2)=false:=by rw [bne,q3];rfl
     rw [q3,Bool.true_and] at hR';have HR:=ae hR';clear hR';go_enter Tryz.func148,Tryz.ntmps148;go_upto_region 1 with fail;rw [<- hW];clear hW;go_wp2_with fail;refine Calls.mono (show Calls _ _ _ _ _ from (HA.out W HB.out)) ?_;rintro e w1 ⟨rfl,hb1⟩;have HB1:=ae (ax HB.out hb1);clear hb1 HA;go_wp2;go_ret;exact ⟨aO HR.out.symm,HB1.out⟩
theorem WM:∀(m:Nat) (t s v z:Value) (w:World),fit m t->bV 0 t v w->bV 0 s z w->Calls Tryz.prog 106 #[v,z] w fun e w'=>e=.returned (.bool (sm false m t s))/\Below w.heap.size w w':=by
 intro m
 induction m using Nat.strongRecOn with
 | ind m ih =>
  intro t s v z w hf h h2;obtain ⟨d,k,x,n,es,a,u,rfl,rfl,hrow⟩:=h;obtain ⟨d2,k2,x2,n2,es2,a2,u2,rfl,rfl,rJ⟩:=h2;obtain ⟨oR,cR,rfl,_⟩:=bz hrow;obtain ⟨oS,cS,rfl,_⟩:=bz rJ;obtain ⟨W,hW⟩:∃W,W=(w.alloc (.cells #[.int .i64 k,.string x,.int .i64 n,.slice oR es.length cR,.int .i64 a] 101)).alloc (.cells #[.int .i64 k2,.string x2,.int .i64 n2,.slice oS es2.length cS,.int .i64 a2] 101):=⟨_,rfl⟩;have hb1:=bN w (.cells #[.int .i64 k,.string x,.int .i64 n,.slice oR es.length cR,.int .i64 a] 101);have hb2:=bN (w.alloc (.cells #[.int .i64 k,.string x,.int .i64 n,.slice oR es.length cR,.int .i64 a] 101)) (.cells #[.int .i64 k2,.string x2,.int .i64 n2,.slice oS es2.length cS,.int .i64 a2] 101);have HB:Hid (Below w.heap.size w W):=ae (by rw [hW];exact ax hb1 hb2);have HX:Hid (W.heap[w.heap.size]?=some (.cells #[.int .i64 k,.string x,.int .i64 n,.slice oR es.length cR,.int .i64 a] 101 (0,0))):=ae (by rw [hW,hb2.block _ (by simp)];exact heap_alloc_new w _);have HY:Hid (W.heap[w.heap.size+1]?=some (.cells #[.int .i64 k2,.string x2,.int .i64 n2,.slice oS es2.length cS,.int .i64 a2] 101 (0,0))):=ae (by rw [hW];exact qc _ _ (by simp))
  have HA:=ae (fun (u:World) (hu:Below w.heap.size w u)=>Oo (sm false (m-1)) es es2 (.slice oR es.length cR) (.slice oS es2.length cS) u d d2 (hrow.imp (fun b o t _ ht=>bR.but (fun kk _ hl=>hu.block kk hl) _ b o t ht)) (rJ.imp (fun b o t _ ht=>bR.but (fun kk _ hl=>hu.block kk hl) _ b o t ht)) (fun a b va vb w' hm hm2 ho oU hw'=>by
   have hq:=(nM hf).1;cases m with
   | zero=>have hq':es = []:=hq;rw [hq'] at hm;cases hm
   | succ m=>exact ih m (Nat.lt_succ_self m) a b va vb w' (hq a hm) ho oU))
  have rq:bD (sm false (m-1)) es es2=dY false m es es2:=Cr _ (nM hf).1 (fun d0 he a _ b _=>by subst he;rfl);obtain ⟨R,hR⟩:∃R,R=sm false m (nd k x e0 n es [] a) (nd k2 x2 e0 n2 es2 [] a2):=⟨_,rfl⟩;rw [<- hR]
  have hR':R=((k == k2) && (decide (x=x2) && ((n == n2) && (bD (sm false (m-1)) es es2)))):=by
   rw [hR,rq];show (((k == k2) && (decide (x=x2) && (true && ((n == n2) && true)))) && (dY false m es es2 && dY false m [] []))=_;rw [show dY false m [] []=true by cases m<;>rfl,Bool.and_true,Bool.and_true,Bool.true_and,Bool.and_assoc,Bool.and_assoc]
  generalize bD (sm false (m-1)) es es2=A at *;clear hR rq hrow rJ hf ih hb1 hb2;have z0:=af HX.out 0 _ rfl;have u0:=af HY.out 0 _ rfl;have z1:=af HX.out 1 _ rfl;have u1:=af HY.out 1 _ rfl;have z2:=af HX.out 2 _ rfl;have u2:=af HY.out 2 _ rfl;have z3:=af HX.out 3 _ rfl;have u3:=af HY.out 3 _ rfl;have z4:=af HX.out 4 _ rfl;have u4:=af HY.out 4 _ rfl;cases q1:(k == k2) with
  | false =>
   have p1:(k != k2)=true:=by rw [bne,q1];rfl
   have HS:Hid (false=R):=ae (by rw [hR',q1];simp);clear hR' HA;go_enter Tryz.func106,Tryz.ntmps106;go_upto_region 1 with fail;rw [<- hW];clear hW;go_wp2;go_ret;exact ⟨aO HS.out,HB.out⟩
  | true =>
   have p1:(k != k2)=false:=by rw [bne,q1];rfl
   rw [q1,Bool.true_and] at hR';cases q2:decide (x=x2) with
   | false =>
    have r2:(x.toList == x2.toList)=false:=by rw [str_eq,q2]
    have p2:(x.toList != x2.toList)=true:=by rw [bne,r2];rfl
    have HS:Hid (false=R):=ae (by rw [hR',q2];simp);clear hR' HA;go_enter Tryz.func106,Tryz.ntmps106;go_upto_region 1 with fail;rw [<- hW];clear hW;go_wp2;go_ret;exact ⟨aO HS.out,HB.out⟩
   | true =>
    have r2:(x.toList == x2.toList)=true:=by rw [str_eq,q2]
    have p2:(x.toList != x2.toList)=false:=by rw [bne,r2];rfl
    rw [q2,Bool.true_and] at hR';cases q3:(n == n2) with
    | false =>
     have p3:(n != n2)=true:=by rw [bne,q3];rfl
     have HS:Hid (false=R):=ae (by rw [hR',q3];simp);clear hR' HA;go_enter Tryz.func106,Tryz.ntmps106;go_upto_region 1 with fail;rw [<- hW];clear hW;go_wp2;go_ret;exact ⟨aO HS.out,HB.out⟩
    | true =>
     have p3:(n != n2)=false:=by rw [bne,q3];rfl
     rw [q3,Bool.true_and] at hR';have HR:=ae hR';clear hR';go_enter Tryz.func106,Tryz.ntmps106;go_upto_region 1 with fail;rw [<- hW];clear hW;go_wp2_with fail;refine Calls.mono (show Calls _ _ _ _ _ from (HA.out W HB.out)) ?_;rintro e w1 ⟨rfl,hb1⟩;have HB1:=ae (ax HB.out hb1);clear hb1 HA;go_wp2;go_ret;exact ⟨aO HR.out.symm,HB1.out⟩
theorem Wl:∀(m:Nat) (t s v z:Value) (w:World),fit m t->aW 0 t v w->aW 0 s z w->Calls Tryz.prog 51 #[v,z] w fun e w'=>e=.returned (.bool (sm false m t s))/\Below w.heap.size w w':=by
 intro m
 induction m using Nat.strongRecOn with
 | ind m ih =>
  intro t s v z w hf h h2;obtain ⟨d,k,x,y,n,es,ps,a,u,up,rfl,rfl,hrow,iA⟩:=h;obtain ⟨d2,k2,x2,y2,n2,es2,dK,a2,u2,up2,rfl,rfl,rJ,Je⟩:=h2;obtain ⟨oR,cR,rfl,_⟩:=bz hrow;obtain ⟨oS,cS,rfl,_⟩:=bz rJ;obtain ⟨oP,cP,rfl,_⟩:=bz iA;obtain ⟨oQ,cQ,rfl,_⟩:=bz Je;obtain ⟨W,hW⟩:∃W,W=(w.alloc (.cells #[.int .i64 k,.string x,.string y,.int .i64 n,.slice oR es.length cR,.slice oP ps.length cP,.int .i64 a] 27)).alloc (.cells #[.int .i64 k2,.string x2,.string y2,.int .i64 n2,.slice oS es2.length cS,.slice oQ dK.length cQ,.int .i64 a2] 27):=⟨_,rfl⟩;have hb1:=bN w (.cells #[.int .i64 k,.string x,.string y,.int .i64 n,.slice oR es.length cR,.slice oP ps.length cP,.int .i64 a] 27);have hb2:=bN (w.alloc (.cells #[.int .i64 k,.string x,.string y,.int .i64 n,.slice oR es.length cR,.slice oP ps.length cP,.int .i64 a] 27)) (.cells #[.int .i64 k2,.string x2,.string y2,.int .i64 n2,.slice oS es2.length cS,.slice oQ dK.length cQ,.int .i64 a2] 27);have HB:Hid (Below w.heap.size w W):=ae (by rw [hW];exact ax hb1 hb2);have HX:Hid (W.heap[w.heap.size]?=some (.cells #[.int .i64 k,.string x,.string y,.int .i64 n,.slice oR es.length cR,.slice oP ps.length cP,.int .i64 a] 27 (0,0))):=ae (by rw [hW,hb2.block _ (by simp)];exact heap_alloc_new w _);have HY:Hid (W.heap[w.heap.size+1]?=some (.cells #[.int .i64 k2,.string x2,.string y2,.int .i64 n2,.slice oS es2.length cS,.slice oQ dK.length cQ,.int .i64 a2] 27 (0,0))):=ae (by rw [hW];exact qc _ _ (by simp))
  have HA:=ae (fun (u:World) (hu:Below w.heap.size w u)=>WN (sm false (m-1)) es es2 (.slice oR es.length cR) (.slice oS es2.length cS) u d d2 (hrow.imp (fun b o t _ ht=>cf.but (fun kk _ hl=>hu.block kk hl) _ b o t ht)) (rJ.imp (fun b o t _ ht=>cf.but (fun kk _ hl=>hu.block kk hl) _ b o t ht)) (fun a b va vb w' hm hm2 ho oU hw'=>by
   have hq:=(nM hf).1;cases m with
   | zero=>have hq':es = []:=hq;rw [hq'] at hm;cases hm
   | succ m=>exact ih m (Nat.lt_succ_self m) a b va vb w' (hq a hm) ho oU))
  have rq:bD (sm false (m-1)) es es2=dY false m es es2:=Cr _ (nM hf).1 (fun d0 he a _ b _=>by subst he;rfl)
  have HP:=ae (fun (u:World) (hu:Below w.heap.size w u)=>Oo (sm false (m-1)) ps dK (.slice oP ps.length cP) (.slice oQ dK.length cQ) u d d2 (iA.imp (fun b o t _ ht=>bR.but (fun kk _ hl=>hu.block kk hl) _ b o t ht)) (Je.imp (fun b o t _ ht=>bR.but (fun kk _ hl=>hu.block kk hl) _ b o t ht)) (fun a b va vb w' hm hm2 ho oU hw'=>by
   have hq:=(nM hf).2;cases m with
   | zero=>have hq':ps = []:=hq;rw [hq'] at hm;cases hm
   | succ m=>exact WM m a b va vb w' (hq a hm) ho oU))
  have Oq:bD (sm false (m-1)) ps dK=dY false m ps dK:=Cr _ (nM hf).2 (fun d0 he a _ b _=>by subst he;rfl);obtain ⟨R,hR⟩:∃R,R=sm false m (nd k x y n es ps a) (nd k2 x2 y2 n2 es2 dK a2):=⟨_,rfl⟩;rw [<- hR]
  have hR':R=((k == k2) && (decide (x=x2) && (decide (y=y2) && ((n == n2) && (bD (sm false (m-1)) es es2 && bD (sm false (m-1)) ps dK))))):=by
   rw [hR,rq,Oq];show (((k == k2) && (decide (x=x2) && (decide (y=y2) && ((n == n2) && true)))) && (dY false m es es2 && dY false m ps dK))=_;rw [Bool.and_true,Bool.and_assoc,Bool.and_assoc,Bool.and_assoc]
  generalize bD (sm false (m-1)) es es2=A at *;generalize bD (sm false (m-1)) ps dK=Pb at *;clear hR rq hrow rJ hf ih hb1 hb2 Oq iA Je;have z0:=af HX.out 0 _ rfl;have u0:=af HY.out 0 _ rfl;have z1:=af HX.out 1 _ rfl;have u1:=af HY.out 1 _ rfl;have z2:=af HX.out 2 _ rfl;have u2:=af HY.out 2 _ rfl;have z3:=af HX.out 3 _ rfl;have u3:=af HY.out 3 _ rfl;have z4:=af HX.out 4 _ rfl;have u4:=af HY.out 4 _ rfl;have z5:=af HX.out 5 _ rfl;have u5:=af HY.out 5 _ rfl;have z6:=af HX.out 6 _ rfl;have u6:=af HY.out 6 _ rfl;cases q1:(k == k2) with
  | false =>
   have p1:(k != k2)=true:=by rw [bne,q1];rfl
   have HS:Hid (false=R):=ae (by rw [hR',q1];simp);clear hR' HA HP;go_enter Tryz.func51,Tryz.ntmps51;go_upto_region 1 with fail;rw [<- hW];clear hW;go_wp2;go_ret;exact ⟨aO HS.out,HB.out⟩
  | true =>
   have p1:(k != k2)=false:=by rw [bne,q1];rfl
   rw [q1,Bool.true_and] at hR';cases q2:decide (x=x2) with
   | false =>
    have r2:(x.toList == x2.toList)=false:=by rw [str_eq,q2]
    have p2:(x.toList != x2.toList)=true:=by rw [bne,r2];rfl
    have HS:Hid (false=R):=ae (by rw [hR',q2];simp);clear hR' HA HP;go_enter Tryz.func51,Tryz.ntmps51;go_upto_region 1 with fail;rw [<- hW];clear hW;go_wp2;go_ret;exact ⟨aO HS.out,HB.out⟩
   | true =>
    have r2:(x.toList == x2.toList)=true:=by rw [str_eq,q2]
    have p2:(x.toList != x2.toList)=false:=by rw [bne,r2];rfl
    rw [q2,Bool.true_and] at hR';cases q3:decide (y=y2) with
    | false =>
     have r3:(y.toList == y2.toList)=false:=by rw [str_eq,q3]
     have p3:(y.toList != y2.toList)=true:=by rw [bne,r3];rfl
     have HS:Hid (false=R):=ae (by rw [hR',q3];simp);clear hR' HA HP;go_enter Tryz.func51,Tryz.ntmps51;go_upto_region 1 with fail;rw [<- hW];clear hW;go_wp2;go_ret;exact ⟨aO HS.out,HB.out⟩
    | true =>
     have r3:(y.toList == y2.toList)=true:=by rw [str_eq,q3]
     have p3:(y.toList != y2.toList)=false:=by rw [bne,r3];rfl
     rw [q3,Bool.true_and] at hR';cases q4:(n == n2) with
     | false =>
      have p4:(n != n2)=true:=by rw [bne,q4];rfl
      have HS:Hid (false=R):=ae (by rw [hR',q4];simp);clear hR' HA HP;go_enter Tryz.func51,Tryz.ntmps51;go_upto_region 1 with fail;rw [<- hW];clear hW;go_wp2;go_ret;exact ⟨aO HS.out,HB.out⟩
     | true =>
      have p4:(n != n2)=false:=by rw [bne,q4];rfl
      rw [q4,Bool.true_and] at hR';have HR:=ae hR';clear hR';go_enter Tryz.func51,Tryz.ntmps51;go_upto_region 1 with fail;rw [<- hW];clear hW;go_wp2_with fail;refine Calls.mono (show Calls _ _ _ _ _ from (HA.out W HB.out)) ?_;rintro e w1 ⟨rfl,hb1⟩;have HB1:=ae (ax HB.out hb1);have hx1:=(hb1.block _ (Array.getElem?_eq_some_iff.1 HX.out).1).trans HX.out;have hy1:=(hb1.block _ (Array.getElem?_eq_some_iff.1 HY.out).1).trans HY.out;have zz5:=af hx1 5 _ rfl;have uu5:=af hy1 5 _ rfl;have Jf:=ae (HP.out w1 HB1.out);clear hb1 HA HP hx1 hy1;cases A with
      | false =>
       have HS:Hid (false=R):=ae (by rw [HR.out];rfl);clear HR Jf;go_wp2;go_ret;exact ⟨aO HS.out,HB1.out⟩
      | true =>
       have HS:Hid (Pb=R):=ae (by rw [HR.out];rfl);clear HR;go_wp2_with fail;refine Calls.mono (show Calls _ _ _ _ _ from Jf.out) ?_;rintro e w2 ⟨rfl,hb2⟩;have HB2:=ae (ax HB1.out hb2);clear hb2 Jf;go_wp2;go_ret;exact ⟨aO HS.out,HB2.out⟩
namespace Pz
abbrev Zt:=Option Nat × Option Nat
abbrev cl (cs:Array Value) (TY:TypeId):Obj:=.cells cs TY (0,0)
def dL (TY:TypeId) (zc CA CB:Array Value) (L:List Value) (z:Zt) (i:Nat) (v:Value) (u:World):Prop :=
 (i<8->v=L.getD i undef) /\
 (i=8->∃b,z.1=some b/\v=.pointer (some ⟨b,0,none⟩)/\(u.heap[b]?=some (cl zc TY)\/u.heap[b]?=some (cl CA TY))) /\
 (i=9->∃b,z.2=some b/\v=.pointer (some ⟨b,0,none⟩)/\(u.heap[b]?=some (cl zc TY)\/u.heap[b]?=some (cl CB TY))) /\
 (i=10->∃b,z.1=some b/\u.heap[b]?=some (cl CA TY)) /\
 (i=11->∃b,z.2=some b/\u.heap[b]?=some (cl CB TY))
structure yA (B:Nat) (wr:World) (z:Zt) (u:World):Prop where
 ed:Below B wr u
 a:∀b,z.1=some b->B<=b/\b<u.heap.size
 b:∀b,z.2=some b->B<=b/\b<u.heap.size
 ne:∀b b',z.1=some b->z.2=some b'->b≠b'
 sz:B<=u.heap.size
structure dV (B:Nat) (TY:TypeId) (CA CB:Array Value) (k:Nat) (z z':Zt) (u u':World):Prop where
 ed:Below B u u'
 r:k<8->z'=z/\∀b:Nat,u'.heap[b]?=u.heap[b]?
 n8:k=8->z'=(some u.heap.size,z.2)/\u.heap.size<u'.heap.size/\∀b:Nat,b<u.heap.size->u'.heap[b]?=u.heap[b]?
 n9:k=9->z'=(z.1,some u.heap.size)/\u.heap.size<u'.heap.size/\∀b:Nat,b<u.heap.size->u'.heap[b]?=u.heap[b]?
 s8:k=10->z'=z/\(∀b,z.1=some b->u'.heap[b]?=some (cl CA TY))/\∀b:Nat,z.1≠some b->u'.heap[b]?=u.heap[b]?
 s9:k=11->z'=z/\(∀b,z.2=some b->u'.heap[b]?=some (cl CB TY))/\∀b:Nat,z.2≠some b->u'.heap[b]?=u.heap[b]?
section
variable {B:Nat} {TY:TypeId} {zc CA CB:Array Value} {L:List Value} {wr u u':World} {z z':Zt} {i k:Nat}
theorem yA.step (hk:k<12) (h:yA B wr z u) (t:dV B TY CA CB k z z' u u'):yA B wr z' u':=by
 have hs:=t.ed.size;have hc:k<8\/k=8\/k=9\/k=10\/k=11:=by omega
 have h1:=h.a;have h2:=h.b;have h3:=h.ne;have h4:=h.sz;refine ⟨h.ed.trans t.ed,?_,?_,?_,by omega⟩
 all_goals rcases hc with hk'|hk'|hk'|hk'|hk'
 ·obtain ⟨rfl,_⟩:=t.r hk';exact fun b hb=>⟨(h1 b hb).1,by have:=(h1 b hb).2;omega⟩
 ·obtain ⟨rfl,hlt,_⟩:=t.n8 hk';intro b hb;injection hb with hb;subst hb;exact ⟨h4,hlt⟩
 ·obtain ⟨rfl,_⟩:=t.n9 hk';exact fun b hb=>⟨(h1 b hb).1,by have:=(h1 b hb).2;omega⟩
 ·obtain ⟨rfl,_⟩:=t.s8 hk';exact fun b hb=>⟨(h1 b hb).1,by have:=(h1 b hb).2;omega⟩
 ·obtain ⟨rfl,_⟩:=t.s9 hk';exact fun b hb=>⟨(h1 b hb).1,by have:=(h1 b hb).2;omega⟩
 ·obtain ⟨rfl,_⟩:=t.r hk';exact fun b hb=>⟨(h2 b hb).1,by have:=(h2 b hb).2;omega⟩
 ·obtain ⟨rfl,_⟩:=t.n8 hk';exact fun b hb=>⟨(h2 b hb).1,by have:=(h2 b hb).2;omega⟩
 ·obtain ⟨rfl,hlt,_⟩:=t.n9 hk';intro b hb;injection hb with hb;subst hb;exact ⟨h4,hlt⟩
 ·obtain ⟨rfl,_⟩:=t.s8 hk';exact fun b hb=>⟨(h2 b hb).1,by have:=(h2 b hb).2;omega⟩
 ·obtain ⟨rfl,_⟩:=t.s9 hk';exact fun b hb=>⟨(h2 b hb).1,by have:=(h2 b hb).2;omega⟩
 ·obtain ⟨rfl,_⟩:=t.r hk';exact h3
 ·obtain ⟨rfl,_⟩:=t.n8 hk';intro b b' hb hb';injection hb with hb;have:=(h2 b' hb').2;omega
 ·obtain ⟨rfl,_⟩:=t.n9 hk';intro b b' hb hb';injection hb' with hb';have:=(h1 b hb).2;omega
 ·obtain ⟨rfl,_⟩:=t.s8 hk';exact h3
 ·obtain ⟨rfl,_⟩:=t.s9 hk';exact h3
theorem dL.Jl {v:Value} (hk:k<12) (hne:i≠k) (h10:i=10->k≠8) (h11:i=11->k≠9) (h:yA B wr z u) (g:dL TY zc CA CB L z i v u) (t:dV B TY CA CB k z z' u u'):dL TY zc CA CB L z' i v u':=by
 obtain ⟨g0,g8,g9,g10,g11⟩:=g;have hc:k<8\/k=8\/k=9\/k=10\/k=11:=by omega
 refine ⟨g0,fun hi=>?_,fun hi=>?_,fun hi=>?_,fun hi=>?_⟩
 ·obtain ⟨b,e1,e2,e3⟩:=g8 hi;have hb:=(h.a b e1).2;rcases hc with hk'|hk'|hk'|hk'|hk'
  ·obtain ⟨rfl,hs⟩:=t.r hk';exact ⟨b,e1,e2,by rw [hs b];exact e3⟩
  ·exact absurd (hi.trans hk'.symm) hne
  ·obtain ⟨rfl,_,hs⟩:=t.n9 hk';exact ⟨b,e1,e2,by rw [hs b hb];exact e3⟩
  ·obtain ⟨rfl,hs,_⟩:=t.s8 hk';exact ⟨b,e1,e2,.inr (hs b e1)⟩
  ·obtain ⟨rfl,_,hs⟩:=t.s9 hk';exact ⟨b,e1,e2,by rw [hs b (fun e=>h.ne b b e1 e rfl)];exact e3⟩
 ·obtain ⟨b,e1,e2,e3⟩:=g9 hi;have hb:=(h.b b e1).2;rcases hc with hk'|hk'|hk'|hk'|hk'
  ·obtain ⟨rfl,hs⟩:=t.r hk';exact ⟨b,e1,e2,by rw [hs b];exact e3⟩
  ·obtain ⟨rfl,_,hs⟩:=t.n8 hk';exact ⟨b,e1,e2,by rw [hs b hb];exact e3⟩
  ·exact absurd (hi.trans hk'.symm) hne
  ·obtain ⟨rfl,_,hs⟩:=t.s8 hk';exact ⟨b,e1,e2,by rw [hs b (fun e=>h.ne b b e e1 rfl)];exact e3⟩
  ·obtain ⟨rfl,hs,_⟩:=t.s9 hk';exact ⟨b,e1,e2,.inr (hs b e1)⟩
 ·obtain ⟨b,e1,e3⟩:=g10 hi;have hb:=(h.a b e1).2;rcases hc with hk'|hk'|hk'|hk'|hk'
  ·obtain ⟨rfl,hs⟩:=t.r hk';exact ⟨b,e1,by rw [hs b];exact e3⟩
  ·exact absurd hk' (h10 hi)
  ·obtain ⟨rfl,_,hs⟩:=t.n9 hk';exact ⟨b,e1,by rw [hs b hb];exact e3⟩
  ·exact absurd (hi.trans hk'.symm) hne
  ·obtain ⟨rfl,_,hs⟩:=t.s9 hk';exact ⟨b,e1,by rw [hs b (fun e=>h.ne b b e1 e rfl)];exact e3⟩
 ·obtain ⟨b,e1,e3⟩:=g11 hi;have hb:=(h.b b e1).2;rcases hc with hk'|hk'|hk'|hk'|hk'
  ·obtain ⟨rfl,hs⟩:=t.r hk';exact ⟨b,e1,by rw [hs b];exact e3⟩
  ·obtain ⟨rfl,_,hs⟩:=t.n8 hk';exact ⟨b,e1,by rw [hs b hb];exact e3⟩
  ·exact absurd hk' (h11 hi)
  ·obtain ⟨rfl,_,hs⟩:=t.s8 hk';exact ⟨b,e1,by rw [hs b (fun e=>h.ne b b e e1 rfl)];exact e3⟩
  ·exact absurd (hi.trans hk'.symm) hne
theorem dL.rd {v:Value} (hi:i<8) (hv:v=L.getD i undef):dL TY zc CA CB L z i v u:=⟨fun _=>hv,fun h=>absurd h (by omega),fun h=>absurd h (by omega),fun h=>absurd h (by omega),fun h=>absurd h (by omega)⟩
theorem dV.rd (hk:k<8):dV B TY CA CB k z z u u:=⟨Below.refl _ _,fun _=>⟨rfl,fun _=>rfl⟩,fun h=>absurd h (by omega),fun h=>absurd h (by omega),fun h=>absurd h (by omega),fun h=>absurd h (by omega)⟩
theorem dV.yB (hB:B<=u.heap.size) (o:Obj):dV B TY CA CB 8 z (some u.heap.size,z.2) u (u.alloc o):=⟨(Below.refl _ _).alloc hB _,fun h=>absurd h (by omega),fun _=>⟨rfl,by simp,fun b hb=>((Below.refl _ u).alloc (Nat.le_refl _) o).block b hb⟩,fun h=>absurd h (by omega),fun h=>absurd h (by omega),fun h=>absurd h (by omega)⟩
theorem dV.yC (hB:B<=u.heap.size) (o:Obj):dV B TY CA CB 9 z (z.1,some u.heap.size) u (u.alloc o):=⟨(Below.refl _ _).alloc hB _,fun h=>absurd h (by omega),fun h=>absurd h (by omega),fun _=>⟨rfl,by simp,fun b hb=>((Below.refl _ u).alloc (Nat.le_refl _) o).block b hb⟩,fun h=>absurd h (by omega),fun h=>absurd h (by omega)⟩
theorem dL.yB (CG:Array Value) (hz:CG=zc):dL TY zc CA CB L (some u.heap.size,z.2) 8 (.pointer (some ⟨u.heap.size,0,none⟩)) (u.alloc (.cells CG TY)):=⟨fun h=>absurd h (by omega),fun _=>⟨_,rfl,rfl,.inl (by subst hz;exact heap_alloc_new _ _)⟩,fun h=>absurd h (by omega),fun h=>absurd h (by omega),fun h=>absurd h (by omega)⟩
theorem dL.yC (CG:Array Value) (hz:CG=zc):dL TY zc CA CB L (z.1,some u.heap.size) 9 (.pointer (some ⟨u.heap.size,0,none⟩)) (u.alloc (.cells CG TY)):=⟨fun h=>absurd h (by omega),fun h=>absurd h (by omega),fun _=>⟨_,rfl,rfl,.inl (by subst hz;exact heap_alloc_new _ _)⟩,fun h=>absurd h (by omega),fun h=>absurd h (by omega)⟩
theorem Ap {b:Nat} {C:Array Value} (hB:B<=b) (hz:zc.size=C.size) (h:u.heap[b]?=some (cl zc TY)\/u.heap[b]?=some (cl C TY)):∃W,u.setCells b 0 C.toList=W/\u.there b 0 C.size/\Below B u W/\W.heap[b]?=some (cl C TY)/\∀m,m≠b->W.heap[m]?=u.heap[m]?:=by
 rcases h with h|h
 ·obtain ⟨W,h1,h2,h3,h4⟩:=Cq u TY zc C h hz;exact ⟨W,h1,h2,by rw [<- h1];exact lZ B b hB C.toList 0 u u (Below.refl _ u),h3,h4⟩
 ·obtain ⟨W,h1,h2,h3,h4⟩:=Cq u TY C C h rfl;exact ⟨W,h1,h2,by rw [<- h1];exact lZ B b hB C.toList 0 u u (Below.refl _ u),h3,h4⟩
theorem dV.yD {b:Nat} {W:World} (hz:z.1=some b) (hb:Below B u W) (h1:W.heap[b]?=some (cl CA TY)) (h2:∀m,m≠b->W.heap[m]?=u.heap[m]?):dV B TY CA CB 10 z z u W:=⟨hb,fun h=>absurd h (by omega),fun h=>absurd h (by omega),fun h=>absurd h (by omega),fun _=>⟨rfl,fun b' hb'=>by rw [hz] at hb';injection hb' with hb';subst hb';exact h1,fun b' hb'=>h2 b' (fun e=>hb' (by rw [e];exact hz))⟩,fun h=>absurd h (by omega)⟩
theorem dV.yE {b:Nat} {W:World} (hz:z.2=some b) (hb:Below B u W) (h1:W.heap[b]?=some (cl CB TY)) (h2:∀m,m≠b->W.heap[m]?=u.heap[m]?):dV B TY CA CB 11 z z u W:=⟨hb,fun h=>absurd h (by omega),fun h=>absurd h (by omega),fun h=>absurd h (by omega),fun h=>absurd h (by omega),fun _=>⟨rfl,fun b' hb'=>by rw [hz] at hb';injection hb' with hb';subst hb';exact h1,fun b' hb'=>h2 b' (fun e=>hb' (by rw [e];exact hz))⟩⟩
theorem dL.yD {b:Nat} {v:Value} (hz:z.1=some b) (h1:u.heap[b]?=some (cl CA TY)):dL TY zc CA CB L z 10 v u:=⟨fun h=>absurd h (by omega),fun h=>absurd h (by omega),fun h=>absurd h (by omega),fun _=>⟨b,hz,h1⟩,fun h=>absurd h (by omega)⟩
theorem dL.yE {b:Nat} {v:Value} (hz:z.2=some b) (h1:u.heap[b]?=some (cl CB TY)):dL TY zc CA CB L z 11 v u:=⟨fun h=>absurd h (by omega),fun h=>absurd h (by omega),fun h=>absurd h (by omega),fun h=>absurd h (by omega),fun _=>⟨b,hz,h1⟩⟩
theorem dL.st {v v':Value} (hi:i=10\/i=11) (g:dL TY zc CA CB L z i v u):dL TY zc CA CB L z i v' u:=⟨fun h=>absurd h (by omega),fun h=>absurd h (by omega),fun h=>absurd h (by omega),g.2.2.2.1,g.2.2.2.2⟩
end
theorem qi (lo i k:Nat) (hlo:10<=lo) (hk:k≠8/\k≠9/\(k<lo\/lo+12<=k)) (hi:i<12):(if i<8 then lo+i else if i=8 then 8 else if i=9 then 9 else lo+i)≠k:=by
 repeat' split
 all_goals omega
end Pz
end Go.Proofs.YtkdbgopgjbfhbaaGreatDoor
