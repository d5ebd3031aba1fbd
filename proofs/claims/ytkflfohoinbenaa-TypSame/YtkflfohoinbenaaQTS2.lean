/- Texts that the claim needs. -/
import Derived.Test.YtkflfohoinbenaaQTS1
import Derived.Test.YtkflfohoinbenaaQTS0
import Derived.ProofKit
import Derived.OpenShut
import Derived.Lib.SmallJoins
namespace Go.Proofs.Ytkflfohoinbenaa
open Go.RowKit Lx Pz Rep
set_option linter.unusedVariables false
namespace Pz
def few:Nat->Value->Prop
 | 0,t=>isN t/\argsV t = []/\patsV t = []
 | d+1,t=>isN t/\(argsV t).length<=200010/\(patsV t).length<=200010/\(∀x ∈ argsV t,few d x)/\(∀x ∈ patsV t,few d x)
def Fw (d i:Nat) (es:List Value):Prop:=∀j x,j<i->es[j]?=some x->∃d0,d=d0+1/\few d0 x
theorem Fw.zero (d:Nat) (es:List Value):Fw d 0 es:=fun j x hj=>absurd hj (Nat.not_lt_zero j)
theorem Fw.step {d i:Nat} {es:List Value} {x:Value} (h:Fw d i es) (hx:es[i]?=some x) {d0:Nat} (hd:d=d0+1) (hf:few d0 x):Fw d (i+1) es:=fun j y hj hy=>by
 by_cases hji:j<i
 ·exact h j y hji hy
 ·obtain rfl:j=i:=by omega
  rw [hx] at hy
  injection hy with hy
  subst hy
  exact ⟨d0,hd,hf⟩
theorem few_mk {d:Nat} {k:Int} {x y:ByteArray} {n:Int} {es ps:List Value} {a:Int} (h1:es.length<=200010) (h2:ps.length<=200010) (h3:Fw d es.length es) (h4:Fw d ps.length ps):few d (nd k x y n es ps a):=by
 have key:∀(l:List Value),Fw d l.length l->∀z ∈ l,∃d0,d=d0+1/\few d0 z:=fun l h z hz=>by
  obtain ⟨j,hj⟩:=List.getElem?_of_mem hz
  exact h j z (List.getElem?_eq_some_iff.1 hj).1 hj
 cases d with
 | zero =>
  refine ⟨⟨_,_,_,_,_,_,_,rfl⟩,?_,?_⟩
  ·show es = []
   cases es with
   | nil=>rfl
   | cons z l=>obtain ⟨d0,h,_⟩:=key _ h3 z (List.Mem.head _);omega
  ·show ps = []
   cases ps with
   | nil=>rfl
   | cons z l=>obtain ⟨d0,h,_⟩:=key _ h4 z (List.Mem.head _);omega
 | succ d =>
  refine ⟨⟨_,_,_,_,_,_,_,rfl⟩,h1,h2,fun z hz=>?_,fun z hz=>?_⟩
  ·obtain ⟨d0,h,hf⟩:=key _ h3 z hz
   obtain rfl:d=d0:=by omega
   exact hf
  ·obtain ⟨d0,h,hf⟩:=key _ h4 z hz
   obtain rfl:d=d0:=by omega
   exact hf
theorem Fw.nil (d i:Nat):Fw d i []:=fun j x _ hx=>by simp at hx
theorem Fw.all {d i:Nat} {es:List Value} (h:Fw d i es) (hi:es.length<=i):Fw d es.length es:=fun j x hj hx=>h j x (by omega) hx
theorem ty_eltd {d b o:Nat} {w:World} {t:Value} (h:TyC 0 w d b o t):∃d0 k x n u,d=d0+1/\w.cell? ⟨b,o,none⟩=some (.int .i64 k)/\w.cell? ⟨b,o+1,none⟩=some (.string x)/\w.cell? ⟨b,o+2,none⟩=some (.int .i64 n)/\w.cell? ⟨b,o+3,none⟩=some u/\TyV 0 d0 w t (.agg #[.int .i64 k,.string x,.int .i64 n,u]):=by
 cases d with
 | zero=>exact h.elim
 | succ d =>
  obtain ⟨hp,k,x,n,es,v,h0,h1,h2,h3,h4,h5⟩:=h
  exact ⟨d,k,x,n,v,rfl,h1,h2,h3,h4,k,x,n,es,v,h0,rfl,h5⟩
def WTC (d:Nat):Prop:=∀(w:World) (t v:Value) (deep:Nat) (n:Int),TyV 0 d w t v->deep<=601->0<=n->n<=20000 ->
  Calls Try.prog 47 #[v,.int .i64 deep,.int .i64 n] w fun e w'=>∃r:Int,e=.returned (.int .i64 r)/\Below w.heap.size w w'/\-1<=r/\r<=20000/\(0<=r->few d t)
theorem wt_len {n c2:Int} {l:Nat} (h:c2=n+(1+(l:Int) / 10)) (h0:0<=n) (h2:¬ 20000<c2):l<=200010:=by omega
end Pz
set_option maxRecDepth 100000 in
set_option maxHeartbeats 16000000 in
theorem r_wT:∀d:Nat,WTC d:=by
 intro d
 induction d using Nat.strongRecOn with
 | _ d ih =>
  intro w t v deep n h hd hn0 hn1
  obtain ⟨k,x,nn,es,u,rfl,rfl,hr⟩:=h
  obtain ⟨oR,cR,rfl,hel⟩:=row_at hr
  have hlen:=hr.1
  have HL:=hideR hr.1
  have HEL:=hideR hel
  have HIH:Hid (∀d0,d=d0+1->WTC d0):=hideR (fun d0 e=>ih d0 (by omega))
  obtain ⟨W,hW⟩:∃W,W=w.alloc (.cells #[.int .i64 k,.string x,.int .i64 nn,.slice oR es.length cR] 34):=⟨_,rfl⟩
  have HBA:Hid (Below w.heap.size w W):=hideR (by rw [hW];exact new_on' _ _)
  have HXA:Hid (W.heap[w.heap.size]?=some (.cells #[.int .i64 k,.string x,.int .i64 nn,.slice oR es.length cR] 34 (0,0))):=hideR (by rw [hW];exact heap_alloc_new w _)
  have c3:=put_cell HXA.out 3 _ rfl
  obtain ⟨c2,hc2⟩:∃c2:Int,c2=n+(1+(es.length:Int) / 10):=⟨_,rfl⟩
  have HC2:=hideR hc2
  have hc0:0<=c2:=by omega
  clear hr hel ih
  by_cases hbig:20000<c2
  ·have q0:decide (c2 > 20000)=true:=decide_eq_true hbig
   clear HL HEL HIH hc2
   go_enter Try.func47,Try.ntmps47
   go_upto_region 1 with fail
   rw [<- hW]
   clear hW
   go_upto_region 2 with fail
   rw [<- HC2.out]
   go_wp2
   go_ret
   exact ⟨-1,rfl,HBA.out,by omega,by omega,fun h=>absurd h (by omega)⟩
  have q0:decide (c2 > 20000)=false:=decide_eq_false hbig
  by_cases hdp:600<deep
  ·have q9:decide ((deep:Int) > 600)=true:=decide_eq_true (by omega)
   clear HL HEL HIH hc2
   go_enter Try.func47,Try.ntmps47
   go_upto_region 1 with fail
   rw [<- hW]
   clear hW
   go_upto_region 2 with fail
   rw [<- HC2.out]
   go_wp2
   go_ret
   exact ⟨-1,rfl,HBA.out,by omega,by omega,fun h=>absurd h (by omega)⟩
  have q9:decide ((deep:Int) > 600)=false:=decide_eq_false (by omega)
  have hle:=wt_len hc2 hn0 hbig
  clear hc2
  go_enter Try.func47,Try.ntmps47
  go_upto_region 1 with fail
  rw [<- hW]
  clear hW
  go_upto_region 2 with fail
  rw [<- HC2.out]
  clear HC2
  have hcc:c2<=20000:=by omega
  clear hlen
  go_wp2_with fail
  go_loopw [2,7] (fun uu aa wr=>∃(i:Nat) (c:Int),aa=.int .i64 i/\uu=.int .i64 c/\i<=es.length/\-1<=c/\c<=20000/\Hid (0<=c->Fw d i es)/\Hid (Below w.heap.size w wr)/\Hid (wr.heap[w.heap.size]?=some (.cells #[.int .i64 k,.string x,.int .i64 nn,.slice oR es.length cR] 34 (0,0)))) (fun _ aa _=>match aa with | .int _ i=>es.length-i.toNat|_=>0)
  case atStart=>exact ⟨0,c2,rfl,rfl,Nat.zero_le _,by omega,hcc,hideR (fun _=>Fw.zero _ _),HBA,HXA⟩
  case round =>
   obtain ⟨i,c,rfl,rfl,hi,hc1,hc2,HN,HBW,HX⟩:=hrel
   clear HXA HBA
   have rF:=put_cell HX.out 3 _ rfl
   by_cases hp:i<es.length
   ·have q1:decide ((i:Int)<(es.length:Int))=true:=decide_eq_true (by omega)
    by_cases hc:0<=c
    ·have q2:decide (c>=0)=true:=decide_eq_true hc
     obtain ⟨t1,ht1⟩:∃t1,es[i]?=some t1:=⟨_,List.getElem?_eq_getElem hp⟩
     obtain ⟨b,off,hoR,hC⟩:=HEL.out i t1 ht1
     subst hoR
     obtain ⟨d0,k1,x1,n1,u1,hd0,g0,g1,g2,g3,hV⟩:=ty_eltd hC
     have y0:=cell_on HBW.out g0
     have y1:=cell_on HBW.out g1
     have y2:=cell_on HBW.out g2
     have y3:=cell_on HBW.out g3
     have hw1:=wrapI hp HL.out
     have HIB:=hideR (HIH.out d0 hd0 wr t1 _ (deep+1) c (hV.but (Abv.of HBW.out)) (by omega) hc hc2)
     rw [show ((deep+1:Nat):Int)=(deep:Int)+1 by omega] at HIB
     have HST:=hideR (fun (r:Int) (hf:few d0 t1)=>(HN.out hc).step ht1 hd0 hf)
     clear hd0 hV g0 g1 g2 g3 hC ht1 HN
     go_wp2_with fail
     refine Calls.mono (show Calls _ _ _ _ _ from HIB.out) ?_
     rintro e w3 ⟨r,rfl,hb3,hr1,hr2,hr3⟩
     have HB3:=hideR (below_go HBW.out hb3)
     have HX3:=hideR ((hb3.block _ (Array.getElem?_eq_some_iff.1 HX.out).1).trans HX.out)
     have HN3:=hideR (fun (h:0<=r)=>HST.out r (hr3 h))
     clear hb3 hr3 HIB HX HBW rF HST y0 y1 y2 y3
     go_wp2
     go_roundw
     case rel=>exact ⟨i+1,r,by first|rfl|(congr 1),rfl,hp,hr1,hr2,HN3,HB3,HX3⟩
     case measure=>simp;omega
    ·have q2:decide (c>=0)=false:=decide_eq_false hc
     clear HN hi
     go_wp2
     go_ret
     exact ⟨c,rfl,HBW.out,hc1,hc2,fun h=>absurd h (by omega)⟩
   ·have q1:decide ((i:Int)<(es.length:Int))=false:=decide_eq_false (by omega)
    have HD:=hideR (fun (h:0<=c)=>(HN.out h).all (by omega))
    clear HN hi
    go_wp2
    go_ret
    exact ⟨c,rfl,HBW.out,hc1,hc2,fun h=>few_mk hle (by simp) (HD.out h) (Fw.nil _ _)⟩
set_option maxRecDepth 100000 in
set_option maxHeartbeats 4000000 in
theorem r_LargeType (d:Nat) (w:World) (t v:Value) (h:TyV 0 d w t v):Calls Try.prog 20 #[v] w fun e w'=>∃b:Bool,e=.returned (.bool b)/\Below w.heap.size w w'/\(b=false->few d t):=by
 obtain ⟨k,x,nn,es,u,rfl,rfl,hr⟩:=h
 obtain ⟨oR,cR,hu,_⟩:=row_at hr
 have hou:u.oneCell'=true:=by rw [hu];rfl
 obtain ⟨W,hW⟩:∃W,W=w.alloc (.cells #[.int .i64 k,.string x,.int .i64 nn,u] 34):=⟨_,rfl⟩
 have hbA:Below w.heap.size w W:=by rw [hW];exact new_on' _ _
 have HX:Hid (W.heap[w.heap.size]?=some (.cells #[.int .i64 k,.string x,.int .i64 nn,u] 34 (0,0))):=hideR (by rw [hW];exact heap_alloc_new w _)
 have hV:TyV 0 d w (nd k x e0 nn es [] 0) (.agg #[.int .i64 k,.string x,.int .i64 nn,u]):=⟨k,x,nn,es,u,rfl,rfl,hr⟩
 have H:=hideR (r_wT d W (nd k x e0 nn es [] 0) (.agg #[.int .i64 k,.string x,.int .i64 nn,u]) 0 0 (hV.but (Abv.of hbA)) (by omega) (by omega) (by omega))
 rw [show ((0:Nat):Int)=0 by omega] at H
 have HBA:=hideR hbA
 generalize nd k x e0 nn es [] 0=t at *
 have c0:=put_cell HX.out 0 _ rfl
 have c1:=put_cell HX.out 1 _ rfl
 have c2:=put_cell HX.out 2 _ rfl
 have c3:=put_cell HX.out 3 _ rfl
 clear hr hu hV hbA
 go_enter Try.func20,Try.ntmps20
 go_upto_region 1 with fail
 rw [<- hW]
 clear hW
 go_wp2_with fail
 refine Calls.mono (show Calls _ _ _ _ _ from H.out) ?_
 rintro e w' ⟨r,rfl,hb,h1,h2,h3⟩
 have HB:=hideR (below_go HBA.out hb)
 have H3:=hideR h3
 clear hb h3 H HX c0 c1 c2 c3
 by_cases hr:r<0
 ·have q:decide (r<0)=true:=decide_eq_true hr
  clear H3
  go_wp2
  go_ret
  exact ⟨true,rfl,HB.out,fun h=>by cases h⟩
 ·have q:decide (r<0)=false:=decide_eq_false hr
  go_wp2
  go_ret
  exact ⟨false,rfl,HB.out,fun _=>H3.out (by omega)⟩
namespace Pz
def Stn (B:Nat) (o:Option Nat) (F:World->Prop) (u:World):Prop:=∀w',(∀k,B<=k->k<u.heap.size->o≠some k->w'.heap[k]?=u.heap[k]?)->F w'
theorem Stn.out {B:Nat} {o:Option Nat} {F:World->Prop} {u:World} (h:Stn B o F u):F u:=h u fun _ _ _ _=>rfl
theorem Stn.on {B:Nat} {o:Option Nat} {F:World->Prop} {u u':World} (h:Stn B o F u) (hb:Below u.heap.size u u'):Stn B o F u':=fun w' hw=>h w' fun k hB hk ho=>(hw k hB (Nat.lt_of_lt_of_le hk hb.size) ho).trans (hb.block k hk)
def OwN (V:Value->Value->World->Prop) (B:Nat) (e:TypeId) (sz:Nat) (u:World) (v:Value) (ts:List Value):Prop :=
 ∃xs,u.ownsRow B e sz v ts.length xs/\∀k t,ts[k]?=some t->∃cs:Array Value,cs.size=sz/\Stn B v.ownBlock (V t (.agg cs)) u/\∀j c,cs[j]?=some c->xs[k*sz+j]?=some c
section
variable {V:Value->Value->World->Prop} {B:Nat} {e:TypeId} {sz:Nat} {u u':World} {v v':Value} {ts:List Value} {t:Value}
theorem OwN.nil (V:Value->Value->World->Prop) (B:Nat) (e:TypeId) (sz:Nat) (u:World):OwN V B e sz u (.slice none 0 0) []:=⟨[],⟨by simp,.inl ⟨rfl,rfl⟩⟩,fun k t h=>(by simp at h)⟩
theorem OwN.sl (h:OwN V B e sz u v ts):∃o c,v=.slice o ts.length c:=by
 obtain ⟨xs,h1,_⟩:=h;exact own_sl h1
theorem OwN.on (h:OwN V B e sz u v ts) (hb:Below u.heap.size u u'):OwN V B e sz u' v ts:=by
 obtain ⟨xs,⟨hl,h1⟩,h3⟩:=h
 refine ⟨xs,⟨hl,?_⟩,fun k t hk=>?_⟩
 ·rcases h1 with h1|⟨g,cap,cur,rfl,hB,hg,hr⟩
  ·exact .inl h1
  ·exact .inr ⟨g,cap,cur,rfl,hB,by rw [hb.block g (Array.getElem?_eq_some_iff.1 hg).1];exact hg,hr⟩
 ·obtain ⟨cs,hc,hs',hj⟩:=h3 k t hk
  exact ⟨cs,hc,hs'.on hb,hj⟩
theorem OwN.app {xs:List Value} {cs:Array Value} (hown:u.ownsRow B e sz v ts.length xs) (hx:∀k t,ts[k]?=some t->∃cs:Array Value,cs.size=sz/\Stn B v.ownBlock (V t (.agg cs)) u/\∀j c,cs[j]?=some c->xs[k*sz+j]?=some c)
  (hown':u'.ownsRow B e sz v' (ts.length+1) (xs++cs.toList)) (hg:u.grownBy u' v.ownBlock) (hv:v'.ownBlock=v.ownBlock\/v'.ownBlock=some u.heap.size) (hc:cs.size=sz) (ht:Stn B v.ownBlock (V t (.agg cs)) u):OwN V B e sz u' v' (ts++[t]):=by
 have hst:∀(F:World->Prop),Stn B v.ownBlock F u->Stn B v'.ownBlock F u':=fun F hF w' hw=>hF w' fun k hB hk ho=>(hw k hB (Nat.lt_of_lt_of_le hk hg.size) (by
  rcases hv with h|h
  ·rw [h];exact ho
  ·rw [h];intro e;injection e with e;omega)).trans (hg.block k hk fun h=>ho h.symm)
 refine ⟨xs++cs.toList,by simpa using hown',fun k s hk=>?_⟩
 by_cases hlt:k<ts.length
 ·rw [List.getElem?_append_left hlt] at hk
  obtain ⟨ds,hd,hq,hj⟩:=hx k s hk
  refine ⟨ds,hd,hst _ hq,fun j c hc'=>?_⟩
  have:=hj j c hc'
  rw [List.getElem?_append_left (List.getElem?_eq_some_iff.1 this).1];exact this
 ·rw [List.getElem?_append_right (by omega)] at hk
  have hke:k=ts.length:=by
   have:=(List.getElem?_eq_some_iff.1 hk).1;simp at this;omega
  subst hke
  simp at hk
  subst hk
  refine ⟨cs,hc,hst _ ht,fun j c hj=>?_⟩
  rw [List.getElem?_append_right (by rw [hown.1];omega),hown.1,Nat.add_sub_cancel_left]
  simpa using hj
theorem OwN.row {F:World->Nat->Nat->Nat->Value->Prop} (hF:∀w d b o t,F w d b o t->F w (d+1) b o t) (h:OwN V B e sz u v ts) (hn:ts.length<=9223372036854775807)
  (hV:∀(w:World) (t:Value) (cs:Array Value) (b o:Nat),V t (.agg cs) w->B<=b->(∀j u,cs[j]?=some u->w.cell? ⟨b,o+j,none⟩=some u)->∃d,F w d b o t):∃d,Row sz (F u d) v ts:=by
 obtain ⟨xs,hown,hx⟩:=h
 rcases hown.2 with ⟨rfl,h0⟩|⟨g,cap,cur,rfl,hB,hg,hcp,hml,hcs,htk⟩
 ·exact ⟨0,hn,.inl ⟨List.eq_nil_of_length_eq_zero h0,none,0,rfl⟩⟩
 ·obtain ⟨d,hd⟩:=one_depth (ts:=ts) (P:=fun d k t=>F u d g (k*sz) t) (fun d e k t hde hp=>up_le (hF u) hde hp) ts.length fun k t _ hk=>by
   obtain ⟨cs,hc,hr,hj⟩:=hx k t hk
   refine hV u t cs g (k*sz) hr.out hB fun j c hc'=>put_cell hg _ c ?_
   have:=hj j c hc'
   rw [<- htk] at this
   have h2:=(List.getElem?_eq_some_iff.1 this).1
   rw [List.getElem?_take_of_lt (by rw [List.length_take] at h2;omega)] at this
   simpa using this
  exact ⟨d,hn,.inr ⟨g,0,cap,rfl,fun k t hk=>by rw [Nat.zero_add];exact hd k t (List.getElem?_eq_some_iff.1 hk).1 hk⟩⟩
end
def fewL (d:Nat) (l:List Value):Prop:=l.length<=200010/\Fw d l.length l
theorem few_parts {d:Nat} {k:Int} {x y:ByteArray} {n:Int} {es ps:List Value} {a:Int} (h:few d (nd k x y n es ps a)):fewL d es/\fewL d ps:=by
 cases d with
 | zero =>
  have h1:es = []:=h.2.1
  have h2:ps = []:=h.2.2
  subst h1;subst h2
  exact ⟨⟨by simp,Fw.nil _ _⟩,⟨by simp,Fw.nil _ _⟩⟩
 | succ d =>
  have h1:es.length<=200010:=h.2.1
  have h2:ps.length<=200010:=h.2.2.1
  have h3:∀x ∈ es,few d x:=h.2.2.2.1
  have h4:∀x ∈ ps,few d x:=h.2.2.2.2
  exact ⟨⟨h1,fun j x _ hx=>⟨d,rfl,h3 x (List.mem_of_getElem? hx)⟩⟩,⟨h2,fun j x _ hx=>⟨d,rfl,h4 x (List.mem_of_getElem? hx)⟩⟩⟩
theorem ty_eltr {d b o:Nat} {w:World} {t:Value} (h:TyC 0 w d b o t):∃d0 k x n es u,d=d0+1/\t=nd k x e0 n es [] 0/\w.cell? ⟨b,o,none⟩=some (.int .i64 k)/\w.cell? ⟨b,o+1,none⟩=some (.string x)/\w.cell? ⟨b,o+2,none⟩=some (.int .i64 n)/\w.cell? ⟨b,o+3,none⟩=some u/\Row 4 (TyC 0 w d0) u es:=by
 cases d with
 | zero=>exact h.elim
 | succ d =>
  obtain ⟨hp,k,x,n,es,v,h0,h1,h2,h3,h4,h5⟩:=h
  exact ⟨d,k,x,n,es,v,rfl,h0,h1,h2,h3,h4,h5⟩
theorem RowT.sl {B:Nat} {v:Value} {l:List Value} {w:World} (h:RowT B v l w):∃o c,v=.slice o l.length c:=by obtain ⟨d,h⟩:=h;exact Row.len h
theorem RowP.sl {B:Nat} {v:Value} {l:List Value} {w:World} (h:RowP B v l w):∃o c,v=.slice o l.length c:=by obtain ⟨d,h⟩:=h;exact Row.len h
theorem RowE.sl {B:Nat} {v:Value} {l:List Value} {w:World} (h:RowE B v l w):∃o c,v=.slice o l.length c:=by obtain ⟨d,h⟩:=h;exact Row.len h
theorem stn_call {B p:Nat} {o:Option Nat} {F:World->Prop} {wr u1 u2 u3 u4:World} (hp:p=wr.heap.size) (h1:Below wr.heap.size wr u1) (hs1:u1.heap.size=p+1) (h2:Below u1.heap.size u1 u2) (hs3:u3.heap.size=u2.heap.size) (h3:∀k,k≠p->u3.heap[k]?=u2.heap[k]?) (h4:Below u3.heap.size u3 u4)
  (ho:∀k,o=some k->k<wr.heap.size) (hB:B<=p) (hF:∀w',Abv (p+1) u2 w'->F w'):Stn B o F u4:=fun w' hw=>hF w' fun k hk hl=>by
 have hl4:u3.heap.size<=u4.heap.size:=h4.size
 rw [hw k (by omega) (by omega) (fun e=>by have:=ho k e;omega),h4.block k (by omega),h3 k (by omega)]
end Pz
def CTC (d:Nat):Prop:=∀(w:World) (l:List Value) (vl:Value),Row 4 (TyC 0 w d) vl l->fewL d l->Calls Try.prog 53 #[vl] w fun e w'=>∃v',e=.returned v'/\Below w.heap.size w w'/\RowT w.heap.size v' l w'
set_option maxRecDepth 100000 in
set_option maxHeartbeats 16000000 in
theorem r_cT:∀d:Nat,CTC d:=by
 intro d
 induction d using Nat.strongRecOn with
 | _ d ih =>
  intro w l vl hr hfw
  obtain ⟨oR,cR,rfl,hel⟩:=row_at hr
  have hle:=hfw.1
  have HL:=hideR hr.1
  have HEL:=hideR hel
  have HFW:=hideR hfw.2
  have HIH:Hid (∀d0,d=d0+1->CTC d0):=hideR (fun d0 e=>ih d0 (by omega))
  clear hr hel hfw ih
  go_enter Try.func53,Try.ntmps53
  go_wp2_with fail
  go_loopw [3,4] (fun oo aa wr=>∃(i:Nat) (vo:Value),aa=.int .i64 i/\oo=vo/\i<=l.length/\Hid (OwN (tyO w.heap.size) w.heap.size 34 4 wr vo (l.take i))/\Hid (Below w.heap.size w wr)) (fun _ aa _=>match aa with | .int _ i=>l.length-i.toNat|_=>0)
  case atStart=>exact ⟨0,_,rfl,rfl,Nat.zero_le _,hideR (OwN.nil _ _ _ _ _),hideR (Below.refl _ _)⟩
  case round =>
   obtain ⟨i,vo,rfl,rfl,hi,HO,HP⟩:=hrel
   by_cases hp:i<l.length
   ·have q1:decide ((i:Int)<(l.length:Int))=true:=decide_eq_true (by omega)
    obtain ⟨t1,ht1⟩:∃t1,l[i]?=some t1:=⟨_,List.getElem?_eq_getElem hp⟩
    obtain ⟨b,off,hoR,hC⟩:=HEL.out i t1 ht1
    subst hoR
    obtain ⟨d0,k1,x1,n1,es1,u1v,hd0,ht0,g0,g1,g2,g3,hrow⟩:=ty_eltr hC
    obtain ⟨oE,cE,rfl,_⟩:=row_at hrow
    have y0:=cell_on HP.out g0
    have y1:=cell_on HP.out g1
    have y2:=cell_on HP.out g2
    have y3:=cell_on HP.out g3
    have hw1:=wrapI hp HL.out
    have HTK:=hideR (show l.take (i+1)=l.take i++[t1] by rw [List.take_add_one,ht1];rfl)
    have hfew:fewL d0 es1:=by
     obtain ⟨d1,hd1,hf⟩:=HFW.out i t1 hp ht1
     obtain rfl:d0=d1:=by omega
     rw [ht0] at hf
     exact (few_parts hf).1
    have HT0:=hideR ht0
    obtain ⟨p,hpp⟩:∃p,p=wr.heap.size:=⟨_,rfl⟩
    obtain ⟨u1,hu1⟩:∃u1,u1=wr.alloc (.cells #[.int .i64 k1,.string x1,.int .i64 n1,.slice oE es1.length cE] 34):=⟨_,rfl⟩
    have hb1:Below wr.heap.size wr u1:=by rw [hu1];exact new_on' _ _
    have HX1:Hid (u1.heap[p]?=some (.cells #[.int .i64 k1,.string x1,.int .i64 n1,.slice oE es1.length cE] 34 (0,0))):=hideR (by rw [hu1,hpp];exact heap_alloc_new wr _)
    have HS1:Hid (u1.heap.size=p+1):=hideR (by rw [hu1,hpp];simp)
    have HB1:=hideR hb1
    have HC:=hideR (HIH.out d0 hd0 u1 es1 (.slice oE es1.length cE) (hrow.imp fun b o t _ h=>h.but (Abv.of (below_go HP.out hb1))) hfew)
    have HPP:=hideR hpp
    obtain ⟨oV,cV,hvo⟩:=HO.out.sl
    have hti:(l.take i).length=i:=by rw [List.length_take];omega
    rw [hti] at hvo
    have z3:=put_cell HX1.out 3 _ rfl
    have HU1:=hideR hu1
    clear hC g0 g1 g2 g3 hrow hfew hb1 hu1 ht1 ht0 hd0 hpp
    subst hvo
    go_upto_region 6 with fail
    rw [<- HPP.out,<- HU1.out]
    clear HU1 y0 y1 y2 y3
    go_wp2_with fail
    refine Calls.mono (show Calls _ _ _ _ _ from HC.out) ?_
    rintro e u2 ⟨v4,rfl,hb2,hr2⟩
    obtain ⟨o4,c4,rfl⟩:=hr2.sl
    have hx2:u2.heap[p]?=some (.cells #[.int .i64 k1,.string x1,.int .i64 n1,.slice oE es1.length cE] 34 (0,0)):=(hb2.block p (by rw [HS1.out];omega)).trans HX1.out
    have f3:u2.frozen? ⟨p,3,none⟩=false:=by unfold World.frozen?;rw [hx2];simp
    have z3':=put_cell hx2 3 _ rfl
    obtain ⟨u3,hu3⟩:∃u3,u3=u2.setCell ⟨p,3,none⟩ (.slice o4 es1.length c4):=⟨_,rfl⟩
    have HX3:Hid (u3.heap[p]?=some (.cells #[.int .i64 k1,.string x1,.int .i64 n1,.slice o4 es1.length c4] 34 (0,0))):=hideR (by rw [hu3];exact heap_setCell_same u2 p 3 _ _ _ hx2)
    have hs3:u3.heap.size=u2.heap.size:=by rw [hu3];simp
    have hn3:∀k,k≠p->u3.heap[k]?=u2.heap[k]?:=fun k hk=>by rw [hu3];exact Below.heap_setCell _ _ _ _ hk
    have hb12:=below_go HB1.out hb2
    have HB3:Hid (Below wr.heap.size wr u3):=hideR (by rw [hu3];exact hb12.setCell (by rw [<- HPP.out];exact Nat.le_refl _) _)
    have hBp:w.heap.size<=p:=by rw [HPP.out];exact HP.out.size
    have hn4:=new_on' u3 (.cells #[.int .i64 k1,.string x1,.int .i64 n1,.slice o4 es1.length c4] 34)
    have HST:Hid (Stn w.heap.size (Value.slice oV i cV).ownBlock (tyO w.heap.size t1 (.agg #[.int .i64 k1,.string x1,.int .i64 n1,.slice o4 es1.length c4])) (u3.alloc (.cells #[.int .i64 k1,.string x1,.int .i64 n1,.slice o4 es1.length c4] 34))):=hideR (stn_call HPP.out HB1.out HS1.out hb2 hs3 hn3 hn4 (fun k hk=>by obtain ⟨xs,ho,_⟩:=HO.out;exact (ho.lt k hk).2) hBp fun w' hw'=>by
     rw [HT0.out]
     exact tyN k1 x1 n1 (hr2.on (by rw [HS1.out];exact hw') (by rw [HS1.out];omega)))
    have HO4:=hideR ((HO.out.on HB3.out).on hn4)
    have HB4:=hideR (below_go HB3.out hn4)
    have HN4:=hideR (new_cells u3 #[.int .i64 k1,.string x1,.int .i64 n1,.slice o4 es1.length c4] 34)
    have hz4:w.heap.size<=(u3.alloc (.cells #[.int .i64 k1,.string x1,.int .i64 n1,.slice o4 es1.length c4] 34)).heap.size:=by have:=HB4.out.size;rw [<- HPP.out] at this;omega
    have kc0:=put_cell HX3.out 0 _ rfl
    have kc1:=put_cell HX3.out 1 _ rfl
    have kc2:=put_cell HX3.out 2 _ rfl
    have kc3:=put_cell HX3.out 3 _ rfl
    have HU3:=hideR hu3
    obtain ⟨i0,hi0,hz0,hz1,hz2⟩:=info_parts tyInfo
    obtain ⟨xs,hown,hxe⟩:=HO4.out
    rw [hti] at hown
    have HXE:=hideR hxe
    have HOW:=hideR hown
    clear HC HX1 hb2 hr2 hb12 hn3 hn4 hs3 hx2 z3 hu3 HB1 hxe hown
    go_upto_region 7 with fail
    rw [<- HU3.out]
    clear HU3 f3 z3'
    go_wp2_with (first|(at_builtin;refine wpList_appS rfl _ _ 32 rfl w.heap.size 34 i0 _ 4 56 Try.underlying32 hi0 hz0 hz1 hz2 rfl (by decide) _ _ _ rfl HOW.out (some ⟨u3.heap.size,0,none⟩) 1 1 [.int .i64 k1,.string x1,.int .i64 n1,.slice o4 es1.length c4] rfl ?c6 ?c0 ?c1 ?c2 ?c3 ?c4 ?c5 ?_))
    case c6=>intro h;cases h
    case c0=>rfl
    case c1=>exact fun ad h=>by injection h with h;subst h;exact HN4.out
    case c2=>intro c hc;simp only [List.mem_cons,List.not_mem_nil,or_false] at hc;rcases hc with rfl|rfl|rfl|rfl<;>rfl
    case c3=>unfold maxLen;omega
    case c4=>omega
    case c5=>exact hz4
    intro v9 w9 hown9 hg9 hv9
    have HR9:Hid (OwN (tyO w.heap.size) w.heap.size 34 4 w9 v9 (l.take (i+1))):=hideR (by
     rw [HTK.out]
     exact OwN.app (cs:=#[.int .i64 k1,.string x1,.int .i64 n1,.slice o4 es1.length c4]) (by rw [hti];exact HOW.out) HXE.out (by rw [hti];exact hown9) hg9 (by simpa using hv9) rfl HST.out)
    have HP9:Hid (Below w.heap.size w w9):=hideR ((below_go HP.out HB4.out).grown hg9 hz4 fun k hk=>by exact (HOW.out.lt k hk).1)
    obtain ⟨oN,cN,hvN⟩:=own_sl hown9
    subst hvN
    clear hown9 hg9 hv9 HOW HXE HO4 HB4 HN4 HST HX3 HB3 HO HP kc0 kc1 kc2 kc3
    go_wp2
    go_roundw
    case rel=>exact ⟨i+1,_,by first|rfl|(congr 1),rfl,hp,HR9,HP9⟩
    case measure=>simp;omega
   ·have q1:decide ((i:Int)<(l.length:Int))=false:=decide_eq_false (by omega)
    have HR:Hid (RowT w.heap.size _ l wr):=hideR (by
     have h:=HO.out
     rw [List.take_of_length_le (by omega)] at h
     exact h.row (F:=fun w' d b o t=>TyC w.heap.size w' d b o t) (fun w' d b o t h=>TyC.up d b o t h) HL.out (fun w' t cs b o hv hB hc=>ty_cells hv hB hc))
    clear HO
    go_wp2
    go_ret
    exact ⟨_,rfl,HP.out,HR.out⟩
namespace Ty
def cnL (f:Nat->Value->Nat):Nat->List Value->Nat
 | c,[]=>c
 | c,t :: l=>if 1024<c then c else cnL f (f c t) l
def cnT:Nat->Nat->Value->Nat
 | 0,c,_=>c+1
 | d+1,c,t=>cnL (cnT d) (c+1) (argsV t)
theorem cnL_full {f:Nat->Value->Nat} {c:Nat} (h:1024<c) (l:List Value):cnL f c l=c:=by
 cases l with
 | nil=>rfl
 | cons t l=>unfold cnL;rw [if_pos h]
theorem cnL_le {f:Nat->Value->Nat} (hf:∀c t,c<=1024->f c t<=1025):∀(l:List Value) (c:Nat),c<=1025->cnL f c l<=1025
 | [],c,h=>h
 | t :: l,c,h=>by
  unfold cnL
  by_cases hc:1024<c
  ·rw [if_pos hc];exact h
  ·rw [if_neg hc];exact cnL_le hf l _ (hf c t (by omega))
theorem cnT_le:∀(d c:Nat) (t:Value),c<=1024->cnT d c t<=1025
 | 0,c,t,h=>by unfold cnT;omega
 | d+1,c,t,h=>by unfold cnT;exact cnL_le (cnT_le d) _ _ (by omega)
theorem cnL_step {f:Nat->Value->Nat} {l:List Value} {i c:Nat} {t:Value} (hx:l[i]?=some t) (hc:¬ 1024<c):cnL f c (l.drop i)=cnL f (f c t) (l.drop (i+1)):=by
 have hi:=(List.getElem?_eq_some_iff.1 hx).1
 rw [List.drop_eq_getElem_cons hi,(List.getElem?_eq_some_iff.1 hx).2]
 conv=>lhs;unfold cnL
 rw [if_neg hc]
theorem wrapT {c:Nat} (h:c<=1024):wrap64 ((c:Int)+1)=((c+1:Nat):Int):=by unfold wrap64;omega
theorem le_c {c:Nat} (h:¬ 1024<c):decide ((c:Int)<=1024)=true:=decide_eq_true (by omega)
theorem gt_c {c:Nat} (h:1024<c):decide ((c:Int)<=1024)=false:=decide_eq_false (by omega)
theorem tyC_ptr {d b o:Nat} {w:World} {t:Value} (h:TyC 0 w d b o t):∃d0 k x n es oR cR,d=d0+1/\t=nd k x e0 n es [] 0/\w.cell? ⟨b,o,none⟩=some (.int .i64 k)/\w.cell? ⟨b,o+1,none⟩=some (.string x)/\w.cell? ⟨b,o+2,none⟩=some (.int .i64 n)/\w.cell? ⟨b,o+3,none⟩=some (.slice oR es.length cR)/\es.length<=9223372036854775807/\∀i x,es[i]?=some x->∃b off,oR=some ⟨b,off,none⟩/\TyC 0 w d0 b (off+i*4) x:=by
 obtain ⟨d0,k,x,n,es,u,hd,ht,h1,h2,h3,h4,hr⟩:=ty_eltr h
 obtain ⟨oR,cR,rfl,hel⟩:=row_at hr
 exact ⟨d0,k,x,n,es,oR,cR,hd,ht,h1,h2,h3,h4,hr.1,hel⟩
end Ty
open Ty
set_option maxRecDepth 100000 in
set_option maxHeartbeats 8000000 in
theorem t_counted:∀(d:Nat) (w0:World) (t:Value) (b o c:Nat),TyC 0 w0 (d+1) b o t->c<=1024->Calls Try.prog 48 #[.pointer (some ⟨b,o,none⟩),.int .i64 (c:Int)] w0 fun e w'=>e=.returned (.int .i64 ((cnT (d+1) c t:Nat):Int))/\Below w0.heap.size w0 w':=by
 intro d
 induction d using Nat.strongRecOn with
 | _ d ih =>
  intro w t b o c h hc
  obtain ⟨d0,k,x,n,es,oR,cR,hd,rfl,g0,g1,g2,g3,hlen,hel⟩:=tyC_ptr h
  obtain rfl:d=d0:=by omega
  obtain ⟨R,hR⟩:∃R,R=cnT (d+1) c (nd k x e0 n es [] 0):=⟨_,rfl⟩
  rw [<- hR]
  have ST0:Hid (cnL (cnT d) (c+1) (es.drop 0)=R):=hideR (by rw [hR];rfl)
  have CC0:Hid (c+1<=1025):=hideR (by omega)
  have BB0:Hid (Below w.heap.size w w):=hideR (Below.refl _ _)
  have HEL:=hideR hel
  have HL:=hideR hlen
  have HIH:Hid (∀d1,d=d1+1->∀(wr:World) (t:Value) (b o c:Nat),Below w.heap.size w wr->TyC 0 w d b o t->c<=1024->Calls Try.prog 48 #[.pointer (some ⟨b,o,none⟩),.int .i64 (c:Int)] wr fun e w'=>e=.returned (.int .i64 ((cnT d c t:Nat):Int))/\Below wr.heap.size wr w'):=hideR (fun d1 e wr t b o c hb h hc=>by subst e;exact ih d1 (by omega) wr t b o c (h.but (Abv.of hb)) hc)
  have hwc:=wrapT hc
  have G3:=hideR g3
  clear hR h hel hlen ih g0 g1 g2 hd
  go_enter Try.func48,Try.ntmps48
  go_wp2_with fail
  go_loopw [1,5] (fun cc aa wr=>∃i c1:Nat,aa=.int .i64 i/\cc=.int .i64 c1/\i<=es.length/\Hid (cnL (cnT d) c1 (es.drop i)=R)/\Hid (c1<=1025)/\Hid (Below w.heap.size w wr)) (fun _ aa _=>match aa with | .int _ i=>es.length-i.toNat|_=>0)
  case atStart=>exact ⟨0,c+1,rfl,by first|rfl|(congr 1),Nat.zero_le _,ST0,CC0,BB0⟩
  case round =>
   obtain ⟨i,c1,rfl,rfl,hi,HN,HC,HB⟩:=hrel
   clear ST0 CC0 BB0 hwc g3
   have g3:=cell_on HB.out G3.out
   by_cases hp:i<es.length
   ·have q1:decide ((i:Int)<(es.length:Int))=true:=decide_eq_true (by omega)
    by_cases hf:1024<c1
    ·have HS:Hid (c1=R):=hideR (by rw [<- HN.out,cnL_full hf])
     have q2:=gt_c hf
     clear HN hi hf
     go_wp2
     go_ret
     rw [<- HS.out]
     exact ⟨rfl,HB.out⟩
    ·obtain ⟨t1,ht1⟩:∃t1,es[i]?=some t1:=⟨_,List.getElem?_eq_getElem hp⟩
     obtain ⟨b1,off,hoR,hC⟩:=HEL.out i t1 ht1
     subst hoR
     have q2:=le_c hf
     have hw1:=wrapI hp HL.out
     have HS:Hid (cnL (cnT d) (cnT d c1 t1) (es.drop (i+1))=R):=hideR (by rw [<- HN.out,cnL_step ht1 hf])
     have HC1:Hid (cnT d c1 t1<=1025):=hideR (cnT_le _ _ _ (by omega))
     obtain ⟨d1,hd1⟩:∃d1,d=d1+1:=by
      cases d with
      | zero=>exact hC.elim
      | succ d1=>exact ⟨d1,rfl⟩
     have HIB:=hideR (HIH.out d1 hd1 wr t1 b1 (off+i*4) c1 HB.out hC (by omega))
     generalize cnT d c1 t1=c2 at *
     clear hd1 hC ht1 HN hf HC
     go_wp2_with fail
     refine Calls.mono (show Calls _ _ _ _ _ from HIB.out) ?_
     rintro e w3 ⟨rfl,hb3⟩
     have HB3:=hideR (below_go HB.out hb3)
     clear HIB hb3 g3
     go_wp2
     go_roundw
     case rel=>exact ⟨i+1,c2,by first|rfl|(congr 1),rfl,hp,HS,HC1,HB3⟩
     case measure=>simp;omega
   ·have q1:decide ((i:Int)<(es.length:Int))=false:=decide_eq_false (by omega)
    have HS:Hid (c1=R):=hideR (by rw [<- HN.out,List.drop_eq_nil_of_le (by omega)];rfl)
    clear HN hi
    go_wp2
    go_ret
    rw [<- HS.out]
    exact ⟨rfl,HB.out⟩
set_option maxRecDepth 100000 in
set_option maxHeartbeats 4000000 in
theorem t_Size (d:Nat) (w:World) (t v:Value) (h:TyV 0 d w t v):Calls Try.prog 21 #[v] w fun e w'=>e=.returned (.int .i64 ((cnT (d+1) 0 t:Nat):Int))/\Below w.heap.size w w':=by
 obtain ⟨k,x,n,es,u,rfl,rfl,hr⟩:=h
 obtain ⟨W,hW⟩:∃W,W=w.alloc (.cells #[.int .i64 k,.string x,.int .i64 n,u] 34):=⟨_,rfl⟩
 have hbA:Below w.heap.size w W:=by rw [hW];exact new_on' _ _
 have hX:W.heap[w.heap.size]?=some (.cells #[.int .i64 k,.string x,.int .i64 n,u] 34 (0,0)):=by rw [hW];exact heap_alloc_new w _
 have hC:TyC 0 W (d+1) w.heap.size 0 (nd k x e0 n es [] 0):=⟨Nat.zero_le _,k,x,n,es,u,rfl,put_cell hX 0 _ rfl,put_cell hX 1 _ rfl,put_cell hX 2 _ rfl,put_cell hX 3 _ rfl,hr.imp fun b o t _ h=>h.but (Abv.of hbA)⟩
 have H:=hideR (t_counted d W _ w.heap.size 0 0 hC (by omega))
 have HBA:=hideR hbA
 generalize cnT (d+1) 0 (nd k x e0 n es [] 0)=R at *
 rw [show ((0:Nat):Int)=0 by omega] at H
 clear hr hX hC hbA
 go_enter Try.func21,Try.ntmps21
 go_upto_region 1 with fail
 rw [<- hW]
 clear hW
 go_wp2_with fail
 refine Calls.mono (show Calls _ _ _ _ _ from H.out) ?_
 rintro e w' ⟨rfl,hb⟩
 have HB:=hideR (below_go HBA.out hb)
 clear hb H
 go_wp2
 go_ret
 exact ⟨rfl,HB.out⟩
end Go.Proofs.Ytkflfohoinbenaa
namespace Go.Proofs.Ytkflfohoinbenaa
open Go.RowKit Lx Pz Rep Ty
set_option linter.unusedVariables false
end Go.Proofs.Ytkflfohoinbenaa
namespace Go.Proofs.Ytkflfohoinbenaa
open Go.RowKit Rep
set_option linter.unusedVariables false
namespace Rep
theorem choose_list {α:Type} (n:Nat) (f:Nat->α->Prop) (h:∀i,i<n->∃x,f i x):∃l:List α,l.length=n/\∀i x,l[i]?=some x->f i x:=by
 induction n with
 | zero=>exact ⟨[],rfl,fun i x hx=>by simp at hx⟩
 | succ n ih =>
  obtain ⟨l,hl,hf⟩:=ih fun i hi=>h i (by omega)
  obtain ⟨x,hx⟩:=h n (by omega)
  refine ⟨l++[x],by simp [hl],fun i y hy=>?_⟩
  by_cases hi:i<n
  ·rw [List.getElem?_append_left (by omega)] at hy;exact hf i y hy
  ·have hlt:i<(l++[x]).length:=(List.getElem?_eq_some_iff.1 hy).1
   have hi':i=n:=by simp [hl] at hlt;omega
   subst hi'
   rw [<- hl] at hy
   simp at hy
   subst hy
   exact hx
theorem spot_none {w:World} {a:Addr} {v:Value} (h:w.cell? a=some v):a.spot=none:=by
 obtain ⟨b,o,sp⟩:=a
 cases sp with
 | none=>rfl
 | some x =>
  unfold World.cell? at h
  split at h<;>simp at h
theorem add_addr (b o k:Nat):(⟨b,o,none⟩:Addr).add k=⟨b,o+k,none⟩:=by
 by_cases hk:k=0
 ·subst hk;rfl
 ·simp [Addr.add,hk]
variable {H:Type} {enc:TypeId × Value->H} {P:Program} {w:World} {base:Nat} {spare:Nat->Bool} {held:Bool}
theorem field_get {fs:Array Field} {xs:List (DataW H × List MemPlace)} {cs:List Value} {n:Nat} (hl:xs.length=fs.size)
  (hall:∀(i:Nat) (f:Field),fs[i]?=some f->DataW.trod enc P w base spare held n f.type ((cs.drop f.offset).take (P.cellsOf f.type))=xs[i]?) (i:Nat) (f:Field) (hf:fs[i]?=some f) :
  ∃y,DataW.trod enc P w base spare held n f.type ((cs.drop f.offset).take (P.cellsOf f.type))=some y:=by
 have hi:i<fs.size:=(Array.getElem?_eq_some_iff.1 hf).1
 exact ⟨xs[i]'(by omega),by rw [hall i f hf,List.getElem?_eq_getElem]⟩
theorem take_one {cs:List Value} {o:Nat} {v:Value} (h:(cs.drop o).take 1 = [v]):cs[o]?=some v:=by
 have:=congrArg (·[0]?) h
 simpa [List.getElem?_take,List.getElem?_drop] using this
theorem int_field {t:TypeId} {n:Nat} {cs:List Value} {o:Nat} {y:DataW H × List MemPlace} (ht:P.underlying t=some (.int .i64)) (hc:P.cellsOf t=1) (h:DataW.trod enc P w base spare held n t ((cs.drop o).take (P.cellsOf t))=some y):∃z:Int,cs[o]?=some (.int .i64 z)/\(Lit.int .i64 z).wf=true:=by
 rw [hc] at h
 obtain ⟨z,h1,_,h2⟩:=DataW.trod_int ht h
 exact ⟨z,take_one h1,h2⟩
theorem slice_field {t e:TypeId} {n:Nat} {cs:List Value} {o:Nat} {y:DataW H × List MemPlace} (ht:P.underlying t=some (.slice e)) (hc:P.cellsOf t=1) (h:DataW.trod enc P w base spare held n t ((cs.drop o).take (P.cellsOf t))=some y):∃v,cs[o]?=some v/\DataW.trod enc P w base spare held n t [v]=some y:=by
 rw [hc] at h
 rcases DataW.trod_slice ht h with ⟨hv,_⟩|⟨a,len,cap,_,_,_,_,hv,_⟩
 ·rw [hv] at h;exact ⟨_,take_one hv,h⟩
 ·rw [hv] at h;exact ⟨_,take_one hv,h⟩
theorem row_mem {α:Type} {c:Nat} {f:Nat->Nat->α->Prop} {g:α->Prop} {v:Value} {l:List α} (h:Row c (fun b o x=>f b o x/\g x) v l):∀x ∈ l,g x:=by
 intro x hx
 rcases h.2 with ⟨rfl,_⟩|⟨b,off,cap,_,hc⟩
 ·cases hx
 ·obtain ⟨i,hi,rfl⟩:=List.getElem_of_mem hx
  exact (hc i _ (List.getElem?_eq_getElem hi)).2
end Rep
theorem cInt:Try.prog.cellsOf 3=1:=by kernel_rfl
theorem cStr:Try.prog.cellsOf 9=1:=by kernel_rfl
section Of
variable {H:Type} {enc:TypeId × Value->H} {w:World} {base:Nat} {spare:Nat->Bool} {held:Bool}
end Of
end Go.Proofs.Ytkflfohoinbenaa
namespace Go.Proofs.Ytkflfohoinbenaa
open Go.RowKit Lx Pz Rep
set_option linter.unusedVariables false
namespace Pz
theorem cTyp:Try.prog.cellsOf 34=4:=by kernel_rfl
theorem cTyps:Try.prog.cellsOf 32=1:=by kernel_rfl
section Of
variable {H:Type} {enc:TypeId × Value->H} {w:World} {base:Nat} {spare:Nat->Bool} {held:Bool}
end Of
end Pz
end Go.Proofs.Ytkflfohoinbenaa
namespace Go.Proofs.Ytkflfohoinbenaa
open Go.RowKit Lx Pz Rep Ty
set_option linter.unusedVariables false
namespace Ty
theorem heap_newA (w:World) (o:Obj) {g:Nat} (h:w.heap.size=g):(w.alloc o).heap[g]?=some o:=by rw [<- h];exact heap_alloc_new w o
theorem sizeTy':(Try.prog.info? 34).map (·.size)=some 4:=by kernel_rfl
theorem put4 {w u:World} {q:Nat} {z vs:Array Value} (hz:z.size=vs.size) (hq:u.heap[q]?=some (.cells z 34 (0,0))) (hb:Below w.heap.size w u) (hw:w.heap.size<=q) :
  ∃W,u.setCells q 0 vs.toList=W/\u.there q 0 vs.size/\W.heap[q]?=some (.cells vs 34 (0,0))/\Below w.heap.size w W/\∀k,k≠q->W.heap[k]?=u.heap[k]? :=
 ⟨_,rfl,by have:=put_there hq;rw [hz] at this;exact this,put_heap hq hz,cells_below w.heap.size q hw _ 0 w u hb,fun k hk=>cells_ne q k hk _ 0 u⟩
theorem few_one {d:Nat} {t:Value} (h:few d t):fewL (d+1) [t]:=⟨by simp,fun j x hj hx=>by
 have:j=0:=by simp at hj;omega
 subst this
 simp at hx
 subst hx
 exact ⟨d,rfl,h⟩⟩
theorem row_oneT {d:Nat} {w:World} {t:Value} {cs:Array Value} {b:Nat} (hb:w.heap[b]?=some (.cells cs 34 (0,0))) (h:TyV 0 d w t (.agg cs)):Row 4 (TyC 0 w (d+1)) (.slice (some ⟨b,0,none⟩) 1 1) [t]:=by
 obtain ⟨k,x,n,es,u,rfl,hv,hr⟩:=h
 injection hv with hv
 subst hv
 refine ⟨by simp,.inr ⟨b,0,1,rfl,fun i y hy=>?_⟩⟩
 match i,hy with
 | 0,hy =>
  injection hy with hy
  subst hy
  exact ⟨Nat.zero_le _,k,x,n,es,u,rfl,put_cell hb 0 _ rfl,put_cell hb 1 _ rfl,put_cell hb 2 _ rfl,put_cell hb 3 _ rfl,hr⟩
theorem rowT_one {B:Nat} {w:World} {v t:Value} (h:RowT B v [t] w):∃b o c k x n u,v=.slice (some ⟨b,o,none⟩) 1 c/\w.cell? ⟨b,o,none⟩=some (.int .i64 k)/\w.cell? ⟨b,o+1,none⟩=some (.string x)/\w.cell? ⟨b,o+2,none⟩=some (.int .i64 n)/\w.cell? ⟨b,o+3,none⟩=some u/\u.oneCell'=true/\tyO B t (.agg #[.int .i64 k,.string x,.int .i64 n,u]) w:=by
 obtain ⟨d,h⟩:=h
 obtain ⟨o,c,rfl,hel⟩:=row_at h
 obtain ⟨b,off,rfl,hx⟩:=hel 0 t rfl
 rw [Nat.zero_mul,Nat.add_zero] at hx
 obtain ⟨k,x,n,u,es,ht,h1,h2,h3,h4,h5,h6⟩:=ty_elt hx
 exact ⟨b,off,c,k,x,n,u,rfl,h1,h2,h3,h4,h5,h6⟩
end Ty
set_option maxRecDepth 100000 in
set_option maxHeartbeats 8000000 in
theorem t_CopyType (d:Nat) (w:World) (t v:Value) (h:TyV 0 d w t v) (hf:few d t):Calls Try.prog 38 #[v] w fun e w'=>∃v',e=.returned v'/\Below w.heap.size w w'/\tyO w.heap.size t v' w':=by
 have h':=h
 obtain ⟨k,x,n,es,u,rfl,rfl,hr⟩:=h
 obtain ⟨oR,cR,hu,_⟩:=row_at hr
 have hou:u.oneCell'=true:=by rw [hu];rfl
 obtain ⟨W,hW⟩:∃W,W=(w.alloc (.cells #[.int .i64 k,.string x,.int .i64 n,u] 34)).alloc (.cells #[.int .i64 0,.string ⟨#[]⟩,.int .i64 0,.slice none 0 0] 34):=⟨_,rfl⟩
 have hb1:=new_on' w (.cells #[.int .i64 k,.string x,.int .i64 n,u] 34)
 have hb2:=new_on' (w.alloc (.cells #[.int .i64 k,.string x,.int .i64 n,u] 34)) (.cells #[.int .i64 0,.string ⟨#[]⟩,.int .i64 0,.slice none 0 0] 34)
 have hb:Below w.heap.size w W:=by rw [hW];exact below_go hb1 hb2
 have hx:W.heap[w.heap.size]?=some (.cells #[.int .i64 k,.string x,.int .i64 n,u] 34 (0,0)):=by rw [hW,hb2.block _ (by simp)];exact heap_alloc_new w _
 have hy:W.heap[w.heap.size+1]?=some (.cells #[.int .i64 0,.string ⟨#[]⟩,.int .i64 0,.slice none 0 0] 34 (0,0)):=by rw [hW];exact heap_newA _ _ (by simp)
 have hws:W.heap.size=w.heap.size+2:=by rw [hW];simp
 have HB:=hideR hb
 have HY:=hideR hy
 have HWS:=hideR hws
 obtain ⟨t,ht⟩:∃t,t=nd k x e0 n es [] 0:=⟨_,rfl⟩
 rw [<- ht] at h' hf ⊢
 have z0:=put_cell hx 0 _ rfl
 have z1:=put_cell hx 1 _ rfl
 have z2:=put_cell hx 2 _ rfl
 have z3:=put_cell hx 3 _ rfl
 have hb3:=new_on' W (.cells #[.int .i64 k,.string x,.int .i64 n,u] 34)
 have HC:=hideR (r_cT (d+1) (W.alloc (.cells #[.int .i64 k,.string x,.int .i64 n,u] 34)) [t] (.slice (some ⟨W.heap.size,0,none⟩) 1 1) (row_oneT (heap_alloc_new W _) (h'.but (Abv.of (below_go hb hb3)))) (few_one hf))
 have HB3:=hideR (below_go hb hb3)
 have HY3:=hideR ((hb3.block _ (Array.getElem?_eq_some_iff.1 hy).1).trans hy)
 clear hr hb1 hb2 hb hx hy hws h' hf ht hu hb3
 go_enter Try.func38,Try.ntmps38
 go_upto_region 1 with fail
 rw [<- hW]
 clear hW
 go_wp2_with fail
 refine Calls.mono (show Calls _ _ _ _ _ from HC.out) ?_
 rintro e w3 ⟨v3,rfl,hb4,hr4⟩
 have HB4:=hideR (below_go HB3.out hb4)
 have hy4:=(hb4.block _ (Array.getElem?_eq_some_iff.1 HY3.out).1).trans HY3.out
 obtain ⟨b,o,c,k1,x1,n1,u1,rfl,m0,m1,m2,m3,ho1,hty⟩:=rowT_one hr4
 have hlow:w.heap.size+2<=(W.alloc (.cells #[.int .i64 k,.string x,.int .i64 n,u] 34)).heap.size:=by simp [HWS.out]
 obtain ⟨W2,hW2,hth,hbk,hbl,hne⟩:=put4 (w:=w) (z:=#[.int .i64 0,.string ⟨#[]⟩,.int .i64 0,.slice none 0 0]) (vs:=#[.int .i64 k1,.string x1,.int .i64 n1,u1]) rfl hy4 HB4.out (Nat.le_succ _)
 have HTY:Hid (tyO w.heap.size t (.agg #[.int .i64 k1,.string x1,.int .i64 n1,u1]) W2):=hideR (hty.on (fun kk hk hl=>hne kk (by omega)) (by omega))
 have HW2:=hideR hW2;have HTH:=hideR hth;have HBK:=hideR hbk;have HBL:=hideR hbl
 clear hb4 hth hbk hbl hW2 hne hty hlow hy4 HC hr4
 go_wp2_with (refine wpList_store_mid rfl 34 (.tmp 2) (.tmp 7) rfl (w.heap.size+1) 0 #[.int .i64 k1,.string x1,.int .i64 n1,u1] rfl rfl HTH.out sizeTy' (by simp [Value.oneCell'] at ho1 ⊢;exact ho1) ?_;rw [HW2.out])
 have y0:=put_cell HBK.out 0 _ rfl
 have y1:=put_cell HBK.out 1 _ rfl
 have y2:=put_cell HBK.out 2 _ rfl
 have y3:=put_cell HBK.out 3 _ rfl
 refine bodyPost_ret (v:=.agg #[.int .i64 k1,.string x1,.int .i64 n1,u1]) (by simp [results,Try.results38,go_sem,y0,y1,y2,y3]) rfl ⟨_,rfl,HBL.out,HTY.out⟩
set_option maxRecDepth 100000 in
set_option maxHeartbeats 8000000 in
theorem t_copied (d:Nat) (w:World) (t v:Value) (h:TyV 0 d w t v) (hf:few d t):Calls Try.prog 14 #[v] w fun e w'=>∃v',e=.returned v'/\Below w.heap.size w w'/\tyO w.heap.size t v' w':=by
 have h':=h
 obtain ⟨k,x,n,es,u,rfl,rfl,hr⟩:=h
 obtain ⟨oR,cR,hu,_⟩:=row_at hr
 have hou:u.oneCell'=true:=by rw [hu];rfl
 obtain ⟨W,hW⟩:∃W,W=(w.alloc (.cells #[.int .i64 k,.string x,.int .i64 n,u] 34)).alloc (.cells #[.int .i64 0,.string ⟨#[]⟩,.int .i64 0,.slice none 0 0] 34):=⟨_,rfl⟩
 have hb1:=new_on' w (.cells #[.int .i64 k,.string x,.int .i64 n,u] 34)
 have hb2:=new_on' (w.alloc (.cells #[.int .i64 k,.string x,.int .i64 n,u] 34)) (.cells #[.int .i64 0,.string ⟨#[]⟩,.int .i64 0,.slice none 0 0] 34)
 have hb:Below w.heap.size w W:=by rw [hW];exact below_go hb1 hb2
 have hx:W.heap[w.heap.size]?=some (.cells #[.int .i64 k,.string x,.int .i64 n,u] 34 (0,0)):=by rw [hW,hb2.block _ (by simp)];exact heap_alloc_new w _
 have hy:W.heap[w.heap.size+1]?=some (.cells #[.int .i64 0,.string ⟨#[]⟩,.int .i64 0,.slice none 0 0] 34 (0,0)):=by rw [hW];exact heap_newA _ _ (by simp)
 have hws:W.heap.size=w.heap.size+2:=by rw [hW];simp
 have HB:=hideR hb
 have HY:=hideR hy
 have HWS:=hideR hws
 obtain ⟨t,ht⟩:∃t,t=nd k x e0 n es [] 0:=⟨_,rfl⟩
 rw [<- ht] at h' hf ⊢
 have z0:=put_cell hx 0 _ rfl
 have z1:=put_cell hx 1 _ rfl
 have z2:=put_cell hx 2 _ rfl
 have z3:=put_cell hx 3 _ rfl
 have HC:=hideR (t_CopyType d W t (.agg #[.int .i64 k,.string x,.int .i64 n,u]) (h'.but (Abv.of hb)) hf)
 clear hr hb1 hb2 hb hx hy hws h' hf ht hu
 go_enter Try.func14,Try.ntmps14
 go_upto_region 1 with fail
 rw [<- hW]
 clear hW
 go_wp2_with fail
 refine Calls.mono (show Calls _ _ _ _ _ from HC.out) ?_
 rintro e w3 ⟨v3,rfl,hb4,hty⟩
 have HB4:=hideR (below_go HB.out hb4)
 have hy4:=(hb4.block _ (Array.getElem?_eq_some_iff.1 HY.out).1).trans HY.out
 obtain ⟨k1,x1,n1,u1,rfl,ho1⟩:=hty.val
 have hlow:w.heap.size+2<=W.heap.size:=by rw [HWS.out];exact Nat.le_refl _
 obtain ⟨W2,hW2,hth,hbk,hbl,hne⟩:=put4 (w:=w) (z:=#[.int .i64 0,.string ⟨#[]⟩,.int .i64 0,.slice none 0 0]) (vs:=#[.int .i64 k1,.string x1,.int .i64 n1,u1]) rfl hy4 HB4.out (Nat.le_succ _)
 have HTY:Hid (tyO w.heap.size t (.agg #[.int .i64 k1,.string x1,.int .i64 n1,u1]) W2):=hideR (hty.on (fun kk hk hl=>hne kk (by omega)) (by omega))
 have HW2:=hideR hW2;have HTH:=hideR hth;have HBK:=hideR hbk;have HBL:=hideR hbl
 clear hb4 hth hbk hbl hW2 hne hty hlow hy4 HC
 go_wp2_with (refine wpList_store_mid rfl 34 (.tmp 2) (.tmp 4) rfl (w.heap.size+1) 0 #[.int .i64 k1,.string x1,.int .i64 n1,u1] rfl rfl HTH.out sizeTy' (by simp [Value.oneCell'] at ho1 ⊢;exact ho1) ?_;rw [HW2.out])
 have y0:=put_cell HBK.out 0 _ rfl
 have y1:=put_cell HBK.out 1 _ rfl
 have y2:=put_cell HBK.out 2 _ rfl
 have y3:=put_cell HBK.out 3 _ rfl
 refine bodyPost_ret (v:=.agg #[.int .i64 k1,.string x1,.int .i64 n1,u1]) (by simp [results,Try.results14,go_sem,y0,y1,y2,y3]) rfl ⟨_,rfl,HBL.out,HTY.out⟩
end Go.Proofs.Ytkflfohoinbenaa
namespace Go.Proofs.Ytkflfohoinbenaa
open Go.RowKit Rep
set_option linter.unusedVariables false
namespace Rep
def Sub (w w':World):Prop:=∀b o u,w.cell? ⟨b,o,none⟩=.some u->w'.cell? ⟨b,o,none⟩=.some u
theorem Sub.refl (w:World):Sub w w:=fun _ _ _ h=>h
theorem Sub.trans {w1 w2 w3:World} (h:Sub w1 w2) (h':Sub w2 w3):Sub w1 w3:=fun b o u e=>h' b o u (h b o u e)
section On
variable {w w':World} (hb:Sub w w')
theorem Ints.sub (hb:Sub w w') {v:Value} {l:List Int} (h:Ints w v l):Ints w' v l:=Row.imp h fun _ _ _ _ h=>hb _ _ _ h
theorem InsAt.sub (hb : Sub w w') {α : Type} {f g : Value → α → Prop} (hfg : ∀ v x, f v x → g v x) {b o : Nat} {x : Ins α} (h : InsAt w f b o x) : InsAt w' g b o x :=
  ⟨hb _ _ _ h.op, hb _ _ _ h.a, hb _ _ _ h.b, hb _ _ _ h.n,
   let ⟨v, h1, h2⟩ := h.labels; ⟨v, hb _ _ _ h1, h2.sub hb⟩,
   let ⟨v, h1, h2⟩ := h.body; ⟨v, hb _ _ _ h1, hfg _ _ h2⟩,
   let ⟨v, h1, h2⟩ := h.els; ⟨v, hb _ _ _ h1, hfg _ _ h2⟩⟩
theorem At.sub (hb:Sub w w'):∀(d:Nat) (v:Value) (l:IL d),At w d v l->At w' d v l
 | 0,_,_,h=>h
 | d+1,_,_,h=>Row.imp (α:=Ins (IL d)) h fun _ _ _ _ h=>h.sub hb (At.sub hb d)
theorem FTAt.sub (hb:Sub w w') {bk o:Nat} {x:FT} (h:FTAt w bk o x):FTAt w' bk o x :=
 ⟨let ⟨v,a,b⟩:=h.params;⟨v,hb _ _ _ a,b.sub hb⟩,let ⟨v,a,b⟩:=h.results;⟨v,hb _ _ _ a,b.sub hb⟩⟩
theorem ImpAt.sub (hb:Sub w w') {bk o:Nat} {x:Imp} (h:ImpAt w bk o x):ImpAt w' bk o x:=⟨hb _ _ _ h.mod,hb _ _ _ h.name,hb _ _ _ h.type⟩
theorem FunAt.sub (hb:Sub w w') {d bk o:Nat} {x:Fun d} (h:FunAt w d bk o x):FunAt w' d bk o x :=
 ⟨hb _ _ _ h.type,let ⟨v,a,b⟩:=h.locals;⟨v,hb _ _ _ a,b.sub hb⟩,let ⟨v,a,b⟩:=h.body;⟨v,hb _ _ _ a,At.sub hb d v _ b⟩⟩
theorem LimAt.sub (hb:Sub w w') {bk o:Nat} {x:Lim} (h:LimAt w bk o x):LimAt w' bk o x:=⟨hb _ _ _ h.min,hb _ _ _ h.max,hb _ _ _ h.has⟩
theorem GloAt.sub (hb:Sub w w') {d bk o:Nat} {x:Glo d} (h:GloAt w d bk o x):GloAt w' d bk o x:=⟨hb _ _ _ h.type,hb _ _ _ h.mtb,h.init.sub hb (At.sub hb d)⟩
theorem ExpAt.sub (hb:Sub w w') {bk o:Nat} {x:Exp} (h:ExpAt w bk o x):ExpAt w' bk o x:=⟨hb _ _ _ h.name,hb _ _ _ h.kind,hb _ _ _ h.index⟩
theorem ElmAt.sub (hb:Sub w w') {d bk o:Nat} {x:Elm d} (h:ElmAt w d bk o x):ElmAt w' d bk o x:=⟨h.offset.sub hb (At.sub hb d),let ⟨v,a,b⟩:=h.funcs;⟨v,hb _ _ _ a,b.sub hb⟩⟩
theorem DatAt.sub (hb:Sub w w') {d bk o:Nat} {x:Dat d} (h:DatAt w d bk o x):DatAt w' d bk o x:=⟨h.offset.sub hb (At.sub hb d),hb _ _ _ h.bytes⟩
end On
def only (w:World) (S:Nat->Bool):World:={ w with heap:=w.heap.mapIdx fun i x=>if S i then x else .cells #[] 0 (0,0) }
structure Piece {α:Type} (R:World) (c:Nat) (f:World->Nat->Nat->α->Prop) (x:α) (cs:List Value):Prop where
 len:cs.length=c
 one:∀u ∈ cs,u.oneCell'=true
 lay:∀R' b o,Sub R R'->(∀k u,cs[k]?=.some u->R'.cell? ⟨b,o+k,none⟩=.some u)->f R' b o x
theorem Piece.sub {α:Type} {R R2:World} {c:Nat} {f:World->Nat->Nat->α->Prop} {x:α} {cs:List Value} (h:Piece R c f x cs) (hs:Sub R R2):Piece R2 c f x cs :=
 ⟨h.len,h.one,fun R' b o h' hc=>h.lay R' b o (hs.trans h') hc⟩
section App
variable {P:Program}
end App
end Rep
namespace Rep
section Blk
variable {w w':World} {b:Nat} {c0 c1 c2 c3 c4 c5 c6 c7 c8 c9:Value}
end Blk
end Rep
namespace Reg
def Tab (L:List Value) (i:Nat) (v:Value) (_:World):Prop:=v=L.getD i undef
section
variable {P:Program} {ops:Array Oper} {Q:Exit->Act->World->Prop} {id:Nat} {a0:Act} {w0:World}
theorem tab_get {a:Act} {lo j:Nat} {L:List Value} (h:a.eval (.tmp (lo+j))=L.getD j undef):a.tmps[j+lo]?.getD undef=L.getD j undef:=by
 rw [Nat.add_comm];exact ev_get h
theorem wp_tab (n lo size:Nat) (L:List Value) (hm:P.follows .mixedOrders=true) (hT:lowOk ops n=true) (hd:dstOkG ops n (fun i=>lo+i) size=true) (hs:a0.tmps.size=size)
  (hstep:∀i o a w,i<n->ops[i]?=some o->Fr a0 (fun i=>lo+i) n a->Below w0.heap.size w0 w->(∀j ∈ deps o,a.tmps[j+lo]?.getD undef=L.getD j undef)->Does P ops Q (Tab L i) o a w)
  (hend:∀a w,Fr a0 (fun i=>lo+i) n a->Below w0.heap.size w0 w->(∀i,i<n->a.eval (.tmp (lo+i))=L.getD i undef)->Q .normal a w) :
  (Code.region id ops true).wp P Q a0 w0 :=
 wp_region_all n (fun i=>lo+i) (Tab L) hm hT (fun i j _ _ h=>by have h':lo+i=lo+j:=h;omega) (fun i hi=>by rw [hs];exact dst_okG hd i hi) (fun _ _ _ _ _ h _=>h)
  (fun i o a w hi ho hF hB hG=>hstep i o a w hi ho hF hB fun j hj=>tab_get (hG j hj)) (fun a w hF hB hG=>hend a w hF hB fun i hi=>hG i hi)
theorem does_tab {p:Value->World->Prop} {o oj:Oper} {a:Act} {w:World} {j lo:Nat} {b:Bool} {L:List Value} (hg:o.guard=some (j,b)) (hj:ops[j]?=some oj) (hk:oj.dst=some (j+lo)) (hb:L.getD j undef=.bool b) (hd:a.tmps[j+lo]?.getD undef=L.getD j undef) (h:o.wp P a w (fun a' w'=>∃v,a'=a.put o.dst v/\Below w.heap.size w w'/\p v w') Q):Does P ops Q p o a w :=
 Does.wanted hg hj hk (by show a.tmps.getD (j+lo) undef=_;rw [Array.getD_eq_getD_getElem?,hd,hb]) h
end
end Reg
end Go.Proofs.Ytkflfohoinbenaa
