/- Texts that the claim needs. -/
import Derived.Test.YtkflfohoinbenaaQTS8
import Derived.Test.YtkflfohoinbenaaQTS1
namespace Go.Proofs.Ytkflfohoinbenaa
open Go.RowKit Lx Pz Rep Ty
set_option linter.unusedVariables false
namespace Ty
def z4:List Value:=[.int .i64 0,.string ⟨#[]⟩,.int .i64 0,.slice none 0 0]
structure DV (B r n:Nat) (xs:List Value) (vs:Value) (pr:Int) (u:World):Prop where
 blk:u.heap[r]?=some (.cells #[vs,.int .i64 pr] 65 (0,0))
 row:u.ownsRow B 34 4 vs n xs
 apart:vs.ownBlock≠some r
 few:n<=4096
theorem op_appT {P:Program} {w:World} {o:Oper} {a:Act} {next:Act->World->Prop} {Q:Exit->Act->World->Prop} (s x:Operand) (t:TypeId)
  (ho:o.op=.call { callee:=.builtin .append,args:=#[s,x],argTypes:=#[t,t] })
  (base:Nat) (e:TypeId) (i:TypeInfo) (z:Value) (size bytes:Nat) (ht:P.underlying t=some (.slice e)) (hi:P.info? e=some i) (hz:i.zero=some z)
  (hsize:i.size=size) (hby:i.bytes=bytes) (hzs:z.cells.size=size) (hsz:0<size)
  (v:Value) (n:Nat) (xs:List Value) (hs:a.eval s=v) (hown:w.ownsRow base e size v n xs)
  (xo:Option Addr) (m c:Nat) (news:List Value) (hx:a.eval x=.slice xo m c) (hxo:xo=none->m=0) (hl:news.length=m*size) (hnews:∀ad,xo=some ad->∀j u,news[j]?=some u->w.cell? (ad.add j)=some u) (h1:∀u ∈ news,u.oneCell'=true)
  (h63:n+m<=maxLen) (hbytes:(n+m)*bytes<=140737488355328) (hbase:base<=w.heap.size)
  (h:∀v' w',w'.ownsRow base e size v' (n+m) (xs++news)->w.grownBy w' v.ownBlock->(v'.ownBlock=v.ownBlock\/v'.ownBlock=some w.heap.size)->next (a.put o.dst v') w'):o.wp P a w next Q:=by
 obtain ⟨v',w',hr,h2,h3,h4⟩:=run_appS w base t o.type e i z size bytes ht hi hz hsize hby hzs hsz v n xs hown xo m c news hxo hl hnews h1 h63 hbytes hbase
 unfold Oper.wp
 simp [execOp,ho,resolve,invoke,builtin,hs,hx,hr,Result.andThen]
 exact h v' w' h2 h3 h4
theorem setCell_id {w:World} {g i:Nat} {cs:Array Value} {t:TypeId} {fr:Nat × Nat} {v:Value} (hg:w.heap[g]?=some (.cells cs t fr)) (hv:cs[i]?=some v):w.setCell ⟨g,i,none⟩ v=w:=by
 have hcs:cs.setIfInBounds i v=cs:=by
  apply Array.ext_getElem?
  intro k
  rw [Array.getElem?_setIfInBounds]
  by_cases h:i=k
  ·subst h
   rw [if_pos rfl,if_pos (Array.getElem?_eq_some_iff.1 hv).1,hv]
  ·rw [if_neg h]
 have h:(w.setCell ⟨g,i,none⟩ v).heap=w.heap:=by
  apply Array.ext_getElem?
  intro k
  by_cases hk:k=g
  ·subst hk
   rw [hg]
   unfold World.setCell
   show (w.heap.modify k _)[k]?=_
   rw [Array.getElem?_modify,if_pos rfl,hg]
   simp [hcs]
  ·exact Below.heap_setCell _ _ _ _ hk
 have h2:w.setCell ⟨g,i,none⟩ v={ w with heap:=(w.setCell ⟨g,i,none⟩ v).heap }:=rfl
 rw [h2,h]
def dG (w:World) (B r q n:Nat) (xs:List Value) (vs:Value) (pr:Int) (i:Nat) (v:Value) (u:World):Prop :=
 if i=3 then v=vs
 else if i=4 then v=.agg #[.int .i64 0,.string ⟨#[]⟩,.int .i64 0,.slice none 0 0]
 else if i=5 then v=.int .i64 (n:Int)
 else if i=6 then ∃c,v=.slice (some ⟨c,0,none⟩) 1 1/\w.heap.size<=c/\c≠q/\u.heap[c]?=some (.cells #[.int .i64 0,.string ⟨#[]⟩,.int .i64 0,.slice none 0 0] 34 (0,0))
 else if i=7 then u.ownsRow B 34 4 v (n+1) (xs++z4)/\(∀k,v.ownBlock=some k->vs.ownBlock=some k\/q<k)
 else if i=8 then ∃g cs,v=.pointer (some ⟨g,n*4,none⟩)/\g≠r/\u.heap[g]?=some (.cells cs 34 (0,0))/\∀j x,z4[j]?=some x->cs[n*4+j]?=some x
 else if i=9 then True
 else if i=12 then ∃v',u.heap[r]?=some (.cells #[v',.int .i64 pr] 65 (0,0))/\u.ownsRow B 34 4 v' (n+1) (xs++z4)/\(∀k,v'.ownBlock=some k->vs.ownBlock=some k\/q<k)
 else v=.pointer (some ⟨r,0,none⟩)
def dT (r:Nat) (vs:Value) (k:Nat) (u u':World):Prop :=
 if k=6 then Below u.heap.size u u' else if k=7 then u.grownBy u' vs.ownBlock else if k=12 then ∃x,u'=u.setCell ⟨r,0,none⟩ x else u'=u
def dR (B r n:Nat) (xs:List Value) (vs:Value) (pr:Int) (i:Nat) (u:World):Prop :=
 (i=3->u.heap[r]?=some (.cells #[vs,.int .i64 pr] 65 (0,0)))/\(i=7->u.ownsRow B 34 4 vs n xs)
def dK (w:World) (r q:Nat) (vs:Value) (pr:Int) (u:World):Prop:=Kp r vs.ownBlock w u/\u.heap[q]?=some (.cells #[.int .i64 0,.string ⟨#[]⟩,.int .i64 0,.slice none 0 0] 34 (0,0))/\∃x,u.heap[r]?=some (.cells #[x,.int .i64 pr] 65 (0,0))
def dS (i:Nat):Nat:=if i<9 then 3+i else if i=9 then 14 else if i=10 then 12 else if i=11 then 13 else 15
theorem _root_.Go.Proofs.Ytkflfohoinbenaa.Reg.Fr.mono13 {a0 a:Act} (h:Reg.Fr a0 dS 13 a):Reg.Fr a0 (fun i=>3+i) 13 a:=⟨h.defers,h.size,fun k hk=>h.rest k fun i hi=>by
 have h1:=fun j (hj:j<13)=>hk j hj
 unfold dS
 intro e
 have hlo:3<=k/\k<16:=by split at e<;>(try split at e)<;>(try split at e)<;>(try split at e)<;>omega
 exact h1 (k-3) (by omega) (by show 3+(k-3)=k;omega)⟩
theorem row_bel {w w':World} {B n size:Nat} {e:TypeId} {v:Value} {xs:List Value} (h:w.ownsRow B e size v n xs) (hb:Below w.heap.size w w'):w'.ownsRow B e size v n xs:=by
 refine ⟨h.1,h.2.imp id ?_⟩
 rintro ⟨g,cap,cur,rfl,hB,hg,hr⟩
 exact ⟨g,cap,cur,rfl,hB,(hb.block g (Array.getElem?_eq_some_iff.1 hg).1).trans hg,hr⟩
theorem row_set {w:World} {B n size r o:Nat} {e:TypeId} {v x:Value} {xs:List Value} (h:w.ownsRow B e size v n xs) (hr:v.ownBlock≠some r):(w.setCell ⟨r,o,none⟩ x).ownsRow B e size v n xs:=by
 refine ⟨h.1,h.2.imp id ?_⟩
 rintro ⟨g,cap,cur,rfl,hB,hg,hc⟩
 exact ⟨g,cap,cur,rfl,hB,(Below.heap_setCell _ _ _ _ (fun e=>hr (by have e':g=r:=e;rw [e'];rfl))).trans hg,hc⟩
end Ty
set_option maxRecDepth 100000 in
set_option maxHeartbeats 8000000 in
theorem t_dFresh {B r n:Nat} {xs:List Value} {vs:Value} {pr:Int} {w:World} (h:DV B r n xs vs pr w) (hB:B<=w.heap.size) (hn:n<4096):Calls Try.prog 33 #[.pointer (some ⟨r,0,none⟩)] w fun e w'=>e=.returned (.agg #[.int .i64 2,.string ⟨#[]⟩,.int .i64 ((n:Int)+1),.slice none 0 0])/\Kp r vs.ownBlock w w'/\∃vs',DV B r (n+1) (xs++z4) vs' pr w'/\∀k,vs'.ownBlock=some k->vs.ownBlock=some k\/w.heap.size<k:=by
 obtain ⟨W,hW⟩:∃W,W=w.alloc (.cells #[.int .i64 0,.string ⟨#[]⟩,.int .i64 0,.slice none 0 0] 34):=⟨_,rfl⟩
 have hb:Below w.heap.size w W:=by rw [hW];exact new_on' _ _
 have hx:W.heap[w.heap.size]?=some (.cells #[.int .i64 0,.string ⟨#[]⟩,.int .i64 0,.slice none 0 0] 34 (0,0)):=by rw [hW];exact heap_alloc_new w _
 have hrw:r<w.heap.size:=(Array.getElem?_eq_some_iff.1 h.blk).1
 have hown:∀k,vs.ownBlock=some k->k<w.heap.size:=fun k e=>(h.row.lt k e).2
 have hr1:=(hb.block r hrw).trans h.blk
 have hrow:W.ownsRow B 34 4 vs n xs:=by rw [hW];exact h.row.alloc _
 obtain ⟨oN,cN,hvN⟩:=own_sl h.row
 have HDV:=hideR h
 have HR1:=hideR hr1
 have HROW:=hideR hrow
 have HOWN:=hideR (And.intro hrw hown)
 have HX:=hideR hx
 have HB0:=hideR hb
 have HBB:=hideR (And.intro hB hn)
 have HVN:=hideR hvN
 obtain ⟨i0,hi0,hz0,hz1,hz2⟩:=info_parts tyInf
 have HI:=hideR (And.intro hi0 (And.intro hz0 (And.intro hz1 hz2)))
 clear h hr1 hrow hrw hown hx hb hB hn hvN hi0 hz0 hz1 hz2
 go_enter Try.func33,Try.ntmps33
 go_upto_region 1 with fail
 rw [<- hW]
 clear hW
 refine Reg.wp_region_effz 13 20 dS [9,12] [12] (dT r vs) (dK w r w.heap.size vs pr) (dR B r n xs vs pr) (dG w B r w.heap.size n xs vs pr) (by kernel_rfl) (by kernel_rfl) (by kernel_rfl) (by kernel_rfl) rfl ?hN ?hstab ?hres ?hK ?hstep ?hend ?hK0 ?hR0
 case hN =>
  intro i hi v v' u hg
  have hi':i=9\/i=12:=by simpa using hi
  rcases hi' with rfl|rfl<;>exact hg
 case hstab =>
  intro i k v u u' hi hk hne hcl _ hK hg hT
  have hlt:=HOWN.out
  rcases (by omega:k=6\/k=7\/k=12\/(k≠6/\k≠7/\k≠12)) with rfl|rfl|rfl|⟨k6,k7,k12⟩
  ·have hb:Below u.heap.size u u':=hT
   rcases (by omega:i=7\/i=8\/i=12\/(i≠6/\i≠7/\i≠8/\i≠12)) with rfl|rfl|rfl|⟨i6,i7,i8,i12⟩
   ·have hg':u.ownsRow B 34 4 v (n+1) (xs++z4)/\(∀k,v.ownBlock=some k->vs.ownBlock=some k\/w.heap.size<k):=hg
    exact (show dG w B r w.heap.size n xs vs pr 7 v u' from ⟨row_bel hg'.1 hb,hg'.2⟩)
   ·obtain ⟨g,cs,h1,h2,h3,h4⟩:∃g cs,v=.pointer (some ⟨g,n*4,none⟩)/\g≠r/\u.heap[g]?=some (.cells cs 34 (0,0))/\∀j x,z4[j]?=some x->cs[n*4+j]?=some x:=hg
    exact (show dG w B r w.heap.size n xs vs pr 8 v u' from ⟨g,cs,h1,h2,(hb.block g (Array.getElem?_eq_some_iff.1 h3).1).trans h3,h4⟩)
   ·obtain ⟨v',h1,h2,h3⟩:∃v',u.heap[r]?=some (.cells #[v',.int .i64 pr] 65 (0,0))/\u.ownsRow B 34 4 v' (n+1) (xs++z4)/\(∀k,v'.ownBlock=some k->vs.ownBlock=some k\/w.heap.size<k):=hg
    exact (show dG w B r w.heap.size n xs vs pr 12 v u' from ⟨v',(hb.block r (Array.getElem?_eq_some_iff.1 h1).1).trans h1,row_bel h2 hb,h3⟩)
   ·unfold dG at hg ⊢
    simp only [if_neg i6,if_neg i7,if_neg i8,if_neg i12] at hg ⊢
    exact hg
  ·have hb:u.grownBy u' vs.ownBlock:=hT
   rcases (by omega:i=6\/i=8\/i=12\/(i≠6/\i≠7/\i≠8/\i≠12)) with rfl|rfl|rfl|⟨i6,i7,i8,i12⟩
   ·obtain ⟨c,h1,h2,h3,h4⟩:∃c,v=.slice (some ⟨c,0,none⟩) 1 1/\w.heap.size<=c/\c≠w.heap.size/\u.heap[c]?=some (.cells #[.int .i64 0,.string ⟨#[]⟩,.int .i64 0,.slice none 0 0] 34 (0,0)):=hg
    exact (show dG w B r w.heap.size n xs vs pr 6 v u' from ⟨c,h1,h2,h3,(hb.block c (Array.getElem?_eq_some_iff.1 h4).1 (fun e=>by have:=hlt.2 c e.symm;omega)).trans h4⟩)
   ·exact Bool.noConfusion (hcl.symm.trans (by kernel_rfl:_=true))
   ·exact Bool.noConfusion (hcl.symm.trans (by kernel_rfl:_=true))
   ·unfold dG at hg ⊢
    simp only [if_neg i6,if_neg i7,if_neg i8,if_neg i12] at hg ⊢
    exact hg
  ·obtain ⟨x,rfl⟩:∃x,u'=u.setCell ⟨r,0,none⟩ x:=hT
   rcases (by omega:i=6\/i=7\/i=8\/(i≠6/\i≠7/\i≠8/\i≠12)) with rfl|rfl|rfl|⟨i6,i7,i8,i12⟩
   ·obtain ⟨c,h1,h2,h3,h4⟩:∃c,v=.slice (some ⟨c,0,none⟩) 1 1/\w.heap.size<=c/\c≠w.heap.size/\u.heap[c]?=some (.cells #[.int .i64 0,.string ⟨#[]⟩,.int .i64 0,.slice none 0 0] 34 (0,0)):=hg
    exact (show dG w B r w.heap.size n xs vs pr 6 v (u.setCell ⟨r,0,none⟩ x) from ⟨c,h1,h2,h3,(Below.heap_setCell _ _ _ _ (by show c≠r;have:=hlt.1;omega)).trans h4⟩)
   ·have hg':u.ownsRow B 34 4 v (n+1) (xs++z4)/\(∀k,v.ownBlock=some k->vs.ownBlock=some k\/w.heap.size<k):=hg
    exact (show dG w B r w.heap.size n xs vs pr 7 v (u.setCell ⟨r,0,none⟩ x) from ⟨row_set hg'.1 (fun e=>by rcases hg'.2 r e with h|h;exact HDV.out.apart h;have:=hlt.1;omega),hg'.2⟩)
   ·obtain ⟨g,cs,h1,h2,h3,h4⟩:∃g cs,v=.pointer (some ⟨g,n*4,none⟩)/\g≠r/\u.heap[g]?=some (.cells cs 34 (0,0))/\∀j x,z4[j]?=some x->cs[n*4+j]?=some x:=hg
    exact (show dG w B r w.heap.size n xs vs pr 8 v (u.setCell ⟨r,0,none⟩ x) from ⟨g,cs,h1,h2,(Below.heap_setCell _ _ _ _ h2).trans h3,h4⟩)
   ·unfold dG at hg ⊢
    simp only [if_neg i6,if_neg i7,if_neg i8,if_neg i12] at hg ⊢
    exact hg
  ·have e:u'=u:=by unfold dT at hT;rw [if_neg k6,if_neg k7,if_neg k12] at hT;exact hT
   subst e;exact hg
 case hres =>
  intro i k u u' hi hk hne hcl hK hR hT
  have hlt:=HOWN.out
  rcases (by omega:k=6\/k=7\/k=12\/(k≠6/\k≠7/\k≠12)) with rfl|rfl|rfl|⟨k6,k7,k12⟩
  ·have hb:Below u.heap.size u u':=hT
   exact ⟨fun e=>(hb.block r (Array.getElem?_eq_some_iff.1 (hR.1 e)).1).trans (hR.1 e),fun e=>row_bel (hR.2 e) hb⟩
  ·have hb:u.grownBy u' vs.ownBlock:=hT
   exact ⟨fun e=>(hb.block r (Array.getElem?_eq_some_iff.1 (hR.1 e)).1 (fun e2=>HDV.out.apart e2.symm)).trans (hR.1 e),fun e=>absurd e hne⟩
  ·obtain ⟨x,rfl⟩:∃x,u'=u.setCell ⟨r,0,none⟩ x:=hT
   refine ⟨fun e=>?_,fun e=>row_set (hR.2 e) HDV.out.apart⟩
   subst e
   exact Bool.noConfusion (hcl.symm.trans (by kernel_rfl:_=true))
  ·have e:u'=u:=by unfold dT at hT;rw [if_neg k6,if_neg k7,if_neg k12] at hT;exact hT
   subst e;exact hR
 case hK =>
  intro k u u' hk ⟨h1,h2,y,h3⟩ hT
  have hlt:=HOWN.out
  rcases (by omega:k=6\/k=7\/k=12\/(k≠6/\k≠7/\k≠12)) with rfl|rfl|rfl|⟨k6,k7,k12⟩
  ·have hb:Below u.heap.size u u':=hT
   exact ⟨h1.of hb h1.size,(hb.block _ (Array.getElem?_eq_some_iff.1 h2).1).trans h2,y,(hb.block _ (Array.getElem?_eq_some_iff.1 h3).1).trans h3⟩
  ·have hb:u.grownBy u' vs.ownBlock:=hT
   exact ⟨h1.grown hb,(hb.block _ (Array.getElem?_eq_some_iff.1 h2).1 (fun e=>by have:=hlt.2 _ e.symm;omega)).trans h2,y,(hb.block _ (Array.getElem?_eq_some_iff.1 h3).1 (fun e=>HDV.out.apart e.symm)).trans h3⟩
  ·obtain ⟨x,rfl⟩:∃x,u'=u.setCell ⟨r,0,none⟩ x:=hT
   exact ⟨h1.set _ _,(Below.heap_setCell _ _ _ _ (by show w.heap.size≠r;have:=hlt.1;omega)).trans h2,x,heap_setCell_same u r 0 _ _ _ h3⟩
  ·have e:u'=u:=by unfold dT at hT;rw [if_neg k6,if_neg k7,if_neg k12] at hT;exact hT
   subst e;exact ⟨h1,h2,y,h3⟩
 case hstep =>
  intro i o a u hi ho hF hK hR hd
  have f0:a.tmps[0]?.getD undef=.pointer (some ⟨r,0,none⟩):=Reg.ev_get (hF.eval 0 (fun i hi=>by unfold dS;split<;>(try split)<;>(try split)<;>(try split)<;>omega))
  obtain ⟨hk1,hk2,y,hk3⟩:=hK
  have hqs:w.heap.size<u.heap.size:=(Array.getElem?_eq_some_iff.1 hk2).1
  have hvn:=HVN.out
  have f3:u.frozen? ⟨r,0,none⟩=false:=by unfold World.frozen?;rw [hk3];simp
  have y0:=put_cell hk3 0 _ rfl
  have ptr:∀j,j ∈ Reg.deps o->(j=0\/j=1\/j=2\/j=10\/j=11)->a.tmps[dS j]?.getD undef=.pointer (some ⟨r,0,none⟩):=fun j hj hc=>by
   have h:=hd j hj
   rcases hc with rfl|rfl|rfl|rfl|rfl<;>exact Reg.ev_get h
  rcases (by omega:(i=0\/i=1\/i=2\/i=10\/i=11)\/i=3\/i=4\/i=5\/i=6\/i=7\/i=8\/i=9\/i=12) with hc|rfl|rfl|rfl|rfl|rfl|rfl|rfl|rfl
  ·clear hd hR
   rcases hc with rfl|rfl|rfl|rfl|rfl
   all_goals (
    simp only [List.getElem?_toArray,List.getElem?_cons_succ,List.getElem?_cons_zero,Option.some.injEq] at ho
    subst ho
    refine Reg.step_k fun Z9 hZ=>?_
    simp [Reg.deps,Region.binds,dS] at ptr
    go_simp
    first
    | exact hZ _ _ ⟨_,rfl,rfl,rfl⟩
    | exact hZ _ _ ⟨_,rfl,rfl,by show _=Value.pointer (some ⟨r,0,none⟩);simp [*]⟩)
  ·have hr3:=hR.1 rfl
   have y3:=put_cell hr3 0 _ rfl
   clear hd hR y0
   simp only [List.getElem?_toArray,List.getElem?_cons_succ,List.getElem?_cons_zero,Option.some.injEq] at ho
   subst ho
   refine Reg.step_k fun Z9 hZ=>?_
   simp [Reg.deps,Region.binds,dS] at ptr
   go_simp
   exact hZ _ _ ⟨_,rfl,rfl,(show dG w B r w.heap.size n xs vs pr 3 (.slice oN n cN) u from hvn.symm)⟩
  ·clear hd hR ptr
   simp only [List.getElem?_toArray,List.getElem?_cons_succ,List.getElem?_cons_zero,Option.some.injEq] at ho
   subst ho
   refine Reg.step_k fun Z9 hZ=>?_
   go_simp
   exact hZ _ _ ⟨_,rfl,rfl,rfl⟩
  ·simp only [List.getElem?_toArray,List.getElem?_cons_succ,List.getElem?_cons_zero,Option.some.injEq] at ho
   subst ho
   have h3:a.tmps[6]?.getD undef=.slice oN n cN:=(Reg.ev_get (show a.eval (.tmp 6)=vs from hd 3 (by decide))).trans hvn
   clear hd hR ptr
   refine Reg.step_k fun Z9 hZ=>?_
   go_simp
   exact hZ _ _ ⟨_,rfl,rfl,rfl⟩
  ·clear hd hR ptr
   simp only [List.getElem?_toArray,List.getElem?_cons_succ,List.getElem?_cons_zero,Option.some.injEq] at ho
   subst ho
   refine Reg.step_k fun Z9 hZ=>?_
   go_simp
   exact hZ _ _ ⟨_,rfl,new_on' _ _,⟨u.heap.size,rfl,by omega,by omega,heap_alloc_new u _⟩⟩
  ·have hrow:=hR.2 rfl
   simp only [List.getElem?_toArray,List.getElem?_cons_succ,List.getElem?_cons_zero,Option.some.injEq] at ho
   subst ho
   have h3:a.eval (.tmp 6)=vs:=hd 3 (by decide)
   obtain ⟨c,h6,hc1,hc2,hc3⟩:∃c,a.eval (.tmp 9)=.slice (some ⟨c,0,none⟩) 1 1/\w.heap.size<=c/\c≠w.heap.size/\u.heap[c]?=some (.cells #[.int .i64 0,.string ⟨#[]⟩,.int .i64 0,.slice none 0 0] 34 (0,0)):=hd 6 (by decide)
   obtain ⟨hi0,hz0,hz1,hz2⟩:=HI.out
   refine op_appT (.tmp 6) (.tmp 9) 32 rfl B 34 i0 _ 4 56 (by kernel_rfl) hi0 hz0 hz1 hz2 rfl (by decide) vs n xs h3 hrow (some ⟨c,0,none⟩) 1 1 z4 h6 (fun h=>by cases h) rfl (fun ad h=>by
    injection h with h
    subst h
    intro j x hx
    rw [show (⟨c,0,none⟩:Addr).add j=⟨c,j,none⟩ by unfold Addr.add;split<;>simp_all]
    exact put_cell hc3 j x ((show (#[.int .i64 0,.string ⟨#[]⟩,.int .i64 0,.slice none 0 0]:Array Value)[j]?=z4[j]? by simp [z4]).trans hx)) (fun x hx=>by simp only [z4,List.mem_cons,List.not_mem_nil,or_false] at hx;rcases hx with rfl|rfl|rfl|rfl<;>rfl) (by have:=HBB.out.2;unfold maxLen;omega) (by have:=HBB.out.2;omega) (by have:=HBB.out.1;omega) fun v' w' h1 h2 h4=>?_
   have hlt:=HOWN.out
   exact ⟨v',rfl,h2,⟨h1,fun k e=>by
    rcases h4 with h5|h5
    ·exact .inl (h5.symm.trans e)
    ·rw [h5] at e;injection e with e;exact .inr (by omega)⟩⟩
  ·simp only [List.getElem?_toArray,List.getElem?_cons_succ,List.getElem?_cons_zero,Option.some.injEq] at ho
   subst ho
   have h5:a.tmps[8]?.getD undef=.int .i64 (n:Int):=Reg.ev_get (show a.eval (.tmp 8)=_ from hd 5 (by decide))
   obtain ⟨h7,h7o⟩:u.ownsRow B 34 4 (a.eval (.tmp 10)) (n+1) (xs++z4)/\(∀k,(a.eval (.tmp 10)).ownBlock=some k->vs.ownBlock=some k\/w.heap.size<k):=hd 7 (by decide)
   obtain ⟨hxl,h7'⟩:=h7
   rcases h7' with ⟨_,h0⟩|⟨g,cap,cur,hv,hBg,hg,hc1,hc2,hc3,hc4⟩
   ·omega
   ·have h10:=Reg.ev_get hv
    rw [hv] at h7o
    have hgr:g≠r:=fun e=>by
     rcases h7o r (by rw [e];rfl) with h|h
     ·exact HDV.out.apart h
     ·have:=HOWN.out.1;omega
    have hxs:xs.length=n*4:=by have:=hxl;simp [z4] at this;omega
    have hcells:∀j x,z4[j]?=some x->cur[n*4+j]?=some x:=fun j x hx=>by
     have hj:j<4:=(List.getElem?_eq_some_iff.1 hx).1
     have h1:(xs++z4)[n*4+j]?=some x:=by rw [List.getElem?_append_right (by omega),hxs,Nat.add_sub_cancel_left];exact hx
     rw [<- hc4,List.getElem?_take_of_lt (by omega)] at h1
     simpa using h1
    have q1:decide ((n:Int)<((n+1:Nat):Int))=true:=decide_eq_true (by omega)
    have q2:decide ((n:Int)<(n:Int)+1)=true:=decide_eq_true (by omega)
    clear hd hR ptr hv h7o
    refine Reg.step_k fun Z9 hZ=>?_
    go_simp
    rw [if_pos (show (n:Int)<(n:Int)+1 by omega)]
    exact hZ _ _ ⟨_,rfl,(show dT r vs 8 u u from rfl),(show dG w B r w.heap.size n xs vs pr 8 (.pointer (some ⟨g,n*4,none⟩)) u from ⟨g,cur,rfl,hgr,hg,hcells⟩)⟩
  ·simp only [List.getElem?_toArray,List.getElem?_cons_succ,List.getElem?_cons_zero,Option.some.injEq] at ho
   subst ho
   have h4:a.tmps[7]?.getD undef=.agg #[.int .i64 0,.string ⟨#[]⟩,.int .i64 0,.slice none 0 0]:=Reg.ev_get (show a.eval (.tmp 7)=_ from hd 4 (by decide))
   obtain ⟨g,cs,h8,hgr,hg,hcells⟩:∃g cs,a.eval (.tmp 11)=.pointer (some ⟨g,n*4,none⟩)/\g≠r/\u.heap[g]?=some (.cells cs 34 (0,0))/\∀j x,z4[j]?=some x->cs[n*4+j]?=some x:=hd 8 (by decide)
   have h11:=Reg.ev_get h8
   have e0':=setCell_id hg (hcells 0 _ rfl)
   have e1':=setCell_id hg (hcells 1 _ rfl)
   have e2':=setCell_id hg (hcells 2 _ rfl)
   have e3':=setCell_id hg (hcells 3 _ rfl)
   have b0:=put_cell hg _ _ (hcells 0 _ rfl)
   have b1:=put_cell hg _ _ (hcells 1 _ rfl)
   have b2:=put_cell hg _ _ (hcells 2 _ rfl)
   have b3:=put_cell hg _ _ (hcells 3 _ rfl)
   rw [Nat.add_zero] at e0' b0
   have ff:∀j,u.frozen? ⟨g,j,none⟩=false:=fun j=>by unfold World.frozen?;rw [hg];simp
   clear hd hR ptr h8
   refine Reg.step_k fun Z9 hZ=>?_
   go_simp
   exact hZ _ _ ⟨.pointer none,rfl,rfl,trivial⟩
  ·simp only [List.getElem?_toArray,List.getElem?_cons_succ,List.getElem?_cons_zero,Option.some.injEq] at ho
   subst ho
   have h11:=ptr 11 (by decide) (by decide)
   obtain ⟨h7,h7o⟩:u.ownsRow B 34 4 (a.eval (.tmp 10)) (n+1) (xs++z4)/\(∀k,(a.eval (.tmp 10)).ownBlock=some k->vs.ownBlock=some k\/w.heap.size<k):=hd 7 (by decide)
   obtain ⟨v7,hv7⟩:∃v7,a.eval (.tmp 10)=v7:=⟨_,rfl⟩
   rw [hv7] at h7 h7o
   have h10:=Reg.ev_get hv7
   obtain ⟨oM,cM,hvM⟩:=own_sl h7
   subst hvM
   have hr5:=heap_setCell_same u r 0 _ _ (Value.slice oM (n+1) cM) hk3
   clear hd hR ptr hv7
   simp [dS] at h11
   refine Reg.step_k fun Z9 hZ=>?_
   go_simp
   exact hZ _ _ ⟨.pointer none,rfl,⟨_,rfl⟩,⟨_,hr5,row_set h7 (fun e=>by rcases h7o r e with h|h;exact HDV.out.apart h;have:=HOWN.out.1;omega),h7o⟩⟩
 case hend =>
  intro a u hF hK hG
  obtain ⟨v',h1,h2,h34⟩:∃v',u.heap[r]?=some (.cells #[v',.int .i64 pr] 65 (0,0))/\u.ownsRow B 34 4 v' (n+1) (xs++z4)/\(∀k,v'.ownBlock=some k->vs.ownBlock=some k\/w.heap.size<k):=hG 12 (by simp) (by omega)
  have h3:v'.ownBlock≠some r:=fun e=>by
   rcases h34 r e with h|h
   ·exact HDV.out.apart h
   ·have:=HOWN.out.1;omega
  have h4:v'.ownBlock≠some w.heap.size:=fun e=>by
   rcases h34 _ e with h|h
   ·have:=HOWN.out.2 _ h;omega
   ·omega
  have H34:=hideR h34
  have hF2:=Reg.Fr.mono13 hF
  obtain ⟨xl,hxl,rfl,hev⟩:=hF2.lit (by simp)
  obtain ⟨s0,s1,s2,s3,s4,s5,s6,s7,s8,s9,s10,s11,s12,rfl⟩:=plen13 hxl
  obtain ⟨oM,cM,hvM⟩:=own_sl h2
  subst hvM
  obtain ⟨hk1,hk2,_⟩:=hK
  have y0:=put_cell h1 0 _ rfl
  obtain ⟨W5,hW5⟩:∃W5,W5=u.setCells w.heap.size 0 (#[.int .i64 2,.string ⟨#[]⟩,.int .i64 ((n:Int)+1),.slice none 0 0]:Array Value).toList:=⟨_,rfl⟩
  have hth:u.there w.heap.size 0 (#[.int .i64 2,.string ⟨#[]⟩,.int .i64 ((n:Int)+1),.slice none 0 0]:Array Value).size:=by have h:=put_there hk2;exact h
  have hbk:W5.heap[w.heap.size]?=some (.cells #[.int .i64 2,.string ⟨#[]⟩,.int .i64 ((n:Int)+1),.slice none 0 0] 34 (0,0)):=by rw [hW5];exact put_heap hk2 rfl
  have hn5:∀k,k≠w.heap.size->W5.heap[k]?=u.heap[k]?:=fun k hk=>by rw [hW5];exact cells_ne w.heap.size k hk _ 0 u
  have HK5:=hideR (show Kp r vs.ownBlock w W5 from hk1.of (by rw [hW5];exact cells_below w.heap.size w.heap.size (Nat.le_refl _) _ 0 u u (Below.refl _ _)) (Nat.le_refl _))
  have hrne:r≠w.heap.size:=by have:=HOWN.out.1;omega
  have HDV2:Hid (DV B r (n+1) (xs++z4) (.slice oM (n+1) cM) pr W5):=hideR ⟨(hn5 r hrne).trans h1,⟨h2.1,h2.2.imp id (by
   rintro ⟨g,cap,cur,hv,hBg,hg,hc⟩
   exact ⟨g,cap,cur,hv,hBg,(hn5 g (fun e=>h4 (by rw [hv,e];rfl))).trans hg,hc⟩)⟩,h3,by have:=HBB.out.2;omega⟩
  have HW5:=hideR hW5;have HTH:=hideR hth;have HBK:=hideR hbk
  have q9:((n+1:Nat):Int)=(n:Int)+1:=by omega
  clear hev hxl hF hF2 hG h1 h2 h3 h4 h34 hk1 hk2 hW5 hth hbk hn5 hrne HDV HR1 HROW HX HB0 HI
  simp only [List.take_succ_cons,List.take_zero,List.drop_succ_cons,List.drop_zero,List.cons_append,List.nil_append]
  go_wp2_with (refine wpList_store_mid rfl 34 (.tmp 2) (.tmp 19) rfl w.heap.size 0 #[.int .i64 2,.string ⟨#[]⟩,.int .i64 ((n:Int)+1),.slice none 0 0] rfl rfl HTH.out sizeTy' (by simp [Value.oneCell']) ?_;rw [<- HW5.out])
  have m0:=put_cell HBK.out 0 _ rfl
  have m1:=put_cell HBK.out 1 _ rfl
  have m2:=put_cell HBK.out 2 _ rfl
  have m3:=put_cell HBK.out 3 _ rfl
  refine bodyPost_ret (v:=.agg #[.int .i64 2,.string ⟨#[]⟩,.int .i64 ((n:Int)+1),.slice none 0 0]) (by simp [results,Try.results33,go_sem,m0,m1,m2,m3]) rfl ⟨rfl,HK5.out,_,HDV2.out,H34.out⟩
 case hK0=>exact ⟨(Kp.refl r vs.ownBlock w).of (HB0.out.trans ((below_drewN' W 1).mono HB0.out.size)) (Nat.le_refl _),HX.out,_,HR1.out⟩
 case hR0=>exact fun i _=>⟨fun _=>HR1.out,fun _=>row_bel HROW.out (below_drewN' W 1)⟩
namespace Ty
theorem DV.kp {B r n p:Nat} {xs:List Value} {bs:Value} {pr:Int} {q:Option Nat} {u u':World} (h:DV B r n xs bs pr u) (hk:Kp p q u u') (h1:r≠p) (h2:q≠some r) (h3:bs.ownBlock≠some p) (h4:∀k,bs.ownBlock=some k->q≠some k):DV B r n xs bs pr u':=by
 refine ⟨(hk.block r (Array.getElem?_eq_some_iff.1 h.blk).1 h1 h2).trans h.blk,⟨h.row.1,h.row.2.imp id ?_⟩,h.apart,h.few⟩
 rintro ⟨g,cap,cur,rfl,hB,hg,hc⟩
 exact ⟨g,cap,cur,rfl,hB,(hk.block g (Array.getElem?_eq_some_iff.1 hg).1 (fun e=>h3 (by rw [<- e];rfl)) (h4 g rfl)).trans hg,hc⟩
theorem SV.kp {B r p:Nat} {ls:List Value} {vs:Value} {q:Option Nat} {u u':World} (h:SV B p ls vs u) (hk:Kp r q u u') (h1:p≠r) (h2:q≠some p) (h3:vs.ownBlock≠some r) (h4:∀k,vs.ownBlock=some k->q≠some k):SV B p ls vs u':=by
 obtain ⟨xs,⟨hl,h5⟩,h6⟩:=h.row
 refine ⟨(hk.block p h.lt h1 h2).trans h.blk,⟨xs,⟨hl,h5.imp id ?_⟩,h6⟩,h.few,h.apart⟩
 rintro ⟨g,cap,cur,rfl,hB,hg,hc⟩
 exact ⟨g,cap,cur,rfl,hB,(hk.block g (Array.getElem?_eq_some_iff.1 hg).1 (fun e=>h3 (by rw [<- e];rfl)) (h4 g rfl)).trans hg,hc⟩
structure Bo (B p r n:Nat) (xs:List Value) (vs bs:Value) (u:World):Prop where
 sv:SV B p (List.replicate n (.pointer none)) vs u
 dv:DV B r n xs bs 0 u
 zr:∀j,j<n->∀c x,z4[c]?=some x->xs[j*4+c]?=some x
 ne:p≠r
 a1:vs.ownBlock≠some r
 a2:bs.ownBlock≠some p
 a3:∀k,vs.ownBlock=some k->bs.ownBlock≠some k
 lo:B<=p
 hir:B<=r
end Ty
set_option maxRecDepth 100000 in
set_option maxHeartbeats 8000000 in
theorem t_both (w:World) (N:Nat) (hN:N<=12):Calls Try.prog 12 #[.int .i64 (N:Int)] w fun e w'=>∃p r xs vs bs,e=.returned (.tuple #[.pointer (some ⟨p,0,none⟩),.pointer (some ⟨r,0,none⟩)])/\Below w.heap.size w w'/\Bo w.heap.size p r N xs vs bs w':=by
 have HN:=hideR (t_New w)
 have HNN:=hideR hN
 clear hN
 go_enter Try.func12,Try.ntmps12
 go_wp2_with fail
 refine Calls.mono (show Calls _ _ _ _ _ from HN.out) ?_
 rintro e w1 ⟨rfl,hb1,hs1,hv1⟩
 obtain ⟨W,hW⟩:∃W,W=w1.alloc (.cells #[.slice none 0 0,.int .i64 0] 65):=⟨_,rfl⟩
 have hb2:Below w1.heap.size w1 W:=by rw [hW];exact new_on' _ _
 have hx:W.heap[w1.heap.size]?=some (.cells #[.slice none 0 0,.int .i64 0] 65 (0,0)):=by rw [hW];exact heap_alloc_new w1 _
 have HBO:Hid (Bo w.heap.size w.heap.size w1.heap.size 0 [] (.slice none 0 0) (.slice none 0 0) W):=hideR ⟨hv1.on hb2,⟨hx,⟨rfl,.inl ⟨rfl,rfl⟩⟩,by simp [Value.ownBlock],by omega⟩,fun j hj=>absurd hj (Nat.not_lt_zero j),by omega,by simp [Value.ownBlock],by simp [Value.ownBlock],(fun k e=>by cases e),Nat.le_refl _,by omega⟩
 have HBW:=hideR (hb1.trans (hb2.mono hb1.size))
 have HGE:=hideR (show w.heap.size<=w1.heap.size by omega)
 clear hb1 hs1 hv1 hb2 hx HN
 go_wp2_with (first|rw [<- hW]|fail)
 clear hW
 go_loopw [6] (fun aa wr=>∃(i:Nat) (xs:List Value) (vs bs:Value),aa=.int .i64 i/\i<=N/\Hid (Bo w.heap.size w.heap.size w1.heap.size i xs vs bs wr)/\Hid (Below w.heap.size w wr)) (fun aa _=>match aa with | .int _ i=>N-i.toNat|_=>0)
 case atStart=>exact ⟨0,[],_,_,rfl,Nat.zero_le _,HBO,HBW⟩
 case round =>
  obtain ⟨i,xs,vs,bs,rfl,hi,HB,HW⟩:=hrel
  clear HBO HBW
  by_cases hp:i<N
  ·have q1:decide ((i:Int)<(N:Int))=true:=decide_eq_true (by omega)
   have hw2:wrap64 ((i:Int)+1)=((i+1:Nat):Int):=by have:=HNN.out;unfold wrap64;omega
   have hsz:=HW.out.size
   have hlr:(List.replicate i (Value.pointer none)).length=i:=List.length_replicate
   have HF:=hideR (t_Fresh HB.out.sv hsz (by rw [hlr];have:=HNN.out;omega))
   clear hsz hlr
   go_wp2_with fail
   refine Calls.mono (show Calls _ _ _ _ _ from HF.out) ?_
   rintro e w2 ⟨rfl,hk2,vs2,hv2,ho2⟩
   have hown:∀k,vs.ownBlock=some k->w.heap.size<=k/\k<wr.heap.size:=by obtain ⟨ys,ho,_⟩:=HB.out.sv.row;exact ho.lt
   have hbown:∀k,bs.ownBlock=some k->w.heap.size<=k/\k<wr.heap.size:=HB.out.dv.row.lt
   have hrl:w1.heap.size<wr.heap.size:=(Array.getElem?_eq_some_iff.1 HB.out.dv.blk).1
   have hd2:DV w.heap.size w1.heap.size i xs bs 0 w2:=HB.out.dv.kp hk2 (Ne.symm HB.out.ne) HB.out.a1 HB.out.a2 (fun k e e2=>HB.out.a3 k e2 e)
   have hW2:Below w.heap.size w w2:=hk2.bel HW.out (Nat.le_refl _) (fun k e=>(hown k e).1)
   have hrep:List.replicate i (Value.pointer none)++[.pointer none]=List.replicate (i+1) (.pointer none):=by rw [List.replicate_succ']
   rw [hrep] at hv2
   have a1:vs2.ownBlock≠some w1.heap.size:=fun e=>by
    rcases ho2 _ e with h|h
    ·exact HB.out.a1 h
    ·omega
   have a3:∀k,vs2.ownBlock=some k->bs.ownBlock≠some k:=fun k e e2=>by
    rcases ho2 k e with h|h
    ·exact HB.out.a3 k h e2
    ·have:=(hbown k e2).2;omega
   have HZR:=hideR HB.out.zr
   have HV2:=hideR hv2
   have HD2:=hideR hd2
   have HW2:=hideR hW2
   have HA:=hideR (And.intro a1 (And.intro a3 (And.intro HB.out.ne HB.out.a2)))
   have HF2:=hideR (t_dFresh hd2 hW2.size (by have:=HNN.out;omega))
   clear hk2 hv2 ho2 hown hbown hrl hd2 hW2 hrep a1 a3 HF HB HW
   go_wp2_with fail
   refine Calls.mono (show Calls _ _ _ _ _ from HF2.out) ?_
   rintro e w3 ⟨rfl,hk3,bs2,hd3,ho3⟩
   have hown:∀k,vs2.ownBlock=some k->w.heap.size<=k/\k<w2.heap.size:=by obtain ⟨ys,ho,_⟩:=HV2.out.row;exact ho.lt
   have hbown:∀k,bs.ownBlock=some k->w.heap.size<=k/\k<w2.heap.size:=HD2.out.row.lt
   have hpl:w.heap.size<w2.heap.size:=HV2.out.lt
   obtain ⟨a1,a3,an,a2⟩:=HA.out
   have hzr:∀j,j<i+1->∀c x,z4[c]?=some x->(xs++z4)[j*4+c]?=some x:=fun j hj c x hc=>by
    have hxl:=HD2.out.row.1
    have hc4:c<4:=(List.getElem?_eq_some_iff.1 hc).1
    by_cases hji:j<i
    ·rw [List.getElem?_append_left (by omega)];exact HZR.out j hji c x hc
    ·obtain rfl:j=i:=by omega
     rw [List.getElem?_append_right (by omega),show j*4+c-xs.length=c by omega];exact hc
   have HS3:Hid (Bo w.heap.size w.heap.size w1.heap.size (i+1) (xs++z4) vs2 bs2 w3):=hideR ⟨HV2.out.kp hk3 an (fun e=>a2 e) a1 (fun k e e2=>a3 k e e2),hd3,hzr,an,a1,fun e=>by
    rcases ho3 _ e with h|h
    ·exact a2 h
    ·omega,fun k e e2=>by
    rcases ho3 k e2 with h|h
    ·exact a3 k e h
    ·have:=(hown k e).2;omega,Nat.le_refl _,HGE.out⟩
   have HW3:=hideR (hk3.bel HW2.out HGE.out (fun k e=>(hbown k e).1))
   clear hk3 hd3 ho3 hown hbown hpl a1 a3 an a2 hzr HZR HF2 HV2 HD2 HW2 HA
   go_wp2
   go_roundw
   case rel=>exact ⟨i+1,_,_,_,by first|rfl|(congr 1),hp,HS3,HW3⟩
   case measure=>simp;omega
  ·have q1:decide ((i:Int)<(N:Int))=false:=decide_eq_false (by omega)
   obtain rfl:i=N:=by omega
   go_wp2
   refine bodyPost_ret (v:=.tuple #[.pointer (some ⟨w.heap.size,0,none⟩),.pointer (some ⟨w1.heap.size,0,none⟩)]) (by simp [results,Try.results12,go_sem]) rfl ⟨_,_,_,_,_,rfl,HW.out,HB.out⟩
end Go.Proofs.Ytkflfohoinbenaa
