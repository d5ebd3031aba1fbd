/- Texts that the claim needs. -/
import Derived.Test.YtkdbgopgjbfhbaaGreatDoorQPW15
namespace Go.Proofs.YtkdbgopgjbfhbaaGreatDoor
open Go.RowKit Lx Pz bq
set_option linter.unusedVariables false
set_option maxRecDepth 100000
set_option maxHeartbeats 8000000
namespace aj
theorem Fr.perm {a0 a:Act} {dst UY:Nat->Nat} {n n':Nat} (h:Fr a0 dst n a) (hd:∀i,i<n->∃i',i'<n'/\UY i'=dst i):Fr a0 UY n' a :=
 ⟨h.defers,h.size,fun k hk=>h.rest k fun i hi=>by obtain ⟨i',h1,h2⟩:=hd i hi;rw [<- h2];exact hk i' h1⟩
end aj
namespace Pz
theorem yx {P:Program} {w:World} {o:Oper} {a:Act} {KK:Act->World->Prop} {Q:Exit->Act->World->Prop} (s x:Operand) (t:TypeId)
  (ho:o.op=.call { callee:=.builtin .append,args:=#[s,x],argTypes:=#[t,t] })
  (base:Nat) (e:TypeId) (i:TypeInfo) (z:Value) (size bytes:Nat) (ht:P.underlying t=some (.slice e)) (hi:P.info? e=some i) (hz:i.zero=some z)
  (hsize:i.size=size) (hby:i.bytes=bytes) (hzs:z.cells.size=size) (hsz:0<size)
  (v:Value) (n:Nat) (xs:List Value) (hs:a.eval s=v) (hown:w.ownsRow base e size v n xs)
  (xo:Option Addr) (m c:Nat) (news:List Value) (hx:a.eval x=.slice xo m c) (D7:xo=none->m=0) (hl:news.length=m*size) (hnews:∀ad,xo=some ad->∀j u,news[j]?=some u->w.cell? (ad.add j)=some u) (h1:∀u ∈ news,u.oneCell'=true)
  (h63:n+m<=maxLen) (hbytes:(n+m)*bytes<=140737488355328) (hbase:base<=w.heap.size)
  (h:∀v' w',w'.ownsRow base e size v' (n+m) (xs++news)->w.grownBy w' v.ownBlock->(v'.ownBlock=v.ownBlock\/v'.ownBlock=some w.heap.size)->KK (a.put o.dst v') w'):o.wp P a w KK Q:=by
 obtain ⟨v',w',hr,h2,h3,h4⟩:=RH w base t o.type e i z size bytes ht hi hz hsize hby hzs hsz v n xs hown xo m c news D7 hl hnews h1 h63 hbytes hbase;unfold Oper.wp;simp [execOp,ho,resolve,invoke,builtin,hs,hx,hr,Result.andThen];exact h v' w' h2 h3 h4
abbrev lf (db:Int) (vE vP:Value):Array Value:=#[.int .i64 7,.string e0,.string e0,.int .i64 0,vE,vP,.int .i64 db]
structure CS (w0:World) (p:Nat) (L:List Tk) (vL:Value) (en:Int) (w:World) (q:Nat) (db:Int) (j:Nat) (H:List Nat) (es ps:List Value) (vE vP:Value) (u:World):Prop where
 st:ST w0 p L vL en H w j [(w.heap.size,bO,27),(q,lf db vE vP,27)] [] u
 rE:fV (aX w.heap.size) w.heap.size 27 7 (H++[w.heap.size,q]) p u vE es
 rP:fV (cW w.heap.size) w.heap.size 101 5 (H++[w.heap.size,q]) p u vP ps
 hE:∀k,vE.ownBlock=some k->k ∈ H
 hP:∀k,vP.ownBlock=some k->k ∈ H
 hH:∀k ∈ H,w.heap.size<k/\k≠q
 Hb:∀k,vE.ownBlock=some k->vP.ownBlock≠some k
section
variable {w0:World} {p:Nat} {L:List Tk} {vL:Value} {en:Int} {w:World} {q:Nat} {db:Int} {j:Nat} {H:List Nat} {es ps:List Value} {vE vP:Value} {u:World}
theorem CS.qp (h:CS w0 p L vL en w q db j H es ps vE vP u):q≠p:=h.st.FV (x:=(q,lf db vE vP,27)) (List.Mem.tail _ (List.Mem.head _))
theorem CS.ql (h:CS w0 p L vL en w q db j H es ps vE vP u):q<u.heap.size:=h.st.blt (x:=(q,lf db vE vP,27)) (List.Mem.tail _ (List.Mem.head _))
theorem CS.pB (h:CS w0 p L vL en w q db j H es ps vE vP u):p<w.heap.size:=h.st.ek
theorem CS.call {j':Nat} {u':World} (h:CS w0 p L vL en w q db j H es ps vE vP u) (h1:PR w0 p L vL en j' u') (h2:But p u u'):CS w0 p L vL en w q db j' H es ps vE vP u' :=
 ⟨h.st.call h1 h2,h.rE.but h2 h.pB,h.rP.but h2 h.pB,h.hE,h.hP,h.hH,h.Hb⟩
end
def sU (L:List Tk) (en:Int) (P E:Nat->Rd Value) (i:Nat):Rd (Value × Value):=match P i with
 | .error z=>.error z
 | .ok (p,j)=>match aY L en gU j with
  | .error z=>.error z
  | .ok j=>match E j with
   | .error z=>.error z
   | .ok (e,j)=>.ok ((p,e),j)
def BD (w0:World) (p:Nat) (L:List Tk) (vL:Value) (en:Int) (w:World) (q:Nat) (db:Int) (es ps:List Value) (X:Rd (Value × Value)) (e:Ending) (u':World):Prop:=match X with
 | .error z=>e=.panicked (Bg z)/\Below w0.heap.size w0 u'
 | .ok ((pt,ex),j)=>e=.returned (.tuple #[])/\∃H' L9 Ma,CS w0 p L vL en w q db j H' (es++[ex]) (ps++[pt]) L9 Ma u'
end Pz
theorem UC (w0:World) (p:Nat) (L:List Tk) (vL:Value) (en:Int) (i:Nat) (P E:Nat->Rd Value) (eD:cn P) (HP:∀u,PR w0 p L vL en i u->Calls Tryz.prog 186 #[.pointer (some ⟨p,0,none⟩)] u (Rp w0 p L vL en (cW u.heap.size) u (P i))) (HE:∀j u,i<j->PR w0 p L vL en j u->Calls Tryz.prog 60 #[.pointer (some ⟨p,0,none⟩)] u (Rp w0 p L vL en (aX u.heap.size) u (E j)))
  (w:World) (q:Nat) (db:Int) (H:List Nat) (es ps:List Value) (vE vP:Value) (u:World) (h:CS w0 p L vL en w q db i H es ps vE vP u) (hle:es.length<=5000) (hlp:ps.length<=5000) :
  Calls Tryz.prog 179 #[.pointer (some ⟨p,0,none⟩),.pointer (some ⟨q,0,none⟩)] u (BD w0 p L vL en w q db es ps (sU L en P E i)):=by
 obtain ⟨oE,cE,rfl⟩:=h.rE.sl;obtain ⟨oP,cP,rfl⟩:=h.rP.sl;obtain ⟨az,aW⟩:∃X,X=sU L en P E i:=⟨_,rfl⟩;rw [<- aW];unfold sU at aW;have HX:=ae aW;have HC:=ae h;have ij:=ae (And.intro hle hlp);have xQ:=ae HP;have cH:=ae HE;have HAD:=ae eD;clear h hle hlp aW HP HE eD;go_enter Tryz.func179,Tryz.ntmps179
 obtain ⟨ok,t2,j2,yc,hok0⟩:∃(ok:Bool) (t2:Value) (j2:Nat),(ok=true->P i=.ok (t2,j2))/\(ok=false->∃z,P i=.error z):=by
  cases hP:P i with
  | error z=>exact ⟨false,undef,0,fun h=>(by cases h),fun _=>⟨z,rfl⟩⟩
  | ok r=>exact ⟨true,r.1,r.2,fun _=>rfl,fun h=>(by cases h)⟩
 have pJ:=ae (And.intro yc hok0);clear yc hok0;go_upto_region 0 with fail
 try dsimp only [Act.put]
 refine Jh (w0:=w0) (p:=p) (L:=L) (vL:=vL) (en:=en) (H:=H) (w:=w) (q:=q) (j2:=j2) (V:=cW w.heap.size) (T:=101) (sz:=5) (eC:=(fun y=>lf db (.slice oE es.length cE) y)) (t2:=t2) (els:=ps) (V2:=aX w.heap.size) (T2:=27) (sz2:=7) (v2:=(.slice oE es.length cE)) (ts2:=es) (ok:=ok) (zc:=iz) (f:=5) (rl:=(fun i=>[0,0,0,0,0,5,0,7,8,9,10,1,1,13].getD i 1)) (cv:=(fun i=>[.pointer (some ⟨q,0,none⟩),.pointer (some ⟨q,0,none⟩),.pointer (some ⟨q,5,none⟩),.slice oP ps.length cP,.pointer (some ⟨p,0,none⟩),undef,.int .i64 (ps.length:Int),undef,undef,undef,undef,.pointer (some ⟨q,0,none⟩),.pointer (some ⟨q,5,none⟩),undef].getD i undef)) 14 30 (fun i=>[4,5,6,7,8,9,10,11,12,13,2,14,15,3].getD i 0) [10,13] [8,10,13] i (by kernel_rfl) (by kernel_rfl) (by kernel_rfl) (by kernel_rfl) rfl (by kernel_rfl) ?Mc ?Mf ?Mg HC.out.st.pr ?Mh ?Mi
 case Mc =>
  intro i hi
  have:i=10\/i=13:=by simpa using hi
  rcases this with rfl|rfl
  ·exact .inl rfl
  ·exact .inr rfl
 case Mf=>intro v9 y;rfl
 case Mg=>exact fun e=>(HC.out.hH q (HC.out.hE q e)).2 rfl
 case Mh =>
  intro i' o a z u1 hi ho hF hR hd;have f0:a.tmps[0]?.getD undef=.pointer (some ⟨p,0,none⟩):=aj.ay (hF.eval 0 (fun i hi=>by have hc:=List.mem_range.2 hi;revert hc;clear hi;revert i;decide));have f1:a.tmps[1]?.getD undef=.pointer (some ⟨q,0,none⟩):=aj.ay (hF.eval 1 (fun i hi=>by have hc:=List.mem_range.2 hi;revert hc;clear hi;revert i;decide));have zx:=ae hF.defers;have HR:=ae hR;clear hR
  iterate 14 (rcases Nat.lt_succ_iff_lt_or_eq.1 hi with hi|rfl)
  exact absurd hi (Nat.not_lt_zero _)
  all_goals (simp only [List.getElem?_toArray,List.getElem?_cons_succ,List.getElem?_cons_zero,Option.some.injEq] at ho;subst ho;refine aj.bB fun KK ax=>?_;have dA:=ae ax;clear ax)
  ·clear hd;go_simp;exact dA.out _ _ ⟨_,z,rfl,cZ.c (by decide),bM.c (by decide) rfl⟩
  ·have g0:a.tmps[4]?.getD undef=.pointer (some ⟨q,0,none⟩):=aj.ay ((hd 0 (by decide)).iQ (by decide));clear hd;go_simp;exact dA.out _ _ ⟨_,z,rfl,cZ.c (by decide),bM.c (by decide) rfl⟩
  ·have g1:a.tmps[5]?.getD undef=.pointer (some ⟨q,0,none⟩):=aj.ay ((hd 1 (by decide)).iQ (by decide));clear hd;go_simp;exact dA.out _ _ ⟨_,z,rfl,cZ.c (by decide),bM.c (by decide) rfl⟩
  ·have g2:a.tmps[6]?.getD undef=.pointer (some ⟨q,5,none⟩):=aj.ay ((hd 2 (by decide)).iQ (by decide));have hb:=(HR.out (.inl rfl)).1.blk (HC.out.st.at_ (k:=1) rfl) HC.out.qp;have y5:=dc hb 5 rfl;clear hb;clear hd;go_simp;exact dA.out _ _ ⟨_,z,rfl,cZ.c (by decide),bM.c (by decide) rfl⟩
  ·clear hd;go_simp;exact dA.out _ _ ⟨_,z,rfl,cZ.c (by decide),bM.c (by decide) rfl⟩
  ·have g0:a.tmps[8]?.getD undef=.pointer (some ⟨p,0,none⟩):=aj.ay ((hd 4 (by decide)).iQ (by decide));clear hd;obtain ⟨aU,_,h5,hz⟩:=HR.out (.inr (.inl rfl));obtain ⟨hpr,rfl⟩:=h5 rfl;have hS:=HC.out.st.call hpr aU;have aT:=ae hS;clear aU h5 hz HR hS;have HC:=ae (xQ.out u1 aT.out.pr);clear hpr;go_simp;refine Calls.mono (show Calls _ _ _ _ _ from HC.out) ?_;intro e u5 hr;cases ok with
   | false =>
    obtain ⟨zz,hzz⟩:=pJ.out.2 rfl;obtain ⟨rfl,hb⟩:=bE hr hzz;have dQ:az=.error zz:=by have hq:=HX.out;rw [hzz] at hq;exact hq
    rw [dQ];exact ⟨zx.out,rfl,hb⟩
   | true =>
    have hok:=pJ.out.1 rfl;obtain ⟨⟨v,rfl,hv0⟩,hp,hbt⟩:=bw hr hok;obtain ⟨rk,rx,rn,ru,ra,hv,r1⟩:=hv0.val;subst hv;have jr:=aT.out.aa7 (B:=w.heap.size) (aT.out.but.size) hp hbt hv0;exact dA.out _ _ ⟨_,_,rfl,cZ.five (by decide) hbt ⟨_,hp⟩,bM.five (by decide) rfl rfl (by simp [Value.oneCell'] at r1 ⊢;exact r1) rfl hp (fun w' hw=>jr.gq _ (List.Mem.head _) w' hw)⟩
  ·have g3:a.tmps[7]?.getD undef=.slice oP ps.length cP:=aj.ay ((hd 3 (by decide)).iQ (by decide));clear hd;go_simp;exact dA.out _ _ ⟨_,z,rfl,cZ.c (by decide),bM.c (by decide) rfl⟩
  ·obtain ⟨aU,⟨jj,hjj⟩,_,hz⟩:=HR.out (.inr (.inr (.inl rfl)));have hpl:=hjj.lt;clear hd aU hjj hz;go_simp;exact dA.out _ _ ⟨_,z,rfl,cZ.seven (by decide) (dF _ _),bM.seven (by decide) rfl (heap_alloc_new _ _) hpl⟩
  ·obtain ⟨aU,_,_,hz⟩:=HR.out (.inr (.inr (.inr rfl)));obtain ⟨R,rfl,mQ,hRs,mD,hok,hpr,hst⟩:=(hd 5 (by decide)).Jj (by decide) hz;obtain ⟨gz,l5,Es,Uy⟩:=(hd 7 (by decide)).Jl (by decide) hz;have jK:=(hd 3 (by decide)).iQ (by decide);obtain ⟨xs,hown,jV,hxe⟩:=HC.out.rP.but aU HC.out.pB;obtain ⟨i0,hi0,hz0,hz1,hz2⟩:=info_parts Tj;refine yx _ _ 25 rfl w.heap.size 101 i0 _ 5 64 Tryz.underlying25 hi0 hz0 hz1 hz2 rfl (by decide) _ _ _ jK hown (some ⟨gz,0,none⟩) 1 1 [.int .i64 0,.string ⟨#[]⟩,.int .i64 0,.slice none 0 0,.int .i64 0] l5 (by intro h;cases h) rfl (fun ad h j c hj=>by injection h with h;subst h;rw [Addr.add_mid,Nat.zero_add];exact ak Es j c (by simpa using hj)) (by intro c hc;simp only [List.mem_cons,List.not_mem_nil,or_false] at hc;rcases hc with rfl|rfl|rfl|rfl|rfl<;>rfl) (by unfold maxLen;have:=ij.out.2;omega) (by have:=ij.out.2;omega) ((HC.out.st.call hpr aU).but.size) ?_
   intro v9 w9 gF fP bQ;exact dA.out _ _ ⟨v9,some (R,some v9),rfl,cZ.eight (by decide),bM.eight (by decide) hok hRs mD (Mid.start (zc:=iz) ((HC.out.st.call hpr aU).add _ hst) hown (HC.out.hP) hxe (HC.out.rE.but aU HC.out.pB) HC.out.hH (Nat.lt_of_lt_of_le HC.out.ql aU.size) (fun k hk e=>HC.out.Hb k e hk) gF fP bQ rfl)⟩
  ·obtain ⟨R,rfl,hok,hRs,mD,hM⟩:=(hd 8 (by decide)).tO (by decide);obtain ⟨g9,c9,bQ,bJ,fo,hg2⟩:=id hM.own;have g8:a.tmps[12]?.getD undef=.slice (some ⟨g9,0,none⟩) (ps.length+1) c9:=aj.ay bQ;have g4:a.tmps[10]?.getD undef=.int .i64 (ps.length:Int):=aj.ay ((hd 6 (by decide)).iQ (by decide));have yd:=bM.nine (w0:=w0) (p:=p) (L:=L) (vL:=vL) (en:=en) (H:=H) (w:=w) (q:=q) (j2:=j2) (V:=cW w.heap.size) (T:=101) (sz:=5) (eC:=(fun y=>lf db (.slice oE es.length cE) y)) (t2:=t2) (els:=ps) (V2:=aX w.heap.size) (T2:=27) (sz2:=7) (v2:=(.slice oE es.length cE)) (ts2:=es) (ok:=ok) (zc:=iz) (rl:=(fun i=>[0,0,0,0,0,5,0,7,8,9,10,1,1,13].getD i 1)) (cv:=(fun i=>[.pointer (some ⟨q,0,none⟩),.pointer (some ⟨q,0,none⟩),.pointer (some ⟨q,5,none⟩),.slice oP ps.length cP,.pointer (some ⟨p,0,none⟩),undef,.int .i64 (ps.length:Int),undef,undef,undef,undef,.pointer (some ⟨q,0,none⟩),.pointer (some ⟨q,5,none⟩),undef].getD i undef)) (i:=9) (u:=u1) (R:=R) rfl bQ;have oz:=ae yd;have Uz:(ps.length:Int)<(ps.length:Int)+1:=by omega
   clear hd hM bQ yd;go_simp;exact dA.out _ _ ⟨_,_,rfl,cZ.nine (by decide),oz.out⟩
  ·obtain ⟨R,rfl,hok,hRs,mD,hM⟩:=(hd 8 (by decide)).tO (by decide);obtain ⟨g9,c9,bQ,Et⟩:=(hd 9 (by decide)).Jm (by decide);have mQ:=(hd 5 (by decide)).Jk (by decide);obtain ⟨UA,c9',Eu,bJ,fo,hg2⟩:=id hM.own
   have Ev:g9≠q:=by
    have e:=bQ.symm.trans Eu;injection e with e _ _;injection e with e;injection e with e;rw [e];exact fo
   obtain ⟨ys,rd,hrd,Ew,UB,_⟩:=id hM.row;have hth:u1.there g9 (ps.length*5) 5:=KV (c:=c9) (by have h9:=Ew;rw [bQ] at h9;exact h9);refine wp_store_mid 101 (.tmp 13) (.tmp 9) rfl g9 (ps.length*5) R Et mQ (by rw [hRs];exact hth) (by rw [hRs];exact jk) (by rw [Array.all_eq_true_iff_forall_mem];exact fun c hc=>mD c (by simpa using hc)) (dA.out _ _ ⟨undef,_,rfl,cZ.ten (by decide) bQ Ev hRs,bM.ten (by decide) hRs hM bQ⟩)
  ·have g0:a.tmps[4]?.getD undef=.pointer (some ⟨q,0,none⟩):=aj.ay ((hd 0 (by decide)).iQ (by decide));clear hd;go_simp;exact dA.out _ _ ⟨_,z,rfl,cZ.c (by decide),bM.c (by decide) rfl⟩
  ·have g11:a.tmps[14]?.getD undef=.pointer (some ⟨q,0,none⟩):=aj.ay ((hd 11 (by decide)).iQ (by decide));clear hd;go_simp;exact dA.out _ _ ⟨_,z,rfl,cZ.c (by decide),bM.c (by decide) rfl⟩
  ·obtain ⟨R,rfl,hok,hRs,mD,hM⟩:=(hd 8 (by decide)).tO (by decide);obtain ⟨g9,c9,bQ,bJ,fo,hg2⟩:=id hM.own;have g8:a.tmps[12]?.getD undef=.slice (some ⟨g9,0,none⟩) (ps.length+1) c9:=aj.ay bQ;have gf:a.tmps[15]?.getD undef=.pointer (some ⟨q,5,none⟩):=aj.ay ((hd 12 (by decide)).iQ (by decide));obtain ⟨y,hst⟩:=id hM.st;have fz:=hst.jb 1 rfl 5;have yz:=hst.cell 1 rfl 5 rfl;rw [bQ] at hM dA;have hG:=bM.yS (w0:=w0) (p:=p) (L:=L) (vL:=vL) (en:=en) (H:=H) (w:=w) (q:=q) (j2:=j2) (V:=cW w.heap.size) (T:=101) (sz:=5) (eC:=(fun y=>lf db (.slice oE es.length cE) y)) (t2:=t2) (els:=ps) (V2:=aX w.heap.size) (T2:=27) (sz2:=7) (v2:=(.slice oE es.length cE)) (ts2:=es) (ok:=ok) (zc:=iz) (f:=5) (rl:=(fun i=>[0,0,0,0,0,5,0,7,8,9,10,1,1,13].getD i 1)) (cv:=(fun i=>[.pointer (some ⟨q,0,none⟩),.pointer (some ⟨q,0,none⟩),.pointer (some ⟨q,5,none⟩),.slice oP ps.length cP,.pointer (some ⟨p,0,none⟩),undef,.int .i64 (ps.length:Int),undef,undef,undef,undef,.pointer (some ⟨q,0,none⟩),.pointer (some ⟨q,5,none⟩),undef].getD i undef)) (i:=13) (v:=undef) rfl (fun y=>rfl) hM;have HG:=ae hG;clear hd hM hst hG bQ;go_simp;exact dA.out _ _ ⟨undef,_,rfl,cZ.yS (by decide) (fun e=>by injection e with e;exact fo e),HG.out⟩
 case Mi =>
  intro a z u9 hF hn;obtain ⟨hok,⟨g9,c9,bQ,bJ,fo,hg2⟩,fL,hr1,hr2⟩:=(hn 8 (by simp) (by decide)).fin rfl (hn 10 (by simp) (by decide)) rfl (hn 13 (by simp) (by decide)) rfl;have uo:=pJ.out.1 hok;rw [bQ] at fL hr1 hr2;have hF':aj.Fr _ (fun i=>2+i) 14 a:=hF.perm (fun i hi=>by have hc:=List.mem_range.2 hi;revert hc;clear hi;revert i;decide);obtain ⟨xl,hxl,rfl,hev⟩:=hF'.lit (by simp);obtain ⟨x0,x1,x2,x3,x4,x5,x6,x7,x8,x9,gD,iD,vM,vN,rfl⟩:∃x0 x1 x2 x3 x4 x5 x6 x7 x8 x9 gD iD vM vN,xl = [x0,x1,x2,x3,x4,x5,x6,x7,x8,x9,gD,iD,vM,vN]:=by match xl,hxl with|[x0,x1,x2,x3,x4,x5,x6,x7,x8,x9,gD,iD,vM,vN],_=>exact ⟨x0,x1,x2,x3,x4,x5,x6,x7,x8,x9,gD,iD,vM,vN,rfl⟩
  clear hF hF' hn hev hxl;simp only [List.take_succ_cons,List.take_zero,List.drop_succ_cons,List.drop_zero,List.cons_append,List.nil_append];have hlt:=HAD.out _ _ _ uo;have Al:=ae hlt;have hq:=HX.out;rw [uo] at hq;dsimp only at hq;have bI:=ae hq;have dV:Hid (CS w0 p L vL en w q db j2 ([g9]++H) es (ps++[t2]) (.slice oE es.length cE) (.slice (some ⟨g9,0,none⟩) (ps.length+1) c9) u9):=ae ⟨fL,hr2,hr1,fun k hk=>List.mem_cons_of_mem _ (HC.out.hE k hk),fun k hk=>by injection hk with hk;subst hk;exact List.Mem.head _,fun k hk=>by rcases List.mem_cons.1 hk with rfl|hk;(exact ⟨bJ,fo⟩);exact HC.out.hH k hk,fun k hk e=>by injection e with e;subst e;exact hg2 hk⟩
  clear fL hr1 hr2 hlt hq uo pJ HX bQ hg2 hok HC xQ;generalize Mx:(ps++[t2])=PS at *;have hPL:PS.length=ps.length+1:=by rw [<- Mx];simp
  have bW:=ae (ig w0 p L vL en j2 gU _ dV.out.st.pr);go_wp2_with fail;refine Calls.mono (show Calls _ _ _ _ _ from bW.out) ?_;intro e u2 hr;cases hR:aY L en gU j2 with
  | error z =>
   obtain ⟨rfl,hb⟩:=bE hr (dU hR);have HB:=ae hb;have dQ:az=.error z:=by have hq:=bI.out;rw [hR] at hq;exact hq
   subst dQ;clear hb hR hr bI bW;go_wp2;exact ⟨rfl,rfl,HB.out⟩
  | ok j3 =>
   obtain ⟨⟨v,rfl,hv⟩,hp,hbt⟩:=bw hr (dU hR);subst hv;have Am:=ae (fK hR);have hq:=bI.out;rw [hR] at hq;dsimp only at hq;have bD:=ae hq;have dM:=ae (dV.out.call hp hbt);clear hp hbt hr hR hq bI bW dV;generalize (.slice (some ⟨g9,0,none⟩) (ps.length+1) c9:Value)=BL at *;generalize ([g9]++H)=H1 at *;obtain ⟨tp,htp⟩:∃tp,tp=t2:=⟨_,rfl⟩;rw [<- htp] at Mx bD;clear htp
   obtain ⟨ok,t2,j2,yc,hok0⟩:∃(ok:Bool) (t2:Value) (j2:Nat),(ok=true->E j3=.ok (t2,j2))/\(ok=false->∃z,E j3=.error z):=by
    cases hP:E j3 with
    | error z=>exact ⟨false,undef,0,fun h=>(by cases h),fun _=>⟨z,rfl⟩⟩
    | ok r=>exact ⟨true,r.1,r.2,fun _=>rfl,fun h=>(by cases h)⟩
   have pJ:=ae (And.intro yc hok0);clear yc hok0;go_upto_region 2 with fail
   try dsimp only [Act.put]
   refine Jh (w0:=w0) (p:=p) (L:=L) (vL:=vL) (en:=en) (H:=H1) (w:=w) (q:=q) (j2:=j2) (V:=aX w.heap.size) (T:=27) (sz:=7) (eC:=(fun y=>lf db y BL)) (t2:=t2) (els:=es) (V2:=cW w.heap.size) (T2:=101) (sz2:=5) (v2:=BL) (ts2:=PS) (ok:=ok) (zc:=bO) (f:=4) (rl:=(fun i=>[0,0,0,0,0,5,0,7,8,9,10,1,1,13].getD i 1)) (cv:=(fun i=>[.pointer (some ⟨q,0,none⟩),.pointer (some ⟨q,0,none⟩),.pointer (some ⟨q,4,none⟩),.slice oE es.length cE,.pointer (some ⟨p,0,none⟩),undef,.int .i64 (es.length:Int),undef,undef,undef,undef,.pointer (some ⟨q,0,none⟩),.pointer (some ⟨q,4,none⟩),undef].getD i undef)) 14 30 (fun i=>[18,19,20,21,22,23,24,25,26,27,16,28,29,17].getD i 0) [10,13] [8,10,13] j3 (by kernel_rfl) (by kernel_rfl) (by kernel_rfl) (by kernel_rfl) rfl (by kernel_rfl) ?hNb ?adi ?adj dM.out.st.pr ?adk ?adl
   case hNb =>
    intro i hi
    have:i=10\/i=13:=by simpa using hi
    rcases this with rfl|rfl
    ·exact .inl rfl
    ·exact .inr rfl
   case adi=>intro v9 y;rfl
   case adj=>exact fun e=>(dM.out.hH q (dM.out.hP q e)).2 rfl
   case adk =>
    intro i' o a z u1 hi ho hF hR hd;have f0:a.tmps[0]?.getD undef=.pointer (some ⟨p,0,none⟩):=aj.ay (hF.eval 0 (fun i hi=>by have hc:=List.mem_range.2 hi;revert hc;clear hi;revert i;decide));have f1:a.tmps[1]?.getD undef=.pointer (some ⟨q,0,none⟩):=aj.ay (hF.eval 1 (fun i hi=>by have hc:=List.mem_range.2 hi;revert hc;clear hi;revert i;decide));have zx:=ae hF.defers;have HR:=ae hR;clear hR
    iterate 14 (rcases Nat.lt_succ_iff_lt_or_eq.1 hi with hi|rfl)
    exact absurd hi (Nat.not_lt_zero _)
    all_goals (simp only [List.getElem?_toArray,List.getElem?_cons_succ,List.getElem?_cons_zero,Option.some.injEq] at ho;subst ho;refine aj.bB fun KK ax=>?_;have dA:=ae ax;clear ax)
    ·clear hd;go_simp;exact dA.out _ _ ⟨_,z,rfl,cZ.c (by decide),bM.c (by decide) rfl⟩
    ·have g0:a.tmps[18]?.getD undef=.pointer (some ⟨q,0,none⟩):=aj.ay ((hd 0 (by decide)).iQ (by decide));clear hd;go_simp;exact dA.out _ _ ⟨_,z,rfl,cZ.c (by decide),bM.c (by decide) rfl⟩
    ·have g1:a.tmps[19]?.getD undef=.pointer (some ⟨q,0,none⟩):=aj.ay ((hd 1 (by decide)).iQ (by decide));clear hd;go_simp;exact dA.out _ _ ⟨_,z,rfl,cZ.c (by decide),bM.c (by decide) rfl⟩
    ·have g2:a.tmps[20]?.getD undef=.pointer (some ⟨q,4,none⟩):=aj.ay ((hd 2 (by decide)).iQ (by decide));have hb:=(HR.out (.inl rfl)).1.blk (dM.out.st.at_ (k:=1) rfl) dM.out.qp;have y4:=dc hb 4 rfl;clear hb;clear hd;go_simp;exact dA.out _ _ ⟨_,z,rfl,cZ.c (by decide),bM.c (by decide) rfl⟩
    ·clear hd;go_simp;exact dA.out _ _ ⟨_,z,rfl,cZ.c (by decide),bM.c (by decide) rfl⟩
    ·have g0:a.tmps[22]?.getD undef=.pointer (some ⟨p,0,none⟩):=aj.ay ((hd 4 (by decide)).iQ (by decide));clear hd;obtain ⟨aU,_,h5,hz⟩:=HR.out (.inr (.inl rfl));obtain ⟨hpr,rfl⟩:=h5 rfl;have hS:=dM.out.st.call hpr aU;have aT:=ae hS;clear aU h5 hz HR hS;have HC:=ae (cH.out j3 u1 (by have:=Al.out;have:=Am.out;omega) aT.out.pr);clear hpr;go_simp;refine Calls.mono (show Calls _ _ _ _ _ from HC.out) ?_;intro e u5 hr;cases ok with
     | false =>
      obtain ⟨zz,hzz⟩:=pJ.out.2 rfl;obtain ⟨rfl,hb⟩:=bE hr hzz;have dQ:az=.error zz:=by have hq:=bD.out;rw [hzz] at hq;exact hq
      rw [dQ];exact ⟨zx.out,rfl,hb⟩
     | true =>
      have hok:=pJ.out.1 rfl;obtain ⟨⟨v,rfl,hv0⟩,hp,hbt⟩:=bw hr hok;obtain ⟨rk,rx,ry,rn,ru,rz,ra,hv,r1,r2⟩:=hv0.val;subst hv;have jr:=aT.out.jM (B:=w.heap.size) (aT.out.but.size) hp hbt hv0;exact dA.out _ _ ⟨_,_,rfl,cZ.five (by decide) hbt ⟨_,hp⟩,bM.five (by decide) rfl rfl (by simp [Value.oneCell'] at r1 r2 ⊢;exact ⟨r1,r2⟩) rfl hp (fun w' hw=>jr.gq _ (List.Mem.head _) w' hw)⟩
    ·have g3:a.tmps[21]?.getD undef=.slice oE es.length cE:=aj.ay ((hd 3 (by decide)).iQ (by decide));clear hd;go_simp;exact dA.out _ _ ⟨_,z,rfl,cZ.c (by decide),bM.c (by decide) rfl⟩
    ·obtain ⟨aU,⟨jj,hjj⟩,_,hz⟩:=HR.out (.inr (.inr (.inl rfl)));have hpl:=hjj.lt;clear hd aU hjj hz;go_simp;exact dA.out _ _ ⟨_,z,rfl,cZ.seven (by decide) (dF _ _),bM.seven (by decide) rfl (heap_alloc_new _ _) hpl⟩
    ·obtain ⟨aU,_,_,hz⟩:=HR.out (.inr (.inr (.inr rfl)));obtain ⟨R,rfl,mQ,hRs,mD,hok,hpr,hst⟩:=(hd 5 (by decide)).Jj (by decide) hz;obtain ⟨gz,l5,Es,Uy⟩:=(hd 7 (by decide)).Jl (by decide) hz;have jK:=(hd 3 (by decide)).iQ (by decide);obtain ⟨xs,hown,jV,hxe⟩:=dM.out.rE.but aU dM.out.pB;obtain ⟨i0,hi0,hz0,hz1,hz2⟩:=info_parts LB;refine yx _ _ 24 rfl w.heap.size 27 i0 _ 7 104 Tryz.underlying24 hi0 hz0 hz1 hz2 rfl (by decide) _ _ _ jK hown (some ⟨gz,0,none⟩) 1 1 [.int .i64 0,.string ⟨#[]⟩,.string ⟨#[]⟩,.int .i64 0,.slice none 0 0,.slice none 0 0,.int .i64 0] l5 (by intro h;cases h) rfl (fun ad h j c hj=>by injection h with h;subst h;rw [Addr.add_mid,Nat.zero_add];exact ak Es j c (by simpa using hj)) (by intro c hc;simp only [List.mem_cons,List.not_mem_nil,or_false] at hc;rcases hc with rfl|rfl|rfl|rfl|rfl|rfl|rfl<;>rfl) (by unfold maxLen;have:=ij.out.1;omega) (by have:=ij.out.1;omega) ((dM.out.st.call hpr aU).but.size) ?_
     intro v9 w9 gF fP bQ;exact dA.out _ _ ⟨v9,some (R,some v9),rfl,cZ.eight (by decide),bM.eight (by decide) hok hRs mD (Mid.start (zc:=bO) ((dM.out.st.call hpr aU).add _ hst) hown (dM.out.hE) hxe (dM.out.rP.but aU dM.out.pB) dM.out.hH (Nat.lt_of_lt_of_le dM.out.ql aU.size) (fun k hk e=>dM.out.Hb k hk e) gF fP bQ rfl)⟩
    ·obtain ⟨R,rfl,hok,hRs,mD,hM⟩:=(hd 8 (by decide)).tO (by decide);obtain ⟨g9,c9,bQ,bJ,fo,hg2⟩:=id hM.own;have g8:a.tmps[26]?.getD undef=.slice (some ⟨g9,0,none⟩) (es.length+1) c9:=aj.ay bQ;have g4:a.tmps[24]?.getD undef=.int .i64 (es.length:Int):=aj.ay ((hd 6 (by decide)).iQ (by decide));have yd:=bM.nine (w0:=w0) (p:=p) (L:=L) (vL:=vL) (en:=en) (H:=H1) (w:=w) (q:=q) (j2:=j2) (V:=aX w.heap.size) (T:=27) (sz:=7) (eC:=(fun y=>lf db y BL)) (t2:=t2) (els:=es) (V2:=cW w.heap.size) (T2:=101) (sz2:=5) (v2:=BL) (ts2:=PS) (ok:=ok) (zc:=bO) (rl:=(fun i=>[0,0,0,0,0,5,0,7,8,9,10,1,1,13].getD i 1)) (cv:=(fun i=>[.pointer (some ⟨q,0,none⟩),.pointer (some ⟨q,0,none⟩),.pointer (some ⟨q,4,none⟩),.slice oE es.length cE,.pointer (some ⟨p,0,none⟩),undef,.int .i64 (es.length:Int),undef,undef,undef,undef,.pointer (some ⟨q,0,none⟩),.pointer (some ⟨q,4,none⟩),undef].getD i undef)) (i:=9) (u:=u1) (R:=R) rfl bQ;have oz:=ae yd;have Uz:(es.length:Int)<(es.length:Int)+1:=by omega
     clear hd hM bQ yd;go_simp;exact dA.out _ _ ⟨_,_,rfl,cZ.nine (by decide),oz.out⟩
    ·obtain ⟨R,rfl,hok,hRs,mD,hM⟩:=(hd 8 (by decide)).tO (by decide);obtain ⟨g9,c9,bQ,Et⟩:=(hd 9 (by decide)).Jm (by decide);have mQ:=(hd 5 (by decide)).Jk (by decide);obtain ⟨UA,c9',Eu,bJ,fo,hg2⟩:=id hM.own
     have Ev:g9≠q:=by
      have e:=bQ.symm.trans Eu;injection e with e _ _;injection e with e;injection e with e;rw [e];exact fo
     obtain ⟨ys,rd,hrd,Ew,UB,_⟩:=id hM.row;have hth:u1.there g9 (es.length*7) 7:=KV (c:=c9) (by have h9:=Ew;rw [bQ] at h9;exact h9);refine wp_store_mid 27 (.tmp 27) (.tmp 23) rfl g9 (es.length*7) R Et mQ (by rw [hRs];exact hth) (by rw [hRs];exact cO) (by rw [Array.all_eq_true_iff_forall_mem];exact fun c hc=>mD c (by simpa using hc)) (dA.out _ _ ⟨undef,_,rfl,cZ.ten (by decide) bQ Ev hRs,bM.ten (by decide) hRs hM bQ⟩)
    ·have g0:a.tmps[18]?.getD undef=.pointer (some ⟨q,0,none⟩):=aj.ay ((hd 0 (by decide)).iQ (by decide));clear hd;go_simp;exact dA.out _ _ ⟨_,z,rfl,cZ.c (by decide),bM.c (by decide) rfl⟩
    ·have g11:a.tmps[28]?.getD undef=.pointer (some ⟨q,0,none⟩):=aj.ay ((hd 11 (by decide)).iQ (by decide));clear hd;go_simp;exact dA.out _ _ ⟨_,z,rfl,cZ.c (by decide),bM.c (by decide) rfl⟩
    ·obtain ⟨R,rfl,hok,hRs,mD,hM⟩:=(hd 8 (by decide)).tO (by decide);obtain ⟨g9,c9,bQ,bJ,fo,hg2⟩:=id hM.own;have g8:a.tmps[26]?.getD undef=.slice (some ⟨g9,0,none⟩) (es.length+1) c9:=aj.ay bQ;have gf:a.tmps[29]?.getD undef=.pointer (some ⟨q,4,none⟩):=aj.ay ((hd 12 (by decide)).iQ (by decide));obtain ⟨y,hst⟩:=id hM.st;have fz:=hst.jb 1 rfl 4;have yz:=hst.cell 1 rfl 4 rfl;rw [bQ] at hM dA;have hG:=bM.yS (w0:=w0) (p:=p) (L:=L) (vL:=vL) (en:=en) (H:=H1) (w:=w) (q:=q) (j2:=j2) (V:=aX w.heap.size) (T:=27) (sz:=7) (eC:=(fun y=>lf db y BL)) (t2:=t2) (els:=es) (V2:=cW w.heap.size) (T2:=101) (sz2:=5) (v2:=BL) (ts2:=PS) (ok:=ok) (zc:=bO) (f:=4) (rl:=(fun i=>[0,0,0,0,0,5,0,7,8,9,10,1,1,13].getD i 1)) (cv:=(fun i=>[.pointer (some ⟨q,0,none⟩),.pointer (some ⟨q,0,none⟩),.pointer (some ⟨q,4,none⟩),.slice oE es.length cE,.pointer (some ⟨p,0,none⟩),undef,.int .i64 (es.length:Int),undef,undef,undef,undef,.pointer (some ⟨q,0,none⟩),.pointer (some ⟨q,4,none⟩),undef].getD i undef)) (i:=13) (v:=undef) rfl (fun y=>rfl) hM;have HG:=ae hG;clear hd hM hst hG bQ;go_simp;exact dA.out _ _ ⟨undef,_,rfl,cZ.yS (by decide) (fun e=>by injection e with e;exact fo e),HG.out⟩
   case adl =>
    intro a z u9 hF hn;obtain ⟨hok,⟨g9,c9,bQ,bJ,fo,hg2⟩,fL,hr1,hr2⟩:=(hn 8 (by simp) (by decide)).fin rfl (hn 10 (by simp) (by decide)) rfl (hn 13 (by simp) (by decide)) rfl;have uo:=pJ.out.1 hok;rw [bQ] at fL hr1 hr2;have hF':aj.Fr _ (fun i=>16+i) 14 a:=hF.perm (fun i hi=>by have hc:=List.mem_range.2 hi;revert hc;clear hi;revert i;decide);obtain ⟨xl,hxl,rfl,hev⟩:=hF'.lit (by simp);obtain ⟨x0,x1,x2,x3,x4,x5,x6,x7,x8,x9,gD,iD,vM,vN,rfl⟩:∃x0 x1 x2 x3 x4 x5 x6 x7 x8 x9 gD iD vM vN,xl = [x0,x1,x2,x3,x4,x5,x6,x7,x8,x9,gD,iD,vM,vN]:=by match xl,hxl with|[x0,x1,x2,x3,x4,x5,x6,x7,x8,x9,gD,iD,vM,vN],_=>exact ⟨x0,x1,x2,x3,x4,x5,x6,x7,x8,x9,gD,iD,vM,vN,rfl⟩
    clear hF hF' hn hev hxl;simp only [List.take_succ_cons,List.take_zero,List.drop_succ_cons,List.drop_zero,List.cons_append,List.nil_append];have fJ:az=.ok ((tp,t2),j2):=by have hq:=bD.out;rw [uo] at hq;exact hq
    have HBr:Hid (BD w0 p L vL en w q db es ps az (.returned (.tuple #[])) u9):=ae (by
     rw [fJ];rw [<- Mx] at hr2;exact ⟨rfl,[g9]++H1,_,_,⟨fL,hr1,hr2,fun k hk=>by injection hk with hk;subst hk;exact List.Mem.head _,fun k hk=>List.mem_cons_of_mem _ (dM.out.hP k hk),fun k hk=>by rcases List.mem_cons.1 hk with rfl|hk;(exact ⟨bJ,fo⟩);exact dM.out.hH k hk,fun k hk e=>by injection hk with hk;subst hk;exact hg2 e⟩⟩)
    clear fL hr1 hr2 fJ uo bD dM pJ;go_wp2_with fail;refine bodyPost_ret (v:=.tuple #[]) (by simp [results,Tryz.results179,go_sem]) rfl HBr.out
namespace Pz
theorem Nf:(Tryz.prog.info? 76).map (·.size)=some 2:=by kernel_rfl
theorem BS:(Tryz.prog.info? 62).map (·.size)=some 4:=by kernel_rfl
theorem nO:(Tryz.prog.info? 29).map (·.size)=some 8:=by kernel_rfl
abbrev Ie:Array Value:=#[.string ⟨#[]⟩,.slice none 0 0]
abbrev uu:Array Value:=#[.string ⟨#[]⟩,.slice none 0 0,.slice none 0 0,.int .i64 0]
theorem NM:(Tryz.prog.info? 76).map (fun i=>(i.zero,i.size,i.bytes))=some (some (.agg Ie),2,40):=by kernel_rfl
theorem aas:(Tryz.prog.info? 62).map (fun i=>(i.zero,i.size,i.bytes))=some (some (.agg uu),4,72):=by kernel_rfl
theorem Wd:(Tryz.prog.info? 9).map (fun i=>(i.zero,i.size,i.bytes))=some (some (.string ⟨#[]⟩),1,16):=by kernel_rfl
def jU (B:Nat) (t v:Value) (w:World):Prop:=∃x ts u,t=sZ x ts/\v=.agg #[.string x,u]/\mJ B u ts w
theorem jU.val {B:Nat} {t v:Value} {w:World} (h:jU B t v w):∃x u,v=.agg #[.string x,u]/\u.oneCell'=true:=by
 obtain ⟨x,ts,u,_,h1,d,h2⟩:=h;obtain ⟨o,c,rfl⟩:=h2.len;exact ⟨x,_,h1,rfl⟩
theorem mJ.on {B C:Nat} {v:Value} {ts:List Value} {w w':World} (h:mJ C v ts w) (hb:bX C w w') (hc:B<=C):mJ B v ts w':=by
 obtain ⟨d,hd⟩:=h;exact ⟨d,hd.imp fun b o t _ ht=>eM.lo hc d b o t (eM.but hb d b o t ht)⟩
theorem jU.on {B C:Nat} {t v:Value} {w w':World} (h:jU B t v w) (hb:bX B w w') (hc:C<=B):jU C t v w':=by
 obtain ⟨x,ts,u,h0,h1,h2⟩:=h;exact ⟨x,ts,u,h0,h1,h2.on hb hc⟩
def tC (B:Nat) (w:World) (b o:Nat) (t:Value):Prop:=B<=b/\∃x ts u,t=sZ x ts/\w.cell? ⟨b,o,none⟩=some (.string x)/\w.cell? ⟨b,o+1,none⟩=some u/\mJ B u ts w
def yJ (B:Nat) (v:Value) (cs:List Value) (w:World):Prop:=Row 2 (tC B w) v cs
theorem tC.on {B C:Nat} {w w':World} {b o:Nat} {t:Value} (h:tC C w b o t) (hb:bX C w w') (hc:B<=C):tC B w' b o t:=by
 obtain ⟨hB,x,ts,u,h0,h1,h2,h3⟩:=h;exact ⟨Nat.le_trans hc hB,x,ts,u,h0,jA hb hB h1,jA hb hB h2,h3.on hb hc⟩
theorem yJ.on {B C:Nat} {v:Value} {ts:List Value} {w w':World} (h:yJ C v ts w) (hb:bX C w w') (hc:B<=C):yJ B v ts w':=Row.imp h fun b o t _ ht=>ht.on hb hc
theorem WG {B:Nat} {w:World} {t:Value} {cs:Array Value} {b o:Nat} (h:jU B t (.agg cs) w) (hB:B<=b) (hc:∀j u,cs[j]?=some u->w.cell? ⟨b,o+j,none⟩=some u):tC B w b o t:=by
 obtain ⟨x,ts,u,h0,h1,h2⟩:=h;injection h1 with h1;subst h1;exact ⟨hB,x,ts,u,h0,hc 0 _ rfl,hc 1 _ rfl,h2⟩
def Nr (B:Nat) (w:World) (b o:Nat) (t:Value):Prop:=B<=b/\w.cell? ⟨b,o,none⟩=some t
def tu (B:Nat) (v:Value) (ps:List ByteArray) (w:World):Prop:=Row 1 (Nr B w) v (ps.map Value.string)
theorem tu.on {B C:Nat} {v:Value} {ps:List ByteArray} {w w':World} (h:tu C v ps w) (hb:bX C w w') (hc:B<=C):tu B v ps w':=Row.imp h fun b o t _ ht=>⟨Nat.le_trans hc ht.1,jA hb ht.1 ht.2⟩
def lj (B:Nat) (t v:Value) (w:World):Prop:=∃x ps cs a u z,t=pM x ps cs a/\v=.agg #[.string x,u,z,.int .i64 a]/\tu B u ps w/\yJ B z cs w
theorem lj.val {B:Nat} {t v:Value} {w:World} (h:lj B t v w):∃x u z a,v=.agg #[.string x,u,z,.int .i64 a]/\u.oneCell'=true/\z.oneCell'=true:=by
 obtain ⟨x,ps,cs,a,u,z,_,h1,h2,h3⟩:=h;obtain ⟨o,c,rfl⟩:=Row.len h2;obtain ⟨o',c',rfl⟩:=Row.len h3;exact ⟨x,_,_,a,h1,rfl,rfl⟩
theorem lj.on {B C:Nat} {t v:Value} {w w':World} (h:lj B t v w) (hb:bX B w w') (hc:C<=B):lj C t v w':=by
 obtain ⟨x,ps,cs,a,u,z,h0,h1,h2,h3⟩:=h;exact ⟨x,ps,cs,a,u,z,h0,h1,h2.on hb hc,h3.on hb hc⟩
def zJ (B:Nat) (w:World) (b o:Nat) (t:Value):Prop:=B<=b/\∃x ps cs a u z,t=pM x ps cs a/\w.cell? ⟨b,o,none⟩=some (.string x)/\w.cell? ⟨b,o+1,none⟩=some u/\w.cell? ⟨b,o+2,none⟩=some z/\w.cell? ⟨b,o+3,none⟩=some (.int .i64 a)/\tu B u ps w/\yJ B z cs w
def mL (B:Nat) (v:Value) (ds:List Value) (w:World):Prop:=Row 4 (zJ B w) v ds
theorem aat {B:Nat} {w:World} {t:Value} {cs:Array Value} {b o:Nat} (h:lj B t (.agg cs) w) (hB:B<=b) (hc:∀j u,cs[j]?=some u->w.cell? ⟨b,o+j,none⟩=some u):zJ B w b o t:=by
 obtain ⟨x,ps,cs,a,u,z,h0,h1,h2,h3⟩:=h;injection h1 with h1;subst h1;exact ⟨hB,x,ps,cs,a,u,z,h0,hc 0 _ rfl,hc 1 _ rfl,hc 2 _ rfl,hc 3 _ rfl,h2,h3⟩
theorem mL.on {B C:Nat} {v:Value} {ds:List Value} {w w':World} (h:mL C v ds w) (hb:bX C w w') (hc:B<=C):mL B v ds w':=Row.imp h fun b o t _ ht=>by
 obtain ⟨hB,x,ps,cs,a,u,z,h0,h1,h2,h3,h4,h5,h6⟩:=ht;exact ⟨Nat.le_trans hc hB,x,ps,cs,a,u,z,h0,jA hb hB h1,jA hb hB h2,jA hb hB h3,jA hb hB h4,h5.on hb hc,h6.on hb hc⟩
section
variable {w0 w u u':World} {p:Nat} {L:List Tk} {vL:Value} {en:Int} {H:List Nat} {i j:Nat} {Bs:List Bk} {Ts:List (World->Prop)}
theorem ST.Nz (h:ST w0 p L vL en H w i Bs Ts u) {t v:Value} {B:Nat} (hB:B<=u.heap.size) (h1:PR w0 p L vL en j u') (h2:But p u u') (hv:jU u.heap.size t v u'):ST w0 p L vL en H w j Bs (jU B t v :: Ts) u' :=
 (h.call h1 h2).add _ fun w' hw=>hv.on (h.newer hw) hB
theorem ST.aar (h:ST w0 p L vL en H w i Bs Ts u) {t v:Value} {B:Nat} (hB:B<=u.heap.size) (h1:PR w0 p L vL en j u') (h2:But p u u') (hv:lj u.heap.size t v u'):ST w0 p L vL en H w j Bs (lj B t v :: Ts) u' :=
 (h.call h1 h2).add _ fun w' hw=>hv.on (h.newer hw) hB
end
section
variable {w0:World} {p:Nat} {L:List Tk} {vL:Value} {en:Int} {H:List Nat} {w:World} {q j:Nat} {V:Value->Value->World->Prop} {T TA TB:TypeId} {sz:Nat} {dC:Value->Array Value} {zA:Array Value} {t:Value} {els:List Value} {Ts:List (World->Prop)} {cs:Array Value} {v v9:Value} {u u':World} {xs:List Value}
theorem EL (h:ST w0 p L vL en H w j [(w.heap.size,zA,TA),(q,dC v,TB)] Ts u) (hH:∀k ∈ H,w.heap.size<k/\k≠q) (vB:∀k,v.ownBlock=some k->k ∈ H) (hown':u'.ownsRow w.heap.size T sz v9 (els.length+1) (xs++cs.toList)) (hg:u.grownBy u' v.ownBlock) (hv:v9.ownBlock=v.ownBlock\/v9.ownBlock=some u.heap.size) :
  ST w0 p L vL en (v9.ownBlock.toList++H) w j [(w.heap.size,zA,TA),(q,dC v,TB)] Ts u'/\∃g c,v9=.slice (some ⟨g,0,none⟩) (els.length+1) c/\w.heap.size<g/\g≠q:=by
 obtain ⟨g,c,bQ,hgB⟩:=RV hown';refine ⟨h.app (v:=v) (v':=v9) hg (fun k hk=>?_) hv (fun k hk=>(hown'.lt k hk).2),g,c,bQ,?_⟩
 ·have:=hH k (vB k hk)
  refine ⟨vB k hk,Nat.le_of_lt this.1,fun x hx=>?_⟩;simp only [List.mem_cons,List.not_mem_nil,or_false] at hx;rcases hx with rfl|rfl
  ·exact Nat.ne_of_lt this.1
  ·exact fun e=>this.2 e.symm
 ·have e9:v9.ownBlock=some g:=by rw [bQ];rfl
  rcases hv with h1|h1
  ·rw [e9] at h1;exact hH g (vB g h1.symm)
  ·rw [e9] at h1;injection h1 with h1;have hw1:=h.blt (x:=(w.heap.size,zA,TA)) (List.Mem.head _);have hq1:=h.blt (x:=(q,dC v,TB)) (List.Mem.tail _ (List.Mem.head _));have ae3:w.heap.size<u.heap.size:=hw1;have ae4:q<u.heap.size:=hq1;omega
theorem EN {f:Nat} (h:ST w0 p L vL en (v9.ownBlock.toList++H) w j [(w.heap.size,zA,TA),(q,dC v,TB)] Ts u') (hset:(dC v).setIfInBounds f v9=dC v9):ST w0 p L vL en (v9.ownBlock.toList++H) w j [(w.heap.size,zA,TA),(q,dC v9,TB)] Ts (u'.setCell ⟨q,f,none⟩ v9):=by
 have:=h.set' 1 rfl f v9
 rw [hset] at this;exact this
theorem EM {f:Nat} (hown:u.ownsRow w.heap.size T sz v els.length xs) (jV:∀k,v.ownBlock=some k->k ∈ H++[w.heap.size,q]) (hx:∀k t,els[k]?=some t->∃cs:Array Value,cs.size=sz/\gY (H++[w.heap.size,q]) p (V t (.agg cs)) u/\∀j c,cs[j]?=some c->xs[k*sz+j]?=some c)
  (hown':u'.ownsRow w.heap.size T sz v9 (els.length+1) (xs++cs.toList)) (hg:u.grownBy u' v.ownBlock) (hv:v9.ownBlock=v.ownBlock\/v9.ownBlock=some u.heap.size) (hc:cs.size=sz) (ht:gY (H++[w.heap.size,q]) p (V t (.agg cs)) u) {g c:Nat} (bQ:v9=.slice (some ⟨g,0,none⟩) (els.length+1) c) (fo:g≠q):fV V w.heap.size T sz ((v9.ownBlock.toList++H)++[w.heap.size,q]) p (u'.setCell ⟨q,f,none⟩ v9) v9 (els++[t]):=by
 have h1:=fV.app hown jV hx hown' hg hv hc ht;rw [<- List.append_assoc] at h1;have hgr:=RU u' q f v9;refine h1.kept (KW hgr (fun k hk=>by injection hk with hk;subst hk;simp)) hgr.size (fun k hk=>hgr.block k ?_ ?_)
 ·obtain ⟨ys,hy,_⟩:=h1;exact (hy.lt k hk).2
 ·intro e;rw [bQ] at hk;injection hk with hk;injection e with e;exact fo (by rw [<- e];exact hk)
end
end Pz
end Go.Proofs.YtkdbgopgjbfhbaaGreatDoor
