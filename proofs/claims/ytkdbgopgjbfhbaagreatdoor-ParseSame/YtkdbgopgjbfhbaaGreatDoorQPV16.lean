/- Texts that the claim needs. -/
import Derived.Test.YtkdbgopgjbfhbaaGreatDoorQPV15
namespace Go.Proofs.YtkdbgopgjbfhbaaGreatDoor
open Go.RowKit Lx Pz bw
set_option linter.unusedVariables false
set_option maxRecDepth 100000
set_option maxHeartbeats 8000000
namespace ah
theorem Fr.perm {a0 a:Act} {dst SL:Nat->Nat} {n n':Nat} (h:Fr a0 dst n a) (hd:∀i,i<n->∃i',i'<n'/\SL i'=dst i):Fr a0 SL n' a :=
 ⟨h.defers,h.size,fun k hk=>h.rest k fun i hi=>by obtain ⟨i',h1,h2⟩:=hd i hi;rw [<- h2];exact hk i' h1⟩
end ah
namespace Pz
theorem xR {P:Program} {w:World} {o:Oper} {a:Act} {KK:Act->World->Prop} {Q:Exit->Act->World->Prop} (s x:Operand) (t:TypeId)
  (ho:o.op=.call { callee:=.builtin .append,args:=#[s,x],argTypes:=#[t,t] })
  (base:Nat) (e:TypeId) (i:TypeInfo) (z:Value) (size bytes:Nat) (ht:P.underlying t=some (.slice e)) (hi:P.info? e=some i) (hz:i.zero=some z)
  (hsize:i.size=size) (hby:i.bytes=bytes) (hzs:z.cells.size=size) (hsz:0<size)
  (v:Value) (n:Nat) (xs:List Value) (hs:a.eval s=v) (hown:w.ownsRow base e size v n xs)
  (xo:Option Addr) (m c:Nat) (news:List Value) (hx:a.eval x=.slice xo m c) (DV:xo=none->m=0) (hl:news.length=m*size) (hnews:∀ad,xo=some ad->∀j u,news[j]?=some u->w.cell? (ad.add j)=some u) (h1:∀u ∈ news,u.oneCell'=true)
  (h63:n+m<=maxLen) (hbytes:(n+m)*bytes<=140737488355328) (hbase:base<=w.heap.size)
  (h:∀v' w',w'.ownsRow base e size v' (n+m) (xs++news)->w.grownBy w' v.ownBlock->(v'.ownBlock=v.ownBlock\/v'.ownBlock=some w.heap.size)->KK (a.put o.dst v') w'):o.wp P a w KK Q:=by
 obtain ⟨v',w',hr,h2,h3,h4⟩:=Rc w base t o.type e i z size bytes ht hi hz hsize hby hzs hsz v n xs hown xo m c news DV hl hnews h1 h63 hbytes hbase;unfold Oper.wp;simp [execOp,ho,resolve,invoke,builtin,hs,hx,hr,Result.andThen];exact h v' w' h2 h3 h4
abbrev kP (dc:Int) (vE vP:Value):Array Value:=#[.int .i64 7,.string e0,.string e0,.int .i64 0,vE,vP,.int .i64 dc]
structure CS (w0:World) (p:Nat) (L:List Tk) (vL:Value) (en:Int) (w:World) (q:Nat) (dc:Int) (j:Nat) (H:List Nat) (es ps:List Value) (vE vP:Value) (u:World):Prop where
 st:ST w0 p L vL en H w j [(w.heap.size,bS,27),(q,kP dc vE vP,27)] [] u
 rE:fM (aW w.heap.size) w.heap.size 27 7 (H++[w.heap.size,q]) p u vE es
 rP:fM (bV w.heap.size) w.heap.size 101 5 (H++[w.heap.size,q]) p u vP ps
 hE:∀k,vE.ownBlock=some k->k ∈ H
 hP:∀k,vP.ownBlock=some k->k ∈ H
 hH:∀k ∈ H,w.heap.size<k/\k≠q
 GQ:∀k,vE.ownBlock=some k->vP.ownBlock≠some k
section
variable {w0:World} {p:Nat} {L:List Tk} {vL:Value} {en:Int} {w:World} {q:Nat} {dc:Int} {j:Nat} {H:List Nat} {es ps:List Value} {vE vP:Value} {u:World}
theorem CS.qp (h:CS w0 p L vL en w q dc j H es ps vE vP u):q≠p:=h.st.Fx (x:=(q,kP dc vE vP,27)) (List.Mem.tail _ (List.Mem.head _))
theorem CS.ql (h:CS w0 p L vL en w q dc j H es ps vE vP u):q<u.heap.size:=h.st.blt (x:=(q,kP dc vE vP,27)) (List.Mem.tail _ (List.Mem.head _))
theorem CS.pB (h:CS w0 p L vL en w q dc j H es ps vE vP u):p<w.heap.size:=h.st.ek
theorem CS.call {j':Nat} {u':World} (h:CS w0 p L vL en w q dc j H es ps vE vP u) (h1:PR w0 p L vL en j' u') (h2:But p u u'):CS w0 p L vL en w q dc j' H es ps vE vP u' :=
 ⟨h.st.call h1 h2,h.rE.but h2 h.pB,h.rP.but h2 h.pB,h.hE,h.hP,h.hH,h.GQ⟩
end
def sw (L:List Tk) (en:Int) (P E:Nat->Rd Value) (i:Nat):Rd (Value × Value):=match P i with
 | .error z=>.error z
 | .ok (p,j)=>match bf L en jE j with
  | .error z=>.error z
  | .ok j=>match E j with
   | .error z=>.error z
   | .ok (e,j)=>.ok ((p,e),j)
def Bd (w0:World) (p:Nat) (L:List Tk) (vL:Value) (en:Int) (w:World) (q:Nat) (dc:Int) (es ps:List Value) (X:Rd (Value × Value)) (e:Ending) (u':World):Prop:=match X with
 | .error z=>e=.panicked (Av z)/\Below w0.heap.size w0 u'
 | .ok ((pt,ex),j)=>e=.returned (.tuple #[])/\∃H' K7 K8,CS w0 p L vL en w q dc j H' (es++[ex]) (ps++[pt]) K7 K8 u'
end Pz
theorem SC (w0:World) (p:Nat) (L:List Tk) (vL:Value) (en:Int) (i:Nat) (P E:Nat->Rd Value) (eF:cz P) (HP:∀u,PR w0 p L vL en i u->Calls Tryz.prog 186 #[.pointer (some ⟨p,0,none⟩)] u (Rp w0 p L vL en (bV u.heap.size) u (P i))) (HE:∀j u,i<j->PR w0 p L vL en j u->Calls Tryz.prog 60 #[.pointer (some ⟨p,0,none⟩)] u (Rp w0 p L vL en (aW u.heap.size) u (E j)))
  (w:World) (q:Nat) (dc:Int) (H:List Nat) (es ps:List Value) (vE vP:Value) (u:World) (h:CS w0 p L vL en w q dc i H es ps vE vP u) (hle:es.length<=5000) (hlp:ps.length<=5000) :
  Calls Tryz.prog 179 #[.pointer (some ⟨p,0,none⟩),.pointer (some ⟨q,0,none⟩)] u (Bd w0 p L vL en w q dc es ps (sw L en P E i)):=by
 obtain ⟨oE,cE,rfl⟩:=h.rE.sl;obtain ⟨oP,cP,rfl⟩:=h.rP.sl;obtain ⟨au,ba⟩:∃X,X=sw L en P E i:=⟨_,rfl⟩;rw [<- ba];unfold sw at ba;have HX:=ae ba;have HC:=ae h;have gS:=ae (And.intro hle hlp);have Ea:=ae HP;have cO:=ae HE;have HAD:=ae eF;clear h hle hlp ba HP HE eF;go_enter Tryz.func179,Tryz.ntmps179
 obtain ⟨ok,t2,j2,xE,hok0⟩:∃(ok:Bool) (t2:Value) (j2:Nat),(ok=true->P i=.ok (t2,j2))/\(ok=false->∃z,P i=.error z):=by
  cases hP:P i with
  | error z=>exact ⟨false,undef,0,fun h=>(by cases h),fun _=>⟨z,rfl⟩⟩
  | ok r=>exact ⟨true,r.1,r.2,fun _=>rfl,fun h=>(by cases h)⟩
 have og:=ae (And.intro xE hok0);clear xE hok0;go_upto_region 0 with fail
 try dsimp only [Act.put]
 refine I6 (w0:=w0) (p:=p) (L:=L) (vL:=vL) (en:=en) (H:=H) (w:=w) (q:=q) (j2:=j2) (V:=bV w.heap.size) (T:=101) (sz:=5) (eC:=(fun y=>kP dc (.slice oE es.length cE) y)) (t2:=t2) (els:=ps) (V2:=aW w.heap.size) (T2:=27) (sz2:=7) (v2:=(.slice oE es.length cE)) (ts2:=es) (ok:=ok) (zc:=gH) (f:=5) (rl:=(fun i=>[0,0,0,0,0,5,0,7,8,9,10,1,1,13].getD i 1)) (cv:=(fun i=>[.pointer (some ⟨q,0,none⟩),.pointer (some ⟨q,0,none⟩),.pointer (some ⟨q,5,none⟩),.slice oP ps.length cP,.pointer (some ⟨p,0,none⟩),undef,.int .i64 (ps.length:Int),undef,undef,undef,undef,.pointer (some ⟨q,0,none⟩),.pointer (some ⟨q,5,none⟩),undef].getD i undef)) 14 30 (fun i=>[4,5,6,7,8,9,10,11,12,13,2,14,15,3].getD i 0) [10,13] [8,10,13] i (by kernel_rfl) (by kernel_rfl) (by kernel_rfl) (by kernel_rfl) rfl (by kernel_rfl) ?La ?Lb ?Lc HC.out.st.pr ?Ld ?Le
 case La =>
  intro i hi
  have:i=10\/i=13:=by simpa using hi
  rcases this with rfl|rfl
  ·exact .inl rfl
  ·exact .inr rfl
 case Lb=>intro v9 y;rfl
 case Lc=>exact fun e=>(HC.out.hH q (HC.out.hE q e)).2 rfl
 case Ld =>
  intro i' o a z u1 hi ho hF hR hd;have f0:a.tmps[0]?.getD undef=.pointer (some ⟨p,0,none⟩):=ah.ak (hF.eval 0 (fun i hi=>by have hc:=List.mem_range.2 hi;revert hc;clear hi;revert i;decide));have f1:a.tmps[1]?.getD undef=.pointer (some ⟨q,0,none⟩):=ah.ak (hF.eval 1 (fun i hi=>by have hc:=List.mem_range.2 hi;revert hc;clear hi;revert i;decide));have yQ:=ae hF.defers;have HR:=ae hR;clear hR
  iterate 14 (rcases Nat.lt_succ_iff_lt_or_eq.1 hi with hi|rfl)
  exact absurd hi (Nat.not_lt_zero _)
  all_goals (simp only [List.getElem?_toArray,List.getElem?_cons_succ,List.getElem?_cons_zero,Option.some.injEq] at ho;subst ho;refine ah.bh fun KK aj=>?_;have bO:=ae aj;clear aj)
  ·clear hd;go_simp;exact bO.out _ _ ⟨_,z,rfl,db.c (by decide),bK.c (by decide) rfl⟩
  ·have g0:a.tmps[4]?.getD undef=.pointer (some ⟨q,0,none⟩):=ah.ak ((hd 0 (by decide)).iO (by decide));clear hd;go_simp;exact bO.out _ _ ⟨_,z,rfl,db.c (by decide),bK.c (by decide) rfl⟩
  ·have g1:a.tmps[5]?.getD undef=.pointer (some ⟨q,0,none⟩):=ah.ak ((hd 1 (by decide)).iO (by decide));clear hd;go_simp;exact bO.out _ _ ⟨_,z,rfl,db.c (by decide),bK.c (by decide) rfl⟩
  ·have g2:a.tmps[6]?.getD undef=.pointer (some ⟨q,5,none⟩):=ah.ak ((hd 2 (by decide)).iO (by decide));have hb:=(HR.out (.inl rfl)).1.blk (HC.out.st.at_ (k:=1) rfl) HC.out.qp;have y5:=df hb 5 rfl;clear hb;clear hd;go_simp;exact bO.out _ _ ⟨_,z,rfl,db.c (by decide),bK.c (by decide) rfl⟩
  ·clear hd;go_simp;exact bO.out _ _ ⟨_,z,rfl,db.c (by decide),bK.c (by decide) rfl⟩
  ·have g0:a.tmps[8]?.getD undef=.pointer (some ⟨p,0,none⟩):=ah.ak ((hd 4 (by decide)).iO (by decide));clear hd;obtain ⟨aU,_,h5,hz⟩:=HR.out (.inr (.inl rfl));obtain ⟨hpr,rfl⟩:=h5 rfl;have hS:=HC.out.st.call hpr aU;have aA:=ae hS;clear aU h5 hz HR hS;have HC:=ae (Ea.out u1 aA.out.pr);clear hpr;go_simp;refine Calls.mono (show Calls _ _ _ _ _ from HC.out) ?_;intro e u5 hr;cases ok with
   | false =>
    obtain ⟨zz,hzz⟩:=og.out.2 rfl;obtain ⟨rfl,hb⟩:=bC hr hzz;have dN:au=.error zz:=by have hq:=HX.out;rw [hzz] at hq;exact hq
    rw [dN];exact ⟨yQ.out,rfl,hb⟩
   | true =>
    have hok:=og.out.1 rfl;obtain ⟨⟨v,rfl,hv0⟩,hp,hbt⟩:=bn hr hok;obtain ⟨rk,rx,rn,ru,ra,hv,r1⟩:=hv0.val;subst hv;have jr:=aA.out.aaf (B:=w.heap.size) (aA.out.but.size) hp hbt hv0;exact bO.out _ _ ⟨_,_,rfl,db.five (by decide) hbt ⟨_,hp⟩,bK.five (by decide) rfl rfl (by simp [Value.oneCell'] at r1 ⊢;exact r1) rfl hp (fun w' hw=>jr.fN _ (List.Mem.head _) w' hw)⟩
  ·have g3:a.tmps[7]?.getD undef=.slice oP ps.length cP:=ah.ak ((hd 3 (by decide)).iO (by decide));clear hd;go_simp;exact bO.out _ _ ⟨_,z,rfl,db.c (by decide),bK.c (by decide) rfl⟩
  ·obtain ⟨aU,⟨jj,hjj⟩,_,hz⟩:=HR.out (.inr (.inr (.inl rfl)));have hpl:=hjj.lt;clear hd aU hjj hz;go_simp;exact bO.out _ _ ⟨_,z,rfl,db.seven (by decide) (bN _ _),bK.seven (by decide) rfl (heap_alloc_new _ _) hpl⟩
  ·obtain ⟨aU,_,_,hz⟩:=HR.out (.inr (.inr (.inr rfl)));obtain ⟨R,rfl,l9,hRs,lQ,hok,hpr,hst⟩:=(hd 5 (by decide)).I8 (by decide) hz;obtain ⟨gz,lu,Eb,Sy⟩:=(hd 7 (by decide)).Ja (by decide) hz;have jK:=(hd 3 (by decide)).iO (by decide);obtain ⟨xs,hown,gT,hxe⟩:=HC.out.rP.but aU HC.out.pB;obtain ⟨i0,hi0,hz0,hz1,hz2⟩:=info_parts Ir;refine xR _ _ 25 rfl w.heap.size 101 i0 _ 5 64 Tryz.underlying25 hi0 hz0 hz1 hz2 rfl (by decide) _ _ _ jK hown (some ⟨gz,0,none⟩) 1 1 [.int .i64 0,.string ⟨#[]⟩,.int .i64 0,.slice none 0 0,.int .i64 0] lu (by intro h;cases h) rfl (fun ad h j c hj=>by injection h with h;subst h;rw [Addr.add_mid,Nat.zero_add];exact af Eb j c (by simpa using hj)) (by intro c hc;simp only [List.mem_cons,List.not_mem_nil,or_false] at hc;rcases hc with rfl|rfl|rfl|rfl|rfl<;>rfl) (by unfold maxLen;have:=gS.out.2;omega) (by have:=gS.out.2;omega) ((HC.out.st.call hpr aU).but.size) ?_
   intro v9 w9 dR dI bG;exact bO.out _ _ ⟨v9,some (R,some v9),rfl,db.eight (by decide),bK.eight (by decide) hok hRs lQ (Mid.start (zc:=gH) ((HC.out.st.call hpr aU).add _ hst) hown (HC.out.hP) hxe (HC.out.rE.but aU HC.out.pB) HC.out.hH (Nat.lt_of_lt_of_le HC.out.ql aU.size) (fun k hk e=>HC.out.GQ k e hk) dR dI bG rfl)⟩
  ·obtain ⟨R,rfl,hok,hRs,lQ,hM⟩:=(hd 8 (by decide)).sS (by decide);obtain ⟨g9,c9,bG,bI,eX,hg2⟩:=id hM.own;have g8:a.tmps[12]?.getD undef=.slice (some ⟨g9,0,none⟩) (ps.length+1) c9:=ah.ak bG;have g4:a.tmps[10]?.getD undef=.int .i64 (ps.length:Int):=ah.ak ((hd 6 (by decide)).iO (by decide));have xF:=bK.nine (w0:=w0) (p:=p) (L:=L) (vL:=vL) (en:=en) (H:=H) (w:=w) (q:=q) (j2:=j2) (V:=bV w.heap.size) (T:=101) (sz:=5) (eC:=(fun y=>kP dc (.slice oE es.length cE) y)) (t2:=t2) (els:=ps) (V2:=aW w.heap.size) (T2:=27) (sz2:=7) (v2:=(.slice oE es.length cE)) (ts2:=es) (ok:=ok) (zc:=gH) (rl:=(fun i=>[0,0,0,0,0,5,0,7,8,9,10,1,1,13].getD i 1)) (cv:=(fun i=>[.pointer (some ⟨q,0,none⟩),.pointer (some ⟨q,0,none⟩),.pointer (some ⟨q,5,none⟩),.slice oP ps.length cP,.pointer (some ⟨p,0,none⟩),undef,.int .i64 (ps.length:Int),undef,undef,undef,undef,.pointer (some ⟨q,0,none⟩),.pointer (some ⟨q,5,none⟩),undef].getD i undef)) (i:=9) (u:=u1) (R:=R) rfl bG;have nu:=ae xF;have Sz:(ps.length:Int)<(ps.length:Int)+1:=by omega
   clear hd hM bG xF;go_simp;exact bO.out _ _ ⟨_,_,rfl,db.nine (by decide),nu.out⟩
  ·obtain ⟨R,rfl,hok,hRs,lQ,hM⟩:=(hd 8 (by decide)).sS (by decide);obtain ⟨g9,c9,bG,Ec⟩:=(hd 9 (by decide)).Jb (by decide);have l9:=(hd 5 (by decide)).I9 (by decide);obtain ⟨SA,c9',Ed,bI,eX,hg2⟩:=id hM.own
   have Ee:g9≠q:=by
    have e:=bG.symm.trans Ed;injection e with e _ _;injection e with e;injection e with e;rw [e];exact eX
   obtain ⟨ys,rd,hrd,zf,SB,_⟩:=id hM.row;have hth:u1.there g9 (ps.length*5) 5:=Ku (c:=c9) (by have h9:=zf;rw [bG] at h9;exact h9);refine wp_store_mid 101 (.tmp 13) (.tmp 9) rfl g9 (ps.length*5) R Ec l9 (by rw [hRs];exact hth) (by rw [hRs];exact iC) (by rw [Array.all_eq_true_iff_forall_mem];exact fun c hc=>lQ c (by simpa using hc)) (bO.out _ _ ⟨undef,_,rfl,db.ten (by decide) bG Ee hRs,bK.ten (by decide) hRs hM bG⟩)
  ·have g0:a.tmps[4]?.getD undef=.pointer (some ⟨q,0,none⟩):=ah.ak ((hd 0 (by decide)).iO (by decide));clear hd;go_simp;exact bO.out _ _ ⟨_,z,rfl,db.c (by decide),bK.c (by decide) rfl⟩
  ·have g11:a.tmps[14]?.getD undef=.pointer (some ⟨q,0,none⟩):=ah.ak ((hd 11 (by decide)).iO (by decide));clear hd;go_simp;exact bO.out _ _ ⟨_,z,rfl,db.c (by decide),bK.c (by decide) rfl⟩
  ·obtain ⟨R,rfl,hok,hRs,lQ,hM⟩:=(hd 8 (by decide)).sS (by decide);obtain ⟨g9,c9,bG,bI,eX,hg2⟩:=id hM.own;have g8:a.tmps[12]?.getD undef=.slice (some ⟨g9,0,none⟩) (ps.length+1) c9:=ah.ak bG;have gf:a.tmps[15]?.getD undef=.pointer (some ⟨q,5,none⟩):=ah.ak ((hd 12 (by decide)).iO (by decide));obtain ⟨y,hst⟩:=id hM.st;have fz:=hst.je 1 rfl 5;have yz:=hst.cell 1 rfl 5 rfl;rw [bG] at hM bO;have hG:=bK.yt (w0:=w0) (p:=p) (L:=L) (vL:=vL) (en:=en) (H:=H) (w:=w) (q:=q) (j2:=j2) (V:=bV w.heap.size) (T:=101) (sz:=5) (eC:=(fun y=>kP dc (.slice oE es.length cE) y)) (t2:=t2) (els:=ps) (V2:=aW w.heap.size) (T2:=27) (sz2:=7) (v2:=(.slice oE es.length cE)) (ts2:=es) (ok:=ok) (zc:=gH) (f:=5) (rl:=(fun i=>[0,0,0,0,0,5,0,7,8,9,10,1,1,13].getD i 1)) (cv:=(fun i=>[.pointer (some ⟨q,0,none⟩),.pointer (some ⟨q,0,none⟩),.pointer (some ⟨q,5,none⟩),.slice oP ps.length cP,.pointer (some ⟨p,0,none⟩),undef,.int .i64 (ps.length:Int),undef,undef,undef,undef,.pointer (some ⟨q,0,none⟩),.pointer (some ⟨q,5,none⟩),undef].getD i undef)) (i:=13) (v:=undef) rfl (fun y=>rfl) hM;have HG:=ae hG;clear hd hM hst hG bG;go_simp;exact bO.out _ _ ⟨undef,_,rfl,db.yt (by decide) (fun e=>by injection e with e;exact eX e),HG.out⟩
 case Le =>
  intro a z u9 hF hn;obtain ⟨hok,⟨g9,c9,bG,bI,eX,hg2⟩,fG,hr1,hr2⟩:=(hn 8 (by simp) (by decide)).fin rfl (hn 10 (by simp) (by decide)) rfl (hn 13 (by simp) (by decide)) rfl;have tQ:=og.out.1 hok;rw [bG] at fG hr1 hr2;have hF':ah.Fr _ (fun i=>2+i) 14 a:=hF.perm (fun i hi=>by have hc:=List.mem_range.2 hi;revert hc;clear hi;revert i;decide);obtain ⟨xl,hxl,rfl,hev⟩:=hF'.lit (by simp);obtain ⟨x0,x1,x2,x3,x4,x5,x6,x7,x8,x9,il,jm,vB,vC,rfl⟩:∃x0 x1 x2 x3 x4 x5 x6 x7 x8 x9 il jm vB vC,xl = [x0,x1,x2,x3,x4,x5,x6,x7,x8,x9,il,jm,vB,vC]:=by match xl,hxl with|[x0,x1,x2,x3,x4,x5,x6,x7,x8,x9,il,jm,vB,vC],_=>exact ⟨x0,x1,x2,x3,x4,x5,x6,x7,x8,x9,il,jm,vB,vC,rfl⟩
  clear hF hF' hn hev hxl;simp only [List.take_succ_cons,List.take_zero,List.drop_succ_cons,List.drop_zero,List.cons_append,List.nil_append];have hlt:=HAD.out _ _ _ tQ;have zM:=ae hlt;have hq:=HX.out;rw [tQ] at hq;dsimp only at hq;have bB:=ae hq;have dS:Hid (CS w0 p L vL en w q dc j2 ([g9]++H) es (ps++[t2]) (.slice oE es.length cE) (.slice (some ⟨g9,0,none⟩) (ps.length+1) c9) u9):=ae ⟨fG,hr2,hr1,fun k hk=>List.mem_cons_of_mem _ (HC.out.hE k hk),fun k hk=>by injection hk with hk;subst hk;exact List.Mem.head _,fun k hk=>by rcases List.mem_cons.1 hk with rfl|hk;(exact ⟨bI,eX⟩);exact HC.out.hH k hk,fun k hk e=>by injection e with e;subst e;exact hg2 hk⟩
  clear fG hr1 hr2 hlt hq tQ og HX bG hg2 hok HC Ea;generalize Lp:(ps++[t2])=PS at *;have hPL:PS.length=ps.length+1:=by rw [<- Lp];simp
  have bW:=ae (gQ w0 p L vL en j2 jE _ dS.out.st.pr);go_wp2_with fail;refine Calls.mono (show Calls _ _ _ _ _ from bW.out) ?_;intro e u2 hr;cases hR:bf L en jE j2 with
  | error z =>
   obtain ⟨rfl,hb⟩:=bC hr (dQ hR);have HB:=ae hb;have dN:au=.error z:=by have hq:=bB.out;rw [hR] at hq;exact hq
   subst dN;clear hb hR hr bB bW;go_wp2;exact ⟨rfl,rfl,HB.out⟩
  | ok j3 =>
   obtain ⟨⟨v,rfl,hv⟩,hp,hbt⟩:=bn hr (dQ hR);subst hv;have zN:=ae (fF hR);have hq:=bB.out;rw [hR] at hq;dsimp only at hq;have bb:=ae hq;have cG:=ae (dS.out.call hp hbt);clear hp hbt hr hR hq bB bW dS;generalize (.slice (some ⟨g9,0,none⟩) (ps.length+1) c9:Value)=Bf at *;generalize ([g9]++H)=H1 at *;obtain ⟨tp,htp⟩:∃tp,tp=t2:=⟨_,rfl⟩;rw [<- htp] at Lp bb;clear htp
   obtain ⟨ok,t2,j2,xE,hok0⟩:∃(ok:Bool) (t2:Value) (j2:Nat),(ok=true->E j3=.ok (t2,j2))/\(ok=false->∃z,E j3=.error z):=by
    cases hP:E j3 with
    | error z=>exact ⟨false,undef,0,fun h=>(by cases h),fun _=>⟨z,rfl⟩⟩
    | ok r=>exact ⟨true,r.1,r.2,fun _=>rfl,fun h=>(by cases h)⟩
   have og:=ae (And.intro xE hok0);clear xE hok0;go_upto_region 2 with fail
   try dsimp only [Act.put]
   refine I6 (w0:=w0) (p:=p) (L:=L) (vL:=vL) (en:=en) (H:=H1) (w:=w) (q:=q) (j2:=j2) (V:=aW w.heap.size) (T:=27) (sz:=7) (eC:=(fun y=>kP dc y Bf)) (t2:=t2) (els:=es) (V2:=bV w.heap.size) (T2:=101) (sz2:=5) (v2:=Bf) (ts2:=PS) (ok:=ok) (zc:=bS) (f:=4) (rl:=(fun i=>[0,0,0,0,0,5,0,7,8,9,10,1,1,13].getD i 1)) (cv:=(fun i=>[.pointer (some ⟨q,0,none⟩),.pointer (some ⟨q,0,none⟩),.pointer (some ⟨q,4,none⟩),.slice oE es.length cE,.pointer (some ⟨p,0,none⟩),undef,.int .i64 (es.length:Int),undef,undef,undef,undef,.pointer (some ⟨q,0,none⟩),.pointer (some ⟨q,4,none⟩),undef].getD i undef)) 14 30 (fun i=>[18,19,20,21,22,23,24,25,26,27,16,28,29,17].getD i 0) [10,13] [8,10,13] j3 (by kernel_rfl) (by kernel_rfl) (by kernel_rfl) (by kernel_rfl) rfl (by kernel_rfl) ?hNb ?abR ?abS cG.out.st.pr ?abT ?abU
   case hNb =>
    intro i hi
    have:i=10\/i=13:=by simpa using hi
    rcases this with rfl|rfl
    ·exact .inl rfl
    ·exact .inr rfl
   case abR=>intro v9 y;rfl
   case abS=>exact fun e=>(cG.out.hH q (cG.out.hP q e)).2 rfl
   case abT =>
    intro i' o a z u1 hi ho hF hR hd;have f0:a.tmps[0]?.getD undef=.pointer (some ⟨p,0,none⟩):=ah.ak (hF.eval 0 (fun i hi=>by have hc:=List.mem_range.2 hi;revert hc;clear hi;revert i;decide));have f1:a.tmps[1]?.getD undef=.pointer (some ⟨q,0,none⟩):=ah.ak (hF.eval 1 (fun i hi=>by have hc:=List.mem_range.2 hi;revert hc;clear hi;revert i;decide));have yQ:=ae hF.defers;have HR:=ae hR;clear hR
    iterate 14 (rcases Nat.lt_succ_iff_lt_or_eq.1 hi with hi|rfl)
    exact absurd hi (Nat.not_lt_zero _)
    all_goals (simp only [List.getElem?_toArray,List.getElem?_cons_succ,List.getElem?_cons_zero,Option.some.injEq] at ho;subst ho;refine ah.bh fun KK aj=>?_;have bO:=ae aj;clear aj)
    ·clear hd;go_simp;exact bO.out _ _ ⟨_,z,rfl,db.c (by decide),bK.c (by decide) rfl⟩
    ·have g0:a.tmps[18]?.getD undef=.pointer (some ⟨q,0,none⟩):=ah.ak ((hd 0 (by decide)).iO (by decide));clear hd;go_simp;exact bO.out _ _ ⟨_,z,rfl,db.c (by decide),bK.c (by decide) rfl⟩
    ·have g1:a.tmps[19]?.getD undef=.pointer (some ⟨q,0,none⟩):=ah.ak ((hd 1 (by decide)).iO (by decide));clear hd;go_simp;exact bO.out _ _ ⟨_,z,rfl,db.c (by decide),bK.c (by decide) rfl⟩
    ·have g2:a.tmps[20]?.getD undef=.pointer (some ⟨q,4,none⟩):=ah.ak ((hd 2 (by decide)).iO (by decide));have hb:=(HR.out (.inl rfl)).1.blk (cG.out.st.at_ (k:=1) rfl) cG.out.qp;have y4:=df hb 4 rfl;clear hb;clear hd;go_simp;exact bO.out _ _ ⟨_,z,rfl,db.c (by decide),bK.c (by decide) rfl⟩
    ·clear hd;go_simp;exact bO.out _ _ ⟨_,z,rfl,db.c (by decide),bK.c (by decide) rfl⟩
    ·have g0:a.tmps[22]?.getD undef=.pointer (some ⟨p,0,none⟩):=ah.ak ((hd 4 (by decide)).iO (by decide));clear hd;obtain ⟨aU,_,h5,hz⟩:=HR.out (.inr (.inl rfl));obtain ⟨hpr,rfl⟩:=h5 rfl;have hS:=cG.out.st.call hpr aU;have aA:=ae hS;clear aU h5 hz HR hS;have HC:=ae (cO.out j3 u1 (by have:=zM.out;have:=zN.out;omega) aA.out.pr);clear hpr;go_simp;refine Calls.mono (show Calls _ _ _ _ _ from HC.out) ?_;intro e u5 hr;cases ok with
     | false =>
      obtain ⟨zz,hzz⟩:=og.out.2 rfl;obtain ⟨rfl,hb⟩:=bC hr hzz;have dN:au=.error zz:=by have hq:=bb.out;rw [hzz] at hq;exact hq
      rw [dN];exact ⟨yQ.out,rfl,hb⟩
     | true =>
      have hok:=og.out.1 rfl;obtain ⟨⟨v,rfl,hv0⟩,hp,hbt⟩:=bn hr hok;obtain ⟨rk,rx,ry,rn,ru,rz,ra,hv,r1,r2⟩:=hv0.val;subst hv;have jr:=aA.out.jM (B:=w.heap.size) (aA.out.but.size) hp hbt hv0;exact bO.out _ _ ⟨_,_,rfl,db.five (by decide) hbt ⟨_,hp⟩,bK.five (by decide) rfl rfl (by simp [Value.oneCell'] at r1 r2 ⊢;exact ⟨r1,r2⟩) rfl hp (fun w' hw=>jr.fN _ (List.Mem.head _) w' hw)⟩
    ·have g3:a.tmps[21]?.getD undef=.slice oE es.length cE:=ah.ak ((hd 3 (by decide)).iO (by decide));clear hd;go_simp;exact bO.out _ _ ⟨_,z,rfl,db.c (by decide),bK.c (by decide) rfl⟩
    ·obtain ⟨aU,⟨jj,hjj⟩,_,hz⟩:=HR.out (.inr (.inr (.inl rfl)));have hpl:=hjj.lt;clear hd aU hjj hz;go_simp;exact bO.out _ _ ⟨_,z,rfl,db.seven (by decide) (bN _ _),bK.seven (by decide) rfl (heap_alloc_new _ _) hpl⟩
    ·obtain ⟨aU,_,_,hz⟩:=HR.out (.inr (.inr (.inr rfl)));obtain ⟨R,rfl,l9,hRs,lQ,hok,hpr,hst⟩:=(hd 5 (by decide)).I8 (by decide) hz;obtain ⟨gz,lu,Eb,Sy⟩:=(hd 7 (by decide)).Ja (by decide) hz;have jK:=(hd 3 (by decide)).iO (by decide);obtain ⟨xs,hown,gT,hxe⟩:=cG.out.rE.but aU cG.out.pB;obtain ⟨i0,hi0,hz0,hz1,hz2⟩:=info_parts Gx;refine xR _ _ 24 rfl w.heap.size 27 i0 _ 7 104 Tryz.underlying24 hi0 hz0 hz1 hz2 rfl (by decide) _ _ _ jK hown (some ⟨gz,0,none⟩) 1 1 [.int .i64 0,.string ⟨#[]⟩,.string ⟨#[]⟩,.int .i64 0,.slice none 0 0,.slice none 0 0,.int .i64 0] lu (by intro h;cases h) rfl (fun ad h j c hj=>by injection h with h;subst h;rw [Addr.add_mid,Nat.zero_add];exact af Eb j c (by simpa using hj)) (by intro c hc;simp only [List.mem_cons,List.not_mem_nil,or_false] at hc;rcases hc with rfl|rfl|rfl|rfl|rfl|rfl|rfl<;>rfl) (by unfold maxLen;have:=gS.out.1;omega) (by have:=gS.out.1;omega) ((cG.out.st.call hpr aU).but.size) ?_
     intro v9 w9 dR dI bG;exact bO.out _ _ ⟨v9,some (R,some v9),rfl,db.eight (by decide),bK.eight (by decide) hok hRs lQ (Mid.start (zc:=bS) ((cG.out.st.call hpr aU).add _ hst) hown (cG.out.hE) hxe (cG.out.rP.but aU cG.out.pB) cG.out.hH (Nat.lt_of_lt_of_le cG.out.ql aU.size) (fun k hk e=>cG.out.GQ k hk e) dR dI bG rfl)⟩
    ·obtain ⟨R,rfl,hok,hRs,lQ,hM⟩:=(hd 8 (by decide)).sS (by decide);obtain ⟨g9,c9,bG,bI,eX,hg2⟩:=id hM.own;have g8:a.tmps[26]?.getD undef=.slice (some ⟨g9,0,none⟩) (es.length+1) c9:=ah.ak bG;have g4:a.tmps[24]?.getD undef=.int .i64 (es.length:Int):=ah.ak ((hd 6 (by decide)).iO (by decide));have xF:=bK.nine (w0:=w0) (p:=p) (L:=L) (vL:=vL) (en:=en) (H:=H1) (w:=w) (q:=q) (j2:=j2) (V:=aW w.heap.size) (T:=27) (sz:=7) (eC:=(fun y=>kP dc y Bf)) (t2:=t2) (els:=es) (V2:=bV w.heap.size) (T2:=101) (sz2:=5) (v2:=Bf) (ts2:=PS) (ok:=ok) (zc:=bS) (rl:=(fun i=>[0,0,0,0,0,5,0,7,8,9,10,1,1,13].getD i 1)) (cv:=(fun i=>[.pointer (some ⟨q,0,none⟩),.pointer (some ⟨q,0,none⟩),.pointer (some ⟨q,4,none⟩),.slice oE es.length cE,.pointer (some ⟨p,0,none⟩),undef,.int .i64 (es.length:Int),undef,undef,undef,undef,.pointer (some ⟨q,0,none⟩),.pointer (some ⟨q,4,none⟩),undef].getD i undef)) (i:=9) (u:=u1) (R:=R) rfl bG;have nu:=ae xF;have Sz:(es.length:Int)<(es.length:Int)+1:=by omega
     clear hd hM bG xF;go_simp;exact bO.out _ _ ⟨_,_,rfl,db.nine (by decide),nu.out⟩
    ·obtain ⟨R,rfl,hok,hRs,lQ,hM⟩:=(hd 8 (by decide)).sS (by decide);obtain ⟨g9,c9,bG,Ec⟩:=(hd 9 (by decide)).Jb (by decide);have l9:=(hd 5 (by decide)).I9 (by decide);obtain ⟨SA,c9',Ed,bI,eX,hg2⟩:=id hM.own
     have Ee:g9≠q:=by
      have e:=bG.symm.trans Ed;injection e with e _ _;injection e with e;injection e with e;rw [e];exact eX
     obtain ⟨ys,rd,hrd,zf,SB,_⟩:=id hM.row;have hth:u1.there g9 (es.length*7) 7:=Ku (c:=c9) (by have h9:=zf;rw [bG] at h9;exact h9);refine wp_store_mid 27 (.tmp 27) (.tmp 23) rfl g9 (es.length*7) R Ec l9 (by rw [hRs];exact hth) (by rw [hRs];exact cK) (by rw [Array.all_eq_true_iff_forall_mem];exact fun c hc=>lQ c (by simpa using hc)) (bO.out _ _ ⟨undef,_,rfl,db.ten (by decide) bG Ee hRs,bK.ten (by decide) hRs hM bG⟩)
    ·have g0:a.tmps[18]?.getD undef=.pointer (some ⟨q,0,none⟩):=ah.ak ((hd 0 (by decide)).iO (by decide));clear hd;go_simp;exact bO.out _ _ ⟨_,z,rfl,db.c (by decide),bK.c (by decide) rfl⟩
    ·have g11:a.tmps[28]?.getD undef=.pointer (some ⟨q,0,none⟩):=ah.ak ((hd 11 (by decide)).iO (by decide));clear hd;go_simp;exact bO.out _ _ ⟨_,z,rfl,db.c (by decide),bK.c (by decide) rfl⟩
    ·obtain ⟨R,rfl,hok,hRs,lQ,hM⟩:=(hd 8 (by decide)).sS (by decide);obtain ⟨g9,c9,bG,bI,eX,hg2⟩:=id hM.own;have g8:a.tmps[26]?.getD undef=.slice (some ⟨g9,0,none⟩) (es.length+1) c9:=ah.ak bG;have gf:a.tmps[29]?.getD undef=.pointer (some ⟨q,4,none⟩):=ah.ak ((hd 12 (by decide)).iO (by decide));obtain ⟨y,hst⟩:=id hM.st;have fz:=hst.je 1 rfl 4;have yz:=hst.cell 1 rfl 4 rfl;rw [bG] at hM bO;have hG:=bK.yt (w0:=w0) (p:=p) (L:=L) (vL:=vL) (en:=en) (H:=H1) (w:=w) (q:=q) (j2:=j2) (V:=aW w.heap.size) (T:=27) (sz:=7) (eC:=(fun y=>kP dc y Bf)) (t2:=t2) (els:=es) (V2:=bV w.heap.size) (T2:=101) (sz2:=5) (v2:=Bf) (ts2:=PS) (ok:=ok) (zc:=bS) (f:=4) (rl:=(fun i=>[0,0,0,0,0,5,0,7,8,9,10,1,1,13].getD i 1)) (cv:=(fun i=>[.pointer (some ⟨q,0,none⟩),.pointer (some ⟨q,0,none⟩),.pointer (some ⟨q,4,none⟩),.slice oE es.length cE,.pointer (some ⟨p,0,none⟩),undef,.int .i64 (es.length:Int),undef,undef,undef,undef,.pointer (some ⟨q,0,none⟩),.pointer (some ⟨q,4,none⟩),undef].getD i undef)) (i:=13) (v:=undef) rfl (fun y=>rfl) hM;have HG:=ae hG;clear hd hM hst hG bG;go_simp;exact bO.out _ _ ⟨undef,_,rfl,db.yt (by decide) (fun e=>by injection e with e;exact eX e),HG.out⟩
   case abU =>
    intro a z u9 hF hn;obtain ⟨hok,⟨g9,c9,bG,bI,eX,hg2⟩,fG,hr1,hr2⟩:=(hn 8 (by simp) (by decide)).fin rfl (hn 10 (by simp) (by decide)) rfl (hn 13 (by simp) (by decide)) rfl;have tQ:=og.out.1 hok;rw [bG] at fG hr1 hr2;have hF':ah.Fr _ (fun i=>16+i) 14 a:=hF.perm (fun i hi=>by have hc:=List.mem_range.2 hi;revert hc;clear hi;revert i;decide);obtain ⟨xl,hxl,rfl,hev⟩:=hF'.lit (by simp);obtain ⟨x0,x1,x2,x3,x4,x5,x6,x7,x8,x9,il,jm,vB,vC,rfl⟩:∃x0 x1 x2 x3 x4 x5 x6 x7 x8 x9 il jm vB vC,xl = [x0,x1,x2,x3,x4,x5,x6,x7,x8,x9,il,jm,vB,vC]:=by match xl,hxl with|[x0,x1,x2,x3,x4,x5,x6,x7,x8,x9,il,jm,vB,vC],_=>exact ⟨x0,x1,x2,x3,x4,x5,x6,x7,x8,x9,il,jm,vB,vC,rfl⟩
    clear hF hF' hn hev hxl;simp only [List.take_succ_cons,List.take_zero,List.drop_succ_cons,List.drop_zero,List.cons_append,List.nil_append];have fE:au=.ok ((tp,t2),j2):=by have hq:=bb.out;rw [tQ] at hq;exact hq
    have HBr:Hid (Bd w0 p L vL en w q dc es ps au (.returned (.tuple #[])) u9):=ae (by
     rw [fE];rw [<- Lp] at hr2;exact ⟨rfl,[g9]++H1,_,_,⟨fG,hr1,hr2,fun k hk=>by injection hk with hk;subst hk;exact List.Mem.head _,fun k hk=>List.mem_cons_of_mem _ (cG.out.hP k hk),fun k hk=>by rcases List.mem_cons.1 hk with rfl|hk;(exact ⟨bI,eX⟩);exact cG.out.hH k hk,fun k hk e=>by injection hk with hk;subst hk;exact hg2 e⟩⟩)
    clear fG hr1 hr2 fE tQ bb cG og;go_wp2_with fail;refine bodyPost_ret (v:=.tuple #[]) (by simp [results,Tryz.results179,go_sem]) rfl HBr.out
namespace Pz
theorem zS:(Tryz.prog.info? 76).map (·.size)=some 2:=by kernel_rfl
theorem tX:(Tryz.prog.info? 62).map (·.size)=some 4:=by kernel_rfl
theorem sW:(Tryz.prog.info? 29).map (·.size)=some 8:=by kernel_rfl
abbrev Bm:Array Value:=#[.string ⟨#[]⟩,.slice none 0 0]
abbrev qO:Array Value:=#[.string ⟨#[]⟩,.slice none 0 0,.slice none 0 0,.int .i64 0]
theorem H7:(Tryz.prog.info? 76).map (fun i=>(i.zero,i.size,i.bytes))=some (some (.agg Bm),2,40):=by kernel_rfl
theorem QB:(Tryz.prog.info? 62).map (fun i=>(i.zero,i.size,i.bytes))=some (some (.agg qO),4,72):=by kernel_rfl
theorem Mj:(Tryz.prog.info? 9).map (fun i=>(i.zero,i.size,i.bytes))=some (some (.string ⟨#[]⟩),1,16):=by kernel_rfl
def iw (B:Nat) (t v:Value) (w:World):Prop:=∃x ts u,t=mr x ts/\v=.agg #[.string x,u]/\iz B u ts w
theorem iw.val {B:Nat} {t v:Value} {w:World} (h:iw B t v w):∃x u,v=.agg #[.string x,u]/\u.oneCell'=true:=by
 obtain ⟨x,ts,u,_,h1,d,h2⟩:=h;obtain ⟨o,c,rfl⟩:=h2.len;exact ⟨x,_,h1,rfl⟩
theorem iz.on {B C:Nat} {v:Value} {ts:List Value} {w w':World} (h:iz C v ts w) (hb:bF C w w') (hc:B<=C):iz B v ts w':=by
 obtain ⟨d,hd⟩:=h;exact ⟨d,hd.imp fun b o t _ ht=>dw.lo hc d b o t (dw.but hb d b o t ht)⟩
theorem iw.on {B C:Nat} {t v:Value} {w w':World} (h:iw B t v w) (hb:bF B w w') (hc:C<=B):iw C t v w':=by
 obtain ⟨x,ts,u,h0,h1,h2⟩:=h;exact ⟨x,ts,u,h0,h1,h2.on hb hc⟩
def lD (B:Nat) (w:World) (b o:Nat) (t:Value):Prop:=B<=b/\∃x ts u,t=mr x ts/\w.cell? ⟨b,o,none⟩=some (.string x)/\w.cell? ⟨b,o+1,none⟩=some u/\iz B u ts w
def oK (B:Nat) (v:Value) (cs:List Value) (w:World):Prop:=Row 2 (lD B w) v cs
theorem lD.on {B C:Nat} {w w':World} {b o:Nat} {t:Value} (h:lD C w b o t) (hb:bF C w w') (hc:B<=C):lD B w' b o t:=by
 obtain ⟨hB,x,ts,u,h0,h1,h2,h3⟩:=h;exact ⟨Nat.le_trans hc hB,x,ts,u,h0,jB hb hB h1,jB hb hB h2,h3.on hb hc⟩
theorem oK.on {B C:Nat} {v:Value} {ts:List Value} {w w':World} (h:oK C v ts w) (hb:bF C w w') (hc:B<=C):oK B v ts w':=Row.imp h fun b o t _ ht=>ht.on hb hc
theorem MP {B:Nat} {w:World} {t:Value} {cs:Array Value} {b o:Nat} (h:iw B t (.agg cs) w) (hB:B<=b) (hc:∀j u,cs[j]?=some u->w.cell? ⟨b,o+j,none⟩=some u):lD B w b o t:=by
 obtain ⟨x,ts,u,h0,h1,h2⟩:=h;injection h1 with h1;subst h1;exact ⟨hB,x,ts,u,h0,hc 0 _ rfl,hc 1 _ rfl,h2⟩
def Hy (B:Nat) (w:World) (b o:Nat) (t:Value):Prop:=B<=b/\w.cell? ⟨b,o,none⟩=some t
def kS (B:Nat) (v:Value) (ps:List ByteArray) (w:World):Prop:=Row 1 (Hy B w) v (ps.map Value.string)
theorem kS.on {B C:Nat} {v:Value} {ps:List ByteArray} {w w':World} (h:kS C v ps w) (hb:bF C w w') (hc:B<=C):kS B v ps w':=Row.imp h fun b o t _ ht=>⟨Nat.le_trans hc ht.1,jB hb ht.1 ht.2⟩
def iL (B:Nat) (t v:Value) (w:World):Prop:=∃x ps cs a u z,t=lh x ps cs a/\v=.agg #[.string x,u,z,.int .i64 a]/\kS B u ps w/\oK B z cs w
theorem iL.val {B:Nat} {t v:Value} {w:World} (h:iL B t v w):∃x u z a,v=.agg #[.string x,u,z,.int .i64 a]/\u.oneCell'=true/\z.oneCell'=true:=by
 obtain ⟨x,ps,cs,a,u,z,_,h1,h2,h3⟩:=h;obtain ⟨o,c,rfl⟩:=Row.len h2;obtain ⟨o',c',rfl⟩:=Row.len h3;exact ⟨x,_,_,a,h1,rfl,rfl⟩
theorem iL.on {B C:Nat} {t v:Value} {w w':World} (h:iL B t v w) (hb:bF B w w') (hc:C<=B):iL C t v w':=by
 obtain ⟨x,ps,cs,a,u,z,h0,h1,h2,h3⟩:=h;exact ⟨x,ps,cs,a,u,z,h0,h1,h2.on hb hc,h3.on hb hc⟩
def nV (B:Nat) (w:World) (b o:Nat) (t:Value):Prop:=B<=b/\∃x ps cs a u z,t=lh x ps cs a/\w.cell? ⟨b,o,none⟩=some (.string x)/\w.cell? ⟨b,o+1,none⟩=some u/\w.cell? ⟨b,o+2,none⟩=some z/\w.cell? ⟨b,o+3,none⟩=some (.int .i64 a)/\kS B u ps w/\oK B z cs w
def iN (B:Nat) (v:Value) (ds:List Value) (w:World):Prop:=Row 4 (nV B w) v ds
theorem QC {B:Nat} {w:World} {t:Value} {cs:Array Value} {b o:Nat} (h:iL B t (.agg cs) w) (hB:B<=b) (hc:∀j u,cs[j]?=some u->w.cell? ⟨b,o+j,none⟩=some u):nV B w b o t:=by
 obtain ⟨x,ps,cs,a,u,z,h0,h1,h2,h3⟩:=h;injection h1 with h1;subst h1;exact ⟨hB,x,ps,cs,a,u,z,h0,hc 0 _ rfl,hc 1 _ rfl,hc 2 _ rfl,hc 3 _ rfl,h2,h3⟩
theorem iN.on {B C:Nat} {v:Value} {ds:List Value} {w w':World} (h:iN C v ds w) (hb:bF C w w') (hc:B<=C):iN B v ds w':=Row.imp h fun b o t _ ht=>by
 obtain ⟨hB,x,ps,cs,a,u,z,h0,h1,h2,h3,h4,h5,h6⟩:=ht;exact ⟨Nat.le_trans hc hB,x,ps,cs,a,u,z,h0,jB hb hB h1,jB hb hB h2,jB hb hB h3,jB hb hB h4,h5.on hb hc,h6.on hb hc⟩
section
variable {w0 w u u':World} {p:Nat} {L:List Tk} {vL:Value} {en:Int} {H:List Nat} {i j:Nat} {Bs:List Bk} {Ts:List (World->Prop)}
theorem ST.Mw (h:ST w0 p L vL en H w i Bs Ts u) {t v:Value} {B:Nat} (hB:B<=u.heap.size) (h1:PR w0 p L vL en j u') (h2:But p u u') (hv:iw u.heap.size t v u'):ST w0 p L vL en H w j Bs (iw B t v :: Ts) u' :=
 (h.call h1 h2).add _ fun w' hw=>hv.on (h.newer hw) hB
theorem ST.Zo (h:ST w0 p L vL en H w i Bs Ts u) {t v:Value} {B:Nat} (hB:B<=u.heap.size) (h1:PR w0 p L vL en j u') (h2:But p u u') (hv:iL u.heap.size t v u'):ST w0 p L vL en H w j Bs (iL B t v :: Ts) u' :=
 (h.call h1 h2).add _ fun w' hw=>hv.on (h.newer hw) hB
end
section
variable {w0:World} {p:Nat} {L:List Tk} {vL:Value} {en:Int} {H:List Nat} {w:World} {q j:Nat} {V:Value->Value->World->Prop} {T TA TB:TypeId} {sz:Nat} {dC:Value->Array Value} {zA:Array Value} {t:Value} {els:List Value} {Ts:List (World->Prop)} {cs:Array Value} {v v9:Value} {u u':World} {xs:List Value}
theorem Et (h:ST w0 p L vL en H w j [(w.heap.size,zA,TA),(q,dC v,TB)] Ts u) (hH:∀k ∈ H,w.heap.size<k/\k≠q) (vh:∀k,v.ownBlock=some k->k ∈ H) (hown':u'.ownsRow w.heap.size T sz v9 (els.length+1) (xs++cs.toList)) (hg:u.grownBy u' v.ownBlock) (hv:v9.ownBlock=v.ownBlock\/v9.ownBlock=some u.heap.size) :
  ST w0 p L vL en (v9.ownBlock.toList++H) w j [(w.heap.size,zA,TA),(q,dC v,TB)] Ts u'/\∃g c,v9=.slice (some ⟨g,0,none⟩) (els.length+1) c/\w.heap.size<g/\g≠q:=by
 obtain ⟨g,c,bG,hgB⟩:=Rh hown';refine ⟨h.app (v:=v) (v':=v9) hg (fun k hk=>?_) hv (fun k hk=>(hown'.lt k hk).2),g,c,bG,?_⟩
 ·have:=hH k (vh k hk)
  refine ⟨vh k hk,Nat.le_of_lt this.1,fun x hx=>?_⟩;simp only [List.mem_cons,List.not_mem_nil,or_false] at hx;rcases hx with rfl|rfl
  ·exact Nat.ne_of_lt this.1
  ·exact fun e=>this.2 e.symm
 ·have e9:v9.ownBlock=some g:=by rw [bG];rfl
  rcases hv with h1|h1
  ·rw [e9] at h1;exact hH g (vh g h1.symm)
  ·rw [e9] at h1;injection h1 with h1;have hw1:=h.blt (x:=(w.heap.size,zA,TA)) (List.Mem.head _);have hq1:=h.blt (x:=(q,dC v,TB)) (List.Mem.tail _ (List.Mem.head _));have adF:w.heap.size<u.heap.size:=hw1;have adG:q<u.heap.size:=hq1;omega
theorem Ev {f:Nat} (h:ST w0 p L vL en (v9.ownBlock.toList++H) w j [(w.heap.size,zA,TA),(q,dC v,TB)] Ts u') (hset:(dC v).setIfInBounds f v9=dC v9):ST w0 p L vL en (v9.ownBlock.toList++H) w j [(w.heap.size,zA,TA),(q,dC v9,TB)] Ts (u'.setCell ⟨q,f,none⟩ v9):=by
 have:=h.set' 1 rfl f v9
 rw [hset] at this;exact this
theorem Eu {f:Nat} (hown:u.ownsRow w.heap.size T sz v els.length xs) (gT:∀k,v.ownBlock=some k->k ∈ H++[w.heap.size,q]) (hx:∀k t,els[k]?=some t->∃cs:Array Value,cs.size=sz/\gJ (H++[w.heap.size,q]) p (V t (.agg cs)) u/\∀j c,cs[j]?=some c->xs[k*sz+j]?=some c)
  (hown':u'.ownsRow w.heap.size T sz v9 (els.length+1) (xs++cs.toList)) (hg:u.grownBy u' v.ownBlock) (hv:v9.ownBlock=v.ownBlock\/v9.ownBlock=some u.heap.size) (hc:cs.size=sz) (ht:gJ (H++[w.heap.size,q]) p (V t (.agg cs)) u) {g c:Nat} (bG:v9=.slice (some ⟨g,0,none⟩) (els.length+1) c) (eX:g≠q):fM V w.heap.size T sz ((v9.ownBlock.toList++H)++[w.heap.size,q]) p (u'.setCell ⟨q,f,none⟩ v9) v9 (els++[t]):=by
 have h1:=fM.app hown gT hx hown' hg hv hc ht;rw [<- List.append_assoc] at h1;have hgr:=Rf u' q f v9;refine h1.kept (Kv hgr (fun k hk=>by injection hk with hk;subst hk;simp)) hgr.size (fun k hk=>hgr.block k ?_ ?_)
 ·obtain ⟨ys,hy,_⟩:=h1;exact (hy.lt k hk).2
 ·intro e;rw [bG] at hk;injection hk with hk;injection e with e;exact eX (by rw [<- e];exact hk)
end
end Pz
end Go.Proofs.YtkdbgopgjbfhbaaGreatDoor
