/- Texts that the claim needs. -/
import Derived.Test.YtkdbgopgjbfhbaaGreatDoorQPW16
import Derived.Test.YtkdbgopgjbfhbaaGreatDoorQPW6
namespace Go.Proofs.YtkdbgopgjbfhbaaGreatDoor
open Go.RowKit Lx Pz bq
set_option linter.unusedVariables false
set_option maxRecDepth 100000
set_option maxHeartbeats 16000000
namespace Pz
def Ak (L:List Tk) (en:Int) (P E:Nat->Rd Value):Nat->Nat->List Value->List Value->Rd (List Value × List Value)
 | 0,i,ps,es=>.ok ((ps,es),i)
 | f+1,i,ps,es=>match aY L en lg i with
  | .error _=>.ok ((ps,es),i)
  | .ok i=>match sU L en P E i with
   | .error z=>.error z
   | .ok ((p,e),j)=>Ak L en P E f j (ps++[p]) (es++[e])
def G8 (L:List Tk) (en:Int) (P E:Nat->Rd Value) (i:Nat):Rd Value:=match aY L en gX i with
 | .error z=>.error z
 | .ok j=>match E j with
  | .error z=>.error z
  | .ok (c,j)=>match aY L en AJ j with
   | .error z=>.error z
   | .ok j=>match sU L en P E j with
    | .error z=>.error z
    | .ok ((p,e),j)=>match Ak L en P E (L.length+1) j [p] [c,e] with
     | .error z=>.error z
     | .ok ((ps,es),j)=>match aY L en yD j with
      | .error z=>.error z
      | .ok j=>.ok (nd 7 e0 e0 0 es ps (tk L en i).a,j)
theorem Uu {L:List Tk} {en:Int} {P E:Nat->Rd Value} (hP:cn P) (hE:cn E):cn (sU L en P E):=by
 intro i t j h;unfold sU at h;cases h0:P i with
 | error z=>rw [h0] at h;cases h
 | ok r0 =>
  obtain ⟨a0,j0⟩:=r0;have q0:=hP _ _ _ h0;rw [h0] at h;dsimp only at h;cases h1:aY L en gU j0 with
  | error z=>rw [h1] at h;cases h
  | ok j1 =>
   have q1:=fK h1;rw [h1] at h;dsimp only at h;cases h2:E j1 with
   | error z=>rw [h2] at h;cases h
   | ok r2 =>
    obtain ⟨a2,j2⟩:=r2;have q2:=hE _ _ _ h2;rw [h2] at h;injection h with h;injection h with _ h;omega
theorem BD.err {w0:World} {p:Nat} {L:List Tk} {vL:Value} {en:Int} {w:World} {q:Nat} {db:Int} {es ps:List Value} {X:Rd (Value × Value)} {e:Ending} {u':World} {z:Int} (h:BD w0 p L vL en w q db es ps X e u') (hX:X=.error z):e=.panicked (Bg z)/\Below w0.heap.size w0 u':=by subst hX;exact h
theorem BD.ok {w0:World} {p:Nat} {L:List Tk} {vL:Value} {en:Int} {w:World} {q:Nat} {db:Int} {es ps:List Value} {X:Rd (Value × Value)} {e:Ending} {u':World} {pt ex:Value} {j:Nat} (h:BD w0 p L vL en w q db es ps X e u') (hX:X=.ok ((pt,ex),j)):e=.returned (.tuple #[])/\∃H' L9 Ma,CS w0 p L vL en w q db j H' (es++[ex]) (ps++[pt]) L9 Ma u':=by subst hX;exact h
theorem CS.on {w0:World} {p:Nat} {L:List Tk} {vL:Value} {en:Int} {w:World} {q:Nat} {db:Int} {j:Nat} {H:List Nat} {es ps:List Value} {vE vP:Value} {u u':World} (h:CS w0 p L vL en w q db j H es ps vE vP u) (hb:Below u.heap.size u u'):CS w0 p L vL en w q db j H es ps vE vP u':=h.call (h.st.pr.on hb) (But.of p hb)
theorem CS.fin {w0:World} {p:Nat} {L:List Tk} {vL:Value} {en:Int} {w:World} {q:Nat} {db:Int} {j:Nat} {H:List Nat} {es ps:List Value} {vE vP:Value} {u:World} (h:CS w0 p L vL en w q db j H es ps vE vP u) (hle:es.length<=5000) (hlp:ps.length<=5000):ST w0 p L vL en [] w j [(w.heap.size,bO,27),(q,lf db vE vP,27)] [aX w.heap.size (nd 7 e0 e0 0 es ps db) (.agg (lf db vE vP))] u:=by
 have hs:∀k ∈ [w.heap.size,q],k ∈ H++[w.heap.size,q]:=fun k hk=>List.mem_append_right _ hk
 have ho:∀k,k ∈ H->k ∉ [w.heap.size,q]:=fun k hk hm=>by
  have:=h.hH k hk
  simp only [List.mem_cons,List.not_mem_nil,or_false] at hm;omega
 have hE:=h.rE.row (F:=fun w' d=>dW w.heap.size w' d) (fun w'=>dW.up) (by omega) h.pB hs (fun k hk=>ho k (h.hE k hk)) (fun w' t cs b o hv hB hc=>D6 hv hB hc);have hP:=h.rP.row (F:=fun w' d=>di w.heap.size w' d) (fun w'=>di.up) (by omega) h.pB hs (fun k hk=>ho k (h.hP k hk)) (fun w' t cs b o hv hB hc=>KM hv hB hc);refine (h.st.less (H':=[]) (fun k hk=>by cases hk)).add _ fun w' hw=>?_;have hw':ia [w.heap.size,q] p u w':=hw;exact Pz.Bi 7 e0 e0 0 db (hE w' hw') (hP w' hw')
def CsI (w0:World) (p:Nat) (L:List Tk) (vL:Value) (en:Int) (w:World) (q:Nat) (db:Int) (i:Nat) (P E:Nat->Rd Value) (az:Rd Value) (wr:World):Prop:=∃(j f:Nat) (H:List Nat) (es ps:List Value) (vE vP:Value),Hid (az=(match Ak L en P E f j ps es with | .error z=>.error z | .ok ((ps,es),j)=>match aY L en yD j with | .error z=>.error z | .ok j=>.ok (nd 7 e0 e0 0 es ps db,j)))/\Hid (L.length+1<=j+f)/\Hid (i<j)/\Hid (es.length<=j/\ps.length<=j)/\Hid (CS w0 p L vL en w q db j H es ps vE vP wr)
end Pz
theorem acQ (w0:World) (p:Nat) (L:List Tk) (vL:Value) (en:Int) (i:Nat) (P E:Nat->Rd Value) (Uv:cn P) (eD:cn E) (HP:∀j u,i<j->PR w0 p L vL en j u->Calls Tryz.prog 186 #[.pointer (some ⟨p,0,none⟩)] u (Rp w0 p L vL en (cW u.heap.size) u (P j))) (HE:∀j u,i<j->PR w0 p L vL en j u->Calls Tryz.prog 60 #[.pointer (some ⟨p,0,none⟩)] u (Rp w0 p L vL en (aX u.heap.size) u (E j))) (w:World) (h:PR w0 p L vL en i w) :
  Calls Tryz.prog 157 #[.pointer (some ⟨p,0,none⟩)] w (Rp w0 p L vL en (aX w.heap.size) w (G8 L en P E i)):=by
 have ck:=ae ((ST.om h).new bO 27);obtain ⟨az,aW⟩:∃X,X=(G8 L en P E i:Rd Value):=⟨_,rfl⟩;rw [<- aW];unfold G8 at aW;have HX:=ae aW;have xQ:=ae HP;have cH:=ae HE;have G9:=ae Uv;have ja:=ae eD;clear h aW HP HE Uv eD;have bW:=ae (ig w0 p L vL en i gX _ ck.out.pr);go_enter Tryz.func157,Tryz.ntmps157;go_wp2_with fail;refine Calls.mono (show Calls _ _ _ _ _ from bW.out) ?_;intro e u1 hr;cases hR:aY L en gX i with
 | error z =>
  obtain ⟨rfl,hb⟩:=bE hr (dU hR);have HB:=ae hb;have aA:Hid (az=.error z):=ae (by have hq:=HX.out;rw [hR] at hq;exact hq);clear hb hR hr bW HX;go_wp2;exact ⟨rfl,bA aA.out HB.out⟩
 | ok j1 =>
  obtain ⟨⟨v,rfl,hv⟩,hp,hbt⟩:=bw hr (dU hR);subst hv;have gP:=ae (fK hR);have hq:=HX.out;rw [hR] at hq;dsimp only at hq;have bI:=ae hq;clear hq;have aT:=ae (ck.out.call hp hbt);clear hp hbt bW HX hR hr ck;generalize (tk L en i).a=bY at *;obtain ⟨W2,hW,hth,cJ⟩:=aT.out.kE 27 bO (lf bY (.slice none 0 0) (.slice none 0 0)) rfl;have HW2:=ae hW;have fW:=ae hth;have ba:=ae cJ;clear hW hth cJ aT;go_upto_region 2 with (refine wpList_store_mid rfl 27 (.tmp 3) (.tmp 6) rfl u1.heap.size 0 (lf bY (.slice none 0 0) (.slice none 0 0)) rfl rfl fW.out cO (by simp [Value.oneCell']) ?_;rw [HW2.out])
  try dsimp only [Act.put]
  clear fW HW2
  have hq0:w.heap.size<u1.heap.size:=by
   have h9:=ba.out.pO;have h8:=(ba.out.blk _ (List.Mem.tail _ (List.Mem.head _))).2;simp at h9 h8;omega
  generalize u1.heap.size=q at *;obtain ⟨es0,Ha⟩:∃es0:List Value,es0 = []:=⟨_,rfl⟩;obtain ⟨ps0,Mb⟩:∃ps0:List Value,ps0 = []:=⟨_,rfl⟩;obtain ⟨vE0,Uw⟩:∃v:Value,v=.slice none 0 0:=⟨_,rfl⟩;obtain ⟨vK,Ux⟩:∃v:Value,v=.slice none 0 0:=⟨_,rfl⟩
  have hC0:CS w0 p L vL en w q bY j1 [] es0 ps0 vE0 vK W2:=by
   subst Ha Mb Uw Ux;exact ⟨ba.out,fV.nil _ _ _ _ _ _ _,fV.nil _ _ _ _ _ _ _,fun k hk=>(by cases hk),fun k hk=>(by cases hk),fun k hk=>(by cases hk),fun k hk=>(by cases hk)⟩
  have hel:es0.length=0:=by rw [Ha];rfl
  have ij:=ae hel;have uF:=ae Ha;have HPS:=ae Mb;clear hel Uw Ux ba Ha Mb;obtain ⟨oE,cE,hv1⟩:=hC0.rE.sl;subst hv1;have HC:=ae hC0;clear hC0
  obtain ⟨ok,t2,j2,yc,hok0⟩:∃(ok:Bool) (t2:Value) (j2:Nat),(ok=true->E j1=.ok (t2,j2))/\(ok=false->∃z,E j1=.error z):=by
   cases hP:E j1 with
   | error z=>exact ⟨false,undef,0,fun h=>(by cases h),fun _=>⟨z,rfl⟩⟩
   | ok r=>exact ⟨true,r.1,r.2,fun _=>rfl,fun h=>(by cases h)⟩
  have pJ:=ae (And.intro yc hok0);clear yc hok0
  try dsimp only [Act.put]
  refine Jh (w0:=w0) (p:=p) (L:=L) (vL:=vL) (en:=en) (H:=([]:List Nat)) (w:=w) (q:=q) (j2:=j2) (V:=aX w.heap.size) (T:=27) (sz:=7) (eC:=(fun y=>lf bY y vK)) (t2:=t2) (els:=es0) (V2:=cW w.heap.size) (T2:=101) (sz2:=5) (v2:=vK) (ts2:=ps0) (ok:=ok) (zc:=bO) (f:=4) (rl:=(fun i=>[0,0,0,5,0,7,8,9,10,1,13].getD i 1)) (cv:=(fun i=>[.pointer (some ⟨q,4,none⟩),.slice oE es0.length cE,.pointer (some ⟨p,0,none⟩),undef,.int .i64 (es0.length:Int),undef,undef,undef,undef,.pointer (some ⟨q,4,none⟩),undef].getD i undef)) 11 29 (fun i=>[7,8,9,10,11,12,13,14,5,15,6].getD i 0) [8,10] [6,8,10] j1 (by kernel_rfl) (by kernel_rfl) (by kernel_rfl) (by kernel_rfl) rfl (by kernel_rfl) ?Mc ?Mf ?Mg HC.out.st.pr ?Mh ?Mi
  case Mc =>
   intro i hi
   have:i=8\/i=10:=by simpa using hi
   rcases this with rfl|rfl
   ·exact .inl rfl
   ·exact .inr rfl
  case Mf=>intro v9 y;rfl
  case Mg=>exact fun e=>(HC.out.hH q (HC.out.hP q e)).2 rfl
  case Mh =>
   intro i' o a z u1 hi ho hF hR hd;have f0:a.tmps[0]?.getD undef=.pointer (some ⟨p,0,none⟩):=aj.ay (hF.eval 0 (fun i hi=>by have hc:=List.mem_range.2 hi;revert hc;clear hi;revert i;decide));have f3:a.tmps[3]?.getD undef=.pointer (some ⟨q,0,none⟩):=aj.ay (hF.eval 3 (fun i hi=>by have hc:=List.mem_range.2 hi;revert hc;clear hi;revert i;decide));have zx:=ae hF.defers;have HR:=ae hR;clear hR
   iterate 11 (rcases Nat.lt_succ_iff_lt_or_eq.1 hi with hi|rfl)
   exact absurd hi (Nat.not_lt_zero _)
   all_goals (simp only [List.getElem?_toArray,List.getElem?_cons_succ,List.getElem?_cons_zero,Option.some.injEq] at ho;subst ho;refine aj.bB fun KK ax=>?_;have dA:=ae ax;clear ax)
   ·clear hd;go_simp;exact dA.out _ _ ⟨_,z,rfl,cZ.c (by decide),bM.c (by decide) rfl⟩
   ·have g0:a.tmps[7]?.getD undef=.pointer (some ⟨q,4,none⟩):=aj.ay ((hd 0 (by decide)).iQ (by decide));have hb:=(HR.out (.inl rfl)).1.blk (HC.out.st.at_ (k:=1) rfl) HC.out.qp;have y4:=dc hb 4 rfl;clear hb;clear hd;go_simp;exact dA.out _ _ ⟨_,z,rfl,cZ.c (by decide),bM.c (by decide) rfl⟩
   ·clear hd;go_simp;exact dA.out _ _ ⟨_,z,rfl,cZ.c (by decide),bM.c (by decide) rfl⟩
   ·have g0:a.tmps[9]?.getD undef=.pointer (some ⟨p,0,none⟩):=aj.ay ((hd 2 (by decide)).iQ (by decide));clear hd;obtain ⟨aU,_,h5,hz⟩:=HR.out (.inr (.inl rfl));obtain ⟨hpr,rfl⟩:=h5 rfl;have hS:=HC.out.st.call hpr aU;have aT:=ae hS;clear aU h5 hz HR hS;have HC:=ae (cH.out j1 u1 gP.out aT.out.pr);clear hpr;go_simp;refine Calls.mono (show Calls _ _ _ _ _ from HC.out) ?_;intro e u5 hr;cases ok with
    | false =>
     obtain ⟨zz,hzz⟩:=pJ.out.2 rfl;obtain ⟨rfl,hb⟩:=bE hr hzz;have dQ:az=.error zz:=by have hq:=bI.out;rw [hzz] at hq;exact hq
     rw [dQ];exact ⟨zx.out,bA rfl hb⟩
    | true =>
     have hok:=pJ.out.1 rfl;obtain ⟨⟨v,rfl,hv0⟩,hp,hbt⟩:=bw hr hok;obtain ⟨rk,rx,ry,rn,ru,rz,ra,hv,r1,r2⟩:=hv0.val;subst hv;have jr:=aT.out.jM (B:=w.heap.size) (aT.out.but.size) hp hbt hv0;exact dA.out _ _ ⟨_,_,rfl,cZ.five (by decide) hbt ⟨_,hp⟩,bM.five (by decide) rfl rfl (by simp [Value.oneCell'] at r1 r2 ⊢;exact ⟨r1,r2⟩) rfl hp (fun w' hw=>jr.gq _ (List.Mem.head _) w' hw)⟩
   ·have g1:a.tmps[8]?.getD undef=.slice oE es0.length cE:=aj.ay ((hd 1 (by decide)).iQ (by decide));clear hd;go_simp;exact dA.out _ _ ⟨_,z,rfl,cZ.c (by decide),bM.c (by decide) rfl⟩
   ·obtain ⟨aU,⟨jj,hjj⟩,_,hz⟩:=HR.out (.inr (.inr (.inl rfl)));have hpl:=hjj.lt;clear hd aU hjj hz;go_simp;exact dA.out _ _ ⟨_,z,rfl,cZ.seven (by decide) (dF _ _),bM.seven (by decide) rfl (heap_alloc_new _ _) hpl⟩
   ·obtain ⟨aU,_,_,hz⟩:=HR.out (.inr (.inr (.inr rfl)));obtain ⟨R,rfl,mQ,hRs,mD,hok,hpr,hst⟩:=(hd 3 (by decide)).Jj (by decide) hz;obtain ⟨gz,l5,Es,Uy⟩:=(hd 5 (by decide)).Jl (by decide) hz;have jK:=(hd 1 (by decide)).iQ (by decide);obtain ⟨xs,hown,jV,hxe⟩:=HC.out.rE.but aU HC.out.pB;obtain ⟨i0,hi0,hz0,hz1,hz2⟩:=info_parts LB;refine yx _ _ 24 rfl w.heap.size 27 i0 _ 7 104 Tryz.underlying24 hi0 hz0 hz1 hz2 rfl (by decide) _ _ _ jK hown (some ⟨gz,0,none⟩) 1 1 [.int .i64 0,.string ⟨#[]⟩,.string ⟨#[]⟩,.int .i64 0,.slice none 0 0,.slice none 0 0,.int .i64 0] l5 (by intro h;cases h) rfl (fun ad h j c hj=>by injection h with h;subst h;rw [Addr.add_mid,Nat.zero_add];exact ak Es j c (by simpa using hj)) (by intro c hc;simp only [List.mem_cons,List.not_mem_nil,or_false] at hc;rcases hc with rfl|rfl|rfl|rfl|rfl|rfl|rfl<;>rfl) (by unfold maxLen;have:=ij.out.symm;omega) (by have:=ij.out.symm;omega) ((HC.out.st.call hpr aU).but.size) ?_
    intro v9 w9 gF fP bQ;exact dA.out _ _ ⟨v9,some (R,some v9),rfl,cZ.eight (by decide),bM.eight (by decide) hok hRs mD (Mid.start (zc:=bO) ((HC.out.st.call hpr aU).add _ hst) hown (HC.out.hE) hxe (HC.out.rP.but aU HC.out.pB) HC.out.hH (Nat.lt_of_lt_of_le HC.out.ql aU.size) (fun k hk e=>HC.out.Hb k hk e) gF fP bQ rfl)⟩
   ·obtain ⟨R,rfl,hok,hRs,mD,hM⟩:=(hd 6 (by decide)).tO (by decide);obtain ⟨g9,c9,bQ,bJ,fo,hg2⟩:=id hM.own;have g8:a.tmps[13]?.getD undef=.slice (some ⟨g9,0,none⟩) (es0.length+1) c9:=aj.ay bQ;have g4:a.tmps[11]?.getD undef=.int .i64 (es0.length:Int):=aj.ay ((hd 4 (by decide)).iQ (by decide));have yd:=bM.nine (w0:=w0) (p:=p) (L:=L) (vL:=vL) (en:=en) (H:=([]:List Nat)) (w:=w) (q:=q) (j2:=j2) (V:=aX w.heap.size) (T:=27) (sz:=7) (eC:=(fun y=>lf bY y vK)) (t2:=t2) (els:=es0) (V2:=cW w.heap.size) (T2:=101) (sz2:=5) (v2:=vK) (ts2:=ps0) (ok:=ok) (zc:=bO) (rl:=(fun i=>[0,0,0,5,0,7,8,9,10,1,13].getD i 1)) (cv:=(fun i=>[.pointer (some ⟨q,4,none⟩),.slice oE es0.length cE,.pointer (some ⟨p,0,none⟩),undef,.int .i64 (es0.length:Int),undef,undef,undef,undef,.pointer (some ⟨q,4,none⟩),undef].getD i undef)) (i:=7) (u:=u1) (R:=R) rfl bQ;have oz:=ae yd;have Uz:(es0.length:Int)<(es0.length:Int)+1:=by omega
    clear hd hM bQ yd;go_simp;exact dA.out _ _ ⟨_,_,rfl,cZ.nine (by decide),oz.out⟩
   ·obtain ⟨R,rfl,hok,hRs,mD,hM⟩:=(hd 6 (by decide)).tO (by decide);obtain ⟨g9,c9,bQ,Et⟩:=(hd 7 (by decide)).Jm (by decide);have mQ:=(hd 3 (by decide)).Jk (by decide);obtain ⟨UA,c9',Eu,bJ,fo,hg2⟩:=id hM.own
    have Ev:g9≠q:=by
     have e:=bQ.symm.trans Eu;injection e with e _ _;injection e with e;injection e with e;rw [e];exact fo
    obtain ⟨ys,rd,hrd,Ew,UB,_⟩:=id hM.row;have hth:u1.there g9 (es0.length*7) 7:=KV (c:=c9) (by have h9:=Ew;rw [bQ] at h9;exact h9);refine wp_store_mid 27 (.tmp 14) (.tmp 10) rfl g9 (es0.length*7) R Et mQ (by rw [hRs];exact hth) (by rw [hRs];exact cO) (by rw [Array.all_eq_true_iff_forall_mem];exact fun c hc=>mD c (by simpa using hc)) (dA.out _ _ ⟨undef,_,rfl,cZ.ten (by decide) bQ Ev hRs,bM.ten (by decide) hRs hM bQ⟩)
   ·clear hd;go_simp;exact dA.out _ _ ⟨_,z,rfl,cZ.c (by decide),bM.c (by decide) rfl⟩
   ·obtain ⟨R,rfl,hok,hRs,mD,hM⟩:=(hd 6 (by decide)).tO (by decide);obtain ⟨g9,c9,bQ,bJ,fo,hg2⟩:=id hM.own;have g8:a.tmps[13]?.getD undef=.slice (some ⟨g9,0,none⟩) (es0.length+1) c9:=aj.ay bQ;have gf:a.tmps[15]?.getD undef=.pointer (some ⟨q,4,none⟩):=aj.ay ((hd 9 (by decide)).iQ (by decide));obtain ⟨y,hst⟩:=id hM.st;have fz:=hst.jb 1 rfl 4;have yz:=hst.cell 1 rfl 4 rfl;rw [bQ] at hM dA;have hG:=bM.yS (w0:=w0) (p:=p) (L:=L) (vL:=vL) (en:=en) (H:=([]:List Nat)) (w:=w) (q:=q) (j2:=j2) (V:=aX w.heap.size) (T:=27) (sz:=7) (eC:=(fun y=>lf bY y vK)) (t2:=t2) (els:=es0) (V2:=cW w.heap.size) (T2:=101) (sz2:=5) (v2:=vK) (ts2:=ps0) (ok:=ok) (zc:=bO) (f:=4) (rl:=(fun i=>[0,0,0,5,0,7,8,9,10,1,13].getD i 1)) (cv:=(fun i=>[.pointer (some ⟨q,4,none⟩),.slice oE es0.length cE,.pointer (some ⟨p,0,none⟩),undef,.int .i64 (es0.length:Int),undef,undef,undef,undef,.pointer (some ⟨q,4,none⟩),undef].getD i undef)) (i:=10) (v:=undef) rfl (fun y=>rfl) hM;have HG:=ae hG;clear hd hM hst hG bQ;go_simp;exact dA.out _ _ ⟨undef,_,rfl,cZ.yS (by decide) (fun e=>by injection e with e;exact fo e),HG.out⟩
  case Mi =>
   intro a z u9 hF hn;obtain ⟨hok,⟨g9,c9,bQ,bJ,fo,hg2⟩,fL,hr1,hr2⟩:=(hn 6 (by simp) (by decide)).fin rfl (hn 8 (by simp) (by decide)) rfl (hn 10 (by simp) (by decide)) rfl;have uo:=pJ.out.1 hok;rw [bQ] at fL hr1 hr2;have hF':aj.Fr _ (fun i=>5+i) 11 a:=hF.perm (fun i hi=>by have hc:=List.mem_range.2 hi;revert hc;clear hi;revert i;decide);obtain ⟨xl,hxl,rfl,hev⟩:=hF'.lit (by simp);obtain ⟨x0,x1,x2,x3,x4,x5,x6,x7,x8,x9,gD,rfl⟩:∃x0 x1 x2 x3 x4 x5 x6 x7 x8 x9 gD,xl = [x0,x1,x2,x3,x4,x5,x6,x7,x8,x9,gD]:=by match xl,hxl with|[x0,x1,x2,x3,x4,x5,x6,x7,x8,x9,gD],_=>exact ⟨x0,x1,x2,x3,x4,x5,x6,x7,x8,x9,gD,rfl⟩
   clear hF hF' hn hev hxl;simp only [List.take_succ_cons,List.take_zero,List.drop_succ_cons,List.drop_zero,List.cons_append,List.nil_append];have hlt:=ja.out _ _ _ uo;have Al:=ae hlt;have hq:=bI.out;rw [uo] at hq;dsimp only at hq;have bD:=ae hq;have dV:Hid (CS w0 p L vL en w q bY j2 ([g9]++[]) (es0++[t2]) ps0 (.slice (some ⟨g9,0,none⟩) (es0.length+1) c9) vK u9):=ae ⟨fL,hr1,hr2,fun k hk=>by injection hk with hk;subst hk;exact List.Mem.head _,fun k hk=>List.mem_cons_of_mem _ (HC.out.hP k hk),fun k hk=>by rcases List.mem_cons.1 hk with rfl|hk;(exact ⟨bJ,fo⟩);exact HC.out.hH k hk,fun k hk e=>by injection hk with hk;subst hk;exact hg2 e⟩
   clear fL hr1 hr2 hlt hq uo pJ bI bQ hg2 hok HC ij;generalize (.slice (some ⟨g9,0,none⟩) (es0.length+1) c9:Value)=vE1 at *;generalize ([g9]++[]:List Nat)=H1 at *;rw [uF.out,List.nil_append,HPS.out] at dV;have bW:=ae (ig w0 p L vL en j2 AJ _ dV.out.st.pr);go_wp2_with fail;refine Calls.mono (show Calls _ _ _ _ _ from bW.out) ?_;intro e u2 hr;cases hR:aY L en AJ j2 with
   | error z =>
    obtain ⟨rfl,hb⟩:=bE hr (dU hR);have HB:=ae hb;have aA:Hid (az=.error z):=ae (by have hq:=bD.out;rw [hR] at hq;exact hq);clear hb hR hr bW bD;go_wp2;exact ⟨rfl,bA aA.out HB.out⟩
   | ok j3 =>
    obtain ⟨⟨v,rfl,hv⟩,hp,hbt⟩:=bw hr (dU hR);subst hv;have Am:=ae (fK hR);have hq:=bD.out;rw [hR] at hq;dsimp only at hq;have eX:=ae hq;have dM:=ae (dV.out.call hp hbt);clear hp hbt hr hR hq bD bW dV;have Ao:=ae (UC w0 p L vL en j3 P E G9.out (fun u hu=>xQ.out j3 u (by have:=gP.out;have:=Al.out;have:=Am.out;omega) hu) (fun j' u hj' hu=>cH.out j' u (by have:=gP.out;have:=Al.out;have:=Am.out;omega) hu) w q bY H1 [t2] [] vE1 vK u2 dM.out (by simp) (by simp));go_wp2_with fail;refine Calls.mono (show Calls _ _ _ _ _ from Ao.out) ?_;intro e u3 hr;cases hR:sU L en P E j3 with
    | error z =>
     obtain ⟨rfl,hb⟩:=hr.err hR;have HB:=ae hb;have aA:Hid (az=.error z):=ae (by have hq:=eX.out;rw [hR] at hq;exact hq);clear hb hr hR eX Ao;go_wp2;exact ⟨rfl,bA aA.out HB.out⟩
    | ok r =>
     obtain ⟨⟨pt,ex⟩,j4⟩:=r;obtain ⟨rfl,H3,Mj,Mk,rS⟩:=hr.ok hR;have Ml:=ae (Uu G9.out ja.out _ _ _ hR);have hq:=eX.out;rw [hR] at hq;dsimp only at hq;have pF:=ae hq;have kU:=ae rS;clear rS hq hR hr eX Ao dM;go_wp2_with fail;go_loopw [] (fun wr=>CsI w0 p L vL en w q bY i P E az wr) (fun wr=>left p L.length wr)
     case atStart=>exact ⟨j4,L.length+1,H3,_,_,Mj,Mk,pF,ae (by omega),ae (by have:=gP.out;have:=Al.out;have:=Am.out;have:=Ml.out;omega),ae (by simp;have:=gP.out;have:=Al.out;have:=Am.out;have:=Ml.out;omega),kU⟩
     case round =>
      clear pF kU Al Am Ml gP;obtain ⟨j,f,H,es,ps,vE,vP,HX,HF,dZ,ij,HC⟩:=hrel;have HQ:=ae (vV w0 p L vL en j lg _ HC.out.st.pr);cases hb:bn (tk L en j) lg with
      | false =>
       have bz:Hid (az=(match aY L en yD j with | .error z=>.error z | .ok j=>.ok (nd 7 e0 e0 0 es ps bY,j))):=ae (by
        have hq:=HX.out;cases f with
        | zero=>exact hq
        | succ f=>rw [Ak,show aY L en lg j=.error (tk L en j).a from if_neg (by rw [hb];decide)] at hq;exact hq)
       rw [hb] at HQ;clear hb HX HF;go_wp2_with fail;refine Calls.mono (show Calls _ _ _ _ _ from HQ.out) ?_;rintro e w1 ⟨rfl,hb1⟩;have dV:=ae (HC.out.on hb1);clear hb1 HQ HC;have bW:=ae (ig w0 p L vL en j yD _ dV.out.st.pr);go_wp2_with fail;refine Calls.mono (show Calls _ _ _ _ _ from bW.out) ?_;intro e u5 hr;cases hR:aY L en yD j with
       | error z =>
        obtain ⟨rfl,hb⟩:=bE hr (dU hR);have HB:=ae hb;have aA:Hid (az=.error z):=ae (by have hq:=bz.out;rw [hR] at hq;exact hq);clear hb hR hr bW bz;go_wp2;exact ⟨rfl,bA aA.out HB.out⟩
       | ok j5 =>
        obtain ⟨⟨v,rfl,hv⟩,hp,hbt⟩:=bw hr (dU hR);subst hv;have Iv:Hid (az=.ok (nd 7 e0 e0 0 es ps bY,j5)):=ae (by have hq:=bz.out;rw [hR] at hq;exact hq);have hjl:=dV.out.st.pr.le;have hfw:=dV.out.st.pr.few;have Ap:=dV.out.call hp hbt;have HS:=ae (Ap.fin (by have:=ij.out;omega) (by have:=ij.out;omega));obtain ⟨oE,cE,rfl⟩:=Ap.rE.sl;obtain ⟨oP,cP,rfl⟩:=Ap.rP.sl;clear hp hbt hr hR bz bW dV Ap hjl hfw;have y0:=HS.out.cell 1 rfl 0 rfl;have y1:=HS.out.cell 1 rfl 1 rfl;have y2:=HS.out.cell 1 rfl 2 rfl;have y3:=HS.out.cell 1 rfl 3 rfl;have y4:=HS.out.cell 1 rfl 4 rfl;have y5:=HS.out.cell 1 rfl 5 rfl;have y6:=HS.out.cell 1 rfl 6 rfl;obtain ⟨WA,dR,dS,dJ⟩:=HS.out.put 0 rfl (lf bY (.slice oE es.length cE) (.slice oP ps.length cP)) rfl;have gQ:=ae dR;have gS:=ae dS;have aD:=ae dJ;clear dR dS dJ;go_wp2_with (refine wpList_store_mid rfl 27 (.tmp 2) (.tmp 28) rfl w.heap.size 0 (lf bY (.slice oE es.length cE) (.slice oP ps.length cP)) rfl rfl gS.out cO (by simp [Value.oneCell']) ?_;rw [gQ.out]);have z0:=aD.out.cell 0 rfl 0 rfl;have z1:=aD.out.cell 0 rfl 1 rfl;have z2:=aD.out.cell 0 rfl 2 rfl;have z3:=aD.out.cell 0 rfl 3 rfl;have z4:=aD.out.cell 0 rfl 4 rfl;have z5:=aD.out.cell 0 rfl 5 rfl;have z6:=aD.out.cell 0 rfl 6 rfl;refine bodyPost_ret (v:=.agg (lf bY (.slice oE es.length cE) (.slice oP ps.length cP))) (by simp [results,Tryz.results157,go_sem,z0,z1,z2,z3,z4,z5,z6]) rfl (cz Iv.out (aD.out.out (List.Mem.head _)) aD.out.pr aD.out.but)
      | true =>
       have hmk:aY L en lg j=.ok (j+1):=if_pos hb;have hjl:=HC.out.st.pr.le;obtain ⟨f,rfl⟩:∃f',f=f'+1:=⟨f-1,by have:=HF.out;omega⟩;have hq:=HX.out;rw [Ak,hmk] at hq;dsimp only at hq;have bI:=ae hq;have qE:=ae hmk;have kG:=ae HC.out.st.pr.left;rw [hb] at HQ;clear hb HX hq hmk;go_wp2_with fail;refine Calls.mono (show Calls _ _ _ _ _ from HQ.out) ?_;rintro e w1 ⟨rfl,hb1⟩;have dV:=ae (HC.out.on hb1);clear hb1 HQ HC;have bW:=ae (ig w0 p L vL en j lg _ dV.out.st.pr);go_wp2_with fail;refine Calls.mono (show Calls _ _ _ _ _ from bW.out) ?_;intro e u5 hr;obtain ⟨⟨v,rfl,hv⟩,hp,hbt⟩:=bw hr (dU qE.out);subst hv;have dM:=ae (dV.out.call hp hbt);have WH:=hp.le;have hfw:=hp.few;clear hp hbt hr bW dV qE;have Ao:=ae (UC w0 p L vL en (j+1) P E G9.out (fun u hu=>xQ.out (j+1) u (by have:=dZ.out;omega) hu) (fun j' u hj' hu=>cH.out j' u (by have:=dZ.out;omega) hu) w q bY H es ps vE vP u5 dM.out (by have:=ij.out;omega) (by have:=ij.out;omega));go_wp2_with fail;refine Calls.mono (show Calls _ _ _ _ _ from Ao.out) ?_;intro e u6 hr;cases hR:sU L en P E (j+1) with
       | error z =>
        obtain ⟨rfl,hb⟩:=hr.err hR;have HB:=ae hb;have aA:Hid (az=.error z):=ae (by have hq:=bI.out;rw [hR] at hq;exact hq);clear hb hr hR bI Ao;go_wp2;exact ⟨rfl,bA aA.out HB.out⟩
       | ok r =>
        obtain ⟨⟨pt,ex⟩,j4⟩:=r;obtain ⟨rfl,H3,Mj,Mk,rS⟩:=hr.ok hR;have hlt:=Uu G9.out ja.out _ _ _ hR;have hq:=bI.out;rw [hR] at hq;dsimp only at hq;have bD:=ae hq;have kU:=ae rS;have pQ:=ae rS.st.pr.left;have hj4:=rS.st.pr.le;clear rS hq hR hr bI Ao dM;go_wp2_with fail;go_roundw
        case rel=>exact ⟨j4,f,H3,_,_,Mj,Mk,bD,ae (by have:=HF.out;omega),ae (by have:=dZ.out;omega),ae (by simp;have:=ij.out;omega),kU⟩
        case measure=>rw [pQ.out,kG.out];omega
theorem aaU (w0:World) (p:Nat) (L:List Tk) (vL:Value) (en:Int) (i:Nat) (R0:Rd Value) (iw:∀u,PR w0 p L vL en i u->Calls Tryz.prog 176 #[.pointer (some ⟨p,0,none⟩)] u (Rp w0 p L vL en (fE u.heap.size) u R0)) (R1:Rd Value) (dV:∀u,PR w0 p L vL en i u->Calls Tryz.prog 177 #[.pointer (some ⟨p,0,none⟩)] u (Rp w0 p L vL en (fE u.heap.size) u R1)) (R2:Rd Value) (dM:∀u,PR w0 p L vL en i u->Calls Tryz.prog 178 #[.pointer (some ⟨p,0,none⟩)] u (Rp w0 p L vL en (fE u.heap.size) u R2)) (g:Nat) (w:World) (h:PR w0 p L vL en i w) (hg:w.heap[g]?=some (.cells lY 187 (0,0))) :
  Calls Tryz.prog 175 #[.pointer (some ⟨p,0,none⟩),.slice (some ⟨g,0,none⟩) 3 3] w (Rp w0 p L vL en (fE w.heap.size) w (bC (tk L en i) [(1,e0,R0),(3,e0,R1),(6,sL,R2)])):=by
 have HA:=ae (AP.start h 79 nR);have H:=ae (jc w0 p L vL en i _ HA.out.pr);obtain ⟨az,aW⟩:∃X,X=bC (tk L en i) [(1,e0,R0),(3,e0,R1),(6,sL,R2)]:=⟨_,rfl⟩;rw [<- aW];have bT:=ae aW;have HG:=ae hg;have hgl:g<w.heap.size:=(Array.getElem?_eq_some_iff.1 hg).1;have iA:g≠p:=fun e=>by rw [e,h.blk] at hg;injection hg with hg;injection hg with hg _ _;cases hg
 have dI:=ae (And.intro hgl iA);generalize tk L en i=t at *;obtain ⟨tk,tx,tn,ta⟩:=t;clear h hg aW hgl iA;go_enter Tryz.func175,Tryz.ntmps175;go_wp2_with fail;refine Calls.mono (show Calls _ _ _ _ _ from H.out) ?_;rintro e u ⟨rfl,hb⟩;have hA1:=HA.out.on hb;obtain ⟨u2,hu2,fM,hb2,m0,m1,m2,m3,hpl⟩:=mK hA1.pr tk tx tn ta;have aO:=ae (hA1.on hb2);have HM:Hid (u2.cell? ⟨u.heap.size,0,none⟩=some (.int .i64 tk)/\u2.cell? ⟨u.heap.size,1,none⟩=some (.string tx)/\u2.cell? ⟨u.heap.size,2,none⟩=some (.int .i64 tn)/\u2.cell? ⟨u.heap.size,3,none⟩=some (.int .i64 ta)):=ae ⟨m0,m1,m2,m3⟩;go_upto_region 2 with fail;simp only [dO]
 try rw [<- hu2]
 generalize u.heap.size=q at *;clear hu2 hb hb2 fM H hA1 m0 m1 m2 m3;go_wp2_with fail;go_loopw [12] (fun x wr=>∃k:Nat,k<=3/\x=.int .i64 k/\Hid (∀j,j<k->([(1,e0,R0),(3,e0,R1),(6,sL,R2)]:List (Int × ByteArray × Rd Value))[j]?.map (fun r=>bg r.1 r.2.1 ⟨tk,tx,tn,ta⟩)=some false)/\Hid (AP w0 p L vL en w 79 nR i wr)/\Hid (wr.cell? ⟨q,0,none⟩=some (.int .i64 tk)/\wr.cell? ⟨q,1,none⟩=some (.string tx)/\wr.cell? ⟨q,2,none⟩=some (.int .i64 tn)/\wr.cell? ⟨q,3,none⟩=some (.int .i64 ta))) (fun x _=>match x with | .int _ k=>3-k.toNat|_=>0)
 case atStart=>exact ⟨0,Nat.zero_le _,rfl,ae (fun j hj=>absurd hj (Nat.not_lt_zero _)),aO,HM⟩
 case round =>
  clear aO HM;obtain ⟨k,hk,rfl,HN,aO,HM⟩:=hrel
  have hcs:∀(o:Nat) (v:Value),lY[o]?=some v->wr.cell? ⟨g,o,none⟩=some v:=fun o v ho=>by
   unfold World.cell?;rw [aO.out.but.block g dI.out.1 dI.out.2,HG.out];exact ho
  have hcase:k=0\/k=1\/k=2\/k=3:=by omega
  clear hk;rcases hcase with rfl|rfl|rfl|rfl
  ·have y0:=hcs 0 _ rfl;have y1:=hcs 1 _ rfl;have y2:=hcs 2 _ rfl;obtain ⟨m0,m1,m2,m3⟩:=HM.out;have bJ:g<wr.heap.size:=Nat.lt_of_lt_of_le dI.out.1 aO.out.but.size;have fe:q<wr.heap.size:=World.block_lt_of_cell? _ _ m0;obtain ⟨u3,hu3,hb3,r0,r1,r2⟩:=gy wr 187 (.int .i64 1) (.string e0) (.func (.func 176) #[] #[]);have bS:=ae (aO.out.on hb3);have HB:=ae (BA 1 e0 (.func (.func 176) #[] #[]) ⟨tk,tx,tn,ta⟩ u3);have m0:=ai hb3 m0;have m1:=ai hb3 m1;have m2:=ai hb3 m2;have m3:=ai hb3 m3;go_upto_region 5 with fail
   try rw [<- hu3]
   generalize wr.heap.size=q2 at *;clear hu3 hb3 hcs y0 y1 y2 HM bJ fe aO;go_wp2_with fail;refine HB.out.mono ?_;rintro e u4 ⟨rfl,hb4⟩;have bF:=ae (bS.out.on hb4);have r2:=ai hb4 r2;have m0:=ai hb4 m0;have m1:=ai hb4 m1;have m2:=ai hb4 m2;have m3:=ai hb4 m3;clear hb4 HB bS r0 r1;cases hbg:bg 1 e0 ⟨tk,tx,tn,ta⟩ with
   | false =>
    have cG:Hid (∀j,j<1->([(1,e0,R0),(3,e0,R1),(6,sL,R2)]:List (Int × ByteArray × Rd Value))[j]?.map (fun r=>bg r.1 r.2.1 ⟨tk,tx,tn,ta⟩)=some false):=ae fun j hj=>by
     rcases Nat.lt_succ_iff_lt_or_eq.1 hj with hj|rfl
     ·exact HN.out j hj
     ·simp [hbg]
    have dw:=ae (And.intro m0 (And.intro m1 (And.intro m2 m3)));clear m0 m1 m2 m3 r2 hbg HN;go_wp2;go_roundw
    case rel=>exact ⟨1,by decide,by first|rfl|simp,cG,bF,dw⟩
    case measure=>simp
   | true =>
    have hE:az=R0:=by rw [bT.out,bC,if_pos hbg]
    have HE:=ae hE;have HC:=ae (iw u4 bF.out.pr);clear hbg hE HN m0 m1 m2 m3;go_wp2_with fail;refine HC.out.mono ?_;intro e u5 hr;cases hR:R0 with
    | error z =>
     obtain ⟨rfl,hb⟩:=bE hr hR;have HB:=ae hb;have aA:Hid (az=.error z):=ae (by rw [HE.out,hR]);clear hb hr hR HE;go_wp2;exact ⟨rfl,bA aA.out HB.out⟩
    | ok r =>
     obtain ⟨tr,j⟩:=r;obtain ⟨⟨v,rfl,hv0⟩,hp,hbt⟩:=bw hr hR;obtain ⟨vk,vx,vn,vu,hv,o1⟩:=hv0.val;subst hv;have bz:Hid (az=.ok (tr,j)):=ae (by rw [HE.out,hR]);have bP:=bF.out.lt;have dm:=ae (bF.out.call hp hbt);obtain ⟨W,hW,hth,hbk,hpr,aU,hab⟩:=dm.out.put #[.int .i64 vk,.string vx,.int .i64 vn,vu] rfl;have HV:=ae (hv0.on (hab.lo bP) (Nat.le_of_lt bP));have HW:=ae hW;have aC:=ae hth;have au:=ae hbk;have HF:=ae (And.intro hpr aU);clear hW hth hbk hpr aU hab hp hbt hr hR HE hv0 HC;go_wp2_with (refine wpList_store_mid rfl 79 (.tmp 4) (.tmp 22) rfl w.heap.size 0 #[.int .i64 vk,.string vx,.int .i64 vn,vu] rfl rfl aC.out jH (by simp [Value.oneCell'] at o1 ⊢;exact o1) ?_;rw [HW.out]);have z0:=ak au.out 0 _ rfl;have z1:=ak au.out 1 _ rfl;have z2:=ak au.out 2 _ rfl;have z3:=ak au.out 3 _ rfl;refine bodyPost_ret (v:=.agg #[.int .i64 vk,.string vx,.int .i64 vn,vu]) (by simp [results,Tryz.results175,go_sem,z0,z1,z2,z3]) rfl (cz bz.out HV.out HF.out.1 HF.out.2)
  ·have y0:=hcs 3 _ rfl;have y1:=hcs 4 _ rfl;have y2:=hcs 5 _ rfl;have b0:bg 1 e0 ⟨tk,tx,tn,ta⟩=false:=by have:=HN.out 0 (by decide);simpa using this
   obtain ⟨m0,m1,m2,m3⟩:=HM.out;have bJ:g<wr.heap.size:=Nat.lt_of_lt_of_le dI.out.1 aO.out.but.size;have fe:q<wr.heap.size:=World.block_lt_of_cell? _ _ m0;obtain ⟨u3,hu3,hb3,r0,r1,r2⟩:=gy wr 187 (.int .i64 3) (.string e0) (.func (.func 177) #[] #[]);have bS:=ae (aO.out.on hb3);have HB:=ae (BA 3 e0 (.func (.func 177) #[] #[]) ⟨tk,tx,tn,ta⟩ u3);have m0:=ai hb3 m0;have m1:=ai hb3 m1;have m2:=ai hb3 m2;have m3:=ai hb3 m3;go_upto_region 5 with fail
   try rw [<- hu3]
   generalize wr.heap.size=q2 at *;clear hu3 hb3 hcs y0 y1 y2 HM bJ fe aO;go_wp2_with fail;refine HB.out.mono ?_;rintro e u4 ⟨rfl,hb4⟩;have bF:=ae (bS.out.on hb4);have r2:=ai hb4 r2;have m0:=ai hb4 m0;have m1:=ai hb4 m1;have m2:=ai hb4 m2;have m3:=ai hb4 m3;clear hb4 HB bS r0 r1;cases hbg:bg 3 e0 ⟨tk,tx,tn,ta⟩ with
   | false =>
    have cG:Hid (∀j,j<2->([(1,e0,R0),(3,e0,R1),(6,sL,R2)]:List (Int × ByteArray × Rd Value))[j]?.map (fun r=>bg r.1 r.2.1 ⟨tk,tx,tn,ta⟩)=some false):=ae fun j hj=>by
     rcases Nat.lt_succ_iff_lt_or_eq.1 hj with hj|rfl
     ·exact HN.out j hj
     ·simp [hbg]
    have dw:=ae (And.intro m0 (And.intro m1 (And.intro m2 m3)));clear m0 m1 m2 m3 r2 hbg HN;go_wp2;go_roundw
    case rel=>exact ⟨2,by decide,by first|rfl|simp,cG,bF,dw⟩
    case measure=>simp
   | true =>
    have hE:az=R1:=by rw [bT.out,bC,bC,if_neg (by rw [b0];decide),if_pos hbg]
    have HE:=ae hE;have HC:=ae (dV u4 bF.out.pr);clear hbg hE HN m0 m1 m2 m3;go_wp2_with fail;refine HC.out.mono ?_;intro e u5 hr;cases hR:R1 with
    | error z =>
     obtain ⟨rfl,hb⟩:=bE hr hR;have HB:=ae hb;have aA:Hid (az=.error z):=ae (by rw [HE.out,hR]);clear hb hr hR HE;go_wp2;exact ⟨rfl,bA aA.out HB.out⟩
    | ok r =>
     obtain ⟨tr,j⟩:=r;obtain ⟨⟨v,rfl,hv0⟩,hp,hbt⟩:=bw hr hR;obtain ⟨vk,vx,vn,vu,hv,o1⟩:=hv0.val;subst hv;have bz:Hid (az=.ok (tr,j)):=ae (by rw [HE.out,hR]);have bP:=bF.out.lt;have dm:=ae (bF.out.call hp hbt);obtain ⟨W,hW,hth,hbk,hpr,aU,hab⟩:=dm.out.put #[.int .i64 vk,.string vx,.int .i64 vn,vu] rfl;have HV:=ae (hv0.on (hab.lo bP) (Nat.le_of_lt bP));have HW:=ae hW;have aC:=ae hth;have au:=ae hbk;have HF:=ae (And.intro hpr aU);clear hW hth hbk hpr aU hab hp hbt hr hR HE hv0 HC;go_wp2_with (refine wpList_store_mid rfl 79 (.tmp 4) (.tmp 22) rfl w.heap.size 0 #[.int .i64 vk,.string vx,.int .i64 vn,vu] rfl rfl aC.out jH (by simp [Value.oneCell'] at o1 ⊢;exact o1) ?_;rw [HW.out]);have z0:=ak au.out 0 _ rfl;have z1:=ak au.out 1 _ rfl;have z2:=ak au.out 2 _ rfl;have z3:=ak au.out 3 _ rfl;refine bodyPost_ret (v:=.agg #[.int .i64 vk,.string vx,.int .i64 vn,vu]) (by simp [results,Tryz.results175,go_sem,z0,z1,z2,z3]) rfl (cz bz.out HV.out HF.out.1 HF.out.2)
  ·have y0:=hcs 6 _ rfl;have y1:=hcs 7 _ rfl;have y2:=hcs 8 _ rfl;have b0:bg 1 e0 ⟨tk,tx,tn,ta⟩=false:=by have:=HN.out 0 (by decide);simpa using this
   have b1:bg 3 e0 ⟨tk,tx,tn,ta⟩=false:=by have:=HN.out 1 (by decide);simpa using this
   obtain ⟨m0,m1,m2,m3⟩:=HM.out;have bJ:g<wr.heap.size:=Nat.lt_of_lt_of_le dI.out.1 aO.out.but.size;have fe:q<wr.heap.size:=World.block_lt_of_cell? _ _ m0;obtain ⟨u3,hu3,hb3,r0,r1,r2⟩:=gy wr 187 (.int .i64 6) (.string sL) (.func (.func 178) #[] #[]);have bS:=ae (aO.out.on hb3);have HB:=ae (BA 6 sL (.func (.func 178) #[] #[]) ⟨tk,tx,tn,ta⟩ u3);have m0:=ai hb3 m0;have m1:=ai hb3 m1;have m2:=ai hb3 m2;have m3:=ai hb3 m3;go_upto_region 5 with fail
   try rw [<- hu3]
   generalize wr.heap.size=q2 at *;clear hu3 hb3 hcs y0 y1 y2 HM bJ fe aO;go_wp2_with fail;refine HB.out.mono ?_;rintro e u4 ⟨rfl,hb4⟩;have bF:=ae (bS.out.on hb4);have r2:=ai hb4 r2;have m0:=ai hb4 m0;have m1:=ai hb4 m1;have m2:=ai hb4 m2;have m3:=ai hb4 m3;clear hb4 HB bS r0 r1;cases hbg:bg 6 sL ⟨tk,tx,tn,ta⟩ with
   | false =>
    have cG:Hid (∀j,j<3->([(1,e0,R0),(3,e0,R1),(6,sL,R2)]:List (Int × ByteArray × Rd Value))[j]?.map (fun r=>bg r.1 r.2.1 ⟨tk,tx,tn,ta⟩)=some false):=ae fun j hj=>by
     rcases Nat.lt_succ_iff_lt_or_eq.1 hj with hj|rfl
     ·exact HN.out j hj
     ·simp [hbg]
    have dw:=ae (And.intro m0 (And.intro m1 (And.intro m2 m3)));clear m0 m1 m2 m3 r2 hbg HN;go_wp2;go_roundw
    case rel=>exact ⟨3,by decide,by first|rfl|simp,cG,bF,dw⟩
    case measure=>simp
   | true =>
    have hE:az=R2:=by rw [bT.out,bC,bC,bC,if_neg (by rw [b0];decide),if_neg (by rw [b1];decide),if_pos hbg]
    have HE:=ae hE;have HC:=ae (dM u4 bF.out.pr);clear hbg hE HN m0 m1 m2 m3;go_wp2_with fail;refine HC.out.mono ?_;intro e u5 hr;cases hR:R2 with
    | error z =>
     obtain ⟨rfl,hb⟩:=bE hr hR;have HB:=ae hb;have aA:Hid (az=.error z):=ae (by rw [HE.out,hR]);clear hb hr hR HE;go_wp2;exact ⟨rfl,bA aA.out HB.out⟩
    | ok r =>
     obtain ⟨tr,j⟩:=r;obtain ⟨⟨v,rfl,hv0⟩,hp,hbt⟩:=bw hr hR;obtain ⟨vk,vx,vn,vu,hv,o1⟩:=hv0.val;subst hv;have bz:Hid (az=.ok (tr,j)):=ae (by rw [HE.out,hR]);have bP:=bF.out.lt;have dm:=ae (bF.out.call hp hbt);obtain ⟨W,hW,hth,hbk,hpr,aU,hab⟩:=dm.out.put #[.int .i64 vk,.string vx,.int .i64 vn,vu] rfl;have HV:=ae (hv0.on (hab.lo bP) (Nat.le_of_lt bP));have HW:=ae hW;have aC:=ae hth;have au:=ae hbk;have HF:=ae (And.intro hpr aU);clear hW hth hbk hpr aU hab hp hbt hr hR HE hv0 HC;go_wp2_with (refine wpList_store_mid rfl 79 (.tmp 4) (.tmp 22) rfl w.heap.size 0 #[.int .i64 vk,.string vx,.int .i64 vn,vu] rfl rfl aC.out jH (by simp [Value.oneCell'] at o1 ⊢;exact o1) ?_;rw [HW.out]);have z0:=ak au.out 0 _ rfl;have z1:=ak au.out 1 _ rfl;have z2:=ak au.out 2 _ rfl;have z3:=ak au.out 3 _ rfl;refine bodyPost_ret (v:=.agg #[.int .i64 vk,.string vx,.int .i64 vn,vu]) (by simp [results,Tryz.results175,go_sem,z0,z1,z2,z3]) rfl (cz bz.out HV.out HF.out.1 HF.out.2)
  ·obtain ⟨m0,m1,m2,m3⟩:=HM.out;have b0:bg 1 e0 ⟨tk,tx,tn,ta⟩=false:=by have:=HN.out 0 (by decide);simpa using this
   have b1:bg 3 e0 ⟨tk,tx,tn,ta⟩=false:=by have:=HN.out 1 (by decide);simpa using this
   have b2:bg 6 sL ⟨tk,tx,tn,ta⟩=false:=by have:=HN.out 2 (by decide);simpa using this
   have aA:Hid (az=.error ta):=ae (by rw [bT.out,bC,bC,bC,bC,if_neg (by rw [b0];decide),if_neg (by rw [b1];decide),if_neg (by rw [b2];decide)]);clear hcs HN b0 b1 b2;go_wp2;exact ⟨rfl,bA aA.out aO.out.pr.below⟩
end Go.Proofs.YtkdbgopgjbfhbaaGreatDoor
