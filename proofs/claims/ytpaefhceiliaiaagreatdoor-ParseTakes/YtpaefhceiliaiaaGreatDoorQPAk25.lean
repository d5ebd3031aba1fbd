/- Texts that the claim needs. -/
import Derived.Test.YtpaefhceiliaiaaGreatDoorQPAk16
import Derived.Test.YtpaefhceiliaiaaGreatDoorQPAk6
namespace Go.Proofs.YtpaefhceiliaiaaGreatDoor
open Go.RowKit Lx Pz bB
set_option linter.unusedVariables false
set_option maxRecDepth 100000
set_option maxHeartbeats 16000000
namespace Pz
def xV (L:List Tk) (en:Int) (P E:Nat->Rd Value):Nat->Nat->List Value->List Value->Rd (List Value × List Value)
 | 0,i,ps,es=>.ok ((ps,es),i)
 | f+1,i,ps,es=>match bb L en jR i with
  | .error _=>.ok ((ps,es),i)
  | .ok i=>match qo L en P E i with
   | .error z=>.error z
   | .ok ((p,e),j)=>xV L en P E f j (ps++[p]) (es++[e])
def E5 (L:List Tk) (en:Int) (P E:Nat->Rd Value) (i:Nat):Rd Value:=match bb L en iz i with
 | .error z=>.error z
 | .ok j=>match E j with
  | .error z=>.error z
  | .ok (c,j)=>match bb L en yx j with
   | .error z=>.error z
   | .ok j=>match qo L en P E j with
    | .error z=>.error z
    | .ok ((p,e),j)=>match xV L en P E (L.length+1) j [p] [c,e] with
     | .error z=>.error z
     | .ok ((ps,es),j)=>match bb L en wP j with
      | .error z=>.error z
      | .ok j=>.ok (nd 7 e0 e0 0 es ps (tk L en i).a,j)
theorem Rm {L:List Tk} {en:Int} {P E:Nat->Rd Value} (hP:bY P) (hE:bY E):bY (qo L en P E):=by
 intro i t j h;unfold qo at h;cases h0:P i with
 | error z=>rw [h0] at h;cases h
 | ok r0 =>
  obtain ⟨a0,j0⟩:=r0;have q0:=hP _ _ _ h0;rw [h0] at h;dsimp only at h;cases h1:bb L en iP j0 with
  | error z=>rw [h1] at h;cases h
  | ok j1 =>
   have q1:=eX h1;rw [h1] at h;dsimp only at h;cases h2:E j1 with
   | error z=>rw [h2] at h;cases h
   | ok r2 =>
    obtain ⟨a2,j2⟩:=r2;have q2:=hE _ _ _ h2;rw [h2] at h;injection h with h;injection h with _ h;omega
theorem zq.err {w0:World} {p:Nat} {L:List Tk} {vL:Value} {en:Int} {w:World} {q:Nat} {cH:Int} {es ps:List Value} {X:Rd (Value × Value)} {e:Ending} {u':World} {z:Int} (h:zq w0 p L vL en w q cH es ps X e u') (hX:X=.error z):e=.panicked (yP z)/\Below w0.heap.size w0 u':=by subst hX;exact h
theorem zq.ok {w0:World} {p:Nat} {L:List Tk} {vL:Value} {en:Int} {w:World} {q:Nat} {cH:Int} {es ps:List Value} {X:Rd (Value × Value)} {e:Ending} {u':World} {pt ex:Value} {j:Nat} (h:zq w0 p L vL en w q cH es ps X e u') (hX:X=.ok ((pt,ex),j)):e=.returned (.tuple #[])/\∃H' JS JU,CS w0 p L vL en w q cH j H' (es++[ex]) (ps++[pt]) JS JU u':=by subst hX;exact h
theorem CS.on {w0:World} {p:Nat} {L:List Tk} {vL:Value} {en:Int} {w:World} {q:Nat} {cH:Int} {j:Nat} {H:List Nat} {es ps:List Value} {vE vP:Value} {u u':World} (h:CS w0 p L vL en w q cH j H es ps vE vP u) (hb:Below u.heap.size u u'):CS w0 p L vL en w q cH j H es ps vE vP u':=h.call (h.st.pr.on hb) (But.of p hb)
theorem CS.fin {w0:World} {p:Nat} {L:List Tk} {vL:Value} {en:Int} {w:World} {q:Nat} {cH:Int} {j:Nat} {H:List Nat} {es ps:List Value} {vE vP:Value} {u:World} (h:CS w0 p L vL en w q cH j H es ps vE vP u) (hle:es.length<=5000) (hlp:ps.length<=5000):ST w0 p L vL en [] w j [(w.heap.size,bG,27),(q,jO cH vE vP,27)] [aU w.heap.size (nd 7 e0 e0 0 es ps cH) (.agg (jO cH vE vP))] u:=by
 have hs:∀k ∈ [w.heap.size,q],k ∈ H++[w.heap.size,q]:=fun k hk=>List.mem_append_right _ hk
 have ho:∀k,k ∈ H->k ∉ [w.heap.size,q]:=fun k hk hm=>by
  have:=h.hH k hk
  simp only [List.mem_cons,List.not_mem_nil,or_false] at hm;omega
 have hE:=h.rE.row (F:=fun w' d=>dm w.heap.size w' d) (fun w'=>dm.up) (by omega) h.pB hs (fun k hk=>ho k (h.hE k hk)) (fun w' t cs b o hv hB hc=>ES hv hB hc);have hP:=h.rP.row (F:=fun w' d=>cf w.heap.size w' d) (fun w'=>cf.up) (by omega) h.pB hs (fun k hk=>ho k (h.hP k hk)) (fun w' t cs b o hv hB hc=>Jf hv hB hc);refine (h.st.less (H':=[]) (fun k hk=>by cases hk)).add _ fun w' hw=>?_;have hw':fU [w.heap.size,q] p u w':=hw;exact Pz.yR 7 e0 e0 0 cH (hE w' hw') (hP w' hw')
def CsI (w0:World) (p:Nat) (L:List Tk) (vL:Value) (en:Int) (w:World) (q:Nat) (cH:Int) (i:Nat) (P E:Nat->Rd Value) (aj:Rd Value) (wr:World):Prop:=∃(j f:Nat) (H:List Nat) (es ps:List Value) (vE vP:Value),Hid (aj=(match xV L en P E f j ps es with | .error z=>.error z | .ok ((ps,es),j)=>match bb L en wP j with | .error z=>.error z | .ok j=>.ok (nd 7 e0 e0 0 es ps cH,j)))/\Hid (L.length+1<=j+f)/\Hid (i<j)/\Hid (es.length<=j/\ps.length<=j)/\Hid (CS w0 p L vL en w q cH j H es ps vE vP wr)
end Pz
theorem aaN (w0:World) (p:Nat) (L:List Tk) (vL:Value) (en:Int) (i:Nat) (P E:Nat->Rd Value) (Rn:bY P) (dU:bY E) (HP:∀j u,i<j->PR w0 p L vL en j u->Calls Tryz.prog 186 #[.pointer (some ⟨p,0,none⟩)] u (Rp w0 p L vL en (bU u.heap.size) u (P j))) (HE:∀j u,i<j->PR w0 p L vL en j u->Calls Tryz.prog 60 #[.pointer (some ⟨p,0,none⟩)] u (Rp w0 p L vL en (aU u.heap.size) u (E j))) (w:World) (h:PR w0 p L vL en i w) :
  Calls Tryz.prog 157 #[.pointer (some ⟨p,0,none⟩)] w (Rp w0 p L vL en (aU w.heap.size) w (E5 L en P E i)):=by
 have bX:=ae ((ST.lY h).new bG 27);obtain ⟨aj,aW⟩:∃X,X=(E5 L en P E i:Rd Value):=⟨_,rfl⟩;rw [<- aW];unfold E5 at aW;have HX:=ae aW;have Cj:=ae HP;have cB:=ae HE;have E8:=ae Rn;have iC:=ae dU;clear h aW HP HE Rn dU;have bQ:=ae (fZ w0 p L vL en i iz _ bX.out.pr);go_enter Tryz.func157,Tryz.ntmps157;go_wp2_with fail;refine Calls.mono (show Calls _ _ _ _ _ from bQ.out) ?_;intro e u1 hr;cases hR:bb L en iz i with
 | error z =>
  obtain ⟨rfl,hb⟩:=bw hr (dH hR);have HB:=ae hb;have ax:Hid (aj=.error z):=ae (by have hq:=HX.out;rw [hR] at hq;exact hq);clear hb hR hr bQ HX;go_wp2;exact ⟨rfl,bq ax.out HB.out⟩
 | ok j1 =>
  obtain ⟨⟨v,rfl,hv⟩,hp,hbt⟩:=bh hr (dH hR);subst hv;have fN:=ae (eX hR);have hq:=HX.out;rw [hR] at hq;dsimp only at hq;have bz:=ae hq;clear hq;have aD:=ae (bX.out.call hp hbt);clear hp hbt bQ HX hR hr bX;generalize (tk L en i).a=bT at *;obtain ⟨W2,hW,hth,cF⟩:=aD.out.ju 27 bG (jO bT (.slice none 0 0) (.slice none 0 0)) rfl;have HW2:=ae hW;have dL:=ae hth;have aY:=ae cF;clear hW hth cF aD;go_upto_region 2 with (refine wpList_store_mid rfl 27 (.tmp 3) (.tmp 6) rfl u1.heap.size 0 (jO bT (.slice none 0 0) (.slice none 0 0)) rfl rfl dL.out bZ (by simp [Value.oneCell']) ?_;rw [HW2.out])
  try dsimp only [Act.put]
  clear dL HW2
  have hq0:w.heap.size<u1.heap.size:=by
   have h9:=aY.out.mU;have h8:=(aY.out.blk _ (List.Mem.tail _ (List.Mem.head _))).2;simp at h9 h8;omega
  generalize u1.heap.size=q at *;obtain ⟨es0,E9⟩:∃es0:List Value,es0 = []:=⟨_,rfl⟩;obtain ⟨ps0,JV⟩:∃ps0:List Value,ps0 = []:=⟨_,rfl⟩;obtain ⟨vE0,Ro⟩:∃v:Value,v=.slice none 0 0:=⟨_,rfl⟩;obtain ⟨tV,Rq⟩:∃v:Value,v=.slice none 0 0:=⟨_,rfl⟩
  have hC0:CS w0 p L vL en w q bT j1 [] es0 ps0 vE0 tV W2:=by
   subst E9 JV Ro Rq;exact ⟨aY.out,fA.nil _ _ _ _ _ _ _,fA.nil _ _ _ _ _ _ _,fun k hk=>(by cases hk),fun k hk=>(by cases hk),fun k hk=>(by cases hk),fun k hk=>(by cases hk)⟩
  have hel:es0.length=0:=by rw [E9];rfl
  have gb:=ae hel;have nM:=ae E9;have HPS:=ae JV;clear hel Ro Rq aY E9 JV;obtain ⟨oE,cE,hv1⟩:=hC0.rE.sl;subst hv1;have HC:=ae hC0;clear hC0
  obtain ⟨ok,t2,j2,wm,hok0⟩:∃(ok:Bool) (t2:Value) (j2:Nat),(ok=true->E j1=.ok (t2,j2))/\(ok=false->∃z,E j1=.error z):=by
   cases hP:E j1 with
   | error z=>exact ⟨false,undef,0,fun h=>(by cases h),fun _=>⟨z,rfl⟩⟩
   | ok r=>exact ⟨true,r.1,r.2,fun _=>rfl,fun h=>(by cases h)⟩
  have mN:=ae (And.intro wm hok0);clear wm hok0
  try dsimp only [Act.put]
  refine Hk (w0:=w0) (p:=p) (L:=L) (vL:=vL) (en:=en) (H:=([]:List Nat)) (w:=w) (q:=q) (j2:=j2) (V:=aU w.heap.size) (T:=27) (sz:=7) (eC:=(fun y=>jO bT y tV)) (t2:=t2) (els:=es0) (V2:=bU w.heap.size) (T2:=101) (sz2:=5) (v2:=tV) (ts2:=ps0) (ok:=ok) (zc:=bG) (f:=4) (rl:=(fun i=>[0,0,0,5,0,7,8,9,10,1,13].getD i 1)) (cv:=(fun i=>[.pointer (some ⟨q,4,none⟩),.slice oE es0.length cE,.pointer (some ⟨p,0,none⟩),undef,.int .i64 (es0.length:Int),undef,undef,undef,undef,.pointer (some ⟨q,4,none⟩),undef].getD i undef)) 11 29 (fun i=>[7,8,9,10,11,12,13,14,5,15,6].getD i 0) [8,10] [6,8,10] j1 (by kernel_rfl) (by kernel_rfl) (by kernel_rfl) (by kernel_rfl) rfl (by kernel_rfl) ?JW ?JX ?JY HC.out.st.pr ?JZ ?J0
  case JW =>
   intro i hi
   have:i=8\/i=10:=by simpa using hi
   rcases this with rfl|rfl
   ·exact .inl rfl
   ·exact .inr rfl
  case JX=>intro v9 y;rfl
  case JY=>exact fun e=>(HC.out.hH q (HC.out.hP q e)).2 rfl
  case JZ =>
   intro i' o a z u1 hi ho hF hR hd;have f0:a.tmps[0]?.getD undef=.pointer (some ⟨p,0,none⟩):=ah.az (hF.eval 0 (fun i hi=>by have hc:=List.mem_range.2 hi;revert hc;clear hi;revert i;decide));have f3:a.tmps[3]?.getD undef=.pointer (some ⟨q,0,none⟩):=ah.az (hF.eval 3 (fun i hi=>by have hc:=List.mem_range.2 hi;revert hc;clear hi;revert i;decide));have xA:=ae hF.defers;have HR:=ae hR;clear hR
   iterate 11 (rcases Nat.lt_succ_iff_lt_or_eq.1 hi with hi|rfl)
   exact absurd hi (Nat.not_lt_zero _)
   all_goals (simp only [List.getElem?_toArray,List.getElem?_cons_succ,List.getElem?_cons_zero,Option.some.injEq] at ho;subst ho;refine ah.bI fun KK ak=>?_;have cZ:=ae ak;clear ak)
   ·clear hd;go_simp;exact cZ.out _ _ ⟨_,z,rfl,cG.c (by decide),bF.c (by decide) rfl⟩
   ·have g0:a.tmps[7]?.getD undef=.pointer (some ⟨q,4,none⟩):=ah.az ((hd 0 (by decide)).ia (by decide));have hb:=(HR.out (.inl rfl)).1.blk (HC.out.st.at_ (k:=1) rfl) HC.out.qp;have y4:=cJ hb 4 rfl;clear hb;clear hd;go_simp;exact cZ.out _ _ ⟨_,z,rfl,cG.c (by decide),bF.c (by decide) rfl⟩
   ·clear hd;go_simp;exact cZ.out _ _ ⟨_,z,rfl,cG.c (by decide),bF.c (by decide) rfl⟩
   ·have g0:a.tmps[9]?.getD undef=.pointer (some ⟨p,0,none⟩):=ah.az ((hd 2 (by decide)).ia (by decide));clear hd;obtain ⟨aO,_,h5,hz⟩:=HR.out (.inr (.inl rfl));obtain ⟨hpr,rfl⟩:=h5 rfl;have hS:=HC.out.st.call hpr aO;have aD:=ae hS;clear aO h5 hz HR hS;have HC:=ae (cB.out j1 u1 fN.out aD.out.pr);clear hpr;go_simp;refine Calls.mono (show Calls _ _ _ _ _ from HC.out) ?_;intro e u5 hr;cases ok with
    | false =>
     obtain ⟨zz,hzz⟩:=mN.out.2 rfl;obtain ⟨rfl,hb⟩:=bw hr hzz;have dE:aj=.error zz:=by have hq:=bz.out;rw [hzz] at hq;exact hq
     rw [dE];exact ⟨xA.out,bq rfl hb⟩
    | true =>
     have hok:=mN.out.1 rfl;obtain ⟨⟨v,rfl,hv0⟩,hp,hbt⟩:=bh hr hok;obtain ⟨rk,rx,ry,rn,ru,rz,ra,hv,r1,r2⟩:=hv0.val;subst hv;have jh:=aD.out.iX (B:=w.heap.size) (aD.out.but.size) hp hbt hv0;exact cZ.out _ _ ⟨_,_,rfl,cG.five (by decide) hbt ⟨_,hp⟩,bF.five (by decide) rfl rfl (by simp [Value.oneCell'] at r1 r2 ⊢;exact ⟨r1,r2⟩) rfl hp (fun w' hw=>jh.fE _ (List.Mem.head _) w' hw)⟩
   ·have g1:a.tmps[8]?.getD undef=.slice oE es0.length cE:=ah.az ((hd 1 (by decide)).ia (by decide));clear hd;go_simp;exact cZ.out _ _ ⟨_,z,rfl,cG.c (by decide),bF.c (by decide) rfl⟩
   ·obtain ⟨aO,⟨jj,hjj⟩,_,hz⟩:=HR.out (.inr (.inr (.inl rfl)));have hpl:=hjj.lt;clear hd aO hjj hz;go_simp;exact cZ.out _ _ ⟨_,z,rfl,cG.seven (by decide) (bO _ _),bF.seven (by decide) rfl (heap_alloc_new _ _) hpl⟩
   ·obtain ⟨aO,_,_,hz⟩:=HR.out (.inr (.inr (.inr rfl)));obtain ⟨R,rfl,jX,hRs,kN,hok,hpr,hst⟩:=(hd 3 (by decide)).Hm (by decide) hz;obtain ⟨gz,jy,Ck,Rs⟩:=(hd 5 (by decide)).Hp (by decide) hz;have iV:=(hd 1 (by decide)).ia (by decide);obtain ⟨xs,hown,jf,hxe⟩:=HC.out.rE.but aO HC.out.pB;obtain ⟨i0,hi0,hz0,hz1,hz2⟩:=info_parts Jt;refine wL _ _ 24 rfl w.heap.size 27 i0 _ 7 104 Tryz.underlying24 hi0 hz0 hz1 hz2 rfl (by decide) _ _ _ iV hown (some ⟨gz,0,none⟩) 1 1 [.int .i64 0,.string ⟨#[]⟩,.string ⟨#[]⟩,.int .i64 0,.slice none 0 0,.slice none 0 0,.int .i64 0] jy (by intro h;cases h) rfl (fun ad h j c hj=>by injection h with h;subst h;rw [Addr.add_mid,Nat.zero_add];exact af Ck j c (by simpa using hj)) (by intro c hc;simp only [List.mem_cons,List.not_mem_nil,or_false] at hc;rcases hc with rfl|rfl|rfl|rfl|rfl|rfl|rfl<;>rfl) (by unfold maxLen;have:=gb.out.symm;omega) (by have:=gb.out.symm;omega) ((HC.out.st.call hpr aO).but.size) ?_
    intro v9 w9 fH eO bJ;exact cZ.out _ _ ⟨v9,some (R,some v9),rfl,cG.eight (by decide),bF.eight (by decide) hok hRs kN (Mid.start (zc:=bG) ((HC.out.st.call hpr aO).add _ hst) hown (HC.out.hE) hxe (HC.out.rP.but aO HC.out.pB) HC.out.hH (Nat.lt_of_lt_of_le HC.out.ql aO.size) (fun k hk e=>HC.out.Fa k hk e) fH eO bJ rfl)⟩
   ·obtain ⟨R,rfl,hok,hRs,kN,hM⟩:=(hd 6 (by decide)).qR (by decide);obtain ⟨g9,c9,bJ,bD,ez,hg2⟩:=id hM.own;have g8:a.tmps[13]?.getD undef=.slice (some ⟨g9,0,none⟩) (es0.length+1) c9:=ah.az bJ;have g4:a.tmps[11]?.getD undef=.int .i64 (es0.length:Int):=ah.az ((hd 4 (by decide)).ia (by decide));have wo:=bF.nine (w0:=w0) (p:=p) (L:=L) (vL:=vL) (en:=en) (H:=([]:List Nat)) (w:=w) (q:=q) (j2:=j2) (V:=aU w.heap.size) (T:=27) (sz:=7) (eC:=(fun y=>jO bT y tV)) (t2:=t2) (els:=es0) (V2:=bU w.heap.size) (T2:=101) (sz2:=5) (v2:=tV) (ts2:=ps0) (ok:=ok) (zc:=bG) (rl:=(fun i=>[0,0,0,5,0,7,8,9,10,1,13].getD i 1)) (cv:=(fun i=>[.pointer (some ⟨q,4,none⟩),.slice oE es0.length cE,.pointer (some ⟨p,0,none⟩),undef,.int .i64 (es0.length:Int),undef,undef,undef,undef,.pointer (some ⟨q,4,none⟩),undef].getD i undef)) (i:=7) (u:=u1) (R:=R) rfl bJ;have l7:=ae wo;have Ru:(es0.length:Int)<(es0.length:Int)+1:=by omega
    clear hd hM bJ wo;go_simp;exact cZ.out _ _ ⟨_,_,rfl,cG.nine (by decide),l7.out⟩
   ·obtain ⟨R,rfl,hok,hRs,kN,hM⟩:=(hd 6 (by decide)).qR (by decide);obtain ⟨g9,c9,bJ,Cm⟩:=(hd 7 (by decide)).Hq (by decide);have jX:=(hd 3 (by decide)).Ho (by decide);obtain ⟨Rv,c9',Co,bD,ez,hg2⟩:=id hM.own
    have Cq:g9≠q:=by
     have e:=bJ.symm.trans Co;injection e with e _ _;injection e with e;injection e with e;rw [e];exact ez
    obtain ⟨ys,rd,hrd,Cr,Rw,_⟩:=id hM.row;have hth:u1.there g9 (es0.length*7) 7:=Jl (c:=c9) (by have h9:=Cr;rw [bJ] at h9;exact h9);refine wp_store_mid 27 (.tmp 14) (.tmp 10) rfl g9 (es0.length*7) R Cm jX (by rw [hRs];exact hth) (by rw [hRs];exact bZ) (by rw [Array.all_eq_true_iff_forall_mem];exact fun c hc=>kN c (by simpa using hc)) (cZ.out _ _ ⟨undef,_,rfl,cG.ten (by decide) bJ Cq hRs,bF.ten (by decide) hRs hM bJ⟩)
   ·clear hd;go_simp;exact cZ.out _ _ ⟨_,z,rfl,cG.c (by decide),bF.c (by decide) rfl⟩
   ·obtain ⟨R,rfl,hok,hRs,kN,hM⟩:=(hd 6 (by decide)).qR (by decide);obtain ⟨g9,c9,bJ,bD,ez,hg2⟩:=id hM.own;have g8:a.tmps[13]?.getD undef=.slice (some ⟨g9,0,none⟩) (es0.length+1) c9:=ah.az bJ;have gf:a.tmps[15]?.getD undef=.pointer (some ⟨q,4,none⟩):=ah.az ((hd 9 (by decide)).ia (by decide));obtain ⟨y,hst⟩:=id hM.st;have fz:=hst.iD 1 rfl 4;have yz:=hst.cell 1 rfl 4 rfl;rw [bJ] at hM cZ;have hG:=bF.xg (w0:=w0) (p:=p) (L:=L) (vL:=vL) (en:=en) (H:=([]:List Nat)) (w:=w) (q:=q) (j2:=j2) (V:=aU w.heap.size) (T:=27) (sz:=7) (eC:=(fun y=>jO bT y tV)) (t2:=t2) (els:=es0) (V2:=bU w.heap.size) (T2:=101) (sz2:=5) (v2:=tV) (ts2:=ps0) (ok:=ok) (zc:=bG) (f:=4) (rl:=(fun i=>[0,0,0,5,0,7,8,9,10,1,13].getD i 1)) (cv:=(fun i=>[.pointer (some ⟨q,4,none⟩),.slice oE es0.length cE,.pointer (some ⟨p,0,none⟩),undef,.int .i64 (es0.length:Int),undef,undef,undef,undef,.pointer (some ⟨q,4,none⟩),undef].getD i undef)) (i:=10) (v:=undef) rfl (fun y=>rfl) hM;have HG:=ae hG;clear hd hM hst hG bJ;go_simp;exact cZ.out _ _ ⟨undef,_,rfl,cG.xg (by decide) (fun e=>by injection e with e;exact ez e),HG.out⟩
  case J0 =>
   intro a z u9 hF hn;obtain ⟨hok,⟨g9,c9,bJ,bD,ez,hg2⟩,eY,hr1,hr2⟩:=(hn 6 (by simp) (by decide)).fin rfl (hn 8 (by simp) (by decide)) rfl (hn 10 (by simp) (by decide)) rfl;have rQ:=mN.out.1 hok;rw [bJ] at eY hr1 hr2;have hF':ah.Fr _ (fun i=>5+i) 11 a:=hF.perm (fun i hi=>by have hc:=List.mem_range.2 hi;revert hc;clear hi;revert i;decide);obtain ⟨xl,hxl,rfl,hev⟩:=hF'.lit (by simp);obtain ⟨x0,x1,x2,x3,x4,x5,x6,x7,x8,x9,jP,rfl⟩:∃x0 x1 x2 x3 x4 x5 x6 x7 x8 x9 jP,xl = [x0,x1,x2,x3,x4,x5,x6,x7,x8,x9,jP]:=by match xl,hxl with|[x0,x1,x2,x3,x4,x5,x6,x7,x8,x9,jP],_=>exact ⟨x0,x1,x2,x3,x4,x5,x6,x7,x8,x9,jP,rfl⟩
   clear hF hF' hn hev hxl;simp only [List.take_succ_cons,List.take_zero,List.drop_succ_cons,List.drop_zero,List.cons_append,List.nil_append];have hlt:=iC.out _ _ _ rQ;have qP:=ae hlt;have hq:=bz.out;rw [rQ] at hq;dsimp only at hq;have ba:=ae hq;have dI:Hid (CS w0 p L vL en w q bT j2 ([g9]++[]) (es0++[t2]) ps0 (.slice (some ⟨g9,0,none⟩) (es0.length+1) c9) tV u9):=ae ⟨eY,hr1,hr2,fun k hk=>by injection hk with hk;subst hk;exact List.Mem.head _,fun k hk=>List.mem_cons_of_mem _ (HC.out.hP k hk),fun k hk=>by rcases List.mem_cons.1 hk with rfl|hk;(exact ⟨bD,ez⟩);exact HC.out.hH k hk,fun k hk e=>by injection hk with hk;subst hk;exact hg2 e⟩
   clear eY hr1 hr2 hlt hq rQ mN bz bJ hg2 hok HC gb;generalize (.slice (some ⟨g9,0,none⟩) (es0.length+1) c9:Value)=vE1 at *;generalize ([g9]++[]:List Nat)=H1 at *;rw [nM.out,List.nil_append,HPS.out] at dI;have bQ:=ae (fZ w0 p L vL en j2 yx _ dI.out.st.pr);go_wp2_with fail;refine Calls.mono (show Calls _ _ _ _ _ from bQ.out) ?_;intro e u2 hr;cases hR:bb L en yx j2 with
   | error z =>
    obtain ⟨rfl,hb⟩:=bw hr (dH hR);have HB:=ae hb;have ax:Hid (aj=.error z):=ae (by have hq:=ba.out;rw [hR] at hq;exact hq);clear hb hR hr bQ ba;go_wp2;exact ⟨rfl,bq ax.out HB.out⟩
   | ok j3 =>
    obtain ⟨⟨v,rfl,hv⟩,hp,hbt⟩:=bh hr (dH hR);subst hv;have pF:=ae (eX hR);have hq:=ba.out;rw [hR] at hq;dsimp only at hq;have bR:=ae hq;have dW:=ae (dI.out.call hp hbt);clear hp hbt hr hR hq ba bQ dI;have xW:=ae (Rx w0 p L vL en j3 P E E8.out (fun u hu=>Cj.out j3 u (by have:=fN.out;have:=qP.out;have:=pF.out;omega) hu) (fun j' u hj' hu=>cB.out j' u (by have:=fN.out;have:=qP.out;have:=pF.out;omega) hu) w q bT H1 [t2] [] vE1 tV u2 dW.out (by simp) (by simp));go_wp2_with fail;refine Calls.mono (show Calls _ _ _ _ _ from xW.out) ?_;intro e u3 hr;cases hR:qo L en P E j3 with
    | error z =>
     obtain ⟨rfl,hb⟩:=hr.err hR;have HB:=ae hb;have ax:Hid (aj=.error z):=ae (by have hq:=bR.out;rw [hR] at hq;exact hq);clear hb hr hR bR xW;go_wp2;exact ⟨rfl,bq ax.out HB.out⟩
    | ok r =>
     obtain ⟨⟨pt,ex⟩,j4⟩:=r;obtain ⟨rfl,H3,J1,J2,oO⟩:=hr.ok hR;have AR:=ae (Rm E8.out iC.out _ _ _ hR);have hq:=bR.out;rw [hR] at hq;dsimp only at hq;have jq:=ae hq;have jJ:=ae oO;clear oO hq hR hr bR xW dW;go_wp2_with fail;go_loopw [] (fun wr=>CsI w0 p L vL en w q bT i P E aj wr) (fun wr=>left p L.length wr)
     case atStart=>exact ⟨j4,L.length+1,H3,_,_,J1,J2,jq,ae (by omega),ae (by have:=fN.out;have:=qP.out;have:=pF.out;have:=AR.out;omega),ae (by simp;have:=fN.out;have:=qP.out;have:=pF.out;have:=AR.out;omega),jJ⟩
     case round =>
      clear jq jJ qP pF AR fN;obtain ⟨j,f,H,es,ps,vE,vP,HX,HF,dM,gb,HC⟩:=hrel;have HQ:=ae (ui w0 p L vL en j jR _ HC.out.st.pr);cases hb:cn (tk L en j) jR with
      | false =>
       have bn:Hid (aj=(match bb L en wP j with | .error z=>.error z | .ok j=>.ok (nd 7 e0 e0 0 es ps bT,j))):=ae (by
        have hq:=HX.out;cases f with
        | zero=>exact hq
        | succ f=>rw [xV,show bb L en jR j=.error (tk L en j).a from if_neg (by rw [hb];decide)] at hq;exact hq)
       rw [hb] at HQ;clear hb HX HF;go_wp2_with fail;refine Calls.mono (show Calls _ _ _ _ _ from HQ.out) ?_;rintro e w1 ⟨rfl,hb1⟩;have dI:=ae (HC.out.on hb1);clear hb1 HQ HC;have bQ:=ae (fZ w0 p L vL en j wP _ dI.out.st.pr);go_wp2_with fail;refine Calls.mono (show Calls _ _ _ _ _ from bQ.out) ?_;intro e u5 hr;cases hR:bb L en wP j with
       | error z =>
        obtain ⟨rfl,hb⟩:=bw hr (dH hR);have HB:=ae hb;have ax:Hid (aj=.error z):=ae (by have hq:=bn.out;rw [hR] at hq;exact hq);clear hb hR hr bQ bn;go_wp2;exact ⟨rfl,bq ax.out HB.out⟩
       | ok j5 =>
        obtain ⟨⟨v,rfl,hv⟩,hp,hbt⟩:=bh hr (dH hR);subst hv;have Gf:Hid (aj=.ok (nd 7 e0 e0 0 es ps bT,j5)):=ae (by have hq:=bn.out;rw [hR] at hq;exact hq);have hjl:=dI.out.st.pr.le;have hfw:=dI.out.st.pr.few;have Fc:=dI.out.call hp hbt;have HS:=ae (Fc.fin (by have:=gb.out;omega) (by have:=gb.out;omega));obtain ⟨oE,cE,rfl⟩:=Fc.rE.sl;obtain ⟨oP,cP,rfl⟩:=Fc.rP.sl;clear hp hbt hr hR bn bQ dI Fc hjl hfw;have y0:=HS.out.cell 1 rfl 0 rfl;have y1:=HS.out.cell 1 rfl 1 rfl;have y2:=HS.out.cell 1 rfl 2 rfl;have y3:=HS.out.cell 1 rfl 3 rfl;have y4:=HS.out.cell 1 rfl 4 rfl;have y5:=HS.out.cell 1 rfl 5 rfl;have y6:=HS.out.cell 1 rfl 6 rfl;obtain ⟨WA,dF,dG,dA⟩:=HS.out.put 0 rfl (jO bT (.slice oE es.length cE) (.slice oP ps.length cP)) rfl;have fO:=ae dF;have fP:=ae dG;have aA:=ae dA;clear dF dG dA;go_wp2_with (refine wpList_store_mid rfl 27 (.tmp 2) (.tmp 28) rfl w.heap.size 0 (jO bT (.slice oE es.length cE) (.slice oP ps.length cP)) rfl rfl fP.out bZ (by simp [Value.oneCell']) ?_;rw [fO.out]);have z0:=aA.out.cell 0 rfl 0 rfl;have z1:=aA.out.cell 0 rfl 1 rfl;have z2:=aA.out.cell 0 rfl 2 rfl;have z3:=aA.out.cell 0 rfl 3 rfl;have z4:=aA.out.cell 0 rfl 4 rfl;have z5:=aA.out.cell 0 rfl 5 rfl;have z6:=aA.out.cell 0 rfl 6 rfl;refine bodyPost_ret (v:=.agg (jO bT (.slice oE es.length cE) (.slice oP ps.length cP))) (by simp [results,Tryz.results157,go_sem,z0,z1,z2,z3,z4,z5,z6]) rfl (ck Gf.out (aA.out.out (List.Mem.head _)) aA.out.pr aA.out.but)
      | true =>
       have hmk:bb L en jR j=.ok (j+1):=if_pos hb;have hjl:=HC.out.st.pr.le;obtain ⟨f,rfl⟩:∃f',f=f'+1:=⟨f-1,by have:=HF.out;omega⟩;have hq:=HX.out;rw [xV,hmk] at hq;dsimp only at hq;have bz:=ae hq;have nS:=ae hmk;have jw:=ae HC.out.st.pr.left;rw [hb] at HQ;clear hb HX hq hmk;go_wp2_with fail;refine Calls.mono (show Calls _ _ _ _ _ from HQ.out) ?_;rintro e w1 ⟨rfl,hb1⟩;have dI:=ae (HC.out.on hb1);clear hb1 HQ HC;have bQ:=ae (fZ w0 p L vL en j jR _ dI.out.st.pr);go_wp2_with fail;refine Calls.mono (show Calls _ _ _ _ _ from bQ.out) ?_;intro e u5 hr;obtain ⟨⟨v,rfl,hv⟩,hp,hbt⟩:=bh hr (dH nS.out);subst hv;have dW:=ae (dI.out.call hp hbt);have rV:=hp.le;have hfw:=hp.few;clear hp hbt hr bQ dI nS;have xW:=ae (Rx w0 p L vL en (j+1) P E E8.out (fun u hu=>Cj.out (j+1) u (by have:=dM.out;omega) hu) (fun j' u hj' hu=>cB.out j' u (by have:=dM.out;omega) hu) w q bT H es ps vE vP u5 dW.out (by have:=gb.out;omega) (by have:=gb.out;omega));go_wp2_with fail;refine Calls.mono (show Calls _ _ _ _ _ from xW.out) ?_;intro e u6 hr;cases hR:qo L en P E (j+1) with
       | error z =>
        obtain ⟨rfl,hb⟩:=hr.err hR;have HB:=ae hb;have ax:Hid (aj=.error z):=ae (by have hq:=bz.out;rw [hR] at hq;exact hq);clear hb hr hR bz xW;go_wp2;exact ⟨rfl,bq ax.out HB.out⟩
       | ok r =>
        obtain ⟨⟨pt,ex⟩,j4⟩:=r;obtain ⟨rfl,H3,J1,J2,oO⟩:=hr.ok hR;have hlt:=Rm E8.out iC.out _ _ _ hR;have hq:=bz.out;rw [hR] at hq;dsimp only at hq;have ba:=ae hq;have jJ:=ae oO;have mW:=ae oO.st.pr.left;have hj4:=oO.st.pr.le;clear oO hq hR hr bz xW dW;go_wp2_with fail;go_roundw
        case rel=>exact ⟨j4,f,H3,_,_,J1,J2,ba,ae (by have:=HF.out;omega),ae (by have:=dM.out;omega),ae (by simp;have:=gb.out;omega),jJ⟩
        case measure=>rw [mW.out,jw.out];omega
theorem Zn (w0:World) (p:Nat) (L:List Tk) (vL:Value) (en:Int) (i:Nat) (R0:Rd Value) (gu:∀u,PR w0 p L vL en i u->Calls Tryz.prog 176 #[.pointer (some ⟨p,0,none⟩)] u (Rp w0 p L vL en (dX u.heap.size) u R0)) (R1:Rd Value) (dI:∀u,PR w0 p L vL en i u->Calls Tryz.prog 177 #[.pointer (some ⟨p,0,none⟩)] u (Rp w0 p L vL en (dX u.heap.size) u R1)) (R2:Rd Value) (dW:∀u,PR w0 p L vL en i u->Calls Tryz.prog 178 #[.pointer (some ⟨p,0,none⟩)] u (Rp w0 p L vL en (dX u.heap.size) u R2)) (g:Nat) (w:World) (h:PR w0 p L vL en i w) (hg:w.heap[g]?=some (.cells kx 187 (0,0))) :
  Calls Tryz.prog 175 #[.pointer (some ⟨p,0,none⟩),.slice (some ⟨g,0,none⟩) 3 3] w (Rp w0 p L vL en (dX w.heap.size) w (bu (tk L en i) [(1,e0,R0),(3,e0,R1),(6,sL,R2)])):=by
 have HA:=ae (AP.start h 79 kg);have H:=ae (iE w0 p L vL en i _ HA.out.pr);obtain ⟨aj,aW⟩:∃X,X=bu (tk L en i) [(1,e0,R0),(3,e0,R1),(6,sL,R2)]:=⟨_,rfl⟩;rw [<- aW];have bM:=ae aW;have HG:=ae hg;have hgl:g<w.heap.size:=(Array.getElem?_eq_some_iff.1 hg).1;have gD:g≠p:=fun e=>by rw [e,h.blk] at hg;injection hg with hg;injection hg with hg _ _;cases hg
 have di:=ae (And.intro hgl gD);generalize tk L en i=t at *;obtain ⟨tk,tx,tn,ta⟩:=t;clear h hg aW hgl gD;go_enter Tryz.func175,Tryz.ntmps175;go_wp2_with fail;refine Calls.mono (show Calls _ _ _ _ _ from H.out) ?_;rintro e u ⟨rfl,hb⟩;have hA1:=HA.out.on hb;obtain ⟨u2,hu2,eZ,hb2,m0,m1,m2,m3,hpl⟩:=kX hA1.pr tk tx tn ta;have aB:=ae (hA1.on hb2);have HM:Hid (u2.cell? ⟨u.heap.size,0,none⟩=some (.int .i64 tk)/\u2.cell? ⟨u.heap.size,1,none⟩=some (.string tx)/\u2.cell? ⟨u.heap.size,2,none⟩=some (.int .i64 tn)/\u2.cell? ⟨u.heap.size,3,none⟩=some (.int .i64 ta)):=ae ⟨m0,m1,m2,m3⟩;go_upto_region 2 with fail;simp only [dD]
 try rw [<- hu2]
 generalize u.heap.size=q at *;clear hu2 hb hb2 eZ H hA1 m0 m1 m2 m3;go_wp2_with fail;go_loopw [12] (fun x wr=>∃k:Nat,k<=3/\x=.int .i64 k/\Hid (∀j,j<k->([(1,e0,R0),(3,e0,R1),(6,sL,R2)]:List (Int × ByteArray × Rd Value))[j]?.map (fun r=>bg r.1 r.2.1 ⟨tk,tx,tn,ta⟩)=some false)/\Hid (AP w0 p L vL en w 79 kg i wr)/\Hid (wr.cell? ⟨q,0,none⟩=some (.int .i64 tk)/\wr.cell? ⟨q,1,none⟩=some (.string tx)/\wr.cell? ⟨q,2,none⟩=some (.int .i64 tn)/\wr.cell? ⟨q,3,none⟩=some (.int .i64 ta))) (fun x _=>match x with | .int _ k=>3-k.toNat|_=>0)
 case atStart=>exact ⟨0,Nat.zero_le _,rfl,ae (fun j hj=>absurd hj (Nat.not_lt_zero _)),aB,HM⟩
 case round =>
  clear aB HM;obtain ⟨k,hk,rfl,HN,aB,HM⟩:=hrel
  have hcs:∀(o:Nat) (v:Value),kx[o]?=some v->wr.cell? ⟨g,o,none⟩=some v:=fun o v ho=>by
   unfold World.cell?;rw [aB.out.but.block g di.out.1 di.out.2,HG.out];exact ho
  have hcase:k=0\/k=1\/k=2\/k=3:=by omega
  clear hk;rcases hcase with rfl|rfl|rfl|rfl
  ·have y0:=hcs 0 _ rfl;have y1:=hcs 1 _ rfl;have y2:=hcs 2 _ rfl;obtain ⟨m0,m1,m2,m3⟩:=HM.out;have bD:g<wr.heap.size:=Nat.lt_of_lt_of_le di.out.1 aB.out.but.size;have eu:q<wr.heap.size:=World.block_lt_of_cell? _ _ m0;obtain ⟨u3,hu3,hb3,r0,r1,r2⟩:=fF wr 187 (.int .i64 1) (.string e0) (.func (.func 176) #[] #[]);have bK:=ae (aB.out.on hb3);have HB:=ae (zn 1 e0 (.func (.func 176) #[] #[]) ⟨tk,tx,tn,ta⟩ u3);have m0:=ag hb3 m0;have m1:=ag hb3 m1;have m2:=ag hb3 m2;have m3:=ag hb3 m3;go_upto_region 5 with fail
   try rw [<- hu3]
   generalize wr.heap.size=q2 at *;clear hu3 hb3 hcs y0 y1 y2 HM bD eu aB;go_wp2_with fail;refine HB.out.mono ?_;rintro e u4 ⟨rfl,hb4⟩;have bA:=ae (bK.out.on hb4);have r2:=ag hb4 r2;have m0:=ag hb4 m0;have m1:=ag hb4 m1;have m2:=ag hb4 m2;have m3:=ag hb4 m3;clear hb4 HB bK r0 r1;cases hbg:bg 1 e0 ⟨tk,tx,tn,ta⟩ with
   | false =>
    have cz:Hid (∀j,j<1->([(1,e0,R0),(3,e0,R1),(6,sL,R2)]:List (Int × ByteArray × Rd Value))[j]?.map (fun r=>bg r.1 r.2.1 ⟨tk,tx,tn,ta⟩)=some false):=ae fun j hj=>by
     rcases Nat.lt_succ_iff_lt_or_eq.1 hj with hj|rfl
     ·exact HN.out j hj
     ·simp [hbg]
    have cW:=ae (And.intro m0 (And.intro m1 (And.intro m2 m3)));clear m0 m1 m2 m3 r2 hbg HN;go_wp2;go_roundw
    case rel=>exact ⟨1,by decide,by first|rfl|simp,cz,bA,cW⟩
    case measure=>simp
   | true =>
    have hE:aj=R0:=by rw [bM.out,bu,if_pos hbg]
    have HE:=ae hE;have HC:=ae (gu u4 bA.out.pr);clear hbg hE HN m0 m1 m2 m3;go_wp2_with fail;refine HC.out.mono ?_;intro e u5 hr;cases hR:R0 with
    | error z =>
     obtain ⟨rfl,hb⟩:=bw hr hR;have HB:=ae hb;have ax:Hid (aj=.error z):=ae (by rw [HE.out,hR]);clear hb hr hR HE;go_wp2;exact ⟨rfl,bq ax.out HB.out⟩
    | ok r =>
     obtain ⟨tr,j⟩:=r;obtain ⟨⟨v,rfl,hv0⟩,hp,hbt⟩:=bh hr hR;obtain ⟨vk,vx,vn,vu,hv,o1⟩:=hv0.val;subst hv;have bn:Hid (aj=.ok (tr,j)):=ae (by rw [HE.out,hR]);have bH:=bA.out.lt;have cO:=ae (bA.out.call hp hbt);obtain ⟨W,hW,hth,hbk,hpr,aO,hab⟩:=cO.out.put #[.int .i64 vk,.string vx,.int .i64 vn,vu] rfl;have HV:=ae (hv0.on (hab.lo bH) (Nat.le_of_lt bH));have HW:=ae hW;have ay:=ae hth;have ai:=ae hbk;have HF:=ae (And.intro hpr aO);clear hW hth hbk hpr aO hab hp hbt hr hR HE hv0 HC;go_wp2_with (refine wpList_store_mid rfl 79 (.tmp 4) (.tmp 22) rfl w.heap.size 0 #[.int .i64 vk,.string vx,.int .i64 vn,vu] rfl rfl ay.out gN (by simp [Value.oneCell'] at o1 ⊢;exact o1) ?_;rw [HW.out]);have z0:=af ai.out 0 _ rfl;have z1:=af ai.out 1 _ rfl;have z2:=af ai.out 2 _ rfl;have z3:=af ai.out 3 _ rfl;refine bodyPost_ret (v:=.agg #[.int .i64 vk,.string vx,.int .i64 vn,vu]) (by simp [results,Tryz.results175,go_sem,z0,z1,z2,z3]) rfl (ck bn.out HV.out HF.out.1 HF.out.2)
  ·have y0:=hcs 3 _ rfl;have y1:=hcs 4 _ rfl;have y2:=hcs 5 _ rfl;have b0:bg 1 e0 ⟨tk,tx,tn,ta⟩=false:=by have:=HN.out 0 (by decide);simpa using this
   obtain ⟨m0,m1,m2,m3⟩:=HM.out;have bD:g<wr.heap.size:=Nat.lt_of_lt_of_le di.out.1 aB.out.but.size;have eu:q<wr.heap.size:=World.block_lt_of_cell? _ _ m0;obtain ⟨u3,hu3,hb3,r0,r1,r2⟩:=fF wr 187 (.int .i64 3) (.string e0) (.func (.func 177) #[] #[]);have bK:=ae (aB.out.on hb3);have HB:=ae (zn 3 e0 (.func (.func 177) #[] #[]) ⟨tk,tx,tn,ta⟩ u3);have m0:=ag hb3 m0;have m1:=ag hb3 m1;have m2:=ag hb3 m2;have m3:=ag hb3 m3;go_upto_region 5 with fail
   try rw [<- hu3]
   generalize wr.heap.size=q2 at *;clear hu3 hb3 hcs y0 y1 y2 HM bD eu aB;go_wp2_with fail;refine HB.out.mono ?_;rintro e u4 ⟨rfl,hb4⟩;have bA:=ae (bK.out.on hb4);have r2:=ag hb4 r2;have m0:=ag hb4 m0;have m1:=ag hb4 m1;have m2:=ag hb4 m2;have m3:=ag hb4 m3;clear hb4 HB bK r0 r1;cases hbg:bg 3 e0 ⟨tk,tx,tn,ta⟩ with
   | false =>
    have cz:Hid (∀j,j<2->([(1,e0,R0),(3,e0,R1),(6,sL,R2)]:List (Int × ByteArray × Rd Value))[j]?.map (fun r=>bg r.1 r.2.1 ⟨tk,tx,tn,ta⟩)=some false):=ae fun j hj=>by
     rcases Nat.lt_succ_iff_lt_or_eq.1 hj with hj|rfl
     ·exact HN.out j hj
     ·simp [hbg]
    have cW:=ae (And.intro m0 (And.intro m1 (And.intro m2 m3)));clear m0 m1 m2 m3 r2 hbg HN;go_wp2;go_roundw
    case rel=>exact ⟨2,by decide,by first|rfl|simp,cz,bA,cW⟩
    case measure=>simp
   | true =>
    have hE:aj=R1:=by rw [bM.out,bu,bu,if_neg (by rw [b0];decide),if_pos hbg]
    have HE:=ae hE;have HC:=ae (dI u4 bA.out.pr);clear hbg hE HN m0 m1 m2 m3;go_wp2_with fail;refine HC.out.mono ?_;intro e u5 hr;cases hR:R1 with
    | error z =>
     obtain ⟨rfl,hb⟩:=bw hr hR;have HB:=ae hb;have ax:Hid (aj=.error z):=ae (by rw [HE.out,hR]);clear hb hr hR HE;go_wp2;exact ⟨rfl,bq ax.out HB.out⟩
    | ok r =>
     obtain ⟨tr,j⟩:=r;obtain ⟨⟨v,rfl,hv0⟩,hp,hbt⟩:=bh hr hR;obtain ⟨vk,vx,vn,vu,hv,o1⟩:=hv0.val;subst hv;have bn:Hid (aj=.ok (tr,j)):=ae (by rw [HE.out,hR]);have bH:=bA.out.lt;have cO:=ae (bA.out.call hp hbt);obtain ⟨W,hW,hth,hbk,hpr,aO,hab⟩:=cO.out.put #[.int .i64 vk,.string vx,.int .i64 vn,vu] rfl;have HV:=ae (hv0.on (hab.lo bH) (Nat.le_of_lt bH));have HW:=ae hW;have ay:=ae hth;have ai:=ae hbk;have HF:=ae (And.intro hpr aO);clear hW hth hbk hpr aO hab hp hbt hr hR HE hv0 HC;go_wp2_with (refine wpList_store_mid rfl 79 (.tmp 4) (.tmp 22) rfl w.heap.size 0 #[.int .i64 vk,.string vx,.int .i64 vn,vu] rfl rfl ay.out gN (by simp [Value.oneCell'] at o1 ⊢;exact o1) ?_;rw [HW.out]);have z0:=af ai.out 0 _ rfl;have z1:=af ai.out 1 _ rfl;have z2:=af ai.out 2 _ rfl;have z3:=af ai.out 3 _ rfl;refine bodyPost_ret (v:=.agg #[.int .i64 vk,.string vx,.int .i64 vn,vu]) (by simp [results,Tryz.results175,go_sem,z0,z1,z2,z3]) rfl (ck bn.out HV.out HF.out.1 HF.out.2)
  ·have y0:=hcs 6 _ rfl;have y1:=hcs 7 _ rfl;have y2:=hcs 8 _ rfl;have b0:bg 1 e0 ⟨tk,tx,tn,ta⟩=false:=by have:=HN.out 0 (by decide);simpa using this
   have b1:bg 3 e0 ⟨tk,tx,tn,ta⟩=false:=by have:=HN.out 1 (by decide);simpa using this
   obtain ⟨m0,m1,m2,m3⟩:=HM.out;have bD:g<wr.heap.size:=Nat.lt_of_lt_of_le di.out.1 aB.out.but.size;have eu:q<wr.heap.size:=World.block_lt_of_cell? _ _ m0;obtain ⟨u3,hu3,hb3,r0,r1,r2⟩:=fF wr 187 (.int .i64 6) (.string sL) (.func (.func 178) #[] #[]);have bK:=ae (aB.out.on hb3);have HB:=ae (zn 6 sL (.func (.func 178) #[] #[]) ⟨tk,tx,tn,ta⟩ u3);have m0:=ag hb3 m0;have m1:=ag hb3 m1;have m2:=ag hb3 m2;have m3:=ag hb3 m3;go_upto_region 5 with fail
   try rw [<- hu3]
   generalize wr.heap.size=q2 at *;clear hu3 hb3 hcs y0 y1 y2 HM bD eu aB;go_wp2_with fail;refine HB.out.mono ?_;rintro e u4 ⟨rfl,hb4⟩;have bA:=ae (bK.out.on hb4);have r2:=ag hb4 r2;have m0:=ag hb4 m0;have m1:=ag hb4 m1;have m2:=ag hb4 m2;have m3:=ag hb4 m3;clear hb4 HB bK r0 r1;cases hbg:bg 6 sL ⟨tk,tx,tn,ta⟩ with
   | false =>
    have cz:Hid (∀j,j<3->([(1,e0,R0),(3,e0,R1),(6,sL,R2)]:List (Int × ByteArray × Rd Value))[j]?.map (fun r=>bg r.1 r.2.1 ⟨tk,tx,tn,ta⟩)=some false):=ae fun j hj=>by
     rcases Nat.lt_succ_iff_lt_or_eq.1 hj with hj|rfl
     ·exact HN.out j hj
     ·simp [hbg]
    have cW:=ae (And.intro m0 (And.intro m1 (And.intro m2 m3)));clear m0 m1 m2 m3 r2 hbg HN;go_wp2;go_roundw
    case rel=>exact ⟨3,by decide,by first|rfl|simp,cz,bA,cW⟩
    case measure=>simp
   | true =>
    have hE:aj=R2:=by rw [bM.out,bu,bu,bu,if_neg (by rw [b0];decide),if_neg (by rw [b1];decide),if_pos hbg]
    have HE:=ae hE;have HC:=ae (dW u4 bA.out.pr);clear hbg hE HN m0 m1 m2 m3;go_wp2_with fail;refine HC.out.mono ?_;intro e u5 hr;cases hR:R2 with
    | error z =>
     obtain ⟨rfl,hb⟩:=bw hr hR;have HB:=ae hb;have ax:Hid (aj=.error z):=ae (by rw [HE.out,hR]);clear hb hr hR HE;go_wp2;exact ⟨rfl,bq ax.out HB.out⟩
    | ok r =>
     obtain ⟨tr,j⟩:=r;obtain ⟨⟨v,rfl,hv0⟩,hp,hbt⟩:=bh hr hR;obtain ⟨vk,vx,vn,vu,hv,o1⟩:=hv0.val;subst hv;have bn:Hid (aj=.ok (tr,j)):=ae (by rw [HE.out,hR]);have bH:=bA.out.lt;have cO:=ae (bA.out.call hp hbt);obtain ⟨W,hW,hth,hbk,hpr,aO,hab⟩:=cO.out.put #[.int .i64 vk,.string vx,.int .i64 vn,vu] rfl;have HV:=ae (hv0.on (hab.lo bH) (Nat.le_of_lt bH));have HW:=ae hW;have ay:=ae hth;have ai:=ae hbk;have HF:=ae (And.intro hpr aO);clear hW hth hbk hpr aO hab hp hbt hr hR HE hv0 HC;go_wp2_with (refine wpList_store_mid rfl 79 (.tmp 4) (.tmp 22) rfl w.heap.size 0 #[.int .i64 vk,.string vx,.int .i64 vn,vu] rfl rfl ay.out gN (by simp [Value.oneCell'] at o1 ⊢;exact o1) ?_;rw [HW.out]);have z0:=af ai.out 0 _ rfl;have z1:=af ai.out 1 _ rfl;have z2:=af ai.out 2 _ rfl;have z3:=af ai.out 3 _ rfl;refine bodyPost_ret (v:=.agg #[.int .i64 vk,.string vx,.int .i64 vn,vu]) (by simp [results,Tryz.results175,go_sem,z0,z1,z2,z3]) rfl (ck bn.out HV.out HF.out.1 HF.out.2)
  ·obtain ⟨m0,m1,m2,m3⟩:=HM.out;have b0:bg 1 e0 ⟨tk,tx,tn,ta⟩=false:=by have:=HN.out 0 (by decide);simpa using this
   have b1:bg 3 e0 ⟨tk,tx,tn,ta⟩=false:=by have:=HN.out 1 (by decide);simpa using this
   have b2:bg 6 sL ⟨tk,tx,tn,ta⟩=false:=by have:=HN.out 2 (by decide);simpa using this
   have ax:Hid (aj=.error ta):=ae (by rw [bM.out,bu,bu,bu,bu,if_neg (by rw [b0];decide),if_neg (by rw [b1];decide),if_neg (by rw [b2];decide)]);clear hcs HN b0 b1 b2;go_wp2;exact ⟨rfl,bq ax.out aB.out.pr.below⟩
end Go.Proofs.YtpaefhceiliaiaaGreatDoor
