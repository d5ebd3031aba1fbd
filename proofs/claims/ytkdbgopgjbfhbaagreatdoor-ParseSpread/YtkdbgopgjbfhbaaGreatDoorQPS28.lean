/- Texts that the claim needs. -/
import Derived.Test.YtkdbgopgjbfhbaaGreatDoorQPS19
import Derived.Test.YtkdbgopgjbfhbaaGreatDoorQPS9
namespace Go.Proofs.YtkdbgopgjbfhbaaGreatDoor
open Go.RowKit Lx Pz bb
set_option linter.unusedVariables false
set_option maxRecDepth 100000
set_option maxHeartbeats 16000000
namespace Pz
def zT (L:List Tk) (en:Int) (P E:Nat->Rd Value):Nat->Nat->List Value->List Value->Rd (List Value × List Value)
 | 0,i,ps,es=>.ok ((ps,es),i)
 | f+1,i,ps,es=>match aX L en kZ i with
  | .error _=>.ok ((ps,es),i)
  | .ok i=>match sj L en P E i with
   | .error z=>.error z
   | .ok ((p,e),j)=>zT L en P E f j (ps++[p]) (es++[e])
def GY (L:List Tk) (en:Int) (P E:Nat->Rd Value) (i:Nat):Rd Value:=match aX L en ig i with
 | .error z=>.error z
 | .ok j=>match E j with
  | .error z=>.error z
  | .ok (c,j)=>match aX L en Al j with
   | .error z=>.error z
   | .ok j=>match sj L en P E j with
    | .error z=>.error z
    | .ok ((p,e),j)=>match zT L en P E (L.length+1) j [p] [c,e] with
     | .error z=>.error z
     | .ok ((ps,es),j)=>match aX L en xZ j with
      | .error z=>.error z
      | .ok j=>.ok (nd 7 e0 e0 0 es ps (tk L en i).a,j)
theorem Uv {L:List Tk} {en:Int} {P E:Nat->Rd Value} (hP:bX P) (hE:bX E):bX (sj L en P E):=by
 intro i t j h;unfold sj at h;cases h0:P i with
 | error z=>rw [h0] at h;cases h
 | ok r0 =>
  obtain ⟨a0,j0⟩:=r0;have q0:=hP _ _ _ h0;rw [h0] at h;dsimp only at h;cases h1:aX L en jC j0 with
  | error z=>rw [h1] at h;cases h
  | ok j1 =>
   have q1:=fL h1;rw [h1] at h;dsimp only at h;cases h2:E j1 with
   | error z=>rw [h2] at h;cases h
   | ok r2 =>
    obtain ⟨a2,j2⟩:=r2;have q2:=hE _ _ _ h2;rw [h2] at h;injection h with h;injection h with _ h;omega
theorem Bz.err {w0:World} {p:Nat} {L:List Tk} {vL:Value} {en:Int} {w:World} {q:Nat} {cK:Int} {es ps:List Value} {X:Rd (Value × Value)} {e:Ending} {u':World} {z:Int} (h:Bz w0 p L vL en w q cK es ps X e u') (hX:X=.error z):e=.panicked (Be z)/\Below w0.heap.size w0 u':=by subst hX;exact h
theorem Bz.ok {w0:World} {p:Nat} {L:List Tk} {vL:Value} {en:Int} {w:World} {q:Nat} {cK:Int} {es ps:List Value} {X:Rd (Value × Value)} {e:Ending} {u':World} {pt ex:Value} {j:Nat} (h:Bz w0 p L vL en w q cK es ps X e u') (hX:X=.ok ((pt,ex),j)):e=.returned (.tuple #[])/\∃H' LI LJ,CS w0 p L vL en w q cK j H' (es++[ex]) (ps++[pt]) LI LJ u':=by subst hX;exact h
theorem CS.on {w0:World} {p:Nat} {L:List Tk} {vL:Value} {en:Int} {w:World} {q:Nat} {cK:Int} {j:Nat} {H:List Nat} {es ps:List Value} {vE vP:Value} {u u':World} (h:CS w0 p L vL en w q cK j H es ps vE vP u) (hb:Below u.heap.size u u'):CS w0 p L vL en w q cK j H es ps vE vP u':=h.call (h.st.pr.on hb) (But.of p hb)
theorem CS.fin {w0:World} {p:Nat} {L:List Tk} {vL:Value} {en:Int} {w:World} {q:Nat} {cK:Int} {j:Nat} {H:List Nat} {es ps:List Value} {vE vP:Value} {u:World} (h:CS w0 p L vL en w q cK j H es ps vE vP u) (hle:es.length<=5000) (hlp:ps.length<=5000):ST w0 p L vL en [] w j [(w.heap.size,bK,27),(q,kX cK vE vP,27)] [aY w.heap.size (nd 7 e0 e0 0 es ps cK) (.agg (kX cK vE vP))] u:=by
 have hs:∀k ∈ [w.heap.size,q],k ∈ H++[w.heap.size,q]:=fun k hk=>List.mem_append_right _ hk
 have ho:∀k,k ∈ H->k ∉ [w.heap.size,q]:=fun k hk hm=>by
  have:=h.hH k hk
  simp only [List.mem_cons,List.not_mem_nil,or_false] at hm;omega
 have hE:=h.rE.row (F:=fun w' d=>dR w.heap.size w' d) (fun w'=>dR.up) (by omega) h.pB hs (fun k hk=>ho k (h.hE k hk)) (fun w' t cs b o hv hB hc=>DZ hv hB hc);have hP:=h.rP.row (F:=fun w' d=>cW w.heap.size w' d) (fun w'=>cW.up) (by omega) h.pB hs (fun k hk=>ho k (h.hP k hk)) (fun w' t cs b o hv hB hc=>KM hv hB hc);refine (h.st.less (H':=[]) (fun k hk=>by cases hk)).add _ fun w' hw=>?_;have hw':gV [w.heap.size,q] p u w':=hw;exact Pz.Bg 7 e0 e0 0 cK (hE w' hw') (hP w' hw')
def CsI (w0:World) (p:Nat) (L:List Tk) (vL:Value) (en:Int) (w:World) (q:Nat) (cK:Int) (i:Nat) (P E:Nat->Rd Value) (ak:Rd Value) (wr:World):Prop:=∃(j f:Nat) (H:List Nat) (es ps:List Value) (vE vP:Value),Hid (ak=(match zT L en P E f j ps es with | .error z=>.error z | .ok ((ps,es),j)=>match aX L en xZ j with | .error z=>.error z | .ok j=>.ok (nd 7 e0 e0 0 es ps cK,j)))/\Hid (L.length+1<=j+f)/\Hid (i<j)/\Hid (es.length<=j/\ps.length<=j)/\Hid (CS w0 p L vL en w q cK j H es ps vE vP wr)
end Pz
theorem ac5 (w0:World) (p:Nat) (L:List Tk) (vL:Value) (en:Int) (i:Nat) (P E:Nat->Rd Value) (Uw:bX P) (ez:bX E) (HP:∀j u,i<j->PR w0 p L vL en j u->Calls Tryz.prog 186 #[.pointer (some ⟨p,0,none⟩)] u (Rp w0 p L vL en (cG u.heap.size) u (P j))) (HE:∀j u,i<j->PR w0 p L vL en j u->Calls Tryz.prog 60 #[.pointer (some ⟨p,0,none⟩)] u (Rp w0 p L vL en (aY u.heap.size) u (E j))) (w:World) (h:PR w0 p L vL en i w) :
  Calls Tryz.prog 157 #[.pointer (some ⟨p,0,none⟩)] w (Rp w0 p L vL en (aY w.heap.size) w (GY L en P E i)):=by
 have bW:=ae ((ST.nH h).new bK 27);obtain ⟨ak,aT⟩:∃X,X=(GY L en P E i:Rd Value):=⟨_,rfl⟩;rw [<- aT];unfold GY at aT;have HX:=ae aT;have Ei:=ae HP;have ck:=ae HE;have GZ:=ae Uw;have jd:=ae ez;clear h aT HP HE Uw ez;have bS:=ae (gZ w0 p L vL en i ig _ bW.out.pr);go_enter Tryz.func157,Tryz.ntmps157;go_wp2_with fail;refine Calls.mono (show Calls _ _ _ _ _ from bS.out) ?_;intro e u1 hr;cases hR:aX L en ig i with
 | error z =>
  obtain ⟨rfl,hb⟩:=bz hr (dO hR);have HB:=ae hb;have ay:Hid (ak=.error z):=ae (by have hq:=HX.out;rw [hR] at hq;exact hq);clear hb hR hr bS HX;go_wp2;exact ⟨rfl,bn ay.out HB.out⟩
 | ok j1 =>
  obtain ⟨⟨v,rfl,hv⟩,hp,hbt⟩:=bf hr (dO hR);subst hv;have gP:=ae (fL hR);have hq:=HX.out;rw [hR] at hq;dsimp only at hq;have bH:=ae hq;clear hq;have aD:=ae (bW.out.call hp hbt);clear hp hbt bS HX hR hr bW;generalize (tk L en i).a=bU at *;obtain ⟨W2,hW,hth,cn⟩:=aD.out.kD 27 bK (kX bU (.slice none 0 0) (.slice none 0 0)) rfl;have HW2:=ae hW;have gb:=ae hth;have aU:=ae cn;clear hW hth cn aD;go_upto_region 2 with (refine wpList_store_mid rfl 27 (.tmp 3) (.tmp 6) rfl u1.heap.size 0 (kX bU (.slice none 0 0) (.slice none 0 0)) rfl rfl gb.out cz (by simp [Value.oneCell']) ?_;rw [HW2.out])
  try dsimp only [Act.put]
  clear gb HW2
  have hq0:w.heap.size<u1.heap.size:=by
   have h9:=aU.out.oJ;have h8:=(aU.out.blk _ (List.Mem.tail _ (List.Mem.head _))).2;simp at h9 h8;omega
  generalize u1.heap.size=q at *;obtain ⟨es0,G0⟩:∃es0:List Value,es0 = []:=⟨_,rfl⟩;obtain ⟨ps0,LK⟩:∃ps0:List Value,ps0 = []:=⟨_,rfl⟩;obtain ⟨vE0,Ux⟩:∃v:Value,v=.slice none 0 0:=⟨_,rfl⟩;obtain ⟨vh,Uy⟩:∃v:Value,v=.slice none 0 0:=⟨_,rfl⟩
  have hC0:CS w0 p L vL en w q bU j1 [] es0 ps0 vE0 vh W2:=by
   subst G0 LK Ux Uy;exact ⟨aU.out,fZ.nil _ _ _ _ _ _ _,fZ.nil _ _ _ _ _ _ _,fun k hk=>(by cases hk),fun k hk=>(by cases hk),fun k hk=>(by cases hk),fun k hk=>(by cases hk)⟩
  have hel:es0.length=0:=by rw [G0];rfl
  have ia:=ae hel;have uj:=ae G0;have HPS:=ae LK;clear hel Ux Uy aU G0 LK;obtain ⟨oE,cE,hv1⟩:=hC0.rE.sl;subst hv1;have HC:=ae hC0;clear hC0
  obtain ⟨ok,t2,j2,xH,hok0⟩:∃(ok:Bool) (t2:Value) (j2:Nat),(ok=true->E j1=.ok (t2,j2))/\(ok=false->∃z,E j1=.error z):=by
   cases hP:E j1 with
   | error z=>exact ⟨false,undef,0,fun h=>(by cases h),fun _=>⟨z,rfl⟩⟩
   | ok r=>exact ⟨true,r.1,r.2,fun _=>rfl,fun h=>(by cases h)⟩
  have oF:=ae (And.intro xH hok0);clear xH hok0
  try dsimp only [Act.put]
  refine Jo (w0:=w0) (p:=p) (L:=L) (vL:=vL) (en:=en) (H:=([]:List Nat)) (w:=w) (q:=q) (j2:=j2) (V:=aY w.heap.size) (T:=27) (sz:=7) (eC:=(fun y=>kX bU y vh)) (t2:=t2) (els:=es0) (V2:=cG w.heap.size) (T2:=101) (sz2:=5) (v2:=vh) (ts2:=ps0) (ok:=ok) (zc:=bK) (f:=4) (rl:=(fun i=>[0,0,0,5,0,7,8,9,10,1,13].getD i 1)) (cv:=(fun i=>[.pointer (some ⟨q,4,none⟩),.slice oE es0.length cE,.pointer (some ⟨p,0,none⟩),undef,.int .i64 (es0.length:Int),undef,undef,undef,undef,.pointer (some ⟨q,4,none⟩),undef].getD i undef)) 11 29 (fun i=>[7,8,9,10,11,12,13,14,5,15,6].getD i 0) [8,10] [6,8,10] j1 (by kernel_rfl) (by kernel_rfl) (by kernel_rfl) (by kernel_rfl) rfl (by kernel_rfl) ?LL ?LM ?LN HC.out.st.pr ?LO ?LP
  case LL =>
   intro i hi
   have:i=8\/i=10:=by simpa using hi
   rcases this with rfl|rfl
   ·exact .inl rfl
   ·exact .inr rfl
  case LM=>intro v9 y;rfl
  case LN=>exact fun e=>(HC.out.hH q (HC.out.hP q e)).2 rfl
  case LO =>
   intro i' o a z u1 hi ho hF hR hd;have f0:a.tmps[0]?.getD undef=.pointer (some ⟨p,0,none⟩):=ag.au (hF.eval 0 (fun i hi=>by have hc:=List.mem_range.2 hi;revert hc;clear hi;revert i;decide));have f3:a.tmps[3]?.getD undef=.pointer (some ⟨q,0,none⟩):=ag.au (hF.eval 3 (fun i hi=>by have hc:=List.mem_range.2 hi;revert hc;clear hi;revert i;decide));have zl:=ae hF.defers;have HR:=ae hR;clear hR
   iterate 11 (rcases Nat.lt_succ_iff_lt_or_eq.1 hi with hi|rfl)
   exact absurd hi (Nat.not_lt_zero _)
   all_goals (simp only [List.getElem?_toArray,List.getElem?_cons_succ,List.getElem?_cons_zero,Option.some.injEq] at ho;subst ho;refine ag.bw fun KK ai=>?_;have cJ:=ae ai;clear ai)
   ·clear hd;go_simp;exact cJ.out _ _ ⟨_,z,rfl,cH.c (by decide),bJ.c (by decide) rfl⟩
   ·have g0:a.tmps[7]?.getD undef=.pointer (some ⟨q,4,none⟩):=ag.au ((hd 0 (by decide)).iT (by decide));have hb:=(HR.out (.inl rfl)).1.blk (HC.out.st.at_ (k:=1) rfl) HC.out.qp;have y4:=cO hb 4 rfl;clear hb;clear hd;go_simp;exact cJ.out _ _ ⟨_,z,rfl,cH.c (by decide),bJ.c (by decide) rfl⟩
   ·clear hd;go_simp;exact cJ.out _ _ ⟨_,z,rfl,cH.c (by decide),bJ.c (by decide) rfl⟩
   ·have g0:a.tmps[9]?.getD undef=.pointer (some ⟨p,0,none⟩):=ag.au ((hd 2 (by decide)).iT (by decide));clear hd;obtain ⟨aO,_,h5,hz⟩:=HR.out (.inr (.inl rfl));obtain ⟨hpr,rfl⟩:=h5 rfl;have hS:=HC.out.st.call hpr aO;have aD:=ae hS;clear aO h5 hz HR hS;have HC:=ae (ck.out j1 u1 gP.out aD.out.pr);clear hpr;go_simp;refine Calls.mono (show Calls _ _ _ _ _ from HC.out) ?_;intro e u5 hr;cases ok with
    | false =>
     obtain ⟨zz,hzz⟩:=oF.out.2 rfl;obtain ⟨rfl,hb⟩:=bz hr hzz;have dL:ak=.error zz:=by have hq:=bH.out;rw [hzz] at hq;exact hq
     rw [dL];exact ⟨zl.out,bn rfl hb⟩
    | true =>
     have hok:=oF.out.1 rfl;obtain ⟨⟨v,rfl,hv0⟩,hp,hbt⟩:=bf hr hok;obtain ⟨rk,rx,ry,rn,ru,rz,ra,hv,r1,r2⟩:=hv0.val;subst hv;have iJ:=aD.out.jN (B:=w.heap.size) (aD.out.but.size) hp hbt hv0;exact cJ.out _ _ ⟨_,_,rfl,cH.five (by decide) hbt ⟨_,hp⟩,bJ.five (by decide) rfl rfl (by simp [Value.oneCell'] at r1 r2 ⊢;exact ⟨r1,r2⟩) rfl hp (fun w' hw=>iJ.gp _ (List.Mem.head _) w' hw)⟩
   ·have g1:a.tmps[8]?.getD undef=.slice oE es0.length cE:=ag.au ((hd 1 (by decide)).iT (by decide));clear hd;go_simp;exact cJ.out _ _ ⟨_,z,rfl,cH.c (by decide),bJ.c (by decide) rfl⟩
   ·obtain ⟨aO,⟨jj,hjj⟩,_,hz⟩:=HR.out (.inr (.inr (.inl rfl)));have hpl:=hjj.lt;clear hd aO hjj hz;go_simp;exact cJ.out _ _ ⟨_,z,rfl,cH.seven (by decide) (dh _ _),bJ.seven (by decide) rfl (heap_alloc_new _ _) hpl⟩
   ·obtain ⟨aO,_,_,hz⟩:=HR.out (.inr (.inr (.inr rfl)));obtain ⟨R,rfl,kr,hRs,l8,hok,hpr,hst⟩:=(hd 3 (by decide)).Jq (by decide) hz;obtain ⟨gz,lM,Ej,Uz⟩:=(hd 5 (by decide)).Js (by decide) hz;have jM:=(hd 1 (by decide)).iT (by decide);obtain ⟨xs,hown,jV,hxe⟩:=HC.out.rE.but aO HC.out.pB;obtain ⟨i0,hi0,hz0,hz1,hz2⟩:=info_parts Ld;refine xV _ _ 24 rfl w.heap.size 27 i0 _ 7 104 Tryz.underlying24 hi0 hz0 hz1 hz2 rfl (by decide) _ _ _ jM hown (some ⟨gz,0,none⟩) 1 1 [.int .i64 0,.string ⟨#[]⟩,.string ⟨#[]⟩,.int .i64 0,.slice none 0 0,.slice none 0 0,.int .i64 0] lM (by intro h;cases h) rfl (fun ad h j c hj=>by injection h with h;subst h;rw [Addr.add_mid,Nat.zero_add];exact af Ej j c (by simpa using hj)) (by intro c hc;simp only [List.mem_cons,List.not_mem_nil,or_false] at hc;rcases hc with rfl|rfl|rfl|rfl|rfl|rfl|rfl<;>rfl) (by unfold maxLen;have:=ia.out.symm;omega) (by have:=ia.out.symm;omega) ((HC.out.st.call hpr aO).but.size) ?_
    intro v9 w9 dS fF bD;exact cJ.out _ _ ⟨v9,some (R,some v9),rfl,cH.eight (by decide),bJ.eight (by decide) hok hRs l8 (Mid.start (zc:=bK) ((HC.out.st.call hpr aO).add _ hst) hown (HC.out.hE) hxe (HC.out.rP.but aO HC.out.pB) HC.out.hH (Nat.lt_of_lt_of_le HC.out.ql aO.size) (fun k hk e=>HC.out.G1 k hk e) dS fF bD rfl)⟩
   ·obtain ⟨R,rfl,hok,hRs,l8,hM⟩:=(hd 6 (by decide)).sU (by decide);obtain ⟨g9,c9,bD,bF,eY,hg2⟩:=id hM.own;have g8:a.tmps[13]?.getD undef=.slice (some ⟨g9,0,none⟩) (es0.length+1) c9:=ag.au bD;have g4:a.tmps[11]?.getD undef=.int .i64 (es0.length:Int):=ag.au ((hd 4 (by decide)).iT (by decide));have xI:=bJ.nine (w0:=w0) (p:=p) (L:=L) (vL:=vL) (en:=en) (H:=([]:List Nat)) (w:=w) (q:=q) (j2:=j2) (V:=aY w.heap.size) (T:=27) (sz:=7) (eC:=(fun y=>kX bU y vh)) (t2:=t2) (els:=es0) (V2:=cG w.heap.size) (T2:=101) (sz2:=5) (v2:=vh) (ts2:=ps0) (ok:=ok) (zc:=bK) (rl:=(fun i=>[0,0,0,5,0,7,8,9,10,1,13].getD i 1)) (cv:=(fun i=>[.pointer (some ⟨q,4,none⟩),.slice oE es0.length cE,.pointer (some ⟨p,0,none⟩),undef,.int .i64 (es0.length:Int),undef,undef,undef,undef,.pointer (some ⟨q,4,none⟩),undef].getD i undef)) (i:=7) (u:=u1) (R:=R) rfl bD;have nM:=ae xI;have UA:(es0.length:Int)<(es0.length:Int)+1:=by omega
    clear hd hM bD xI;go_simp;exact cJ.out _ _ ⟨_,_,rfl,cH.nine (by decide),nM.out⟩
   ·obtain ⟨R,rfl,hok,hRs,l8,hM⟩:=(hd 6 (by decide)).sU (by decide);obtain ⟨g9,c9,bD,Ek⟩:=(hd 7 (by decide)).Jt (by decide);have kr:=(hd 3 (by decide)).Jr (by decide);obtain ⟨UB,c9',El,bF,eY,hg2⟩:=id hM.own
    have Em:g9≠q:=by
     have e:=bD.symm.trans El;injection e with e _ _;injection e with e;injection e with e;rw [e];exact eY
    obtain ⟨ys,rd,hrd,En,UC,_⟩:=id hM.row;have hth:u1.there g9 (es0.length*7) 7:=KX (c:=c9) (by have h9:=En;rw [bD] at h9;exact h9);refine wp_store_mid 27 (.tmp 14) (.tmp 10) rfl g9 (es0.length*7) R Ek kr (by rw [hRs];exact hth) (by rw [hRs];exact cz) (by rw [Array.all_eq_true_iff_forall_mem];exact fun c hc=>l8 c (by simpa using hc)) (cJ.out _ _ ⟨undef,_,rfl,cH.ten (by decide) bD Em hRs,bJ.ten (by decide) hRs hM bD⟩)
   ·clear hd;go_simp;exact cJ.out _ _ ⟨_,z,rfl,cH.c (by decide),bJ.c (by decide) rfl⟩
   ·obtain ⟨R,rfl,hok,hRs,l8,hM⟩:=(hd 6 (by decide)).sU (by decide);obtain ⟨g9,c9,bD,bF,eY,hg2⟩:=id hM.own;have g8:a.tmps[13]?.getD undef=.slice (some ⟨g9,0,none⟩) (es0.length+1) c9:=ag.au bD;have gf:a.tmps[15]?.getD undef=.pointer (some ⟨q,4,none⟩):=ag.au ((hd 9 (by decide)).iT (by decide));obtain ⟨y,hst⟩:=id hM.st;have fz:=hst.iq 1 rfl 4;have yz:=hst.cell 1 rfl 4 rfl;rw [bD] at hM cJ;have hG:=bJ.yM (w0:=w0) (p:=p) (L:=L) (vL:=vL) (en:=en) (H:=([]:List Nat)) (w:=w) (q:=q) (j2:=j2) (V:=aY w.heap.size) (T:=27) (sz:=7) (eC:=(fun y=>kX bU y vh)) (t2:=t2) (els:=es0) (V2:=cG w.heap.size) (T2:=101) (sz2:=5) (v2:=vh) (ts2:=ps0) (ok:=ok) (zc:=bK) (f:=4) (rl:=(fun i=>[0,0,0,5,0,7,8,9,10,1,13].getD i 1)) (cv:=(fun i=>[.pointer (some ⟨q,4,none⟩),.slice oE es0.length cE,.pointer (some ⟨p,0,none⟩),undef,.int .i64 (es0.length:Int),undef,undef,undef,undef,.pointer (some ⟨q,4,none⟩),undef].getD i undef)) (i:=10) (v:=undef) rfl (fun y=>rfl) hM;have HG:=ae hG;clear hd hM hst hG bD;go_simp;exact cJ.out _ _ ⟨undef,_,rfl,cH.yM (by decide) (fun e=>by injection e with e;exact eY e),HG.out⟩
  case LP =>
   intro a z u9 hF hn;obtain ⟨hok,⟨g9,c9,bD,bF,eY,hg2⟩,fM,hr1,hr2⟩:=(hn 6 (by simp) (by decide)).fin rfl (hn 8 (by simp) (by decide)) rfl (hn 10 (by simp) (by decide)) rfl;have tV:=oF.out.1 hok;rw [bD] at fM hr1 hr2;have hF':ag.Fr _ (fun i=>5+i) 11 a:=hF.perm (fun i hi=>by have hc:=List.mem_range.2 hi;revert hc;clear hi;revert i;decide);obtain ⟨xl,hxl,rfl,hev⟩:=hF'.lit (by simp);obtain ⟨x0,x1,x2,x3,x4,x5,x6,x7,x8,x9,gB,rfl⟩:∃x0 x1 x2 x3 x4 x5 x6 x7 x8 x9 gB,xl = [x0,x1,x2,x3,x4,x5,x6,x7,x8,x9,gB]:=by match xl,hxl with|[x0,x1,x2,x3,x4,x5,x6,x7,x8,x9,gB],_=>exact ⟨x0,x1,x2,x3,x4,x5,x6,x7,x8,x9,gB,rfl⟩
   clear hF hF' hn hev hxl;simp only [List.take_succ_cons,List.take_zero,List.drop_succ_cons,List.drop_zero,List.cons_append,List.nil_append];have hlt:=jd.out _ _ _ tV;have zU:=ae hlt;have hq:=bH.out;rw [tV] at hq;dsimp only at hq;have bu:=ae hq;have dQ:Hid (CS w0 p L vL en w q bU j2 ([g9]++[]) (es0++[t2]) ps0 (.slice (some ⟨g9,0,none⟩) (es0.length+1) c9) vh u9):=ae ⟨fM,hr1,hr2,fun k hk=>by injection hk with hk;subst hk;exact List.Mem.head _,fun k hk=>List.mem_cons_of_mem _ (HC.out.hP k hk),fun k hk=>by rcases List.mem_cons.1 hk with rfl|hk;(exact ⟨bF,eY⟩);exact HC.out.hH k hk,fun k hk e=>by injection hk with hk;subst hk;exact hg2 e⟩
   clear fM hr1 hr2 hlt hq tV oF bH bD hg2 hok HC ia;generalize (.slice (some ⟨g9,0,none⟩) (es0.length+1) c9:Value)=vE1 at *;generalize ([g9]++[]:List Nat)=H1 at *;rw [uj.out,List.nil_append,HPS.out] at dQ;have bS:=ae (gZ w0 p L vL en j2 Al _ dQ.out.st.pr);go_wp2_with fail;refine Calls.mono (show Calls _ _ _ _ _ from bS.out) ?_;intro e u2 hr;cases hR:aX L en Al j2 with
   | error z =>
    obtain ⟨rfl,hb⟩:=bz hr (dO hR);have HB:=ae hb;have ay:Hid (ak=.error z):=ae (by have hq:=bu.out;rw [hR] at hq;exact hq);clear hb hR hr bS bu;go_wp2;exact ⟨rfl,bn ay.out HB.out⟩
   | ok j3 =>
    obtain ⟨⟨v,rfl,hv⟩,hp,hbt⟩:=bf hr (dO hR);subst hv;have zV:=ae (fL hR);have hq:=bu.out;rw [hR] at hq;dsimp only at hq;have dZ:=ae hq;have dG:=ae (dQ.out.call hp hbt);clear hp hbt hr hR hq bu bS dQ;have zW:=ae (UD w0 p L vL en j3 P E GZ.out (fun u hu=>Ei.out j3 u (by have:=gP.out;have:=zU.out;have:=zV.out;omega) hu) (fun j' u hj' hu=>ck.out j' u (by have:=gP.out;have:=zU.out;have:=zV.out;omega) hu) w q bU H1 [t2] [] vE1 vh u2 dG.out (by simp) (by simp));go_wp2_with fail;refine Calls.mono (show Calls _ _ _ _ _ from zW.out) ?_;intro e u3 hr;cases hR:sj L en P E j3 with
    | error z =>
     obtain ⟨rfl,hb⟩:=hr.err hR;have HB:=ae hb;have ay:Hid (ak=.error z):=ae (by have hq:=dZ.out;rw [hR] at hq;exact hq);clear hb hr hR dZ zW;go_wp2;exact ⟨rfl,bn ay.out HB.out⟩
    | ok r =>
     obtain ⟨⟨pt,ex⟩,j4⟩:=r;obtain ⟨rfl,H3,LQ,LS,qQ⟩:=hr.ok hR;have LU:=ae (Uv GZ.out jd.out _ _ _ hR);have hq:=dZ.out;rw [hR] at hq;dsimp only at hq;have tz:=ae hq;have kQ:=ae qQ;clear qQ hq hR hr dZ zW dG;go_wp2_with fail;go_loopw [] (fun wr=>CsI w0 p L vL en w q bU i P E ak wr) (fun wr=>left p L.length wr)
     case atStart=>exact ⟨j4,L.length+1,H3,_,_,LQ,LS,tz,ae (by omega),ae (by have:=gP.out;have:=zU.out;have:=zV.out;have:=LU.out;omega),ae (by simp;have:=gP.out;have:=zU.out;have:=zV.out;have:=LU.out;omega),kQ⟩
     case round =>
      clear tz kQ zU zV LU gP;obtain ⟨j,f,H,es,ps,vE,vP,HX,HF,dX,ia,HC⟩:=hrel;have HQ:=ae (vD w0 p L vL en j kZ _ HC.out.st.pr);cases hb:bE (tk L en j) kZ with
      | false =>
       have bh:Hid (ak=(match aX L en xZ j with | .error z=>.error z | .ok j=>.ok (nd 7 e0 e0 0 es ps bU,j))):=ae (by
        have hq:=HX.out;cases f with
        | zero=>exact hq
        | succ f=>rw [zT,show aX L en kZ j=.error (tk L en j).a from if_neg (by rw [hb];decide)] at hq;exact hq)
       rw [hb] at HQ;clear hb HX HF;go_wp2_with fail;refine Calls.mono (show Calls _ _ _ _ _ from HQ.out) ?_;rintro e w1 ⟨rfl,hb1⟩;have dQ:=ae (HC.out.on hb1);clear hb1 HQ HC;have bS:=ae (gZ w0 p L vL en j xZ _ dQ.out.st.pr);go_wp2_with fail;refine Calls.mono (show Calls _ _ _ _ _ from bS.out) ?_;intro e u5 hr;cases hR:aX L en xZ j with
       | error z =>
        obtain ⟨rfl,hb⟩:=bz hr (dO hR);have HB:=ae hb;have ay:Hid (ak=.error z):=ae (by have hq:=bh.out;rw [hR] at hq;exact hq);clear hb hR hr bS bh;go_wp2;exact ⟨rfl,bn ay.out HB.out⟩
       | ok j5 =>
        obtain ⟨⟨v,rfl,hv⟩,hp,hbt⟩:=bf hr (dO hR);subst hv;have Im:Hid (ak=.ok (nd 7 e0 e0 0 es ps bU,j5)):=ae (by have hq:=bh.out;rw [hR] at hq;exact hq);have hjl:=dQ.out.st.pr.le;have hfw:=dQ.out.st.pr.few;have zX:=dQ.out.call hp hbt;have HS:=ae (zX.fin (by have:=ia.out;omega) (by have:=ia.out;omega));obtain ⟨oE,cE,rfl⟩:=zX.rE.sl;obtain ⟨oP,cP,rfl⟩:=zX.rP.sl;clear hp hbt hr hR bh bS dQ zX hjl hfw;have y0:=HS.out.cell 1 rfl 0 rfl;have y1:=HS.out.cell 1 rfl 1 rfl;have y2:=HS.out.cell 1 rfl 2 rfl;have y3:=HS.out.cell 1 rfl 3 rfl;have y4:=HS.out.cell 1 rfl 4 rfl;have y5:=HS.out.cell 1 rfl 5 rfl;have y6:=HS.out.cell 1 rfl 6 rfl;obtain ⟨WA,dM,dN,dD⟩:=HS.out.put 0 rfl (kX bU (.slice oE es.length cE) (.slice oP ps.length cP)) rfl;have gQ:=ae dM;have gS:=ae dN;have aA:=ae dD;clear dM dN dD;go_wp2_with (refine wpList_store_mid rfl 27 (.tmp 2) (.tmp 28) rfl w.heap.size 0 (kX bU (.slice oE es.length cE) (.slice oP ps.length cP)) rfl rfl gS.out cz (by simp [Value.oneCell']) ?_;rw [gQ.out]);have z0:=aA.out.cell 0 rfl 0 rfl;have z1:=aA.out.cell 0 rfl 1 rfl;have z2:=aA.out.cell 0 rfl 2 rfl;have z3:=aA.out.cell 0 rfl 3 rfl;have z4:=aA.out.cell 0 rfl 4 rfl;have z5:=aA.out.cell 0 rfl 5 rfl;have z6:=aA.out.cell 0 rfl 6 rfl;refine bodyPost_ret (v:=.agg (kX bU (.slice oE es.length cE) (.slice oP ps.length cP))) (by simp [results,Tryz.results157,go_sem,z0,z1,z2,z3,z4,z5,z6]) rfl (bY Im.out (aA.out.out (List.Mem.head _)) aA.out.pr aA.out.but)
      | true =>
       have hmk:aX L en kZ j=.ok (j+1):=if_pos hb;have hjl:=HC.out.st.pr.le;obtain ⟨f,rfl⟩:∃f',f=f'+1:=⟨f-1,by have:=HF.out;omega⟩;have hq:=HX.out;rw [zT,hmk] at hq;dsimp only at hq;have bH:=ae hq;have pW:=ae hmk;have kF:=ae HC.out.st.pr.left;rw [hb] at HQ;clear hb HX hq hmk;go_wp2_with fail;refine Calls.mono (show Calls _ _ _ _ _ from HQ.out) ?_;rintro e w1 ⟨rfl,hb1⟩;have dQ:=ae (HC.out.on hb1);clear hb1 HQ HC;have bS:=ae (gZ w0 p L vL en j kZ _ dQ.out.st.pr);go_wp2_with fail;refine Calls.mono (show Calls _ _ _ _ _ from bS.out) ?_;intro e u5 hr;obtain ⟨⟨v,rfl,hv⟩,hp,hbt⟩:=bf hr (dO pW.out);subst hv;have dG:=ae (dQ.out.call hp hbt);have qO:=hp.le;have hfw:=hp.few;clear hp hbt hr bS dQ pW;have zW:=ae (UD w0 p L vL en (j+1) P E GZ.out (fun u hu=>Ei.out (j+1) u (by have:=dX.out;omega) hu) (fun j' u hj' hu=>ck.out j' u (by have:=dX.out;omega) hu) w q bU H es ps vE vP u5 dG.out (by have:=ia.out;omega) (by have:=ia.out;omega));go_wp2_with fail;refine Calls.mono (show Calls _ _ _ _ _ from zW.out) ?_;intro e u6 hr;cases hR:sj L en P E (j+1) with
       | error z =>
        obtain ⟨rfl,hb⟩:=hr.err hR;have HB:=ae hb;have ay:Hid (ak=.error z):=ae (by have hq:=bH.out;rw [hR] at hq;exact hq);clear hb hr hR bH zW;go_wp2;exact ⟨rfl,bn ay.out HB.out⟩
       | ok r =>
        obtain ⟨⟨pt,ex⟩,j4⟩:=r;obtain ⟨rfl,H3,LQ,LS,qQ⟩:=hr.ok hR;have hlt:=Uv GZ.out jd.out _ _ _ hR;have hq:=bH.out;rw [hR] at hq;dsimp only at hq;have bu:=ae hq;have kQ:=ae qQ;have oK:=ae qQ.st.pr.left;have hj4:=qQ.st.pr.le;clear qQ hq hR hr bH zW dG;go_wp2_with fail;go_roundw
        case rel=>exact ⟨j4,f,H3,_,_,LQ,LS,bu,ae (by have:=HF.out;omega),ae (by have:=dX.out;omega),ae (by simp;have:=ia.out;omega),kQ⟩
        case measure=>rw [oK.out,kF.out];omega
theorem abg (w0:World) (p:Nat) (L:List Tk) (vL:Value) (en:Int) (i:Nat) (R0:Rd Value) (eP:∀u,PR w0 p L vL en i u->Calls Tryz.prog 176 #[.pointer (some ⟨p,0,none⟩)] u (Rp w0 p L vL en (fC u.heap.size) u R0)) (R1:Rd Value) (dQ:∀u,PR w0 p L vL en i u->Calls Tryz.prog 177 #[.pointer (some ⟨p,0,none⟩)] u (Rp w0 p L vL en (fC u.heap.size) u R1)) (R2:Rd Value) (dG:∀u,PR w0 p L vL en i u->Calls Tryz.prog 178 #[.pointer (some ⟨p,0,none⟩)] u (Rp w0 p L vL en (fC u.heap.size) u R2)) (g:Nat) (w:World) (h:PR w0 p L vL en i w) (hg:w.heap[g]?=some (.cells lJ 187 (0,0))) :
  Calls Tryz.prog 175 #[.pointer (some ⟨p,0,none⟩),.slice (some ⟨g,0,none⟩) 3 3] w (Rp w0 p L vL en (fC w.heap.size) w (bq (tk L en i) [(1,e0,R0),(3,e0,R1),(6,sL,R2)])):=by
 have HA:=ae (AP.start h 79 nz);have H:=ae (je w0 p L vL en i _ HA.out.pr);obtain ⟨ak,aT⟩:∃X,X=bq (tk L en i) [(1,e0,R0),(3,e0,R1),(6,sL,R2)]:=⟨_,rfl⟩;rw [<- aT];have bO:=ae aT;have HG:=ae hg;have hgl:g<w.heap.size:=(Array.getElem?_eq_some_iff.1 hg).1;have iB:g≠p:=fun e=>by rw [e,h.blk] at hg;injection hg with hg;injection hg with hg _ _;cases hg
 have dA:=ae (And.intro hgl iB);generalize tk L en i=t at *;obtain ⟨tk,tx,tn,ta⟩:=t;clear h hg aT hgl iB;go_enter Tryz.func175,Tryz.ntmps175;go_wp2_with fail;refine Calls.mono (show Calls _ _ _ _ _ from H.out) ?_;rintro e u ⟨rfl,hb⟩;have hA1:=HA.out.on hb;obtain ⟨u2,hu2,fN,hb2,m0,m1,m2,m3,hpl⟩:=mo hA1.pr tk tx tn ta;have aB:=ae (hA1.on hb2);have HM:Hid (u2.cell? ⟨u.heap.size,0,none⟩=some (.int .i64 tk)/\u2.cell? ⟨u.heap.size,1,none⟩=some (.string tx)/\u2.cell? ⟨u.heap.size,2,none⟩=some (.int .i64 tn)/\u2.cell? ⟨u.heap.size,3,none⟩=some (.int .i64 ta)):=ae ⟨m0,m1,m2,m3⟩;go_upto_region 2 with fail;simp only [dI]
 try rw [<- hu2]
 generalize u.heap.size=q at *;clear hu2 hb hb2 fN H hA1 m0 m1 m2 m3;go_wp2_with fail;go_loopw [12] (fun x wr=>∃k:Nat,k<=3/\x=.int .i64 k/\Hid (∀j,j<k->([(1,e0,R0),(3,e0,R1),(6,sL,R2)]:List (Int × ByteArray × Rd Value))[j]?.map (fun r=>bg r.1 r.2.1 ⟨tk,tx,tn,ta⟩)=some false)/\Hid (AP w0 p L vL en w 79 nz i wr)/\Hid (wr.cell? ⟨q,0,none⟩=some (.int .i64 tk)/\wr.cell? ⟨q,1,none⟩=some (.string tx)/\wr.cell? ⟨q,2,none⟩=some (.int .i64 tn)/\wr.cell? ⟨q,3,none⟩=some (.int .i64 ta))) (fun x _=>match x with | .int _ k=>3-k.toNat|_=>0)
 case atStart=>exact ⟨0,Nat.zero_le _,rfl,ae (fun j hj=>absurd hj (Nat.not_lt_zero _)),aB,HM⟩
 case round =>
  clear aB HM;obtain ⟨k,hk,rfl,HN,aB,HM⟩:=hrel
  have hcs:∀(o:Nat) (v:Value),lJ[o]?=some v->wr.cell? ⟨g,o,none⟩=some v:=fun o v ho=>by
   unfold World.cell?;rw [aB.out.but.block g dA.out.1 dA.out.2,HG.out];exact ho
  have hcase:k=0\/k=1\/k=2\/k=3:=by omega
  clear hk;rcases hcase with rfl|rfl|rfl|rfl
  ·have y0:=hcs 0 _ rfl;have y1:=hcs 1 _ rfl;have y2:=hcs 2 _ rfl;obtain ⟨m0,m1,m2,m3⟩:=HM.out;have bF:g<wr.heap.size:=Nat.lt_of_lt_of_le dA.out.1 aB.out.but.size;have eQ:q<wr.heap.size:=World.block_lt_of_cell? _ _ m0;obtain ⟨u3,hu3,hb3,r0,r1,r2⟩:=gA wr 187 (.int .i64 1) (.string e0) (.func (.func 176) #[] #[]);have bP:=ae (aB.out.on hb3);have HB:=ae (Bx 1 e0 (.func (.func 176) #[] #[]) ⟨tk,tx,tn,ta⟩ u3);have m0:=ah hb3 m0;have m1:=ah hb3 m1;have m2:=ah hb3 m2;have m3:=ah hb3 m3;go_upto_region 5 with fail
   try rw [<- hu3]
   generalize wr.heap.size=q2 at *;clear hu3 hb3 hcs y0 y1 y2 HM bF eQ aB;go_wp2_with fail;refine HB.out.mono ?_;rintro e u4 ⟨rfl,hb4⟩;have bA:=ae (bP.out.on hb4);have r2:=ah hb4 r2;have m0:=ah hb4 m0;have m1:=ah hb4 m1;have m2:=ah hb4 m2;have m3:=ah hb4 m3;clear hb4 HB bP r0 r1;cases hbg:bg 1 e0 ⟨tk,tx,tn,ta⟩ with
   | false =>
    have bZ:Hid (∀j,j<1->([(1,e0,R0),(3,e0,R1),(6,sL,R2)]:List (Int × ByteArray × Rd Value))[j]?.map (fun r=>bg r.1 r.2.1 ⟨tk,tx,tn,ta⟩)=some false):=ae fun j hj=>by
     rcases Nat.lt_succ_iff_lt_or_eq.1 hj with hj|rfl
     ·exact HN.out j hj
     ·simp [hbg]
    have db:=ae (And.intro m0 (And.intro m1 (And.intro m2 m3)));clear m0 m1 m2 m3 r2 hbg HN;go_wp2;go_roundw
    case rel=>exact ⟨1,by decide,by first|rfl|simp,bZ,bA,db⟩
    case measure=>simp
   | true =>
    have hE:ak=R0:=by rw [bO.out,bq,if_pos hbg]
    have HE:=ae hE;have HC:=ae (eP u4 bA.out.pr);clear hbg hE HN m0 m1 m2 m3;go_wp2_with fail;refine HC.out.mono ?_;intro e u5 hr;cases hR:R0 with
    | error z =>
     obtain ⟨rfl,hb⟩:=bz hr hR;have HB:=ae hb;have ay:Hid (ak=.error z):=ae (by rw [HE.out,hR]);clear hb hr hR HE;go_wp2;exact ⟨rfl,bn ay.out HB.out⟩
    | ok r =>
     obtain ⟨tr,j⟩:=r;obtain ⟨⟨v,rfl,hv0⟩,hp,hbt⟩:=bf hr hR;obtain ⟨vk,vx,vn,vu,hv,o1⟩:=hv0.val;subst hv;have bh:Hid (ak=.ok (tr,j)):=ae (by rw [HE.out,hR]);have bL:=bA.out.lt;have cZ:=ae (bA.out.call hp hbt);obtain ⟨W,hW,hth,hbk,hpr,aO,hab⟩:=cZ.out.put #[.int .i64 vk,.string vx,.int .i64 vn,vu] rfl;have HV:=ae (hv0.on (hab.lo bL) (Nat.le_of_lt bL));have HW:=ae hW;have ax:=ae hth;have aj:=ae hbk;have HF:=ae (And.intro hpr aO);clear hW hth hbk hpr aO hab hp hbt hr hR HE hv0 HC;go_wp2_with (refine wpList_store_mid rfl 79 (.tmp 4) (.tmp 22) rfl w.heap.size 0 #[.int .i64 vk,.string vx,.int .i64 vn,vu] rfl rfl ax.out jK (by simp [Value.oneCell'] at o1 ⊢;exact o1) ?_;rw [HW.out]);have z0:=af aj.out 0 _ rfl;have z1:=af aj.out 1 _ rfl;have z2:=af aj.out 2 _ rfl;have z3:=af aj.out 3 _ rfl;refine bodyPost_ret (v:=.agg #[.int .i64 vk,.string vx,.int .i64 vn,vu]) (by simp [results,Tryz.results175,go_sem,z0,z1,z2,z3]) rfl (bY bh.out HV.out HF.out.1 HF.out.2)
  ·have y0:=hcs 3 _ rfl;have y1:=hcs 4 _ rfl;have y2:=hcs 5 _ rfl;have b0:bg 1 e0 ⟨tk,tx,tn,ta⟩=false:=by have:=HN.out 0 (by decide);simpa using this
   obtain ⟨m0,m1,m2,m3⟩:=HM.out;have bF:g<wr.heap.size:=Nat.lt_of_lt_of_le dA.out.1 aB.out.but.size;have eQ:q<wr.heap.size:=World.block_lt_of_cell? _ _ m0;obtain ⟨u3,hu3,hb3,r0,r1,r2⟩:=gA wr 187 (.int .i64 3) (.string e0) (.func (.func 177) #[] #[]);have bP:=ae (aB.out.on hb3);have HB:=ae (Bx 3 e0 (.func (.func 177) #[] #[]) ⟨tk,tx,tn,ta⟩ u3);have m0:=ah hb3 m0;have m1:=ah hb3 m1;have m2:=ah hb3 m2;have m3:=ah hb3 m3;go_upto_region 5 with fail
   try rw [<- hu3]
   generalize wr.heap.size=q2 at *;clear hu3 hb3 hcs y0 y1 y2 HM bF eQ aB;go_wp2_with fail;refine HB.out.mono ?_;rintro e u4 ⟨rfl,hb4⟩;have bA:=ae (bP.out.on hb4);have r2:=ah hb4 r2;have m0:=ah hb4 m0;have m1:=ah hb4 m1;have m2:=ah hb4 m2;have m3:=ah hb4 m3;clear hb4 HB bP r0 r1;cases hbg:bg 3 e0 ⟨tk,tx,tn,ta⟩ with
   | false =>
    have bZ:Hid (∀j,j<2->([(1,e0,R0),(3,e0,R1),(6,sL,R2)]:List (Int × ByteArray × Rd Value))[j]?.map (fun r=>bg r.1 r.2.1 ⟨tk,tx,tn,ta⟩)=some false):=ae fun j hj=>by
     rcases Nat.lt_succ_iff_lt_or_eq.1 hj with hj|rfl
     ·exact HN.out j hj
     ·simp [hbg]
    have db:=ae (And.intro m0 (And.intro m1 (And.intro m2 m3)));clear m0 m1 m2 m3 r2 hbg HN;go_wp2;go_roundw
    case rel=>exact ⟨2,by decide,by first|rfl|simp,bZ,bA,db⟩
    case measure=>simp
   | true =>
    have hE:ak=R1:=by rw [bO.out,bq,bq,if_neg (by rw [b0];decide),if_pos hbg]
    have HE:=ae hE;have HC:=ae (dQ u4 bA.out.pr);clear hbg hE HN m0 m1 m2 m3;go_wp2_with fail;refine HC.out.mono ?_;intro e u5 hr;cases hR:R1 with
    | error z =>
     obtain ⟨rfl,hb⟩:=bz hr hR;have HB:=ae hb;have ay:Hid (ak=.error z):=ae (by rw [HE.out,hR]);clear hb hr hR HE;go_wp2;exact ⟨rfl,bn ay.out HB.out⟩
    | ok r =>
     obtain ⟨tr,j⟩:=r;obtain ⟨⟨v,rfl,hv0⟩,hp,hbt⟩:=bf hr hR;obtain ⟨vk,vx,vn,vu,hv,o1⟩:=hv0.val;subst hv;have bh:Hid (ak=.ok (tr,j)):=ae (by rw [HE.out,hR]);have bL:=bA.out.lt;have cZ:=ae (bA.out.call hp hbt);obtain ⟨W,hW,hth,hbk,hpr,aO,hab⟩:=cZ.out.put #[.int .i64 vk,.string vx,.int .i64 vn,vu] rfl;have HV:=ae (hv0.on (hab.lo bL) (Nat.le_of_lt bL));have HW:=ae hW;have ax:=ae hth;have aj:=ae hbk;have HF:=ae (And.intro hpr aO);clear hW hth hbk hpr aO hab hp hbt hr hR HE hv0 HC;go_wp2_with (refine wpList_store_mid rfl 79 (.tmp 4) (.tmp 22) rfl w.heap.size 0 #[.int .i64 vk,.string vx,.int .i64 vn,vu] rfl rfl ax.out jK (by simp [Value.oneCell'] at o1 ⊢;exact o1) ?_;rw [HW.out]);have z0:=af aj.out 0 _ rfl;have z1:=af aj.out 1 _ rfl;have z2:=af aj.out 2 _ rfl;have z3:=af aj.out 3 _ rfl;refine bodyPost_ret (v:=.agg #[.int .i64 vk,.string vx,.int .i64 vn,vu]) (by simp [results,Tryz.results175,go_sem,z0,z1,z2,z3]) rfl (bY bh.out HV.out HF.out.1 HF.out.2)
  ·have y0:=hcs 6 _ rfl;have y1:=hcs 7 _ rfl;have y2:=hcs 8 _ rfl;have b0:bg 1 e0 ⟨tk,tx,tn,ta⟩=false:=by have:=HN.out 0 (by decide);simpa using this
   have b1:bg 3 e0 ⟨tk,tx,tn,ta⟩=false:=by have:=HN.out 1 (by decide);simpa using this
   obtain ⟨m0,m1,m2,m3⟩:=HM.out;have bF:g<wr.heap.size:=Nat.lt_of_lt_of_le dA.out.1 aB.out.but.size;have eQ:q<wr.heap.size:=World.block_lt_of_cell? _ _ m0;obtain ⟨u3,hu3,hb3,r0,r1,r2⟩:=gA wr 187 (.int .i64 6) (.string sL) (.func (.func 178) #[] #[]);have bP:=ae (aB.out.on hb3);have HB:=ae (Bx 6 sL (.func (.func 178) #[] #[]) ⟨tk,tx,tn,ta⟩ u3);have m0:=ah hb3 m0;have m1:=ah hb3 m1;have m2:=ah hb3 m2;have m3:=ah hb3 m3;go_upto_region 5 with fail
   try rw [<- hu3]
   generalize wr.heap.size=q2 at *;clear hu3 hb3 hcs y0 y1 y2 HM bF eQ aB;go_wp2_with fail;refine HB.out.mono ?_;rintro e u4 ⟨rfl,hb4⟩;have bA:=ae (bP.out.on hb4);have r2:=ah hb4 r2;have m0:=ah hb4 m0;have m1:=ah hb4 m1;have m2:=ah hb4 m2;have m3:=ah hb4 m3;clear hb4 HB bP r0 r1;cases hbg:bg 6 sL ⟨tk,tx,tn,ta⟩ with
   | false =>
    have bZ:Hid (∀j,j<3->([(1,e0,R0),(3,e0,R1),(6,sL,R2)]:List (Int × ByteArray × Rd Value))[j]?.map (fun r=>bg r.1 r.2.1 ⟨tk,tx,tn,ta⟩)=some false):=ae fun j hj=>by
     rcases Nat.lt_succ_iff_lt_or_eq.1 hj with hj|rfl
     ·exact HN.out j hj
     ·simp [hbg]
    have db:=ae (And.intro m0 (And.intro m1 (And.intro m2 m3)));clear m0 m1 m2 m3 r2 hbg HN;go_wp2;go_roundw
    case rel=>exact ⟨3,by decide,by first|rfl|simp,bZ,bA,db⟩
    case measure=>simp
   | true =>
    have hE:ak=R2:=by rw [bO.out,bq,bq,bq,if_neg (by rw [b0];decide),if_neg (by rw [b1];decide),if_pos hbg]
    have HE:=ae hE;have HC:=ae (dG u4 bA.out.pr);clear hbg hE HN m0 m1 m2 m3;go_wp2_with fail;refine HC.out.mono ?_;intro e u5 hr;cases hR:R2 with
    | error z =>
     obtain ⟨rfl,hb⟩:=bz hr hR;have HB:=ae hb;have ay:Hid (ak=.error z):=ae (by rw [HE.out,hR]);clear hb hr hR HE;go_wp2;exact ⟨rfl,bn ay.out HB.out⟩
    | ok r =>
     obtain ⟨tr,j⟩:=r;obtain ⟨⟨v,rfl,hv0⟩,hp,hbt⟩:=bf hr hR;obtain ⟨vk,vx,vn,vu,hv,o1⟩:=hv0.val;subst hv;have bh:Hid (ak=.ok (tr,j)):=ae (by rw [HE.out,hR]);have bL:=bA.out.lt;have cZ:=ae (bA.out.call hp hbt);obtain ⟨W,hW,hth,hbk,hpr,aO,hab⟩:=cZ.out.put #[.int .i64 vk,.string vx,.int .i64 vn,vu] rfl;have HV:=ae (hv0.on (hab.lo bL) (Nat.le_of_lt bL));have HW:=ae hW;have ax:=ae hth;have aj:=ae hbk;have HF:=ae (And.intro hpr aO);clear hW hth hbk hpr aO hab hp hbt hr hR HE hv0 HC;go_wp2_with (refine wpList_store_mid rfl 79 (.tmp 4) (.tmp 22) rfl w.heap.size 0 #[.int .i64 vk,.string vx,.int .i64 vn,vu] rfl rfl ax.out jK (by simp [Value.oneCell'] at o1 ⊢;exact o1) ?_;rw [HW.out]);have z0:=af aj.out 0 _ rfl;have z1:=af aj.out 1 _ rfl;have z2:=af aj.out 2 _ rfl;have z3:=af aj.out 3 _ rfl;refine bodyPost_ret (v:=.agg #[.int .i64 vk,.string vx,.int .i64 vn,vu]) (by simp [results,Tryz.results175,go_sem,z0,z1,z2,z3]) rfl (bY bh.out HV.out HF.out.1 HF.out.2)
  ·obtain ⟨m0,m1,m2,m3⟩:=HM.out;have b0:bg 1 e0 ⟨tk,tx,tn,ta⟩=false:=by have:=HN.out 0 (by decide);simpa using this
   have b1:bg 3 e0 ⟨tk,tx,tn,ta⟩=false:=by have:=HN.out 1 (by decide);simpa using this
   have b2:bg 6 sL ⟨tk,tx,tn,ta⟩=false:=by have:=HN.out 2 (by decide);simpa using this
   have ay:Hid (ak=.error ta):=ae (by rw [bO.out,bq,bq,bq,bq,if_neg (by rw [b0];decide),if_neg (by rw [b1];decide),if_neg (by rw [b2];decide)]);clear hcs HN b0 b1 b2;go_wp2;exact ⟨rfl,bn ay.out aB.out.pr.below⟩
end Go.Proofs.YtkdbgopgjbfhbaaGreatDoor
