/- Texts that the claim needs. -/
import Derived.Test.YtkdbgopgjbfhbaaGreatDoorQPV16
import Derived.Test.YtkdbgopgjbfhbaaGreatDoorQPV6
namespace Go.Proofs.YtkdbgopgjbfhbaaGreatDoor
open Go.RowKit Lx Pz bw
set_option linter.unusedVariables false
set_option maxRecDepth 100000
set_option maxHeartbeats 16000000
namespace Pz
def zL (L:List Tk) (en:Int) (P E:Nat->Rd Value):Nat->Nat->List Value->List Value->Rd (List Value × List Value)
 | 0,i,ps,es=>.ok ((ps,es),i)
 | f+1,i,ps,es=>match bf L en kR i with
  | .error _=>.ok ((ps,es),i)
  | .ok i=>match sw L en P E i with
   | .error z=>.error z
   | .ok ((p,e),j)=>zL L en P E f j (ps++[p]) (es++[e])
def GL (L:List Tk) (en:Int) (P E:Nat->Rd Value) (i:Nat):Rd Value:=match bf L en iW i with
 | .error z=>.error z
 | .ok j=>match E j with
  | .error z=>.error z
  | .ok (c,j)=>match bf L en Ab j with
   | .error z=>.error z
   | .ok j=>match sw L en P E j with
    | .error z=>.error z
    | .ok ((p,e),j)=>match zL L en P E (L.length+1) j [p] [c,e] with
     | .error z=>.error z
     | .ok ((ps,es),j)=>match bf L en xZ j with
      | .error z=>.error z
      | .ok j=>.ok (nd 7 e0 e0 0 es ps (tk L en i).a,j)
theorem Sr {L:List Tk} {en:Int} {P E:Nat->Rd Value} (hP:cz P) (hE:cz E):cz (sw L en P E):=by
 intro i t j h;unfold sw at h;cases h0:P i with
 | error z=>rw [h0] at h;cases h
 | ok r0 =>
  obtain ⟨a0,j0⟩:=r0;have q0:=hP _ _ _ h0;rw [h0] at h;dsimp only at h;cases h1:bf L en jE j0 with
  | error z=>rw [h1] at h;cases h
  | ok j1 =>
   have q1:=fF h1;rw [h1] at h;dsimp only at h;cases h2:E j1 with
   | error z=>rw [h2] at h;cases h
   | ok r2 =>
    obtain ⟨a2,j2⟩:=r2;have q2:=hE _ _ _ h2;rw [h2] at h;injection h with h;injection h with _ h;omega
theorem Bd.err {w0:World} {p:Nat} {L:List Tk} {vL:Value} {en:Int} {w:World} {q:Nat} {dc:Int} {es ps:List Value} {X:Rd (Value × Value)} {e:Ending} {u':World} {z:Int} (h:Bd w0 p L vL en w q dc es ps X e u') (hX:X=.error z):e=.panicked (Av z)/\Below w0.heap.size w0 u':=by subst hX;exact h
theorem Bd.ok {w0:World} {p:Nat} {L:List Tk} {vL:Value} {en:Int} {w:World} {q:Nat} {dc:Int} {es ps:List Value} {X:Rd (Value × Value)} {e:Ending} {u':World} {pt ex:Value} {j:Nat} (h:Bd w0 p L vL en w q dc es ps X e u') (hX:X=.ok ((pt,ex),j)):e=.returned (.tuple #[])/\∃H' K7 K8,CS w0 p L vL en w q dc j H' (es++[ex]) (ps++[pt]) K7 K8 u':=by subst hX;exact h
theorem CS.on {w0:World} {p:Nat} {L:List Tk} {vL:Value} {en:Int} {w:World} {q:Nat} {dc:Int} {j:Nat} {H:List Nat} {es ps:List Value} {vE vP:Value} {u u':World} (h:CS w0 p L vL en w q dc j H es ps vE vP u) (hb:Below u.heap.size u u'):CS w0 p L vL en w q dc j H es ps vE vP u':=h.call (h.st.pr.on hb) (But.of p hb)
theorem CS.fin {w0:World} {p:Nat} {L:List Tk} {vL:Value} {en:Int} {w:World} {q:Nat} {dc:Int} {j:Nat} {H:List Nat} {es ps:List Value} {vE vP:Value} {u:World} (h:CS w0 p L vL en w q dc j H es ps vE vP u) (hle:es.length<=5000) (hlp:ps.length<=5000):ST w0 p L vL en [] w j [(w.heap.size,bS,27),(q,kP dc vE vP,27)] [aW w.heap.size (nd 7 e0 e0 0 es ps dc) (.agg (kP dc vE vP))] u:=by
 have hs:∀k ∈ [w.heap.size,q],k ∈ H++[w.heap.size,q]:=fun k hk=>List.mem_append_right _ hk
 have ho:∀k,k ∈ H->k ∉ [w.heap.size,q]:=fun k hk hm=>by
  have:=h.hH k hk
  simp only [List.mem_cons,List.not_mem_nil,or_false] at hm;omega
 have hE:=h.rE.row (F:=fun w' d=>cf w.heap.size w' d) (fun w'=>cf.up) (by omega) h.pB hs (fun k hk=>ho k (h.hE k hk)) (fun w' t cs b o hv hB hc=>AZ hv hB hc);have hP:=h.rP.row (F:=fun w' d=>bR w.heap.size w' d) (fun w'=>bR.up) (by omega) h.pB hs (fun k hk=>ho k (h.hP k hk)) (fun w' t cs b o hv hB hc=>EE hv hB hc);refine (h.st.less (H':=[]) (fun k hk=>by cases hk)).add _ fun w' hw=>?_;have hw':gL [w.heap.size,q] p u w':=hw;exact Pz.yS 7 e0 e0 0 dc (hE w' hw') (hP w' hw')
def CsI (w0:World) (p:Nat) (L:List Tk) (vL:Value) (en:Int) (w:World) (q:Nat) (dc:Int) (i:Nat) (P E:Nat->Rd Value) (au:Rd Value) (wr:World):Prop:=∃(j f:Nat) (H:List Nat) (es ps:List Value) (vE vP:Value),Hid (au=(match zL L en P E f j ps es with | .error z=>.error z | .ok ((ps,es),j)=>match bf L en xZ j with | .error z=>.error z | .ok j=>.ok (nd 7 e0 e0 0 es ps dc,j)))/\Hid (L.length+1<=j+f)/\Hid (i<j)/\Hid (es.length<=j/\ps.length<=j)/\Hid (CS w0 p L vL en w q dc j H es ps vE vP wr)
end Pz
theorem abr (w0:World) (p:Nat) (L:List Tk) (vL:Value) (en:Int) (i:Nat) (P E:Nat->Rd Value) (Ss:cz P) (eF:cz E) (HP:∀j u,i<j->PR w0 p L vL en j u->Calls Tryz.prog 186 #[.pointer (some ⟨p,0,none⟩)] u (Rp w0 p L vL en (bV u.heap.size) u (P j))) (HE:∀j u,i<j->PR w0 p L vL en j u->Calls Tryz.prog 60 #[.pointer (some ⟨p,0,none⟩)] u (Rp w0 p L vL en (aW u.heap.size) u (E j))) (w:World) (h:PR w0 p L vL en i w) :
  Calls Tryz.prog 157 #[.pointer (some ⟨p,0,none⟩)] w (Rp w0 p L vL en (aW w.heap.size) w (GL L en P E i)):=by
 have cn:=ae ((ST.mY h).new bS 27);obtain ⟨au,ba⟩:∃X,X=(GL L en P E i:Rd Value):=⟨_,rfl⟩;rw [<- ba];unfold GL at ba;have HX:=ae ba;have Ea:=ae HP;have cO:=ae HE;have GM:=ae Ss;have jd:=ae eF;clear h ba HP HE Ss eF;have bW:=ae (gQ w0 p L vL en i iW _ cn.out.pr);go_enter Tryz.func157,Tryz.ntmps157;go_wp2_with fail;refine Calls.mono (show Calls _ _ _ _ _ from bW.out) ?_;intro e u1 hr;cases hR:bf L en iW i with
 | error z =>
  obtain ⟨rfl,hb⟩:=bC hr (dQ hR);have HB:=ae hb;have ay:Hid (au=.error z):=ae (by have hq:=HX.out;rw [hR] at hq;exact hq);clear hb hR hr bW HX;go_wp2;exact ⟨rfl,bu ay.out HB.out⟩
 | ok j1 =>
  obtain ⟨⟨v,rfl,hv⟩,hp,hbt⟩:=bn hr (dQ hR);subst hv;have gu:=ae (fF hR);have hq:=HX.out;rw [hR] at hq;dsimp only at hq;have bB:=ae hq;clear hq;have aA:=ae (cn.out.call hp hbt);clear hp hbt bW HX hR hr cn;generalize (tk L en i).a=bY at *;obtain ⟨W2,hW,hth,cZ⟩:=aA.out.ko 27 bS (kP bY (.slice none 0 0) (.slice none 0 0)) rfl;have HW2:=ae hW;have dW:=ae hth;have aX:=ae cZ;clear hW hth cZ aA;go_upto_region 2 with (refine wpList_store_mid rfl 27 (.tmp 3) (.tmp 6) rfl u1.heap.size 0 (kP bY (.slice none 0 0) (.slice none 0 0)) rfl rfl dW.out cK (by simp [Value.oneCell']) ?_;rw [HW2.out])
  try dsimp only [Act.put]
  clear dW HW2
  have hq0:w.heap.size<u1.heap.size:=by
   have h9:=aX.out.ow;have h8:=(aX.out.blk _ (List.Mem.tail _ (List.Mem.head _))).2;simp at h9 h8;omega
  generalize u1.heap.size=q at *;obtain ⟨es0,GN⟩:∃es0:List Value,es0 = []:=⟨_,rfl⟩;obtain ⟨ps0,K9⟩:∃ps0:List Value,ps0 = []:=⟨_,rfl⟩;obtain ⟨vE0,Su⟩:∃v:Value,v=.slice none 0 0:=⟨_,rfl⟩;obtain ⟨vw,Sw⟩:∃v:Value,v=.slice none 0 0:=⟨_,rfl⟩
  have hC0:CS w0 p L vL en w q bY j1 [] es0 ps0 vE0 vw W2:=by
   subst GN K9 Su Sw;exact ⟨aX.out,fM.nil _ _ _ _ _ _ _,fM.nil _ _ _ _ _ _ _,fun k hk=>(by cases hk),fun k hk=>(by cases hk),fun k hk=>(by cases hk),fun k hk=>(by cases hk)⟩
  have hel:es0.length=0:=by rw [GN];rfl
  have gS:=ae hel;have jN:=ae GN;have Dk:=ae K9;clear hel Su Sw aX GN K9;obtain ⟨oE,cE,hv1⟩:=hC0.rE.sl;subst hv1;have HC:=ae hC0;clear hC0
  obtain ⟨ok,t2,j2,xE,hok0⟩:∃(ok:Bool) (t2:Value) (j2:Nat),(ok=true->E j1=.ok (t2,j2))/\(ok=false->∃z,E j1=.error z):=by
   cases hP:E j1 with
   | error z=>exact ⟨false,undef,0,fun h=>(by cases h),fun _=>⟨z,rfl⟩⟩
   | ok r=>exact ⟨true,r.1,r.2,fun _=>rfl,fun h=>(by cases h)⟩
  have og:=ae (And.intro xE hok0);clear xE hok0
  try dsimp only [Act.put]
  refine I6 (w0:=w0) (p:=p) (L:=L) (vL:=vL) (en:=en) (H:=([]:List Nat)) (w:=w) (q:=q) (j2:=j2) (V:=aW w.heap.size) (T:=27) (sz:=7) (eC:=(fun y=>kP bY y vw)) (t2:=t2) (els:=es0) (V2:=bV w.heap.size) (T2:=101) (sz2:=5) (v2:=vw) (ts2:=ps0) (ok:=ok) (zc:=bS) (f:=4) (rl:=(fun i=>[0,0,0,5,0,7,8,9,10,1,13].getD i 1)) (cv:=(fun i=>[.pointer (some ⟨q,4,none⟩),.slice oE es0.length cE,.pointer (some ⟨p,0,none⟩),undef,.int .i64 (es0.length:Int),undef,undef,undef,undef,.pointer (some ⟨q,4,none⟩),undef].getD i undef)) 11 29 (fun i=>[7,8,9,10,11,12,13,14,5,15,6].getD i 0) [8,10] [6,8,10] j1 (by kernel_rfl) (by kernel_rfl) (by kernel_rfl) (by kernel_rfl) rfl (by kernel_rfl) ?La ?Lb ?Lc HC.out.st.pr ?Ld ?Le
  case La =>
   intro i hi
   have:i=8\/i=10:=by simpa using hi
   rcases this with rfl|rfl
   ·exact .inl rfl
   ·exact .inr rfl
  case Lb=>intro v9 y;rfl
  case Lc=>exact fun e=>(HC.out.hH q (HC.out.hP q e)).2 rfl
  case Ld =>
   intro i' o a z u1 hi ho hF hR hd;have f0:a.tmps[0]?.getD undef=.pointer (some ⟨p,0,none⟩):=ah.ak (hF.eval 0 (fun i hi=>by have hc:=List.mem_range.2 hi;revert hc;clear hi;revert i;decide));have f3:a.tmps[3]?.getD undef=.pointer (some ⟨q,0,none⟩):=ah.ak (hF.eval 3 (fun i hi=>by have hc:=List.mem_range.2 hi;revert hc;clear hi;revert i;decide));have yQ:=ae hF.defers;have HR:=ae hR;clear hR
   iterate 11 (rcases Nat.lt_succ_iff_lt_or_eq.1 hi with hi|rfl)
   exact absurd hi (Nat.not_lt_zero _)
   all_goals (simp only [List.getElem?_toArray,List.getElem?_cons_succ,List.getElem?_cons_zero,Option.some.injEq] at ho;subst ho;refine ah.bh fun KK aj=>?_;have bO:=ae aj;clear aj)
   ·clear hd;go_simp;exact bO.out _ _ ⟨_,z,rfl,db.c (by decide),bK.c (by decide) rfl⟩
   ·have g0:a.tmps[7]?.getD undef=.pointer (some ⟨q,4,none⟩):=ah.ak ((hd 0 (by decide)).iO (by decide));have hb:=(HR.out (.inl rfl)).1.blk (HC.out.st.at_ (k:=1) rfl) HC.out.qp;have y4:=df hb 4 rfl;clear hb;clear hd;go_simp;exact bO.out _ _ ⟨_,z,rfl,db.c (by decide),bK.c (by decide) rfl⟩
   ·clear hd;go_simp;exact bO.out _ _ ⟨_,z,rfl,db.c (by decide),bK.c (by decide) rfl⟩
   ·have g0:a.tmps[9]?.getD undef=.pointer (some ⟨p,0,none⟩):=ah.ak ((hd 2 (by decide)).iO (by decide));clear hd;obtain ⟨aU,_,h5,hz⟩:=HR.out (.inr (.inl rfl));obtain ⟨hpr,rfl⟩:=h5 rfl;have hS:=HC.out.st.call hpr aU;have aA:=ae hS;clear aU h5 hz HR hS;have HC:=ae (cO.out j1 u1 gu.out aA.out.pr);clear hpr;go_simp;refine Calls.mono (show Calls _ _ _ _ _ from HC.out) ?_;intro e u5 hr;cases ok with
    | false =>
     obtain ⟨zz,hzz⟩:=og.out.2 rfl;obtain ⟨rfl,hb⟩:=bC hr hzz;have dN:au=.error zz:=by have hq:=bB.out;rw [hzz] at hq;exact hq
     rw [dN];exact ⟨yQ.out,bu rfl hb⟩
    | true =>
     have hok:=og.out.1 rfl;obtain ⟨⟨v,rfl,hv0⟩,hp,hbt⟩:=bn hr hok;obtain ⟨rk,rx,ry,rn,ru,rz,ra,hv,r1,r2⟩:=hv0.val;subst hv;have jr:=aA.out.jM (B:=w.heap.size) (aA.out.but.size) hp hbt hv0;exact bO.out _ _ ⟨_,_,rfl,db.five (by decide) hbt ⟨_,hp⟩,bK.five (by decide) rfl rfl (by simp [Value.oneCell'] at r1 r2 ⊢;exact ⟨r1,r2⟩) rfl hp (fun w' hw=>jr.fN _ (List.Mem.head _) w' hw)⟩
   ·have g1:a.tmps[8]?.getD undef=.slice oE es0.length cE:=ah.ak ((hd 1 (by decide)).iO (by decide));clear hd;go_simp;exact bO.out _ _ ⟨_,z,rfl,db.c (by decide),bK.c (by decide) rfl⟩
   ·obtain ⟨aU,⟨jj,hjj⟩,_,hz⟩:=HR.out (.inr (.inr (.inl rfl)));have hpl:=hjj.lt;clear hd aU hjj hz;go_simp;exact bO.out _ _ ⟨_,z,rfl,db.seven (by decide) (bN _ _),bK.seven (by decide) rfl (heap_alloc_new _ _) hpl⟩
   ·obtain ⟨aU,_,_,hz⟩:=HR.out (.inr (.inr (.inr rfl)));obtain ⟨R,rfl,l9,hRs,lQ,hok,hpr,hst⟩:=(hd 3 (by decide)).I8 (by decide) hz;obtain ⟨gz,lu,Eb,Sy⟩:=(hd 5 (by decide)).Ja (by decide) hz;have jK:=(hd 1 (by decide)).iO (by decide);obtain ⟨xs,hown,gT,hxe⟩:=HC.out.rE.but aU HC.out.pB;obtain ⟨i0,hi0,hz0,hz1,hz2⟩:=info_parts Gx;refine xR _ _ 24 rfl w.heap.size 27 i0 _ 7 104 Tryz.underlying24 hi0 hz0 hz1 hz2 rfl (by decide) _ _ _ jK hown (some ⟨gz,0,none⟩) 1 1 [.int .i64 0,.string ⟨#[]⟩,.string ⟨#[]⟩,.int .i64 0,.slice none 0 0,.slice none 0 0,.int .i64 0] lu (by intro h;cases h) rfl (fun ad h j c hj=>by injection h with h;subst h;rw [Addr.add_mid,Nat.zero_add];exact af Eb j c (by simpa using hj)) (by intro c hc;simp only [List.mem_cons,List.not_mem_nil,or_false] at hc;rcases hc with rfl|rfl|rfl|rfl|rfl|rfl|rfl<;>rfl) (by unfold maxLen;have:=gS.out.symm;omega) (by have:=gS.out.symm;omega) ((HC.out.st.call hpr aU).but.size) ?_
    intro v9 w9 dR dI bG;exact bO.out _ _ ⟨v9,some (R,some v9),rfl,db.eight (by decide),bK.eight (by decide) hok hRs lQ (Mid.start (zc:=bS) ((HC.out.st.call hpr aU).add _ hst) hown (HC.out.hE) hxe (HC.out.rP.but aU HC.out.pB) HC.out.hH (Nat.lt_of_lt_of_le HC.out.ql aU.size) (fun k hk e=>HC.out.GQ k hk e) dR dI bG rfl)⟩
   ·obtain ⟨R,rfl,hok,hRs,lQ,hM⟩:=(hd 6 (by decide)).sS (by decide);obtain ⟨g9,c9,bG,bI,eX,hg2⟩:=id hM.own;have g8:a.tmps[13]?.getD undef=.slice (some ⟨g9,0,none⟩) (es0.length+1) c9:=ah.ak bG;have g4:a.tmps[11]?.getD undef=.int .i64 (es0.length:Int):=ah.ak ((hd 4 (by decide)).iO (by decide));have xF:=bK.nine (w0:=w0) (p:=p) (L:=L) (vL:=vL) (en:=en) (H:=([]:List Nat)) (w:=w) (q:=q) (j2:=j2) (V:=aW w.heap.size) (T:=27) (sz:=7) (eC:=(fun y=>kP bY y vw)) (t2:=t2) (els:=es0) (V2:=bV w.heap.size) (T2:=101) (sz2:=5) (v2:=vw) (ts2:=ps0) (ok:=ok) (zc:=bS) (rl:=(fun i=>[0,0,0,5,0,7,8,9,10,1,13].getD i 1)) (cv:=(fun i=>[.pointer (some ⟨q,4,none⟩),.slice oE es0.length cE,.pointer (some ⟨p,0,none⟩),undef,.int .i64 (es0.length:Int),undef,undef,undef,undef,.pointer (some ⟨q,4,none⟩),undef].getD i undef)) (i:=7) (u:=u1) (R:=R) rfl bG;have nu:=ae xF;have Sz:(es0.length:Int)<(es0.length:Int)+1:=by omega
    clear hd hM bG xF;go_simp;exact bO.out _ _ ⟨_,_,rfl,db.nine (by decide),nu.out⟩
   ·obtain ⟨R,rfl,hok,hRs,lQ,hM⟩:=(hd 6 (by decide)).sS (by decide);obtain ⟨g9,c9,bG,Ec⟩:=(hd 7 (by decide)).Jb (by decide);have l9:=(hd 3 (by decide)).I9 (by decide);obtain ⟨SA,c9',Ed,bI,eX,hg2⟩:=id hM.own
    have Ee:g9≠q:=by
     have e:=bG.symm.trans Ed;injection e with e _ _;injection e with e;injection e with e;rw [e];exact eX
    obtain ⟨ys,rd,hrd,zf,SB,_⟩:=id hM.row;have hth:u1.there g9 (es0.length*7) 7:=Ku (c:=c9) (by have h9:=zf;rw [bG] at h9;exact h9);refine wp_store_mid 27 (.tmp 14) (.tmp 10) rfl g9 (es0.length*7) R Ec l9 (by rw [hRs];exact hth) (by rw [hRs];exact cK) (by rw [Array.all_eq_true_iff_forall_mem];exact fun c hc=>lQ c (by simpa using hc)) (bO.out _ _ ⟨undef,_,rfl,db.ten (by decide) bG Ee hRs,bK.ten (by decide) hRs hM bG⟩)
   ·clear hd;go_simp;exact bO.out _ _ ⟨_,z,rfl,db.c (by decide),bK.c (by decide) rfl⟩
   ·obtain ⟨R,rfl,hok,hRs,lQ,hM⟩:=(hd 6 (by decide)).sS (by decide);obtain ⟨g9,c9,bG,bI,eX,hg2⟩:=id hM.own;have g8:a.tmps[13]?.getD undef=.slice (some ⟨g9,0,none⟩) (es0.length+1) c9:=ah.ak bG;have gf:a.tmps[15]?.getD undef=.pointer (some ⟨q,4,none⟩):=ah.ak ((hd 9 (by decide)).iO (by decide));obtain ⟨y,hst⟩:=id hM.st;have fz:=hst.je 1 rfl 4;have yz:=hst.cell 1 rfl 4 rfl;rw [bG] at hM bO;have hG:=bK.yt (w0:=w0) (p:=p) (L:=L) (vL:=vL) (en:=en) (H:=([]:List Nat)) (w:=w) (q:=q) (j2:=j2) (V:=aW w.heap.size) (T:=27) (sz:=7) (eC:=(fun y=>kP bY y vw)) (t2:=t2) (els:=es0) (V2:=bV w.heap.size) (T2:=101) (sz2:=5) (v2:=vw) (ts2:=ps0) (ok:=ok) (zc:=bS) (f:=4) (rl:=(fun i=>[0,0,0,5,0,7,8,9,10,1,13].getD i 1)) (cv:=(fun i=>[.pointer (some ⟨q,4,none⟩),.slice oE es0.length cE,.pointer (some ⟨p,0,none⟩),undef,.int .i64 (es0.length:Int),undef,undef,undef,undef,.pointer (some ⟨q,4,none⟩),undef].getD i undef)) (i:=10) (v:=undef) rfl (fun y=>rfl) hM;have HG:=ae hG;clear hd hM hst hG bG;go_simp;exact bO.out _ _ ⟨undef,_,rfl,db.yt (by decide) (fun e=>by injection e with e;exact eX e),HG.out⟩
  case Le =>
   intro a z u9 hF hn;obtain ⟨hok,⟨g9,c9,bG,bI,eX,hg2⟩,fG,hr1,hr2⟩:=(hn 6 (by simp) (by decide)).fin rfl (hn 8 (by simp) (by decide)) rfl (hn 10 (by simp) (by decide)) rfl;have tQ:=og.out.1 hok;rw [bG] at fG hr1 hr2;have hF':ah.Fr _ (fun i=>5+i) 11 a:=hF.perm (fun i hi=>by have hc:=List.mem_range.2 hi;revert hc;clear hi;revert i;decide);obtain ⟨xl,hxl,rfl,hev⟩:=hF'.lit (by simp);obtain ⟨x0,x1,x2,x3,x4,x5,x6,x7,x8,x9,il,rfl⟩:∃x0 x1 x2 x3 x4 x5 x6 x7 x8 x9 il,xl = [x0,x1,x2,x3,x4,x5,x6,x7,x8,x9,il]:=by match xl,hxl with|[x0,x1,x2,x3,x4,x5,x6,x7,x8,x9,il],_=>exact ⟨x0,x1,x2,x3,x4,x5,x6,x7,x8,x9,il,rfl⟩
   clear hF hF' hn hev hxl;simp only [List.take_succ_cons,List.take_zero,List.drop_succ_cons,List.drop_zero,List.cons_append,List.nil_append];have hlt:=jd.out _ _ _ tQ;have zM:=ae hlt;have hq:=bB.out;rw [tQ] at hq;dsimp only at hq;have bb:=ae hq;have dS:Hid (CS w0 p L vL en w q bY j2 ([g9]++[]) (es0++[t2]) ps0 (.slice (some ⟨g9,0,none⟩) (es0.length+1) c9) vw u9):=ae ⟨fG,hr1,hr2,fun k hk=>by injection hk with hk;subst hk;exact List.Mem.head _,fun k hk=>List.mem_cons_of_mem _ (HC.out.hP k hk),fun k hk=>by rcases List.mem_cons.1 hk with rfl|hk;(exact ⟨bI,eX⟩);exact HC.out.hH k hk,fun k hk e=>by injection hk with hk;subst hk;exact hg2 e⟩
   clear fG hr1 hr2 hlt hq tQ og bB bG hg2 hok HC gS;generalize (.slice (some ⟨g9,0,none⟩) (es0.length+1) c9:Value)=vE1 at *;generalize ([g9]++[]:List Nat)=H1 at *;rw [jN.out,List.nil_append,Dk.out] at dS;have bW:=ae (gQ w0 p L vL en j2 Ab _ dS.out.st.pr);go_wp2_with fail;refine Calls.mono (show Calls _ _ _ _ _ from bW.out) ?_;intro e u2 hr;cases hR:bf L en Ab j2 with
   | error z =>
    obtain ⟨rfl,hb⟩:=bC hr (dQ hR);have HB:=ae hb;have ay:Hid (au=.error z):=ae (by have hq:=bb.out;rw [hR] at hq;exact hq);clear hb hR hr bW bb;go_wp2;exact ⟨rfl,bu ay.out HB.out⟩
   | ok j3 =>
    obtain ⟨⟨v,rfl,hv⟩,hp,hbt⟩:=bn hr (dQ hR);subst hv;have zN:=ae (fF hR);have hq:=bb.out;rw [hR] at hq;dsimp only at hq;have bZ:=ae hq;have cG:=ae (dS.out.call hp hbt);clear hp hbt hr hR hq bb bW dS;have zO:=ae (SC w0 p L vL en j3 P E GM.out (fun u hu=>Ea.out j3 u (by have:=gu.out;have:=zM.out;have:=zN.out;omega) hu) (fun j' u hj' hu=>cO.out j' u (by have:=gu.out;have:=zM.out;have:=zN.out;omega) hu) w q bY H1 [t2] [] vE1 vw u2 cG.out (by simp) (by simp));go_wp2_with fail;refine Calls.mono (show Calls _ _ _ _ _ from zO.out) ?_;intro e u3 hr;cases hR:sw L en P E j3 with
    | error z =>
     obtain ⟨rfl,hb⟩:=hr.err hR;have HB:=ae hb;have ay:Hid (au=.error z):=ae (by have hq:=bZ.out;rw [hR] at hq;exact hq);clear hb hr hR bZ zO;go_wp2;exact ⟨rfl,bu ay.out HB.out⟩
    | ok r =>
     obtain ⟨⟨pt,ex⟩,j4⟩:=r;obtain ⟨rfl,H3,Lf,Lg,nI⟩:=hr.ok hR;have Lh:=ae (Sr GM.out jd.out _ _ _ hR);have hq:=bZ.out;rw [hR] at hq;dsimp only at hq;have qo:=ae hq;have kL:=ae nI;clear nI hq hR hr bZ zO cG;go_wp2_with fail;go_loopw [] (fun wr=>CsI w0 p L vL en w q bY i P E au wr) (fun wr=>left p L.length wr)
     case atStart=>exact ⟨j4,L.length+1,H3,_,_,Lf,Lg,qo,ae (by omega),ae (by have:=gu.out;have:=zM.out;have:=zN.out;have:=Lh.out;omega),ae (by simp;have:=gu.out;have:=zM.out;have:=zN.out;have:=Lh.out;omega),kL⟩
     case round =>
      clear qo kL zM zN Lh gu;obtain ⟨j,f,H,es,ps,vE,vP,HX,HF,dX,gS,HC⟩:=hrel;have HQ:=ae (vM w0 p L vL en j kR _ HC.out.st.pr);cases hb:cJ (tk L en j) kR with
      | false =>
       have bq:Hid (au=(match bf L en xZ j with | .error z=>.error z | .ok j=>.ok (nd 7 e0 e0 0 es ps bY,j))):=ae (by
        have hq:=HX.out;cases f with
        | zero=>exact hq
        | succ f=>rw [zL,show bf L en kR j=.error (tk L en j).a from if_neg (by rw [hb];decide)] at hq;exact hq)
       rw [hb] at HQ;clear hb HX HF;go_wp2_with fail;refine Calls.mono (show Calls _ _ _ _ _ from HQ.out) ?_;rintro e w1 ⟨rfl,hb1⟩;have dS:=ae (HC.out.on hb1);clear hb1 HQ HC;have bW:=ae (gQ w0 p L vL en j xZ _ dS.out.st.pr);go_wp2_with fail;refine Calls.mono (show Calls _ _ _ _ _ from bW.out) ?_;intro e u5 hr;cases hR:bf L en xZ j with
       | error z =>
        obtain ⟨rfl,hb⟩:=bC hr (dQ hR);have HB:=ae hb;have ay:Hid (au=.error z):=ae (by have hq:=bq.out;rw [hR] at hq;exact hq);clear hb hR hr bW bq;go_wp2;exact ⟨rfl,bu ay.out HB.out⟩
       | ok j5 =>
        obtain ⟨⟨v,rfl,hv⟩,hp,hbt⟩:=bn hr (dQ hR);subst hv;have H9:Hid (au=.ok (nd 7 e0 e0 0 es ps bY,j5)):=ae (by have hq:=bq.out;rw [hR] at hq;exact hq);have hjl:=dS.out.st.pr.le;have hfw:=dS.out.st.pr.few;have pJ:=dS.out.call hp hbt;have HS:=ae (pJ.fin (by have:=gS.out;omega) (by have:=gS.out;omega));obtain ⟨oE,cE,rfl⟩:=pJ.rE.sl;obtain ⟨oP,cP,rfl⟩:=pJ.rP.sl;clear hp hbt hr hR bq bW dS pJ hjl hfw;have y0:=HS.out.cell 1 rfl 0 rfl;have y1:=HS.out.cell 1 rfl 1 rfl;have y2:=HS.out.cell 1 rfl 2 rfl;have y3:=HS.out.cell 1 rfl 3 rfl;have y4:=HS.out.cell 1 rfl 4 rfl;have y5:=HS.out.cell 1 rfl 5 rfl;have y6:=HS.out.cell 1 rfl 6 rfl;obtain ⟨WA,dO,dP,dJ⟩:=HS.out.put 0 rfl (kP bY (.slice oE es.length cE) (.slice oP ps.length cP)) rfl;have gy:=ae dO;have gA:=ae dP;have aB:=ae dJ;clear dO dP dJ;go_wp2_with (refine wpList_store_mid rfl 27 (.tmp 2) (.tmp 28) rfl w.heap.size 0 (kP bY (.slice oE es.length cE) (.slice oP ps.length cP)) rfl rfl gA.out cK (by simp [Value.oneCell']) ?_;rw [gy.out]);have z0:=aB.out.cell 0 rfl 0 rfl;have z1:=aB.out.cell 0 rfl 1 rfl;have z2:=aB.out.cell 0 rfl 2 rfl;have z3:=aB.out.cell 0 rfl 3 rfl;have z4:=aB.out.cell 0 rfl 4 rfl;have z5:=aB.out.cell 0 rfl 5 rfl;have z6:=aB.out.cell 0 rfl 6 rfl;refine bodyPost_ret (v:=.agg (kP bY (.slice oE es.length cE) (.slice oP ps.length cP))) (by simp [results,Tryz.results157,go_sem,z0,z1,z2,z3,z4,z5,z6]) rfl (cH H9.out (aB.out.out (List.Mem.head _)) aB.out.pr aB.out.but)
      | true =>
       have hmk:bf L en kR j=.ok (j+1):=if_pos hb;have hjl:=HC.out.st.pr.le;obtain ⟨f,rfl⟩:∃f',f=f'+1:=⟨f-1,by have:=HF.out;omega⟩;have hq:=HX.out;rw [zL,hmk] at hq;dsimp only at hq;have bB:=ae hq;have pV:=ae hmk;have jD:=ae HC.out.st.pr.left;rw [hb] at HQ;clear hb HX hq hmk;go_wp2_with fail;refine Calls.mono (show Calls _ _ _ _ _ from HQ.out) ?_;rintro e w1 ⟨rfl,hb1⟩;have dS:=ae (HC.out.on hb1);clear hb1 HQ HC;have bW:=ae (gQ w0 p L vL en j kR _ dS.out.st.pr);go_wp2_with fail;refine Calls.mono (show Calls _ _ _ _ _ from bW.out) ?_;intro e u5 hr;obtain ⟨⟨v,rfl,hv⟩,hp,hbt⟩:=bn hr (dQ pV.out);subst hv;have cG:=ae (dS.out.call hp hbt);have UI:=hp.le;have hfw:=hp.few;clear hp hbt hr bW dS pV;have zO:=ae (SC w0 p L vL en (j+1) P E GM.out (fun u hu=>Ea.out (j+1) u (by have:=dX.out;omega) hu) (fun j' u hj' hu=>cO.out j' u (by have:=dX.out;omega) hu) w q bY H es ps vE vP u5 cG.out (by have:=gS.out;omega) (by have:=gS.out;omega));go_wp2_with fail;refine Calls.mono (show Calls _ _ _ _ _ from zO.out) ?_;intro e u6 hr;cases hR:sw L en P E (j+1) with
       | error z =>
        obtain ⟨rfl,hb⟩:=hr.err hR;have HB:=ae hb;have ay:Hid (au=.error z):=ae (by have hq:=bB.out;rw [hR] at hq;exact hq);clear hb hr hR bB zO;go_wp2;exact ⟨rfl,bu ay.out HB.out⟩
       | ok r =>
        obtain ⟨⟨pt,ex⟩,j4⟩:=r;obtain ⟨rfl,H3,Lf,Lg,nI⟩:=hr.ok hR;have hlt:=Sr GM.out jd.out _ _ _ hR;have hq:=bB.out;rw [hR] at hq;dsimp only at hq;have bb:=ae hq;have kL:=ae nI;have oG:=ae nI.st.pr.left;have hj4:=nI.st.pr.le;clear nI hq hR hr bB zO cG;go_wp2_with fail;go_roundw
        case rel=>exact ⟨j4,f,H3,_,_,Lf,Lg,bb,ae (by have:=HF.out;omega),ae (by have:=dX.out;omega),ae (by simp;have:=gS.out;omega),kL⟩
        case measure=>rw [oG.out,jD.out];omega
theorem Z2 (w0:World) (p:Nat) (L:List Tk) (vL:Value) (en:Int) (i:Nat) (R0:Rd Value) (ia:∀u,PR w0 p L vL en i u->Calls Tryz.prog 176 #[.pointer (some ⟨p,0,none⟩)] u (Rp w0 p L vL en (eu u.heap.size) u R0)) (R1:Rd Value) (dS:∀u,PR w0 p L vL en i u->Calls Tryz.prog 177 #[.pointer (some ⟨p,0,none⟩)] u (Rp w0 p L vL en (eu u.heap.size) u R1)) (R2:Rd Value) (cG:∀u,PR w0 p L vL en i u->Calls Tryz.prog 178 #[.pointer (some ⟨p,0,none⟩)] u (Rp w0 p L vL en (eu u.heap.size) u R2)) (g:Nat) (w:World) (h:PR w0 p L vL en i w) (hg:w.heap[g]?=some (.cells lj 187 (0,0))) :
  Calls Tryz.prog 175 #[.pointer (some ⟨p,0,none⟩),.slice (some ⟨g,0,none⟩) 3 3] w (Rp w0 p L vL en (eu w.heap.size) w (bA (tk L en i) [(1,e0,R0),(3,e0,R1),(6,sL,R2)])):=by
 have HA:=ae (AP.start h 79 lL);have H:=ae (jf w0 p L vL en i _ HA.out.pr);obtain ⟨au,ba⟩:∃X,X=bA (tk L en i) [(1,e0,R0),(3,e0,R1),(6,sL,R2)]:=⟨_,rfl⟩;rw [<- ba];have bT:=ae ba;have HG:=ae hg;have hgl:g<w.heap.size:=(Array.getElem?_eq_some_iff.1 hg).1;have ig:g≠p:=fun e=>by rw [e,h.blk] at hg;injection hg with hg;injection hg with hg _ _;cases hg
 have dH:=ae (And.intro hgl ig);generalize tk L en i=t at *;obtain ⟨tk,tx,tn,ta⟩:=t;clear h hg ba hgl ig;go_enter Tryz.func175,Tryz.ntmps175;go_wp2_with fail;refine Calls.mono (show Calls _ _ _ _ _ from H.out) ?_;rintro e u ⟨rfl,hb⟩;have hA1:=HA.out.on hb;obtain ⟨u2,hu2,fH,hb2,m0,m1,m2,m3,hpl⟩:=lW hA1.pr tk tx tn ta;have aC:=ae (hA1.on hb2);have HM:Hid (u2.cell? ⟨u.heap.size,0,none⟩=some (.int .i64 tk)/\u2.cell? ⟨u.heap.size,1,none⟩=some (.string tx)/\u2.cell? ⟨u.heap.size,2,none⟩=some (.int .i64 tn)/\u2.cell? ⟨u.heap.size,3,none⟩=some (.int .i64 ta)):=ae ⟨m0,m1,m2,m3⟩;go_upto_region 2 with fail;simp only [dM]
 try rw [<- hu2]
 generalize u.heap.size=q at *;clear hu2 hb hb2 fH H hA1 m0 m1 m2 m3;go_wp2_with fail;go_loopw [12] (fun x wr=>∃k:Nat,k<=3/\x=.int .i64 k/\Hid (∀j,j<k->([(1,e0,R0),(3,e0,R1),(6,sL,R2)]:List (Int × ByteArray × Rd Value))[j]?.map (fun r=>bg r.1 r.2.1 ⟨tk,tx,tn,ta⟩)=some false)/\Hid (AP w0 p L vL en w 79 lL i wr)/\Hid (wr.cell? ⟨q,0,none⟩=some (.int .i64 tk)/\wr.cell? ⟨q,1,none⟩=some (.string tx)/\wr.cell? ⟨q,2,none⟩=some (.int .i64 tn)/\wr.cell? ⟨q,3,none⟩=some (.int .i64 ta))) (fun x _=>match x with | .int _ k=>3-k.toNat|_=>0)
 case atStart=>exact ⟨0,Nat.zero_le _,rfl,ae (fun j hj=>absurd hj (Nat.not_lt_zero _)),aC,HM⟩
 case round =>
  clear aC HM;obtain ⟨k,hk,rfl,HN,aC,HM⟩:=hrel
  have hcs:∀(o:Nat) (v:Value),lj[o]?=some v->wr.cell? ⟨g,o,none⟩=some v:=fun o v ho=>by
   unfold World.cell?;rw [aC.out.but.block g dH.out.1 dH.out.2,HG.out];exact ho
  have hcase:k=0\/k=1\/k=2\/k=3:=by omega
  clear hk;rcases hcase with rfl|rfl|rfl|rfl
  ·have y0:=hcs 0 _ rfl;have y1:=hcs 1 _ rfl;have y2:=hcs 2 _ rfl;obtain ⟨m0,m1,m2,m3⟩:=HM.out;have bI:g<wr.heap.size:=Nat.lt_of_lt_of_le dH.out.1 aC.out.but.size;have eT:q<wr.heap.size:=World.block_lt_of_cell? _ _ m0;obtain ⟨u3,hu3,hb3,r0,r1,r2⟩:=fW wr 187 (.int .i64 1) (.string e0) (.func (.func 176) #[] #[]);have bQ:=ae (aC.out.on hb3);have HB:=ae (Ba 1 e0 (.func (.func 176) #[] #[]) ⟨tk,tx,tn,ta⟩ u3);have m0:=ag hb3 m0;have m1:=ag hb3 m1;have m2:=ag hb3 m2;have m3:=ag hb3 m3;go_upto_region 5 with fail
   try rw [<- hu3]
   generalize wr.heap.size=q2 at *;clear hu3 hb3 hcs y0 y1 y2 HM bI eT aC;go_wp2_with fail;refine HB.out.mono ?_;rintro e u4 ⟨rfl,hb4⟩;have bE:=ae (bQ.out.on hb4);have r2:=ag hb4 r2;have m0:=ag hb4 m0;have m1:=ag hb4 m1;have m2:=ag hb4 m2;have m3:=ag hb4 m3;clear hb4 HB bQ r0 r1;cases hbg:bg 1 e0 ⟨tk,tx,tn,ta⟩ with
   | false =>
    have bX:Hid (∀j,j<1->([(1,e0,R0),(3,e0,R1),(6,sL,R2)]:List (Int × ByteArray × Rd Value))[j]?.map (fun r=>bg r.1 r.2.1 ⟨tk,tx,tn,ta⟩)=some false):=ae fun j hj=>by
     rcases Nat.lt_succ_iff_lt_or_eq.1 hj with hj|rfl
     ·exact HN.out j hj
     ·simp [hbg]
    have dm:=ae (And.intro m0 (And.intro m1 (And.intro m2 m3)));clear m0 m1 m2 m3 r2 hbg HN;go_wp2;go_roundw
    case rel=>exact ⟨1,by decide,by first|rfl|simp,bX,bE,dm⟩
    case measure=>simp
   | true =>
    have hE:au=R0:=by rw [bT.out,bA,if_pos hbg]
    have HE:=ae hE;have HC:=ae (ia u4 bE.out.pr);clear hbg hE HN m0 m1 m2 m3;go_wp2_with fail;refine HC.out.mono ?_;intro e u5 hr;cases hR:R0 with
    | error z =>
     obtain ⟨rfl,hb⟩:=bC hr hR;have HB:=ae hb;have ay:Hid (au=.error z):=ae (by rw [HE.out,hR]);clear hb hr hR HE;go_wp2;exact ⟨rfl,bu ay.out HB.out⟩
    | ok r =>
     obtain ⟨tr,j⟩:=r;obtain ⟨⟨v,rfl,hv0⟩,hp,hbt⟩:=bn hr hR;obtain ⟨vk,vx,vn,vu,hv,o1⟩:=hv0.val;subst hv;have bq:Hid (au=.ok (tr,j)):=ae (by rw [HE.out,hR]);have bM:=bE.out.lt;have di:=ae (bE.out.call hp hbt);obtain ⟨W,hW,hth,hbk,hpr,aU,hab⟩:=di.out.put #[.int .i64 vk,.string vx,.int .i64 vn,vu] rfl;have HV:=ae (hv0.on (hab.lo bM) (Nat.le_of_lt bM));have HW:=ae hW;have az:=ae hth;have ai:=ae hbk;have HF:=ae (And.intro hpr aU);clear hW hth hbk hpr aU hab hp hbt hr hR HE hv0 HC;go_wp2_with (refine wpList_store_mid rfl 79 (.tmp 4) (.tmp 22) rfl w.heap.size 0 #[.int .i64 vk,.string vx,.int .i64 vn,vu] rfl rfl az.out iQ (by simp [Value.oneCell'] at o1 ⊢;exact o1) ?_;rw [HW.out]);have z0:=af ai.out 0 _ rfl;have z1:=af ai.out 1 _ rfl;have z2:=af ai.out 2 _ rfl;have z3:=af ai.out 3 _ rfl;refine bodyPost_ret (v:=.agg #[.int .i64 vk,.string vx,.int .i64 vn,vu]) (by simp [results,Tryz.results175,go_sem,z0,z1,z2,z3]) rfl (cH bq.out HV.out HF.out.1 HF.out.2)
  ·have y0:=hcs 3 _ rfl;have y1:=hcs 4 _ rfl;have y2:=hcs 5 _ rfl;have b0:bg 1 e0 ⟨tk,tx,tn,ta⟩=false:=by have:=HN.out 0 (by decide);simpa using this
   obtain ⟨m0,m1,m2,m3⟩:=HM.out;have bI:g<wr.heap.size:=Nat.lt_of_lt_of_le dH.out.1 aC.out.but.size;have eT:q<wr.heap.size:=World.block_lt_of_cell? _ _ m0;obtain ⟨u3,hu3,hb3,r0,r1,r2⟩:=fW wr 187 (.int .i64 3) (.string e0) (.func (.func 177) #[] #[]);have bQ:=ae (aC.out.on hb3);have HB:=ae (Ba 3 e0 (.func (.func 177) #[] #[]) ⟨tk,tx,tn,ta⟩ u3);have m0:=ag hb3 m0;have m1:=ag hb3 m1;have m2:=ag hb3 m2;have m3:=ag hb3 m3;go_upto_region 5 with fail
   try rw [<- hu3]
   generalize wr.heap.size=q2 at *;clear hu3 hb3 hcs y0 y1 y2 HM bI eT aC;go_wp2_with fail;refine HB.out.mono ?_;rintro e u4 ⟨rfl,hb4⟩;have bE:=ae (bQ.out.on hb4);have r2:=ag hb4 r2;have m0:=ag hb4 m0;have m1:=ag hb4 m1;have m2:=ag hb4 m2;have m3:=ag hb4 m3;clear hb4 HB bQ r0 r1;cases hbg:bg 3 e0 ⟨tk,tx,tn,ta⟩ with
   | false =>
    have bX:Hid (∀j,j<2->([(1,e0,R0),(3,e0,R1),(6,sL,R2)]:List (Int × ByteArray × Rd Value))[j]?.map (fun r=>bg r.1 r.2.1 ⟨tk,tx,tn,ta⟩)=some false):=ae fun j hj=>by
     rcases Nat.lt_succ_iff_lt_or_eq.1 hj with hj|rfl
     ·exact HN.out j hj
     ·simp [hbg]
    have dm:=ae (And.intro m0 (And.intro m1 (And.intro m2 m3)));clear m0 m1 m2 m3 r2 hbg HN;go_wp2;go_roundw
    case rel=>exact ⟨2,by decide,by first|rfl|simp,bX,bE,dm⟩
    case measure=>simp
   | true =>
    have hE:au=R1:=by rw [bT.out,bA,bA,if_neg (by rw [b0];decide),if_pos hbg]
    have HE:=ae hE;have HC:=ae (dS u4 bE.out.pr);clear hbg hE HN m0 m1 m2 m3;go_wp2_with fail;refine HC.out.mono ?_;intro e u5 hr;cases hR:R1 with
    | error z =>
     obtain ⟨rfl,hb⟩:=bC hr hR;have HB:=ae hb;have ay:Hid (au=.error z):=ae (by rw [HE.out,hR]);clear hb hr hR HE;go_wp2;exact ⟨rfl,bu ay.out HB.out⟩
    | ok r =>
     obtain ⟨tr,j⟩:=r;obtain ⟨⟨v,rfl,hv0⟩,hp,hbt⟩:=bn hr hR;obtain ⟨vk,vx,vn,vu,hv,o1⟩:=hv0.val;subst hv;have bq:Hid (au=.ok (tr,j)):=ae (by rw [HE.out,hR]);have bM:=bE.out.lt;have di:=ae (bE.out.call hp hbt);obtain ⟨W,hW,hth,hbk,hpr,aU,hab⟩:=di.out.put #[.int .i64 vk,.string vx,.int .i64 vn,vu] rfl;have HV:=ae (hv0.on (hab.lo bM) (Nat.le_of_lt bM));have HW:=ae hW;have az:=ae hth;have ai:=ae hbk;have HF:=ae (And.intro hpr aU);clear hW hth hbk hpr aU hab hp hbt hr hR HE hv0 HC;go_wp2_with (refine wpList_store_mid rfl 79 (.tmp 4) (.tmp 22) rfl w.heap.size 0 #[.int .i64 vk,.string vx,.int .i64 vn,vu] rfl rfl az.out iQ (by simp [Value.oneCell'] at o1 ⊢;exact o1) ?_;rw [HW.out]);have z0:=af ai.out 0 _ rfl;have z1:=af ai.out 1 _ rfl;have z2:=af ai.out 2 _ rfl;have z3:=af ai.out 3 _ rfl;refine bodyPost_ret (v:=.agg #[.int .i64 vk,.string vx,.int .i64 vn,vu]) (by simp [results,Tryz.results175,go_sem,z0,z1,z2,z3]) rfl (cH bq.out HV.out HF.out.1 HF.out.2)
  ·have y0:=hcs 6 _ rfl;have y1:=hcs 7 _ rfl;have y2:=hcs 8 _ rfl;have b0:bg 1 e0 ⟨tk,tx,tn,ta⟩=false:=by have:=HN.out 0 (by decide);simpa using this
   have b1:bg 3 e0 ⟨tk,tx,tn,ta⟩=false:=by have:=HN.out 1 (by decide);simpa using this
   obtain ⟨m0,m1,m2,m3⟩:=HM.out;have bI:g<wr.heap.size:=Nat.lt_of_lt_of_le dH.out.1 aC.out.but.size;have eT:q<wr.heap.size:=World.block_lt_of_cell? _ _ m0;obtain ⟨u3,hu3,hb3,r0,r1,r2⟩:=fW wr 187 (.int .i64 6) (.string sL) (.func (.func 178) #[] #[]);have bQ:=ae (aC.out.on hb3);have HB:=ae (Ba 6 sL (.func (.func 178) #[] #[]) ⟨tk,tx,tn,ta⟩ u3);have m0:=ag hb3 m0;have m1:=ag hb3 m1;have m2:=ag hb3 m2;have m3:=ag hb3 m3;go_upto_region 5 with fail
   try rw [<- hu3]
   generalize wr.heap.size=q2 at *;clear hu3 hb3 hcs y0 y1 y2 HM bI eT aC;go_wp2_with fail;refine HB.out.mono ?_;rintro e u4 ⟨rfl,hb4⟩;have bE:=ae (bQ.out.on hb4);have r2:=ag hb4 r2;have m0:=ag hb4 m0;have m1:=ag hb4 m1;have m2:=ag hb4 m2;have m3:=ag hb4 m3;clear hb4 HB bQ r0 r1;cases hbg:bg 6 sL ⟨tk,tx,tn,ta⟩ with
   | false =>
    have bX:Hid (∀j,j<3->([(1,e0,R0),(3,e0,R1),(6,sL,R2)]:List (Int × ByteArray × Rd Value))[j]?.map (fun r=>bg r.1 r.2.1 ⟨tk,tx,tn,ta⟩)=some false):=ae fun j hj=>by
     rcases Nat.lt_succ_iff_lt_or_eq.1 hj with hj|rfl
     ·exact HN.out j hj
     ·simp [hbg]
    have dm:=ae (And.intro m0 (And.intro m1 (And.intro m2 m3)));clear m0 m1 m2 m3 r2 hbg HN;go_wp2;go_roundw
    case rel=>exact ⟨3,by decide,by first|rfl|simp,bX,bE,dm⟩
    case measure=>simp
   | true =>
    have hE:au=R2:=by rw [bT.out,bA,bA,bA,if_neg (by rw [b0];decide),if_neg (by rw [b1];decide),if_pos hbg]
    have HE:=ae hE;have HC:=ae (cG u4 bE.out.pr);clear hbg hE HN m0 m1 m2 m3;go_wp2_with fail;refine HC.out.mono ?_;intro e u5 hr;cases hR:R2 with
    | error z =>
     obtain ⟨rfl,hb⟩:=bC hr hR;have HB:=ae hb;have ay:Hid (au=.error z):=ae (by rw [HE.out,hR]);clear hb hr hR HE;go_wp2;exact ⟨rfl,bu ay.out HB.out⟩
    | ok r =>
     obtain ⟨tr,j⟩:=r;obtain ⟨⟨v,rfl,hv0⟩,hp,hbt⟩:=bn hr hR;obtain ⟨vk,vx,vn,vu,hv,o1⟩:=hv0.val;subst hv;have bq:Hid (au=.ok (tr,j)):=ae (by rw [HE.out,hR]);have bM:=bE.out.lt;have di:=ae (bE.out.call hp hbt);obtain ⟨W,hW,hth,hbk,hpr,aU,hab⟩:=di.out.put #[.int .i64 vk,.string vx,.int .i64 vn,vu] rfl;have HV:=ae (hv0.on (hab.lo bM) (Nat.le_of_lt bM));have HW:=ae hW;have az:=ae hth;have ai:=ae hbk;have HF:=ae (And.intro hpr aU);clear hW hth hbk hpr aU hab hp hbt hr hR HE hv0 HC;go_wp2_with (refine wpList_store_mid rfl 79 (.tmp 4) (.tmp 22) rfl w.heap.size 0 #[.int .i64 vk,.string vx,.int .i64 vn,vu] rfl rfl az.out iQ (by simp [Value.oneCell'] at o1 ⊢;exact o1) ?_;rw [HW.out]);have z0:=af ai.out 0 _ rfl;have z1:=af ai.out 1 _ rfl;have z2:=af ai.out 2 _ rfl;have z3:=af ai.out 3 _ rfl;refine bodyPost_ret (v:=.agg #[.int .i64 vk,.string vx,.int .i64 vn,vu]) (by simp [results,Tryz.results175,go_sem,z0,z1,z2,z3]) rfl (cH bq.out HV.out HF.out.1 HF.out.2)
  ·obtain ⟨m0,m1,m2,m3⟩:=HM.out;have b0:bg 1 e0 ⟨tk,tx,tn,ta⟩=false:=by have:=HN.out 0 (by decide);simpa using this
   have b1:bg 3 e0 ⟨tk,tx,tn,ta⟩=false:=by have:=HN.out 1 (by decide);simpa using this
   have b2:bg 6 sL ⟨tk,tx,tn,ta⟩=false:=by have:=HN.out 2 (by decide);simpa using this
   have ay:Hid (au=.error ta):=ae (by rw [bT.out,bA,bA,bA,bA,if_neg (by rw [b0];decide),if_neg (by rw [b1];decide),if_neg (by rw [b2];decide)]);clear hcs HN b0 b1 b2;go_wp2;exact ⟨rfl,bu ay.out aC.out.pr.below⟩
end Go.Proofs.YtkdbgopgjbfhbaaGreatDoor
