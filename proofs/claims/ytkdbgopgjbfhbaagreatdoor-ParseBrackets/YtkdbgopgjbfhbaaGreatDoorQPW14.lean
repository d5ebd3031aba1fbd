/- Texts that the claim needs. -/
import Derived.Test.YtkdbgopgjbfhbaaGreatDoorQPW12
import Derived.Test.YtkdbgopgjbfhbaaGreatDoorQPW13
namespace Go.Proofs.YtkdbgopgjbfhbaaGreatDoor
open Go.RowKit Lx Pz bq
set_option linter.unusedVariables false
set_option maxRecDepth 100000
set_option maxHeartbeats 8000000
namespace Pz
theorem BV (k:Int) (x:ByteArray) (n a:Int) (u:World):(Instr.field 47 (.agg #[.int .i64 k,.string x,.int .i64 n,.int .i64 a]) 0).run Tryz.prog u=.ok (.int .i64 k) u:=by simp [Instr.field,asAgg,go_sem]
theorem ST.Nc {w0 w u u':World} {p:Nat} {L:List Tk} {vL:Value} {en:Int} {H:List Nat} {i j:Nat} {Bs:List Bk} {Ts:List (World->Prop)} (h:ST w0 p L vL en H w i Bs Ts u) {v:Value} {ts:List Value} {B:Nat} (hB:B<=u.heap.size) (h1:PR w0 p L vL en j u') (h2:But p u u') (hv:∃d,Row 4 (eM u.heap.size u' d) v ts):ST w0 p L vL en H w j Bs (mJ B v ts :: Ts) u' :=
 (h.call h1 h2).add _ fun w' hw=>by
  obtain ⟨d,hd⟩:=hv;exact ⟨d,hd.imp fun b o t _ ht=>eM.lo hB d b o t (eM.but (h.newer hw) d b o t ht)⟩
def GI (L:List Tk) (en:Int) (A:Nat->Rd Value) (M:Nat->Rd (List Value)) (i:Nat):Rd Value:=match A i with
 | .error z=>.error z
 | .ok (t,j)=>if (tk L en i).k=1/\(tk L en i).x≠sO then (match M j with
   | .error z=>.error z
   | .ok (ts,j)=>.ok (nd 4 (tk L en i).x e0 0 ts [] 0,j)) else .ok (t,j)
theorem VP {B:Nat} {k:Int} {x:ByteArray} {v:Value} {w:World} (h:fE B (nd k x e0 0 [] [] 0) v w):∃u,v=.agg #[.int .i64 k,.string x,.int .i64 0,u]/\u.oneCell'=true:=by
 obtain ⟨d,k',x',n',es,u,h0,h1,h2⟩:=h;obtain ⟨rfl,rfl,_,rfl,rfl,_,_⟩:=Ba h0;obtain ⟨o,c,rfl⟩:=h2.len;exact ⟨_,h1,rfl⟩
end Pz
theorem aa1 (w0:World) (p:Nat) (L:List Tk) (vL:Value) (en:Int) (i:Nat) (A:Nat->Rd Value) (M:Nat->Rd (List Value)) (hA1:(tk L en i).k=1->A i=.ok (rD (tk L en i).x,i+1)) (HO:∀g u,PR w0 p L vL en i u->u.heap[g]?=some (.cells lY 187 (0,0))->Calls Tryz.prog 175 #[.pointer (some ⟨p,0,none⟩),.slice (some ⟨g,0,none⟩) 3 3] u (Rp w0 p L vL en (fE u.heap.size) u (A i))) (HE:∀g j u,i<j->PR w0 p L vL en j u->u.heap[g]?=some (.cells lY 187 (0,0))->g≠p->Calls Tryz.prog 151 #[.pointer (some ⟨p,0,none⟩),.slice (some ⟨g,0,none⟩) 3 3] u (Rp w0 p L vL en (fun (ts:List Value) v u'=>∃d,Row 4 (eM u.heap.size u' d) v ts) u (M j))) (w:World) (h:PR w0 p L vL en i w) :
  Calls Tryz.prog 196 #[.pointer (some ⟨p,0,none⟩)] w (Rp w0 p L vL en (fE w.heap.size) w (GI L en A M i)):=by
 have ck:=ae ((ST.om h).new nR 79);obtain ⟨az,aW⟩:∃X,X=(GI L en A M i:Rd Value):=⟨_,rfl⟩;rw [<- aW];unfold GI at aW;have HX:=ae aW;have Na:=ae HO;have cH:=ae HE;clear h aW HO HE;have HQ:=ae (jc w0 p L vL en i _ ck.out.pr);generalize tk L en i=tok at *;obtain ⟨Nb,tx,tn,ta⟩:=tok;simp only at hA1;by_cases hk:Nb=1
 ·subst hk;have hA:=hA1 rfl;have hq:=HX.out;rw [hA] at hq;dsimp only at hq;have VQ:=ae hq;clear hq HX hA1;by_cases hx:tx=sO
  ·subst hx;have bz:Hid (az=.ok (nd 1 e0 e0 0 [] [] 0,i+1)):=ae (by have hq:=VQ.out;rw [if_neg (by simp)] at hq;exact hq)
   skip
   have hfl:=fun (u:World)=>BV 1 sO tn ta u;go_enter Tryz.func196,Tryz.ntmps196;go_wp2_with fail;refine Calls.mono (show Calls _ _ _ _ _ from HQ.out) ?_;rintro e u0 ⟨rfl,hb0⟩;have gL:=ae (ck.out.on hb0);simp only [dO];clear hb0 HQ ck;have mE:=ae (BR u0);have pK:=ae (gL.out.on (dF u0 (.cells lY 187)));go_wp2_with fail;refine Calls.mono (show Calls _ _ _ _ _ from mE.out) ?_;rintro e w0' ⟨rfl,rfl⟩;clear mE gL;have bW:=ae (Na.out u0.heap.size _ pK.out.pr (heap_alloc_new u0 _));go_wp2_with fail;refine Calls.mono (show Calls _ _ _ _ _ from bW.out) ?_;intro e u1 hr;obtain ⟨⟨v,rfl,hv0⟩,hp,hbt⟩:=bw (a:=nd 1 e0 e0 0 [] [] 0) (j:=i+1) hr (by rw [hA];rfl);obtain ⟨dX,hv,c11⟩:=VP hv0;subst hv;have aT:=ae (pK.out.DZ (B:=w.heap.size) (by have:=pK.out.but.size;omega) hp hbt hv0);clear hp hbt bW hr pK hv0;obtain ⟨W2,hW,hth,cJ⟩:=aT.out.kE 79 nR #[.int .i64 1,.string e0,.int .i64 0,dX] rfl;have HW2:=ae hW;have fW:=ae hth;have ba:=ae cJ;clear hW hth cJ aT;go_upto_region 3 with (refine wpList_store_mid rfl 79 (.tmp 4) (.tmp 11) rfl u1.heap.size 0 #[.int .i64 1,.string e0,.int .i64 0,dX] rfl rfl fW.out jH (by simp [Value.oneCell'] at c11 ⊢;exact c11) ?_;rw [HW2.out])
   try dsimp only [Act.put]
   have y0:=ba.out.cell 1 rfl 0 rfl;have y1:=ba.out.cell 1 rfl 1 rfl;have y2:=ba.out.cell 1 rfl 2 rfl;have y3:=ba.out.cell 1 rfl 3 rfl;obtain ⟨WA,dR,dS,dJ⟩:=ba.out.put 0 rfl #[.int .i64 1,.string e0,.int .i64 0,dX] rfl;have gQ:=ae dR;have gS:=ae dS;have aD:=ae dJ;clear dR dS dJ;go_wp2_with (refine wpList_store_mid rfl 79 (.tmp 2) (.tmp 22) rfl w.heap.size 0 #[.int .i64 1,.string e0,.int .i64 0,dX] rfl rfl gS.out jH (by simp [Value.oneCell'] at c11 ⊢;exact c11) ?_;rw [gQ.out]);have z0:=aD.out.cell 0 rfl 0 rfl;have z1:=aD.out.cell 0 rfl 1 rfl;have z2:=aD.out.cell 0 rfl 2 rfl;have z3:=aD.out.cell 0 rfl 3 rfl;refine bodyPost_ret (v:=.agg #[.int .i64 1,.string e0,.int .i64 0,dX]) (by simp [results,Tryz.results196,go_sem,z0,z1,z2,z3]) rfl (cz bz.out (aD.out.out (List.Mem.head _)) aD.out.pr aD.out.but)
  ·have xg:Hid (az=(match M (i+1) with | .error z=>.error z | .ok (ts,j)=>.ok (nd 4 tx e0 0 ts [] 0,j))):=ae (by have hq:=VQ.out;rw [if_pos ⟨rfl,hx⟩] at hq;exact hq)
   have hlo:rD tx=nd 4 tx e0 0 [] [] 0:=if_neg hx;rw [hlo] at hA;clear hlo hx
   skip
   have hfl:=fun (u:World)=>BV 1 tx tn ta u;go_enter Tryz.func196,Tryz.ntmps196;go_wp2_with fail;refine Calls.mono (show Calls _ _ _ _ _ from HQ.out) ?_;rintro e u0 ⟨rfl,hb0⟩;have gL:=ae (ck.out.on hb0);simp only [dO];clear hb0 HQ ck;have mE:=ae (BR u0);have pK:=ae (gL.out.on (dF u0 (.cells lY 187)));go_wp2_with fail;refine Calls.mono (show Calls _ _ _ _ _ from mE.out) ?_;rintro e w0' ⟨rfl,rfl⟩;clear mE gL;have bW:=ae (Na.out u0.heap.size _ pK.out.pr (heap_alloc_new u0 _));go_wp2_with fail;refine Calls.mono (show Calls _ _ _ _ _ from bW.out) ?_;intro e u1 hr;obtain ⟨⟨v,rfl,hv0⟩,hp,hbt⟩:=bw (a:=nd 4 tx e0 0 [] [] 0) (j:=i+1) hr (by rw [hA]);obtain ⟨dX,hv,c11⟩:=VP hv0;subst hv;have aT:=ae (pK.out.DZ (B:=w.heap.size) (by have:=pK.out.but.size;omega) hp hbt hv0);clear hp hbt bW hr pK hv0;obtain ⟨W2,hW,hth,cJ⟩:=aT.out.kE 79 nR #[.int .i64 4,.string tx,.int .i64 0,dX] rfl;have HW2:=ae hW;have fW:=ae hth;have ba:=ae cJ;clear hW hth cJ aT;go_upto_region 3 with (refine wpList_store_mid rfl 79 (.tmp 4) (.tmp 11) rfl u1.heap.size 0 #[.int .i64 4,.string tx,.int .i64 0,dX] rfl rfl fW.out jH (by simp [Value.oneCell'] at c11 ⊢;exact c11) ?_;rw [HW2.out])
   try dsimp only [Act.put]
   have y0:=ba.out.cell 1 rfl 0 rfl;have y1:=ba.out.cell 1 rfl 1 rfl;have y2:=ba.out.cell 1 rfl 2 rfl;have y3:=ba.out.cell 1 rfl 3 rfl;have VR:=ae (BR W2);have uw:=ae (ba.out.on (dF W2 (.cells lY 187)));have hne:W2.heap.size≠p:=by have:=ba.out.pr.lt;omega
   have iN:=ae (cH.out W2.heap.size (i+1) _ (Nat.lt_succ_self i) uw.out.pr (heap_alloc_new W2 _) hne);clear hne;go_wp2_with fail;refine Calls.mono (show Calls _ _ _ _ _ from VR.out) ?_;rintro e w0' ⟨rfl,rfl⟩;clear VR ba y0 y1 y2 y3;go_wp2_with fail;refine Calls.mono (show Calls _ _ _ _ _ from iN.out) ?_;intro e u3 hr;cases hR:M (i+1) with
   | error z =>
    obtain ⟨rfl,hb⟩:=bE hr hR;have HB:=ae hb;have aA:Hid (az=.error z):=ae (by have hq:=xg.out;rw [hR] at hq;exact hq);clear hb hR hr iN xg;go_wp2;exact ⟨rfl,bA aA.out HB.out⟩
   | ok r =>
    obtain ⟨ts,j3⟩:=r;obtain ⟨⟨v,rfl,hv⟩,hp,hbt⟩:=bw hr hR;have bz:Hid (az=.ok (nd 4 tx e0 0 ts [] 0,j3)):=ae (by have hq:=xg.out;rw [hR] at hq;exact hq);have hlen:=hv;obtain ⟨d0,hrow⟩:=hlen;obtain ⟨oR,cR,rfl⟩:=hrow.len;have bG:=ae (uw.out.Nc (B:=w.heap.size) (by have:=uw.out.but.size;omega) hp hbt hv);clear hp hbt hr hR xg iN hv hrow uw;have eQ:=ae (bG.out.GJ 4 tx 0 (List.Mem.head _));clear bG;have f5:=eQ.out.jb 1 rfl 3;have y5:=eQ.out.cell 1 rfl 3 rfl;have dB:=ae (eQ.out.set' 1 rfl 3 (.slice oR ts.length cR));clear eQ;go_upto_region 5 with fail;generalize u3.setCell ⟨u1.heap.size,3,none⟩ (.slice oR ts.length cR)=U9 at *;have y0:=dB.out.cell 1 rfl 0 rfl;have y1:=dB.out.cell 1 rfl 1 rfl;have y2:=dB.out.cell 1 rfl 2 rfl;have y3:=dB.out.cell 1 rfl 3 rfl;obtain ⟨WA,dR,dS,dJ⟩:=dB.out.put 0 rfl #[.int .i64 4,.string tx,.int .i64 0,.slice oR ts.length cR] rfl;have gQ:=ae dR;have gS:=ae dS;have aD:=ae dJ;clear dR dS dJ;go_wp2_with (refine wpList_store_mid rfl 79 (.tmp 2) (.tmp 22) rfl w.heap.size 0 #[.int .i64 4,.string tx,.int .i64 0,.slice oR ts.length cR] rfl rfl gS.out jH (by simp [Value.oneCell']) ?_;rw [gQ.out]);have z0:=aD.out.cell 0 rfl 0 rfl;have z1:=aD.out.cell 0 rfl 1 rfl;have z2:=aD.out.cell 0 rfl 2 rfl;have z3:=aD.out.cell 0 rfl 3 rfl;refine bodyPost_ret (v:=.agg #[.int .i64 4,.string tx,.int .i64 0,.slice oR ts.length cR]) (by simp [results,Tryz.results196,go_sem,z0,z1,z2,z3]) rfl (cz bz.out (aD.out.out (List.Mem.head _)) aD.out.pr aD.out.but)
 ·have q1:(Nb == 1)=false:=beq_eq_false_iff_ne.2 hk;clear hA1;have hfl:=fun (u:World)=>BV Nb tx tn ta u;go_enter Tryz.func196,Tryz.ntmps196;go_wp2_with fail;refine Calls.mono (show Calls _ _ _ _ _ from HQ.out) ?_;rintro e u0 ⟨rfl,hb0⟩;have gL:=ae (ck.out.on hb0);simp only [dO];clear hb0 HQ ck;have mE:=ae (BR u0);have pK:=ae (gL.out.on (dF u0 (.cells lY 187)));go_wp2_with fail;refine Calls.mono (show Calls _ _ _ _ _ from mE.out) ?_;rintro e w0' ⟨rfl,rfl⟩;clear mE gL;have bW:=ae (Na.out u0.heap.size _ pK.out.pr (heap_alloc_new u0 _));go_wp2_with fail;refine Calls.mono (show Calls _ _ _ _ _ from bW.out) ?_;intro e u1 hr;cases hR:A i with
  | error z =>
   obtain ⟨rfl,hb⟩:=bE hr hR;have HB:=ae hb;have aA:Hid (az=.error z):=ae (by have hq:=HX.out;rw [hR] at hq;exact hq);clear hb hR hr bW HX;go_wp2;exact ⟨rfl,bA aA.out HB.out⟩
  | ok r =>
   obtain ⟨t1,j1⟩:=r;obtain ⟨⟨v,rfl,hv0⟩,hp,hbt⟩:=bw hr hR;obtain ⟨fq,fu,fw,dX,hv,c11⟩:=hv0.val;subst hv;have bz:Hid (az=.ok (t1,j1)):=ae (by have hq:=HX.out;rw [hR] at hq;dsimp only at hq;rw [if_neg (fun h=>hk h.1)] at hq;exact hq);have aT:=ae (pK.out.DZ (B:=w.heap.size) (by have:=pK.out.but.size;omega) hp hbt hv0);clear hp hbt bW hr pK hv0 hR HX;obtain ⟨W2,hW,hth,cJ⟩:=aT.out.kE 79 nR #[.int .i64 fq,.string fu,.int .i64 fw,dX] rfl;have HW2:=ae hW;have fW:=ae hth;have ba:=ae cJ;clear hW hth cJ aT;go_upto_region 3 with (refine wpList_store_mid rfl 79 (.tmp 4) (.tmp 11) rfl u1.heap.size 0 #[.int .i64 fq,.string fu,.int .i64 fw,dX] rfl rfl fW.out jH (by simp [Value.oneCell'] at c11 ⊢;exact c11) ?_;rw [HW2.out])
   try dsimp only [Act.put]
   have y0:=ba.out.cell 1 rfl 0 rfl;have y1:=ba.out.cell 1 rfl 1 rfl;have y2:=ba.out.cell 1 rfl 2 rfl;have y3:=ba.out.cell 1 rfl 3 rfl;obtain ⟨WA,dR,dS,dJ⟩:=ba.out.put 0 rfl #[.int .i64 fq,.string fu,.int .i64 fw,dX] rfl;have gQ:=ae dR;have gS:=ae dS;have aD:=ae dJ;clear dR dS dJ;go_wp2_with (refine wpList_store_mid rfl 79 (.tmp 2) (.tmp 22) rfl w.heap.size 0 #[.int .i64 fq,.string fu,.int .i64 fw,dX] rfl rfl gS.out jH (by simp [Value.oneCell'] at c11 ⊢;exact c11) ?_;rw [gQ.out]);have z0:=aD.out.cell 0 rfl 0 rfl;have z1:=aD.out.cell 0 rfl 1 rfl;have z2:=aD.out.cell 0 rfl 2 rfl;have z3:=aD.out.cell 0 rfl 3 rfl;refine bodyPost_ret (v:=.agg #[.int .i64 fq,.string fu,.int .i64 fw,dX]) (by simp [results,Tryz.results196,go_sem,z0,z1,z2,z3]) rfl (cz bz.out (aD.out.out (List.Mem.head _)) aD.out.pr aD.out.but)
namespace Pz
theorem gY.KX {N:List Nat} {p:Nat} {F:World->Prop} {u u':World} (h:gY N p F u) (ha:ia N p u u') (hs:u.heap.size<=u'.heap.size):gY N p F u':=fun w' hw=>h w' fun k hk hp hn=>(hw k (Nat.lt_of_lt_of_le hk hs) hp hn).trans (ha k hk hp hn)
theorem gY.less {N N':List Nat} {p:Nat} {F:World->Prop} {u:World} (h:gY N p F u) (hs:∀k ∈ N',k ∈ N):gY N' p F u:=fun w' hw=>h w' (hw.more hs)
def fV (V:Value->Value->World->Prop) (B:Nat) (e:TypeId) (sz:Nat) (N:List Nat) (p:Nat) (u:World) (v:Value) (ts:List Value):Prop :=
 ∃xs,u.ownsRow B e sz v ts.length xs/\(∀k,v.ownBlock=some k->k ∈ N)/\∀k t,ts[k]?=some t->∃cs:Array Value,cs.size=sz/\gY N p (V t (.agg cs)) u/\∀j c,cs[j]?=some c->xs[k*sz+j]?=some c
section
variable {V:Value->Value->World->Prop} {B:Nat} {e:TypeId} {sz:Nat} {N:List Nat} {p:Nat} {u u':World} {v v':Value} {ts:List Value} {t:Value}
theorem fV.nil (V:Value->Value->World->Prop) (B:Nat) (e:TypeId) (sz:Nat) (N:List Nat) (p:Nat) (u:World):fV V B e sz N p u (.slice none 0 0) []:=⟨[],⟨by simp,.inl ⟨rfl,rfl⟩⟩,fun k h=>(by cases h),fun k t h=>(by simp at h)⟩
theorem fV.sl (h:fV V B e sz N p u v ts):∃o c,v=.slice o ts.length c:=by
 obtain ⟨xs,h1,_⟩:=h;exact Eh h1
theorem fV.kept (h:fV V B e sz N p u v ts) (ha:ia N p u u') (hs:u.heap.size<=u'.heap.size) (ho:∀k,v.ownBlock=some k->u'.heap[k]?=u.heap[k]?):fV V B e sz N p u' v ts:=by
 obtain ⟨xs,⟨hl,h1⟩,h2,h3⟩:=h;refine ⟨xs,⟨hl,?_⟩,h2,fun k t hk=>?_⟩
 ·rcases h1 with h1|⟨g,cap,cur,rfl,hB,hg,hr⟩
  ·exact .inl h1
  ·exact .inr ⟨g,cap,cur,rfl,hB,by rw [ho g rfl];exact hg,hr⟩
 ·obtain ⟨cs,hc,hs',hj⟩:=h3 k t hk;exact ⟨cs,hc,hs'.KX ha hs,hj⟩
theorem fV.but (h:fV V B e sz N p u v ts) (hb:But p u u') (hp:p<B):fV V B e sz N p u' v ts :=
 h.kept (fun k hk hp _=>hb.block k hk hp) hb.size fun k hk=>by
  obtain ⟨xs,h1,_⟩:=h
  have:=h1.lt k hk
  exact hb.block k this.2 (by omega)
theorem KW {o:Option Nat} (hg:u.grownBy u' o) (ho:∀k,o=some k->k ∈ N):ia N p u u':=fun k hk _ hn=>hg.block k hk fun h=>hn (ho k h.symm)
theorem fV.app {xs:List Value} {cs:Array Value} (hown:u.ownsRow B e sz v ts.length xs) (jV:∀k,v.ownBlock=some k->k ∈ N) (hx:∀k t,ts[k]?=some t->∃cs:Array Value,cs.size=sz/\gY N p (V t (.agg cs)) u/\∀j c,cs[j]?=some c->xs[k*sz+j]?=some c)
  (hown':u'.ownsRow B e sz v' (ts.length+1) (xs++cs.toList)) (hg:u.grownBy u' v.ownBlock) (hv:v'.ownBlock=v.ownBlock\/v'.ownBlock=some u.heap.size) (hc:cs.size=sz) (ht:gY N p (V t (.agg cs)) u):fV V B e sz (v'.ownBlock.toList++N) p u' v' (ts++[t]):=by
 have hst:∀(F:World->Prop),gY N p F u->gY (v'.ownBlock.toList++N) p F u':=fun F hF w' hw=>hF w' fun k hk hp hn=>(hw k (Nat.lt_of_lt_of_le hk hg.size) hp fun hm=>by
  rcases List.mem_append.1 hm with h1|h1
  ·rcases hv with h|h
   ·rw [h] at h1;cases nT:v.ownBlock with
    | none=>rw [nT] at h1;cases h1
    | some g =>
     rw [nT] at h1
     have:k=g:=by simpa using h1
     exact hn (by rw [this];exact jV g nT)
   ·rw [h] at h1
    have:k=u.heap.size:=by simpa using h1
    omega
  ·exact hn h1).trans (hg.block k hk fun h=>hn (jV k h.symm))
 refine ⟨xs++cs.toList,by simpa using hown',fun k hk=>by rw [hk];simp,fun k s hk=>?_⟩;by_cases hlt:k<ts.length
 ·rw [List.getElem?_append_left hlt] at hk;obtain ⟨ds,hd,hq,hj⟩:=hx k s hk;refine ⟨ds,hd,hst _ hq,fun j c hc'=>?_⟩
  have:=hj j c hc'
  rw [List.getElem?_append_left (List.getElem?_eq_some_iff.1 this).1];exact this
 ·rw [List.getElem?_append_right (by omega)] at hk
  have hk0:k-ts.length=0:=by
   have:=(List.getElem?_eq_some_iff.1 hk).1;simp at this;omega
  have hke:k=ts.length:=by omega
  subst hke;simp at hk;subst hk;refine ⟨cs,hc,hst _ ht,fun j c hj=>?_⟩;rw [List.getElem?_append_right (by rw [hown.1];omega),hown.1,Nat.add_sub_cancel_left];simpa using hj
theorem fV.row {F:World->Nat->Nat->Nat->Value->Prop} (hF:∀w d b o t,F w d b o t->F w (d+1) b o t) (h:fV V B e sz N p u v ts) (hn:ts.length<=9223372036854775807) (hpB:p<B) {N':List Nat} (hs:∀k ∈ N',k ∈ N) (ho:∀k,v.ownBlock=some k->k ∉ N')
  (hV:∀(w:World) (t:Value) (cs:Array Value) (b o:Nat),V t (.agg cs) w->B<=b->(∀j u,cs[j]?=some u->w.cell? ⟨b,o+j,none⟩=some u)->∃d,F w d b o t):gY N' p (fun w=>∃d,Row sz (F w d) v ts) u:=fun w' hw=>by
 obtain ⟨xs,hown,jV,hx⟩:=h;rcases hown.2 with ⟨rfl,h0⟩|⟨g,cap,cur,rfl,hB,hg,hcp,Ea,hcs,htk⟩
 ·exact ⟨0,hn,.inl ⟨List.eq_nil_of_length_eq_zero h0,none,0,rfl⟩⟩
 ·have hg':w'.heap[g]?=some (.cells cur e (0,0)):=by
   rw [hw g (Array.getElem?_eq_some_iff.1 hg).1 (by omega) (ho g rfl)];exact hg
  obtain ⟨d,hd⟩:=D5 (ts:=ts) (P:=fun d k t=>F w' d g (k*sz) t) (fun d e k t hde hp=>ug (hF w') hde hp) ts.length fun k t _ hk=>by
   obtain ⟨cs,hc,hr,hj⟩:=hx k t hk;refine hV w' t cs g (k*sz) (hr w' (hw.more hs)) hB fun j c hc'=>ak hg' _ c ?_
   have:=hj j c hc'
   rw [<- htk] at this;have h2:=(List.getElem?_eq_some_iff.1 this).1;rw [List.getElem?_take_of_lt (by rw [List.length_take] at h2;omega)] at this;simpa using this
  exact ⟨d,hn,.inr ⟨g,0,cap,rfl,fun k t hk=>by rw [Nat.zero_add];exact hd k t (List.getElem?_eq_some_iff.1 hk).1 hk⟩⟩
end
section
variable {w0 w u u':World} {p:Nat} {L:List Tk} {vL:Value} {en:Int} {H:List Nat} {i j:Nat} {Bs:List Bk} {Ts:List (World->Prop)}
theorem ST.less (h:ST w0 p L vL en H w i Bs Ts u) {H':List Nat} (hs:∀k ∈ H',k ∈ H):ST w0 p L vL en H' w i Bs Ts u :=
 ⟨h.pr,h.but,h.ek,fun k hk=>h.hlt k (hs k hk),h.blk,h.pO,fun F hF w' hw=>h.gq F hF w' (hw.more fun k hk=>by
  rcases List.mem_append.1 hk with h1|h1
  ·exact List.mem_append_left _ (hs k h1)
  ·exact List.mem_append_right _ h1)⟩
theorem ST.app (h : ST w0 p L vL en H w i Bs Ts u) {v v' : Value} (hg : u.grownBy u' v.ownBlock) (hH : ∀ k, v.ownBlock = some k → k ∈ H ∧ w.heap.size ≤ k ∧ ∀ x ∈ Bs, x.1 ≠ k) (hv : v'.ownBlock = v.ownBlock ∨ v'.ownBlock = some u.heap.size) (hl : ∀ k, v'.ownBlock = some k → k < u'.heap.size) : ST w0 p L vL en (v'.ownBlock.toList ++ H) w i Bs Ts u' := by
  refine ⟨h.pr.grown hg (fun q hq => by have := (hH q hq).2.1; have := h.ek; omega), h.but.grown hg (fun k hk => (hH k hk).2.1), h.ek, fun k hk => ?_, fun x hx => ⟨?_, (h.blk x hx).2⟩, h.pO, fun F hF w' hw => h.gq F hF w' fun k hk hp hn => ?_⟩
  · rcases List.mem_append.1 hk with h1 | h1
    · cases nT : v'.ownBlock with
      | none => rw [nT] at h1; cases h1
      | some g => rw [nT] at h1; have : k = g := by simpa using h1
                  rw [this]; exact hl g nT
    · exact Nat.lt_of_lt_of_le (h.hlt k h1) hg.size
  · rw [hg.block x.1 (h.blt hx) (fun e => (hH x.1 e.symm).2.2 x hx rfl)]; exact (h.blk x hx).1
  · refine (hw k (Nat.lt_of_lt_of_le hk hg.size) hp fun hm => ?_).trans (hg.block k hk fun e => hn (List.mem_append_left _ (hH k e.symm).1))
    rw [List.append_assoc] at hm;rcases List.mem_append.1 hm with h1 | h1
    · rcases hv with h2 | h2
      · rw [h2] at h1
        cases nT : v.ownBlock with
        | none => rw [nT] at h1; cases h1
        | some g =>
          rw [nT] at h1;have : k = g := by simpa using h1
          exact hn (by rw [this]; exact List.mem_append_left _ (hH g nT).1)
      · rw [h2] at h1
        have : k = u.heap.size := by simpa using h1
        omega
    · exact hn h1
end
end Pz
namespace Pz
theorem abl (u:World) (g o:Nat) (vs:List Value):u.grownBy (u.setCells g o vs) (some g):=by
 have h:=nL 0 g (Nat.zero_le _) vs o u u (Below.refl _ u);exact ⟨h.os,h.tape,h.output,h.size,fun k hk hn=>wH g k (fun e=>hn (by rw [e])) vs o u⟩
theorem RU (u:World) (g o:Nat) (v:Value):u.grownBy (u.setCell ⟨g,o,none⟩ v) (some g) :=
 ⟨rfl,rfl,rfl,by simp,fun k hk hn=>Below.heap_setCell u ⟨g,o,none⟩ v k (fun e=>hn (by rw [e]))⟩
theorem RV {w:World} {B:Nat} {e:TypeId} {sz:Nat} {v:Value} {n:Nat} {xs:List Value} (h:w.ownsRow B e sz v (n+1) xs):∃g c,v=.slice (some ⟨g,0,none⟩) (n+1) c/\B<=g:=by
 rcases h.2 with ⟨_,h0⟩|⟨g,cap,cur,rfl,hB,_⟩
 ·cases h0
 ·exact ⟨g,cap,rfl,hB⟩
theorem KV {w:World} {B:Nat} {e:TypeId} {sz:Nat} {n g c:Nat} {xs:List Value} (h:w.ownsRow B e sz (.slice (some ⟨g,0,none⟩) (n+1) c) (n+1) xs):w.there g (n*sz) sz:=by
 rcases h.2 with ⟨h0,_⟩|⟨g',cap,cur,h0,hB,hg,hcp,Ea,hcs,htk⟩
 ·cases h0
 ·injection h0 with h0 _ h2;injection h0 with h0;injection h0 with h0;subst h0;subst h2;have hle:(n+1)*sz<=c*sz:=Nat.mul_le_mul_right _ hcp;rw [Nat.add_mul,Nat.one_mul] at hle;intro j hj;refine ⟨?_,?_⟩
  ·unfold World.cell?;rw [hg];show (cur[n*sz+j]?).isSome=true;rw [Array.getElem?_eq_getElem (by omega)];rfl
  ·unfold World.frozen?;rw [hg];simp
theorem Ph {w:World} {B:Nat} {e:TypeId} {sz:Nat} {n g c:Nat} {xs rc vs:List Value} (h:w.ownsRow B e sz (.slice (some ⟨g,0,none⟩) (n+1) c) (n+1) (xs++rc)) (hx:xs.length=n*sz) (hr:rc.length=sz) (hv:vs.length=sz):(w.setCells g (n*sz) vs).ownsRow B e sz (.slice (some ⟨g,0,none⟩) (n+1) c) (n+1) (xs++vs):=by
 rcases h.2 with ⟨h0,_⟩|⟨g',cap,cur,h0,hB,hg,hcp,Ea,hcs,htk⟩
 ·cases h0
 ·injection h0 with h0 _ h2;injection h0 with h0;injection h0 with h0;subst h0;subst h2;have hle:(n+1)*sz<=c*sz:=Nat.mul_le_mul_right _ hcp;have hsz:(n+1)*sz=n*sz+sz:=by rw [Nat.add_mul,Nat.one_mul]
  have hcl:cur.toList.length=c*sz:=by rw [Array.length_toList,hcs]
  refine ⟨by rw [List.length_append,hx,hv,hsz],.inr ⟨g,c,_,rfl,hB,Dq g e vs (n*sz) w cur hg (by rw [hv];omega),hcp,Ea,?_,?_⟩⟩
  ·simp only [List.size_toArray,List.length_append,List.length_take,List.length_drop,hcl,hv];omega
  ·have h1:cur.toList.take (n*sz)=xs:=by
    have:=congrArg (List.take (n*sz)) htk
    rw [List.take_take,Nat.min_eq_left (by omega)] at this;rw [this,List.take_append_of_le_length (by omega),List.take_of_length_le (by omega)]
   rw [h1,List.append_assoc,hsz,List.take_append,List.take_of_length_le (by omega),hx,show n*sz+sz-n*sz=sz by omega,List.take_append_of_le_length (by omega),List.take_of_length_le (by omega)]
theorem Yh {w:World} {B:Nat} {e:TypeId} {sz:Nat} {v:Value} {n:Nat} {xs ys:List Value} (h:w.ownsRow B e sz v n xs) (h':w.ownsRow B e sz v n ys):xs=ys:=by
 rcases h.2 with ⟨rfl,h0⟩|⟨g,cap,cur,rfl,hB,hg,hcp,Ea,hcs,htk⟩
 ·subst h0;have h1:=h.1;have h2:=h'.1;rw [Nat.zero_mul] at h1 h2;rw [List.eq_nil_of_length_eq_zero h1,List.eq_nil_of_length_eq_zero h2]
 ·rcases h'.2 with ⟨h0,_⟩|⟨g',cap',cur',h0,hB',hg',aeR,aeS,hcs',abm⟩
  ·cases h0
  ·injection h0 with h0 _ h2;injection h0 with h0;injection h0 with h0;subst h0;rw [hg] at hg';injection hg' with hg';injection hg' with hg';subst hg';rw [<- htk,<- abm]
section
variable (w0:World) (p:Nat) (L:List Tk) (vL:Value) (en:Int) (H:List Nat) (w:World) (q j2:Nat) (V:Value->Value->World->Prop) (T:TypeId) (sz:Nat) (eC:Value->Array Value) (t2:Value) (els:List Value) (V2:Value->Value->World->Prop) (T2:TypeId) (sz2:Nat) (v2:Value) (ts2:List Value)
structure Mid (R:Array Value) (v9:Value) (u:World):Prop where
 st:∃y,ST w0 p L vL en (v9.ownBlock.toList++H) w j2 [(w.heap.size,bO,27),(q,eC y,27)] [V t2 (.agg R)] u
 row:∃xs rc,rc.length=sz/\u.ownsRow w.heap.size T sz v9 (els.length+1) (xs++rc)/\xs.length=els.length*sz/\∀k t,els[k]?=some t->∃cs:Array Value,cs.size=sz/\gY ((v9.ownBlock.toList++H)++[w.heap.size,q]) p (V t (.agg cs)) u/\∀j c,cs[j]?=some c->xs[k*sz+j]?=some c
 Eb:fV V2 w.heap.size T2 sz2 ((v9.ownBlock.toList++H)++[w.heap.size,q]) p u v2 ts2
 own:∃g c,v9=.slice (some ⟨g,0,none⟩) (els.length+1) c/\w.heap.size<g/\g≠q/\v2.ownBlock≠some g
end
section
variable {w0:World} {p:Nat} {L:List Tk} {vL:Value} {en:Int} {H:List Nat} {w:World} {q j2:Nat} {V:Value->Value->World->Prop} {T:TypeId} {sz:Nat} {eC:Value->Array Value} {t2:Value} {els:List Value} {V2:Value->Value->World->Prop} {T2:TypeId} {sz2:Nat} {v2:Value} {ts2:List Value} {R:Array Value} {v9:Value} {u:World}
theorem Mid.Yd (h:Mid w0 p L vL en H w q j2 V T sz eC t2 els V2 T2 sz2 v2 ts2 R v9 u) (hR:R.size=sz) {g c:Nat} (hv:v9=.slice (some ⟨g,0,none⟩) (els.length+1) c):Mid w0 p L vL en H w q j2 V T sz eC t2 els V2 T2 sz2 v2 ts2 R v9 (u.setCells g (els.length*sz) R.toList):=by
 subst hv;have hgr:=abl u g (els.length*sz) R.toList;obtain ⟨g',c',hv',bJ,fo,hg2⟩:=h.own;injection hv' with hv' _ hc;injection hv' with hv';injection hv' with hv';subst hv';subst hc;have hag:ia (((Value.slice (some ⟨g,0,none⟩) (els.length+1) c).ownBlock.toList++H)++[w.heap.size,q]) p u (u.setCells g (els.length*sz) R.toList):=KW hgr (fun k hk=>by injection hk with hk;subst hk;simp [Value.ownBlock]);obtain ⟨y,hst⟩:=h.st;obtain ⟨xs,rc,h1,h2,h3,h4⟩:=h.row;refine ⟨⟨y,?_⟩,⟨xs,R.toList,by simpa using hR,Ph h2 h3 h1 (by simpa using hR),h3,fun k t hk=>?_⟩,h.Eb.kept hag hgr.size (fun k hk=>hgr.block k ?_ ?_),⟨g,c,rfl,bJ,fo,hg2⟩⟩
 ·have:=hst.app (v:=.slice (some ⟨g,0,none⟩) (els.length+1) c) (v':=.slice (some ⟨g,0,none⟩) (els.length+1) c) hgr (fun k hk=>by
   injection hk with hk;subst hk;refine ⟨by simp [Value.ownBlock],Nat.le_of_lt bJ,fun x hx=>?_⟩;simp only [List.mem_cons,List.not_mem_nil,or_false] at hx;rcases hx with rfl|rfl
   ·exact Nat.ne_of_lt bJ
   ·exact fun e=>fo e.symm) (.inl rfl) (fun k hk=>Nat.lt_of_lt_of_le ((h2.lt k hk).2) hgr.size)
  exact this.less fun k hk=>List.mem_append_right _ hk
 ·obtain ⟨cs,hc,hs,hj⟩:=h4 k t hk;exact ⟨cs,hc,hs.KX hag hgr.size,hj⟩
 ·obtain ⟨ys,hy,_⟩:=h.Eb;exact (hy.lt k hk).2
 ·intro e;exact hg2 (by rw [hk,e])
theorem Mid.Yf (h:Mid w0 p L vL en H w q j2 V T sz eC t2 els V2 T2 sz2 v2 ts2 R v9 u) {f:Nat} (hset:∀y,(eC y).setIfInBounds f v9=eC v9) (hq2:v2.ownBlock≠some q):Mid w0 p L vL en H w q j2 V T sz eC t2 els V2 T2 sz2 v2 ts2 R v9 (u.setCell ⟨q,f,none⟩ v9):=by
 have hgr:=RU u q f v9;obtain ⟨g,c,hv,bJ,fo,hg2⟩:=h.own;have hag:ia ((v9.ownBlock.toList++H)++[w.heap.size,q]) p u (u.setCell ⟨q,f,none⟩ v9):=KW hgr (fun k hk=>by injection hk with hk;subst hk;simp);obtain ⟨y,hst⟩:=h.st;obtain ⟨xs,rc,h1,h2,h3,h4⟩:=h.row;refine ⟨⟨v9,?_⟩,⟨xs,rc,h1,h2.kept hgr (.inr (by rw [hv];intro e;injection e with e;exact fo e)),h3,fun k t hk=>?_⟩,h.Eb.kept hag hgr.size (fun k hk=>hgr.block k ?_ ?_),⟨g,c,hv,bJ,fo,hg2⟩⟩
 ·have:=hst.set' 1 rfl f v9
  rw [hset y] at this;exact this
 ·obtain ⟨cs,hc,hs,hj⟩:=h4 k t hk;exact ⟨cs,hc,hs.KX hag hgr.size,hj⟩
 ·obtain ⟨ys,hy,_⟩:=h.Eb;exact (hy.lt k hk).2
 ·intro e;exact hq2 (by rw [hk,e])
theorem Mid.start {v:Value} {u':World} {xs:List Value} {zc:Array Value} (hst:ST w0 p L vL en H w j2 [(w.heap.size,bO,27),(q,eC v,27)] [V t2 (.agg R)] u) (hown:u.ownsRow w.heap.size T sz v els.length xs) (vB:∀k,v.ownBlock=some k->k ∈ H)
  (hx:∀k t,els[k]?=some t->∃cs:Array Value,cs.size=sz/\gY (H++[w.heap.size,q]) p (V t (.agg cs)) u/\∀j c,cs[j]?=some c->xs[k*sz+j]?=some c)
  (hoth:fV V2 w.heap.size T2 sz2 (H++[w.heap.size,q]) p u v2 ts2) (hH:∀k ∈ H,w.heap.size<k/\k≠q) (hq:q<u.heap.size) (hne:∀k,v.ownBlock=some k->v2.ownBlock≠some k)
  (hown':u'.ownsRow w.heap.size T sz v9 (els.length+1) (xs++zc.toList)) (hg:u.grownBy u' v.ownBlock) (hv:v9.ownBlock=v.ownBlock\/v9.ownBlock=some u.heap.size) (hz:zc.size=sz):Mid w0 p L vL en H w q j2 V T sz eC t2 els V2 T2 sz2 v2 ts2 R v9 u':=by
 obtain ⟨g,c,bQ,hgB⟩:=RV hown';have hsz:=hst.but.size;have hpw:=hst.ek
 have hgg:w.heap.size<g/\g≠q/\v2.ownBlock≠some g:=by
  have e9:v9.ownBlock=some g:=by rw [bQ];rfl
  rcases hv with h1|h1
  ·rw [e9] at h1
   have:=hH g (vB g h1.symm)
   exact ⟨this.1,this.2,hne g h1.symm⟩
  ·rw [e9] at h1;injection h1 with h1;have hw1:=hst.blt (x:=(w.heap.size,bO,27)) (List.Mem.head _);refine ⟨by rw [h1];exact hw1,by omega,fun e=>?_⟩;obtain ⟨ys,hy,_⟩:=hoth
   have:=(hy.lt g e).2
   omega
 have fL:=hst.app (v:=v) (v':=v9) hg (fun k hk=>by
  have:=hH k (vB k hk)
  refine ⟨vB k hk,Nat.le_of_lt this.1,fun x hx=>?_⟩;simp only [List.mem_cons,List.not_mem_nil,or_false] at hx;rcases hx with rfl|rfl
  ·exact Nat.ne_of_lt this.1
  ·exact fun e=>this.2 e.symm) hv (fun k hk=>(hown'.lt k hk).2)
 have RX:∀(F:World->Prop),gY (H++[w.heap.size,q]) p F u->gY ((v9.ownBlock.toList++H)++[w.heap.size,q]) p F u':=fun F hF w' hw=>hF w' fun k hk hp hn=>(hw k (Nat.lt_of_lt_of_le hk hg.size) hp fun hm=>by
  rw [List.append_assoc] at hm;rcases List.mem_append.1 hm with h1|h1
  ·rcases hv with h|h
   ·rw [h] at h1;cases nT:v.ownBlock with
    | none=>rw [nT] at h1;cases h1
    | some g' =>
     rw [nT] at h1
     have:k=g':=by simpa using h1
     exact hn (List.mem_append_left _ (by rw [this];exact vB g' nT))
   ·rw [h] at h1
    have:k=u.heap.size:=by simpa using h1
    omega
  ·exact hn h1).trans (hg.block k hk fun h=>hn (List.mem_append_left _ (vB k h.symm)))
 refine ⟨⟨v,fL⟩,⟨xs,zc.toList,by simpa using hz,hown',hown.1,fun k t hk=>?_⟩,?_,⟨g,c,bQ,hgg⟩⟩
 ·obtain ⟨cs,hc,hs,hj⟩:=hx k t hk;exact ⟨cs,hc,RX _ hs,hj⟩
 ·obtain ⟨ys,hy,hyN,hye⟩:=hoth;refine ⟨ys,hy.kept hg ?_,fun k hk=>?_,fun k t hk=>?_⟩
  ·cases ho:v2.ownBlock with
   | none=>exact .inl rfl
   | some k2=>exact .inr fun e=>hne k2 e.symm ho
  ·rw [List.append_assoc];exact List.mem_append_right _ (hyN k hk)
  ·obtain ⟨cs,hc,hs,hj⟩:=hye k t hk;exact ⟨cs,hc,RX _ hs,hj⟩
theorem Mid.fin (h:Mid w0 p L vL en H w q j2 V T sz eC t2 els V2 T2 sz2 v2 ts2 R v9 u) (hR:R.size=sz) (h10:∀xs rc:List Value,rc.length=sz->u.ownsRow w.heap.size T sz v9 (els.length+1) (xs++rc)->rc=R.toList) (yQ:u.heap[q]?=some (.cells (eC v9) 27 (0,0))) :
  ST w0 p L vL en (v9.ownBlock.toList++H) w j2 [(w.heap.size,bO,27),(q,eC v9,27)] [] u/\fV V w.heap.size T sz ((v9.ownBlock.toList++H)++[w.heap.size,q]) p u v9 (els++[t2])/\fV V2 w.heap.size T2 sz2 ((v9.ownBlock.toList++H)++[w.heap.size,q]) p u v2 ts2:=by
 obtain ⟨y,hst⟩:=h.st;obtain ⟨xs,rc,h1,h2,h3,h4⟩:=h.row;have hrc:=h10 xs rc h1 h2;subst hrc;have hq:=hst.at_ (k:=1) rfl;rw [yQ] at hq;injection hq with hq;injection hq with hq;refine ⟨?_,⟨xs++R.toList,by simpa using h2,fun k hk=>by rw [hk];simp,fun k s hk=>?_⟩,h.Eb⟩
 ·rw [hq];exact hst.drop (fun F hF=>by cases hF)
 ·by_cases hlt:k<els.length
  ·rw [List.getElem?_append_left hlt] at hk;obtain ⟨ds,hd,hs,hj⟩:=h4 k s hk;refine ⟨ds,hd,hs,fun j c hc'=>?_⟩
   have:=hj j c hc'
   rw [List.getElem?_append_left (List.getElem?_eq_some_iff.1 this).1];exact this
  ·rw [List.getElem?_append_right (by omega)] at hk
   have hk0:k-els.length=0:=by
    have:=(List.getElem?_eq_some_iff.1 hk).1;simp at this;omega
   have hke:k=els.length:=by omega
   subst hke;simp at hk;subst hk;refine ⟨R,hR,fun w' hw=>hst.gq _ (List.Mem.head _) w' hw,fun j c hj=>?_⟩;rw [List.getElem?_append_right (by omega),h3,Nat.add_sub_cancel_left];simpa using hj
end
end Pz
end Go.Proofs.YtkdbgopgjbfhbaaGreatDoor
