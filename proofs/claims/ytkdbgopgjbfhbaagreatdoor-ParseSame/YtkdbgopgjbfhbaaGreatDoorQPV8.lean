/- Texts that the claim needs. -/
import Derived.Test.YtkdbgopgjbfhbaaGreatDoorQPV6
import Derived.Test.YtkdbgopgjbfhbaaGreatDoorQPV2
namespace Go.Proofs.YtkdbgopgjbfhbaaGreatDoor
open Go.RowKit Lx Pz bw
set_option linter.unusedVariables false
set_option maxRecDepth 100000
set_option maxHeartbeats 8000000
namespace Pz
theorem jk (u:World) (T:TypeId) (z vs:Array Value) (hz:z.size=vs.size) :
  ∃W,(u.alloc (.cells z T)).setCells u.heap.size 0 vs.toList=W/\(u.alloc (.cells z T)).there u.heap.size 0 vs.size/\W.heap[u.heap.size]?=some (.cells vs T (0,0))/\Below u.heap.size u W:=by
 have hn:(u.alloc (.cells z T)).heap[u.heap.size]?=some (.cells z T (0,0)):=heap_alloc_new _ _;refine ⟨_,rfl,by have:=Ah hn;rw [hz] at this;exact this,Ai hn hz,?_⟩;exact lZ _ _ (Nat.le_refl _) vs.toList 0 _ _ ((Below.refl _ u).alloc (Nat.le_refl _) _)
theorem But.blk {p g:Nat} {u u':World} {T:TypeId} {cs:Array Value} (h:But p u u') (hg:u.heap[g]?=some (.cells cs T (0,0))) (hp:g≠p):u'.heap[g]?=some (.cells cs T (0,0)):=by
 rw [h.block g (Array.getElem?_eq_some_iff.1 hg).1 hp];exact hg
theorem bF.trans {p:Nat} {u v w:World} (h:bF p u v) (hs:u.heap.size<=v.heap.size) (h':bF p v w):bF p u w:=fun k hk hl=>(h' k hk (Nat.lt_of_lt_of_le hl hs)).trans (h k hk hl)
def QN (t:Tk) (x:Except Int Nat):Rd Int:=match x with | .ok j=>.ok (t.a,j) | .error z=>.error z
theorem dQ {L:List Tk} {en:Int} {s:ByteArray} {i:Nat} {X:Except Int Nat} (h:bf L en s i=X):QN (tk L en i) (bf L en s i)=QN (tk L en i) X:=by rw [h]
theorem fF {L:List Tk} {en:Int} {s:ByteArray} {i j:Nat} (h:bf L en s i=.ok j):i<j:=by
 unfold bf at h;split at h
 ·injection h with h;omega
 ·cases h
theorem ll {L:List Tk} {en:Int} {k:Int} {i j:Nat} {t:Tk} (h:bU L en k i=.ok (t,j)):i<j:=by
 unfold bU at h;split at h
 ·injection h with h;injection h with _ h;omega
 ·cases h
end Pz
theorem Zq (w0:World) (p:Nat) (L:List Tk) (vL:Value) (en:Int) (i:Nat) (E:Nat->Rd Value) (HE:∀j u,i<j->PR w0 p L vL en j u->Calls Tryz.prog 60 #[.pointer (some ⟨p,0,none⟩)] u (Rp w0 p L vL en (aW u.heap.size) u (E j))) (w:World) (h:PR w0 p L vL en i w) :
  Calls Tryz.prog 247 #[.pointer (some ⟨p,0,none⟩)] w (Rp w0 p L vL en (aW w.heap.size) w (brk L en E i)):=by
 have HA:=ae (AP.start h 27 bS);have HM:=ae (gQ w0 p L vL en i sL _ HA.out.pr);obtain ⟨au,ba⟩:∃X,X=brk L en E i:=⟨_,rfl⟩;rw [<- ba];have bT:=ae ba;clear h ba;have cO:=ae HE;clear HE;go_enter Tryz.func247,Tryz.ntmps247;go_wp2_with fail;refine Calls.mono (show Calls _ _ _ _ _ from HM.out) ?_;intro e u hr;cases hR:bf L en sL i with
 | error z =>
  obtain ⟨rfl,hb⟩:=bC hr (dQ hR);have HB:=ae hb;have dN:au=.error z:=by have hq:=bT.out;rw [brk,hR] at hq;exact hq
  have ay:=ae dN;clear hb HM dN hR bT;go_wp2;exact ⟨rfl,bu ay.out HB.out⟩
 | ok j =>
  obtain ⟨⟨v,rfl,hv⟩,hp,hbt⟩:=bn hr (dQ hR);subst hv;have aC:=ae (HA.out.call hp hbt);have iK:=ae (cO.out j u (fF hR) hp);have bb:Hid (au=(match E j with | .error z=>.error z | .ok (e,j)=>match bf L en sR j with | .error z=>.error z | .ok j=>.ok (e,j))):=ae (by have hq:=bT.out;rw [brk,hR] at hq;exact hq)
  clear hp hbt HM HA hR hr bT cO;go_wp2_with fail;refine Calls.mono (show Calls _ _ _ _ _ from iK.out) ?_;intro e u5 hr;cases hR:E j with
  | error z =>
   obtain ⟨rfl,hb⟩:=bC hr hR;have HB:=ae hb;have ay:Hid (au=.error z):=ae (by have hq:=bb.out;rw [hR] at hq;exact hq);clear hb hr hR iK bb;go_wp2;exact ⟨rfl,bu ay.out HB.out⟩
  | ok r =>
   obtain ⟨tr,k⟩:=r;obtain ⟨⟨v,rfl,hv0⟩,hp,hbt⟩:=bn hr hR;obtain ⟨vk,vx,vy,vn,vu,vz,va,hv,o1,o2⟩:=hv0.val;subst hv;have bM:=aC.out.lt;have HS:=ae hbt.size;have di:=ae (aC.out.call hp hbt);have bZ:Hid (au=(match bf L en sR k with | .error z=>.error z | .ok j=>.ok (tr,j))):=ae (by have hq:=bb.out;rw [hR] at hq;exact hq)
   obtain ⟨W6,nR,nS,jR,iH⟩:=jk u5 27 bS #[.int .i64 vk,.string vx,.string vy,.int .i64 vn,vu,vz,.int .i64 va] rfl;have lJ:=ae (di.out.on iH);have Dv:=ae (hv0.on (bF.of iH) (Nat.le_of_lt bM));have oZ:=ae nR;have o9:=ae nS;have uI:=ae jR;have ig:u5.heap.size≠p:=by have:=di.out.pr.lt;omega
   have Dw:=ae ig;have HM:=ae (gQ w0 p L vL en k sR W6 lJ.out.pr);have nW:=ae bM;have xk:=ae hv0;have qB:=ae iH;clear nR nS jR iH hp hbt hr hv0 iK bb hR bM ig;go_wp2_with (refine wpList_store_mid rfl 27 (.tmp 3) (.tmp 7) rfl u5.heap.size 0 #[.int .i64 vk,.string vx,.string vy,.int .i64 vn,vu,vz,.int .i64 va] rfl rfl o9.out cK (by simp [Value.oneCell'] at o1 o2 ⊢;exact ⟨o1,o2⟩) ?_;rw [oZ.out]);refine Calls.mono (show Calls _ _ _ _ _ from HM.out) ?_;intro e u7 hr;cases hR:bf L en sR k with
   | error z =>
    obtain ⟨rfl,hb⟩:=bC hr (dQ hR);have HB:=ae hb;have ay:Hid (au=.error z):=ae (by have hq:=bZ.out;rw [hR] at hq;exact hq);clear hb hr hR bZ HM;go_wp2;exact ⟨rfl,bu ay.out HB.out⟩
   | ok l =>
    obtain ⟨⟨v,rfl,hv⟩,hp,hbt⟩:=bn hr (dQ hR);subst hv;have bq:Hid (au=.ok (tr,l)):=ae (by have hq:=bZ.out;rw [hR] at hq;exact hq);have kZ:=ae (hbt.blk uI.out Dw.out);have Dx:=ae (lJ.out.call hp hbt);have xm:bF u.heap.size W6 u7:=bF.but hbt (by have:=aC.out.pr.lt;omega);have Dy:=ae ((xk.out.on (bF.of qB.out) (Nat.le_refl _)).on xm (Nat.le_refl _));clear hr hR bZ HM hp hbt xm Dv xk qB;have y0:=af kZ.out 0 _ rfl;have y1:=af kZ.out 1 _ rfl;have y2:=af kZ.out 2 _ rfl;have y3:=af kZ.out 3 _ rfl;have y4:=af kZ.out 4 _ rfl;have y5:=af kZ.out 5 _ rfl;have y6:=af kZ.out 6 _ rfl;obtain ⟨W,hW,hth,hbk,hpr,aU,hab⟩:=Dx.out.put #[.int .i64 vk,.string vx,.string vy,.int .i64 vn,vu,vz,.int .i64 va] rfl;have HV:=ae (Dy.out.on (hab.lo nW.out) (Nat.le_of_lt nW.out));have HW:=ae hW;have az:=ae hth;have ai:=ae hbk;have HF:=ae (And.intro hpr aU);clear hW hth hbk hpr aU hab;go_wp2_with (refine wpList_store_mid rfl 27 (.tmp 2) (.tmp 10) rfl w.heap.size 0 #[.int .i64 vk,.string vx,.string vy,.int .i64 vn,vu,vz,.int .i64 va] rfl rfl az.out cK (by simp [Value.oneCell'] at o1 o2 ⊢;exact ⟨o1,o2⟩) ?_;rw [HW.out]);have z0:=af ai.out 0 _ rfl;have z1:=af ai.out 1 _ rfl;have z2:=af ai.out 2 _ rfl;have z3:=af ai.out 3 _ rfl;have z4:=af ai.out 4 _ rfl;have z5:=af ai.out 5 _ rfl;have z6:=af ai.out 6 _ rfl;refine bodyPost_ret (v:=.agg #[.int .i64 vk,.string vx,.string vy,.int .i64 vn,vu,vz,.int .i64 va]) (by simp [results,Tryz.results247,go_sem,z0,z1,z2,z3,z4,z5,z6]) rfl (cH bq.out HV.out HF.out.1 HF.out.2)
theorem Zr (w0:World) (p:Nat) (L:List Tk) (vL:Value) (en:Int) (i:Nat) (E:Nat->Rd Value) (HE:∀j u,i<j->PR w0 p L vL en j u->Calls Tryz.prog 186 #[.pointer (some ⟨p,0,none⟩)] u (Rp w0 p L vL en (bV u.heap.size) u (E j))) (w:World) (h:PR w0 p L vL en i w) :
  Calls Tryz.prog 234 #[.pointer (some ⟨p,0,none⟩)] w (Rp w0 p L vL en (bV w.heap.size) w (brk L en E i)):=by
 have HA:=ae (AP.start h 101 gH);have HM:=ae (gQ w0 p L vL en i sL _ HA.out.pr);obtain ⟨au,ba⟩:∃X,X=brk L en E i:=⟨_,rfl⟩;rw [<- ba];have bT:=ae ba;clear h ba;have cO:=ae HE;clear HE;go_enter Tryz.func234,Tryz.ntmps234;go_wp2_with fail;refine Calls.mono (show Calls _ _ _ _ _ from HM.out) ?_;intro e u hr;cases hR:bf L en sL i with
 | error z =>
  obtain ⟨rfl,hb⟩:=bC hr (dQ hR);have HB:=ae hb;have dN:au=.error z:=by have hq:=bT.out;rw [brk,hR] at hq;exact hq
  have ay:=ae dN;clear hb HM dN hR bT;go_wp2;exact ⟨rfl,bu ay.out HB.out⟩
 | ok j =>
  obtain ⟨⟨v,rfl,hv⟩,hp,hbt⟩:=bn hr (dQ hR);subst hv;have aC:=ae (HA.out.call hp hbt);have iK:=ae (cO.out j u (fF hR) hp);have bb:Hid (au=(match E j with | .error z=>.error z | .ok (e,j)=>match bf L en sR j with | .error z=>.error z | .ok j=>.ok (e,j))):=ae (by have hq:=bT.out;rw [brk,hR] at hq;exact hq)
  clear hp hbt HM HA hR hr bT cO;go_wp2_with fail;refine Calls.mono (show Calls _ _ _ _ _ from iK.out) ?_;intro e u5 hr;cases hR:E j with
  | error z =>
   obtain ⟨rfl,hb⟩:=bC hr hR;have HB:=ae hb;have ay:Hid (au=.error z):=ae (by have hq:=bb.out;rw [hR] at hq;exact hq);clear hb hr hR iK bb;go_wp2;exact ⟨rfl,bu ay.out HB.out⟩
  | ok r =>
   obtain ⟨tr,k⟩:=r;obtain ⟨⟨v,rfl,hv0⟩,hp,hbt⟩:=bn hr hR;obtain ⟨vk,vx,vn,vu,va,hv,o1⟩:=hv0.val;subst hv;have bM:=aC.out.lt;have HS:=ae hbt.size;have di:=ae (aC.out.call hp hbt);have bZ:Hid (au=(match bf L en sR k with | .error z=>.error z | .ok j=>.ok (tr,j))):=ae (by have hq:=bb.out;rw [hR] at hq;exact hq)
   obtain ⟨W6,nR,nS,jR,iH⟩:=jk u5 101 gH #[.int .i64 vk,.string vx,.int .i64 vn,vu,.int .i64 va] rfl;have lJ:=ae (di.out.on iH);have Dv:=ae (hv0.on (bF.of iH) (Nat.le_of_lt bM));have oZ:=ae nR;have o9:=ae nS;have uI:=ae jR;have ig:u5.heap.size≠p:=by have:=di.out.pr.lt;omega
   have Dw:=ae ig;have HM:=ae (gQ w0 p L vL en k sR W6 lJ.out.pr);have nW:=ae bM;have xk:=ae hv0;have qB:=ae iH;clear nR nS jR iH hp hbt hr hv0 iK bb hR bM ig;go_wp2_with (refine wpList_store_mid rfl 101 (.tmp 3) (.tmp 7) rfl u5.heap.size 0 #[.int .i64 vk,.string vx,.int .i64 vn,vu,.int .i64 va] rfl rfl o9.out iC (by simp [Value.oneCell'] at o1 ⊢;exact o1) ?_;rw [oZ.out]);refine Calls.mono (show Calls _ _ _ _ _ from HM.out) ?_;intro e u7 hr;cases hR:bf L en sR k with
   | error z =>
    obtain ⟨rfl,hb⟩:=bC hr (dQ hR);have HB:=ae hb;have ay:Hid (au=.error z):=ae (by have hq:=bZ.out;rw [hR] at hq;exact hq);clear hb hr hR bZ HM;go_wp2;exact ⟨rfl,bu ay.out HB.out⟩
   | ok l =>
    obtain ⟨⟨v,rfl,hv⟩,hp,hbt⟩:=bn hr (dQ hR);subst hv;have bq:Hid (au=.ok (tr,l)):=ae (by have hq:=bZ.out;rw [hR] at hq;exact hq);have kZ:=ae (hbt.blk uI.out Dw.out);have Dx:=ae (lJ.out.call hp hbt);have xm:bF u.heap.size W6 u7:=bF.but hbt (by have:=aC.out.pr.lt;omega);have Dy:=ae ((xk.out.on (bF.of qB.out) (Nat.le_refl _)).on xm (Nat.le_refl _));clear hr hR bZ HM hp hbt xm Dv xk qB;have y0:=af kZ.out 0 _ rfl;have y1:=af kZ.out 1 _ rfl;have y2:=af kZ.out 2 _ rfl;have y3:=af kZ.out 3 _ rfl;have y4:=af kZ.out 4 _ rfl;obtain ⟨W,hW,hth,hbk,hpr,aU,hab⟩:=Dx.out.put #[.int .i64 vk,.string vx,.int .i64 vn,vu,.int .i64 va] rfl;have HV:=ae (Dy.out.on (hab.lo nW.out) (Nat.le_of_lt nW.out));have HW:=ae hW;have az:=ae hth;have ai:=ae hbk;have HF:=ae (And.intro hpr aU);clear hW hth hbk hpr aU hab;go_wp2_with (refine wpList_store_mid rfl 101 (.tmp 2) (.tmp 10) rfl w.heap.size 0 #[.int .i64 vk,.string vx,.int .i64 vn,vu,.int .i64 va] rfl rfl az.out iC (by simp [Value.oneCell'] at o1 ⊢;exact o1) ?_;rw [HW.out]);have z0:=af ai.out 0 _ rfl;have z1:=af ai.out 1 _ rfl;have z2:=af ai.out 2 _ rfl;have z3:=af ai.out 3 _ rfl;have z4:=af ai.out 4 _ rfl;refine bodyPost_ret (v:=.agg #[.int .i64 vk,.string vx,.int .i64 vn,vu,.int .i64 va]) (by simp [results,Tryz.results234,go_sem,z0,z1,z2,z3,z4]) rfl (cH bq.out HV.out HF.out.1 HF.out.2)
theorem Zu (w0:World) (p:Nat) (L:List Tk) (vL:Value) (en:Int) (i:Nat) (E:Nat->Rd Value) (HE:∀j u,i<j->PR w0 p L vL en j u->Calls Tryz.prog 185 #[.pointer (some ⟨p,0,none⟩)] u (Rp w0 p L vL en (eu u.heap.size) u (E j))) (w:World) (h:PR w0 p L vL en i w) :
  Calls Tryz.prog 178 #[.pointer (some ⟨p,0,none⟩)] w (Rp w0 p L vL en (eu w.heap.size) w (brk L en E i)):=by
 have HA:=ae (AP.start h 79 lL);have HM:=ae (gQ w0 p L vL en i sL _ HA.out.pr);obtain ⟨au,ba⟩:∃X,X=brk L en E i:=⟨_,rfl⟩;rw [<- ba];have bT:=ae ba;clear h ba;have cO:=ae HE;clear HE;go_enter Tryz.func178,Tryz.ntmps178;go_wp2_with fail;refine Calls.mono (show Calls _ _ _ _ _ from HM.out) ?_;intro e u hr;cases hR:bf L en sL i with
 | error z =>
  obtain ⟨rfl,hb⟩:=bC hr (dQ hR);have HB:=ae hb;have dN:au=.error z:=by have hq:=bT.out;rw [brk,hR] at hq;exact hq
  have ay:=ae dN;clear hb HM dN hR bT;go_wp2;exact ⟨rfl,bu ay.out HB.out⟩
 | ok j =>
  obtain ⟨⟨v,rfl,hv⟩,hp,hbt⟩:=bn hr (dQ hR);subst hv;have aC:=ae (HA.out.call hp hbt);have iK:=ae (cO.out j u (fF hR) hp);have bb:Hid (au=(match E j with | .error z=>.error z | .ok (e,j)=>match bf L en sR j with | .error z=>.error z | .ok j=>.ok (e,j))):=ae (by have hq:=bT.out;rw [brk,hR] at hq;exact hq)
  clear hp hbt HM HA hR hr bT cO;go_wp2_with fail;refine Calls.mono (show Calls _ _ _ _ _ from iK.out) ?_;intro e u5 hr;cases hR:E j with
  | error z =>
   obtain ⟨rfl,hb⟩:=bC hr hR;have HB:=ae hb;have ay:Hid (au=.error z):=ae (by have hq:=bb.out;rw [hR] at hq;exact hq);clear hb hr hR iK bb;go_wp2;exact ⟨rfl,bu ay.out HB.out⟩
  | ok r =>
   obtain ⟨tr,k⟩:=r;obtain ⟨⟨v,rfl,hv0⟩,hp,hbt⟩:=bn hr hR;obtain ⟨vk,vx,vn,vu,hv,o1⟩:=hv0.val;subst hv;have bM:=aC.out.lt;have HS:=ae hbt.size;have di:=ae (aC.out.call hp hbt);have bZ:Hid (au=(match bf L en sR k with | .error z=>.error z | .ok j=>.ok (tr,j))):=ae (by have hq:=bb.out;rw [hR] at hq;exact hq)
   obtain ⟨W6,nR,nS,jR,iH⟩:=jk u5 79 lL #[.int .i64 vk,.string vx,.int .i64 vn,vu] rfl;have lJ:=ae (di.out.on iH);have Dv:=ae (hv0.on (bF.of iH) (Nat.le_of_lt bM));have oZ:=ae nR;have o9:=ae nS;have uI:=ae jR;have ig:u5.heap.size≠p:=by have:=di.out.pr.lt;omega
   have Dw:=ae ig;have HM:=ae (gQ w0 p L vL en k sR W6 lJ.out.pr);have nW:=ae bM;have xk:=ae hv0;have qB:=ae iH;clear nR nS jR iH hp hbt hr hv0 iK bb hR bM ig;go_wp2_with (refine wpList_store_mid rfl 79 (.tmp 3) (.tmp 7) rfl u5.heap.size 0 #[.int .i64 vk,.string vx,.int .i64 vn,vu] rfl rfl o9.out iQ (by simp [Value.oneCell'] at o1 ⊢;exact o1) ?_;rw [oZ.out]);refine Calls.mono (show Calls _ _ _ _ _ from HM.out) ?_;intro e u7 hr;cases hR:bf L en sR k with
   | error z =>
    obtain ⟨rfl,hb⟩:=bC hr (dQ hR);have HB:=ae hb;have ay:Hid (au=.error z):=ae (by have hq:=bZ.out;rw [hR] at hq;exact hq);clear hb hr hR bZ HM;go_wp2;exact ⟨rfl,bu ay.out HB.out⟩
   | ok l =>
    obtain ⟨⟨v,rfl,hv⟩,hp,hbt⟩:=bn hr (dQ hR);subst hv;have bq:Hid (au=.ok (tr,l)):=ae (by have hq:=bZ.out;rw [hR] at hq;exact hq);have kZ:=ae (hbt.blk uI.out Dw.out);have Dx:=ae (lJ.out.call hp hbt);have xm:bF u.heap.size W6 u7:=bF.but hbt (by have:=aC.out.pr.lt;omega);have Dy:=ae ((xk.out.on (bF.of qB.out) (Nat.le_refl _)).on xm (Nat.le_refl _));clear hr hR bZ HM hp hbt xm Dv xk qB;have y0:=af kZ.out 0 _ rfl;have y1:=af kZ.out 1 _ rfl;have y2:=af kZ.out 2 _ rfl;have y3:=af kZ.out 3 _ rfl;obtain ⟨W,hW,hth,hbk,hpr,aU,hab⟩:=Dx.out.put #[.int .i64 vk,.string vx,.int .i64 vn,vu] rfl;have HV:=ae (Dy.out.on (hab.lo nW.out) (Nat.le_of_lt nW.out));have HW:=ae hW;have az:=ae hth;have ai:=ae hbk;have HF:=ae (And.intro hpr aU);clear hW hth hbk hpr aU hab;go_wp2_with (refine wpList_store_mid rfl 79 (.tmp 2) (.tmp 10) rfl w.heap.size 0 #[.int .i64 vk,.string vx,.int .i64 vn,vu] rfl rfl az.out iQ (by simp [Value.oneCell'] at o1 ⊢;exact o1) ?_;rw [HW.out]);have z0:=af ai.out 0 _ rfl;have z1:=af ai.out 1 _ rfl;have z2:=af ai.out 2 _ rfl;have z3:=af ai.out 3 _ rfl;refine bodyPost_ret (v:=.agg #[.int .i64 vk,.string vx,.int .i64 vn,vu]) (by simp [results,Tryz.results178,go_sem,z0,z1,z2,z3]) rfl (cH bq.out HV.out HF.out.1 HF.out.2)
namespace Pz
def LK (B:Nat) (g:Option Nat) (w w':World):Prop:=∀k,B<=k->k<w.heap.size->some k≠g->w'.heap[k]?=w.heap[k]?
def sx (V:Value->Value->World->Prop) (B:Nat) (g:Option Nat) (w:World) (t v:Value):Prop:=∀w',LK B g w w'->V t v w'
section
variable {V:Value->Value->World->Prop} {B:Nat} {g g':Option Nat} {w w':World} {t v:Value}
theorem sx.out (h:sx V B g w t v):V t v w:=h w fun _ _ _ _=>rfl
theorem sx.on (h:sx V B g w t v) (hb:LK B g w w') (hs:w.heap.size<=w'.heap.size) (hg:g'=g\/g'=some w.heap.size):sx V B g' w' t v:=fun u hu=>h u fun k hk hl hn =>
 (hu k hk (Nat.lt_of_lt_of_le hl hs) (by
  rcases hg with rfl|rfl
  ·exact hn
  ·intro e;injection e with e;omega)).trans (hb k hk hl hn)
def Sv (V:Value->Value->World->Prop) (B:Nat) (e:TypeId) (sz:Nat) (w:World) (v:Value) (ts:List Value):Prop :=
 ∃xs,w.ownsRow B e sz v ts.length xs/\∀k t,ts[k]?=some t->∃cs:Array Value,cs.size=sz/\sx V B v.ownBlock w t (.agg cs)/\∀j u,cs[j]?=some u->xs[k*sz+j]?=some u
variable {e:TypeId} {sz:Nat} {ts:List Value}
theorem Sv.nil (w:World):Sv V B e sz w (.slice none 0 0) []:=⟨[],⟨by simp,.inl ⟨rfl,rfl⟩⟩,fun k t h=>by simp at h⟩
theorem Sv.on (h:Sv V B e sz w v ts) (hb:bF B w w') (hs:w.heap.size<=w'.heap.size):Sv V B e sz w' v ts:=by
 obtain ⟨xs,⟨hl,ho⟩,hx⟩:=h;refine ⟨xs,⟨hl,?_⟩,fun k t hk=>?_⟩
 ·rcases ho with ho|⟨g,cap,cur,h1,h2,h3,h4⟩
  ·exact .inl ho
  ·exact .inr ⟨g,cap,cur,h1,h2,by rw [hb g h2 (Array.getElem?_eq_some_iff.1 h3).1];exact h3,h4⟩
 ·obtain ⟨cs,hc,hr,hj⟩:=hx k t hk;exact ⟨cs,hc,hr.on (fun k hk hl _=>hb k hk hl) hs (.inl rfl),hj⟩
theorem Sv.app {v':Value} {xs:List Value} {cs:Array Value} (ho:w.ownsRow B e sz v ts.length xs) (hx:∀k t,ts[k]?=some t->∃cs:Array Value,cs.size=sz/\sx V B v.ownBlock w t (.agg cs)/\∀j u,cs[j]?=some u->xs[k*sz+j]?=some u)
  (ho':w'.ownsRow B e sz v' (ts.length+1) (xs++cs.toList)) (hg:w.grownBy w' v.ownBlock) (hv:v'.ownBlock=v.ownBlock\/v'.ownBlock=some w.heap.size) (hc:cs.size=sz) (hr:sx V B v.ownBlock w t (.agg cs)):Sv V B e sz w' v' (ts++[t]):=by
 have hb:LK B v.ownBlock w w':=fun k _ hl hn=>hg.block k hl hn;refine ⟨xs++cs.toList,by simpa using ho',fun k s hk=>?_⟩;by_cases hlt:k<ts.length
 ·rw [List.getElem?_append_left hlt] at hk;obtain ⟨ds,hd,hq,hj⟩:=hx k s hk;refine ⟨ds,hd,hq.on hb hg.size hv,fun j u hu=>?_⟩
  have:=hj j u hu
  rw [List.getElem?_append_left (List.getElem?_eq_some_iff.1 this).1];exact this
 ·rw [List.getElem?_append_right (by omega)] at hk
  have hk0:k-ts.length=0:=by
   have:=(List.getElem?_eq_some_iff.1 hk).1;simp at this;omega
  have hke:k=ts.length:=by omega
  subst hke;simp at hk;subst hk;refine ⟨cs,hc,hr.on hb hg.size hv,fun j u hu=>?_⟩;rw [List.getElem?_append_right (by rw [ho.1];omega),ho.1,Nat.add_sub_cancel_left];simpa using hu
theorem DU {P:Nat->Nat->Value->Prop} (hup:∀d e k t,d<=e->P d k t->P e k t):∀n,(∀k t,k<n->ts[k]?=some t->∃d,P d k t)->∃d,∀k t,k<n->ts[k]?=some t->P d k t
 | 0,_=>⟨0,fun k t h=>absurd h (Nat.not_lt_zero _)⟩
 | n+1,h=>by
  obtain ⟨d,hd⟩:=DU hup n fun k t hk=>h k t (by omega);cases hn:ts[n]? with
  | none =>
   refine ⟨d,fun k t hk ht=>hd k t ?_ ht⟩;rcases Nat.lt_or_ge k n with h1|h1
   ·exact h1
   ·have:k=n:=by omega
    subst this;rw [hn] at ht;cases ht
  | some s =>
   obtain ⟨d',hd'⟩:=h n s (by omega) hn;refine ⟨d+d',fun k t hk ht=>?_⟩;rcases Nat.lt_or_ge k n with h1|h1
   ·exact hup d _ k t (by omega) (hd k t h1 ht)
   ·have:k=n:=by omega
    subst this;rw [hn] at ht;injection ht with ht;subst ht;exact hup d' _ _ _ (by omega) hd'
theorem Sv.row {F:Nat->Nat->Nat->Value->Prop} (hF:∀d b o t,F d b o t->F (d+1) b o t) (h:Sv V B e sz w v ts) (hn:ts.length<=9223372036854775807)
  (hV:∀(t:Value) (cs:Array Value) (b o:Nat),V t (.agg cs) w->B<=b->(∀j u,cs[j]?=some u->w.cell? ⟨b,o+j,none⟩=some u)->∃d,F d b o t):∃d,Row sz (F d) v ts:=by
 obtain ⟨xs,hown,hx⟩:=h;rcases hown.2 with ⟨rfl,h0⟩|⟨g,cap,cur,rfl,hB,hg,_⟩
 ·exact ⟨0,hn,.inl ⟨List.eq_nil_of_length_eq_zero h0,none,0,rfl⟩⟩
 ·have hcell:=hown.cells (g:=g) rfl
  obtain ⟨d,hd⟩:=DU (ts:=ts) (P:=fun d k t=>F d g (k*sz) t) (fun d e k t hde hp=>qq hF hde hp) ts.length fun k t _ hk=>by
   obtain ⟨cs,hc,hr,hj⟩:=hx k t hk;refine hV t cs g (k*sz) hr.out hB fun j u hu=>?_
   have:=hcell _ u (hj j u hu)
   have ha:(⟨g,0,none⟩:Addr).add (k*sz+j)=⟨g,k*sz+j,none⟩:=by
    by_cases h0:k*sz+j=0
    ·rw [h0];rfl
    ·simp only [Addr.add,if_neg h0,Nat.zero_add]
   rw [ha] at this;exact this
  exact ⟨d,hn,.inr ⟨g,0,cap,rfl,fun k t hk=>by rw [Nat.zero_add];exact hd k t (List.getElem?_eq_some_iff.1 hk).1 hk⟩⟩
end
theorem aaE {B C:Nat} {g:Option Nat} {w:World} {t v:Value} (h:aW C t v w) (hB:B<=C) (hg:∀k,g=some k->k<C):sx (aW B) B g w t v:=fun w' hw =>
 h.on (fun k hk hl=>hw k (Nat.le_trans hB hk) hl (fun e=>by have:=hg k e.symm;omega)) hB
theorem aaG {B C:Nat} {g:Option Nat} {w:World} {t v:Value} (h:bV C t v w) (hB:B<=C) (hg:∀k,g=some k->k<C):sx (bV B) B g w t v:=fun w' hw =>
 h.on (fun k hk hl=>hw k (Nat.le_trans hB hk) hl (fun e=>by have:=hg k e.symm;omega)) hB
theorem aaI {B C:Nat} {g:Option Nat} {w:World} {t v:Value} (h:eu C t v w) (hB:B<=C) (hg:∀k,g=some k->k<C):sx (eu B) B g w t v:=fun w' hw =>
 h.on (fun k hk hl=>hw k (Nat.le_trans hB hk) hl (fun e=>by have:=hg k e.symm;omega)) hB
theorem AZ {B:Nat} {w:World} {t:Value} {cs:Array Value} {b o:Nat} (h:aW B t (.agg cs) w) (hB:B<=b) (hc:∀j u,cs[j]?=some u->w.cell? ⟨b,o+j,none⟩=some u):∃d,cf B w d b o t:=by
 obtain ⟨d,k,x,y,n,es,ps,a,u,z,h0,h1,h2,h3⟩:=h;injection h1 with h1;subst h1;exact ⟨d+1,hB,k,x,y,n,es,ps,a,u,z,h0,hc 0 _ rfl,hc 1 _ rfl,hc 2 _ rfl,hc 3 _ rfl,hc 4 _ rfl,hc 5 _ rfl,hc 6 _ rfl,h2,h3⟩
theorem EE {B:Nat} {w:World} {t:Value} {cs:Array Value} {b o:Nat} (h:bV B t (.agg cs) w) (hB:B<=b) (hc:∀j u,cs[j]?=some u->w.cell? ⟨b,o+j,none⟩=some u):∃d,bR B w d b o t:=by
 obtain ⟨d,k,x,n,es,a,u,h0,h1,h2⟩:=h;injection h1 with h1;subst h1;exact ⟨d+1,hB,k,x,n,es,a,u,h0,hc 0 _ rfl,hc 1 _ rfl,hc 2 _ rfl,hc 3 _ rfl,hc 4 _ rfl,h2⟩
theorem Io {B:Nat} {w:World} {t:Value} {cs:Array Value} {b o:Nat} (h:eu B t (.agg cs) w) (hB:B<=b) (hc:∀j u,cs[j]?=some u->w.cell? ⟨b,o+j,none⟩=some u):∃d,dw B w d b o t:=by
 obtain ⟨d,k,x,n,es,u,h0,h1,h2⟩:=h;injection h1 with h1;subst h1;exact ⟨d+1,hB,k,x,n,es,u,h0,hc 0 _ rfl,hc 1 _ rfl,hc 2 _ rfl,hc 3 _ rfl,h2⟩
end Pz
end Go.Proofs.YtkdbgopgjbfhbaaGreatDoor
