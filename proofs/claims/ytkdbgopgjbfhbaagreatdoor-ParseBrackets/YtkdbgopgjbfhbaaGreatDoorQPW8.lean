/- Texts that the claim needs. -/
import Derived.Test.YtkdbgopgjbfhbaaGreatDoorQPW6
import Derived.Test.YtkdbgopgjbfhbaaGreatDoorQPW2
namespace Go.Proofs.YtkdbgopgjbfhbaaGreatDoor
open Go.RowKit Lx Pz bq
set_option linter.unusedVariables false
set_option maxRecDepth 100000
set_option maxHeartbeats 8000000
namespace Pz
theorem kW (u:World) (T:TypeId) (z vs:Array Value) (hz:z.size=vs.size) :
  ∃W,(u.alloc (.cells z T)).setCells u.heap.size 0 vs.toList=W/\(u.alloc (.cells z T)).there u.heap.size 0 vs.size/\W.heap[u.heap.size]?=some (.cells vs T (0,0))/\Below u.heap.size u W:=by
 have hn:(u.alloc (.cells z T)).heap[u.heap.size]?=some (.cells z T (0,0)):=heap_alloc_new _ _;refine ⟨_,rfl,by have:=CP hn;rw [hz] at this;exact this,CQ hn hz,?_⟩;exact nL _ _ (Nat.le_refl _) vs.toList 0 _ _ ((Below.refl _ u).alloc (Nat.le_refl _) _)
theorem But.blk {p g:Nat} {u u':World} {T:TypeId} {cs:Array Value} (h:But p u u') (hg:u.heap[g]?=some (.cells cs T (0,0))) (hp:g≠p):u'.heap[g]?=some (.cells cs T (0,0)):=by
 rw [h.block g (Array.getElem?_eq_some_iff.1 hg).1 hp];exact hg
theorem bX.trans {p:Nat} {u v w:World} (h:bX p u v) (hs:u.heap.size<=v.heap.size) (h':bX p v w):bX p u w:=fun k hk hl=>(h' k hk (Nat.lt_of_lt_of_le hl hs)).trans (h k hk hl)
def Rk (t:Tk) (x:Except Int Nat):Rd Int:=match x with | .ok j=>.ok (t.a,j) | .error z=>.error z
theorem dU {L:List Tk} {en:Int} {s:ByteArray} {i:Nat} {X:Except Int Nat} (h:aY L en s i=X):Rk (tk L en i) (aY L en s i)=Rk (tk L en i) X:=by rw [h]
theorem fK {L:List Tk} {en:Int} {s:ByteArray} {i j:Nat} (h:aY L en s i=.ok j):i<j:=by
 unfold aY at h;split at h
 ·injection h with h;omega
 ·cases h
theorem lZ {L:List Tk} {en:Int} {k:Int} {i j:Nat} {t:Tk} (h:bN L en k i=.ok (t,j)):i<j:=by
 unfold bN at h;split at h
 ·injection h with h;injection h with _ h;omega
 ·cases h
end Pz
theorem aau (w0:World) (p:Nat) (L:List Tk) (vL:Value) (en:Int) (i:Nat) (E:Nat->Rd Value) (HE:∀j u,i<j->PR w0 p L vL en j u->Calls Tryz.prog 60 #[.pointer (some ⟨p,0,none⟩)] u (Rp w0 p L vL en (aX u.heap.size) u (E j))) (w:World) (h:PR w0 p L vL en i w) :
  Calls Tryz.prog 247 #[.pointer (some ⟨p,0,none⟩)] w (Rp w0 p L vL en (aX w.heap.size) w (brk L en E i)):=by
 have HA:=ae (AP.start h 27 bO);have HM:=ae (ig w0 p L vL en i sL _ HA.out.pr);obtain ⟨az,aW⟩:∃X,X=brk L en E i:=⟨_,rfl⟩;rw [<- aW];have bT:=ae aW;clear h aW;have cH:=ae HE;clear HE;go_enter Tryz.func247,Tryz.ntmps247;go_wp2_with fail;refine Calls.mono (show Calls _ _ _ _ _ from HM.out) ?_;intro e u hr;cases hR:aY L en sL i with
 | error z =>
  obtain ⟨rfl,hb⟩:=bE hr (dU hR);have HB:=ae hb;have dQ:az=.error z:=by have hq:=bT.out;rw [brk,hR] at hq;exact hq
  have aA:=ae dQ;clear hb HM dQ hR bT;go_wp2;exact ⟨rfl,bA aA.out HB.out⟩
 | ok j =>
  obtain ⟨⟨v,rfl,hv⟩,hp,hbt⟩:=bw hr (dU hR);subst hv;have aO:=ae (HA.out.call hp hbt);have iN:=ae (cH.out j u (fK hR) hp);have bD:Hid (az=(match E j with | .error z=>.error z | .ok (e,j)=>match aY L en sR j with | .error z=>.error z | .ok j=>.ok (e,j))):=ae (by have hq:=bT.out;rw [brk,hR] at hq;exact hq)
  clear hp hbt HM HA hR hr bT cH;go_wp2_with fail;refine Calls.mono (show Calls _ _ _ _ _ from iN.out) ?_;intro e u5 hr;cases hR:E j with
  | error z =>
   obtain ⟨rfl,hb⟩:=bE hr hR;have HB:=ae hb;have aA:Hid (az=.error z):=ae (by have hq:=bD.out;rw [hR] at hq;exact hq);clear hb hr hR iN bD;go_wp2;exact ⟨rfl,bA aA.out HB.out⟩
  | ok r =>
   obtain ⟨tr,k⟩:=r;obtain ⟨⟨v,rfl,hv0⟩,hp,hbt⟩:=bw hr hR;obtain ⟨vk,vx,vy,vn,vu,vz,va,hv,o1,o2⟩:=hv0.val;subst hv;have bP:=aO.out.lt;have HS:=ae hbt.size;have dm:=ae (aO.out.call hp hbt);have eX:Hid (az=(match aY L en sR k with | .error z=>.error z | .ok j=>.ok (tr,j))):=ae (by have hq:=bD.out;rw [hR] at hq;exact hq)
   obtain ⟨W6,oU,oW,jP,fZ⟩:=kW u5 27 bO #[.int .i64 vk,.string vx,.string vy,.int .i64 vn,vu,vz,.int .i64 va] rfl;have mb:=ae (dm.out.on fZ);have DT:=ae (hv0.on (bX.of fZ) (Nat.le_of_lt bP));have pX:=ae oU;have pY:=ae oW;have uS:=ae jP;have iA:u5.heap.size≠p:=by have:=dm.out.pr.lt;omega
   have DU:=ae iA;have HM:=ae (ig w0 p L vL en k sR W6 mb.out.pr);have mi:=ae bP;have xE:=ae hv0;have qg:=ae fZ;clear oU oW jP fZ hp hbt hr hv0 iN bD hR bP iA;go_wp2_with (refine wpList_store_mid rfl 27 (.tmp 3) (.tmp 7) rfl u5.heap.size 0 #[.int .i64 vk,.string vx,.string vy,.int .i64 vn,vu,vz,.int .i64 va] rfl rfl pY.out cO (by simp [Value.oneCell'] at o1 o2 ⊢;exact ⟨o1,o2⟩) ?_;rw [pX.out]);refine Calls.mono (show Calls _ _ _ _ _ from HM.out) ?_;intro e u7 hr;cases hR:aY L en sR k with
   | error z =>
    obtain ⟨rfl,hb⟩:=bE hr (dU hR);have HB:=ae hb;have aA:Hid (az=.error z):=ae (by have hq:=eX.out;rw [hR] at hq;exact hq);clear hb hr hR eX HM;go_wp2;exact ⟨rfl,bA aA.out HB.out⟩
   | ok l =>
    obtain ⟨⟨v,rfl,hv⟩,hp,hbt⟩:=bw hr (dU hR);subst hv;have bz:Hid (az=.ok (tr,l)):=ae (by have hq:=eX.out;rw [hR] at hq;exact hq);have lF:=ae (hbt.blk uS.out DU.out);have DV:=ae (mb.out.call hp hbt);have xF:bX u.heap.size W6 u7:=bX.but hbt (by have:=aO.out.pr.lt;omega);have DW:=ae ((xE.out.on (bX.of qg.out) (Nat.le_refl _)).on xF (Nat.le_refl _));clear hr hR eX HM hp hbt xF DT xE qg;have y0:=ak lF.out 0 _ rfl;have y1:=ak lF.out 1 _ rfl;have y2:=ak lF.out 2 _ rfl;have y3:=ak lF.out 3 _ rfl;have y4:=ak lF.out 4 _ rfl;have y5:=ak lF.out 5 _ rfl;have y6:=ak lF.out 6 _ rfl;obtain ⟨W,hW,hth,hbk,hpr,aU,hab⟩:=DV.out.put #[.int .i64 vk,.string vx,.string vy,.int .i64 vn,vu,vz,.int .i64 va] rfl;have HV:=ae (DW.out.on (hab.lo mi.out) (Nat.le_of_lt mi.out));have HW:=ae hW;have aC:=ae hth;have au:=ae hbk;have HF:=ae (And.intro hpr aU);clear hW hth hbk hpr aU hab;go_wp2_with (refine wpList_store_mid rfl 27 (.tmp 2) (.tmp 10) rfl w.heap.size 0 #[.int .i64 vk,.string vx,.string vy,.int .i64 vn,vu,vz,.int .i64 va] rfl rfl aC.out cO (by simp [Value.oneCell'] at o1 o2 ⊢;exact ⟨o1,o2⟩) ?_;rw [HW.out]);have z0:=ak au.out 0 _ rfl;have z1:=ak au.out 1 _ rfl;have z2:=ak au.out 2 _ rfl;have z3:=ak au.out 3 _ rfl;have z4:=ak au.out 4 _ rfl;have z5:=ak au.out 5 _ rfl;have z6:=ak au.out 6 _ rfl;refine bodyPost_ret (v:=.agg #[.int .i64 vk,.string vx,.string vy,.int .i64 vn,vu,vz,.int .i64 va]) (by simp [results,Tryz.results247,go_sem,z0,z1,z2,z3,z4,z5,z6]) rfl (cz bz.out HV.out HF.out.1 HF.out.2)
theorem aav (w0:World) (p:Nat) (L:List Tk) (vL:Value) (en:Int) (i:Nat) (E:Nat->Rd Value) (HE:∀j u,i<j->PR w0 p L vL en j u->Calls Tryz.prog 186 #[.pointer (some ⟨p,0,none⟩)] u (Rp w0 p L vL en (cW u.heap.size) u (E j))) (w:World) (h:PR w0 p L vL en i w) :
  Calls Tryz.prog 234 #[.pointer (some ⟨p,0,none⟩)] w (Rp w0 p L vL en (cW w.heap.size) w (brk L en E i)):=by
 have HA:=ae (AP.start h 101 iz);have HM:=ae (ig w0 p L vL en i sL _ HA.out.pr);obtain ⟨az,aW⟩:∃X,X=brk L en E i:=⟨_,rfl⟩;rw [<- aW];have bT:=ae aW;clear h aW;have cH:=ae HE;clear HE;go_enter Tryz.func234,Tryz.ntmps234;go_wp2_with fail;refine Calls.mono (show Calls _ _ _ _ _ from HM.out) ?_;intro e u hr;cases hR:aY L en sL i with
 | error z =>
  obtain ⟨rfl,hb⟩:=bE hr (dU hR);have HB:=ae hb;have dQ:az=.error z:=by have hq:=bT.out;rw [brk,hR] at hq;exact hq
  have aA:=ae dQ;clear hb HM dQ hR bT;go_wp2;exact ⟨rfl,bA aA.out HB.out⟩
 | ok j =>
  obtain ⟨⟨v,rfl,hv⟩,hp,hbt⟩:=bw hr (dU hR);subst hv;have aO:=ae (HA.out.call hp hbt);have iN:=ae (cH.out j u (fK hR) hp);have bD:Hid (az=(match E j with | .error z=>.error z | .ok (e,j)=>match aY L en sR j with | .error z=>.error z | .ok j=>.ok (e,j))):=ae (by have hq:=bT.out;rw [brk,hR] at hq;exact hq)
  clear hp hbt HM HA hR hr bT cH;go_wp2_with fail;refine Calls.mono (show Calls _ _ _ _ _ from iN.out) ?_;intro e u5 hr;cases hR:E j with
  | error z =>
   obtain ⟨rfl,hb⟩:=bE hr hR;have HB:=ae hb;have aA:Hid (az=.error z):=ae (by have hq:=bD.out;rw [hR] at hq;exact hq);clear hb hr hR iN bD;go_wp2;exact ⟨rfl,bA aA.out HB.out⟩
  | ok r =>
   obtain ⟨tr,k⟩:=r;obtain ⟨⟨v,rfl,hv0⟩,hp,hbt⟩:=bw hr hR;obtain ⟨vk,vx,vn,vu,va,hv,o1⟩:=hv0.val;subst hv;have bP:=aO.out.lt;have HS:=ae hbt.size;have dm:=ae (aO.out.call hp hbt);have eX:Hid (az=(match aY L en sR k with | .error z=>.error z | .ok j=>.ok (tr,j))):=ae (by have hq:=bD.out;rw [hR] at hq;exact hq)
   obtain ⟨W6,oU,oW,jP,fZ⟩:=kW u5 101 iz #[.int .i64 vk,.string vx,.int .i64 vn,vu,.int .i64 va] rfl;have mb:=ae (dm.out.on fZ);have DT:=ae (hv0.on (bX.of fZ) (Nat.le_of_lt bP));have pX:=ae oU;have pY:=ae oW;have uS:=ae jP;have iA:u5.heap.size≠p:=by have:=dm.out.pr.lt;omega
   have DU:=ae iA;have HM:=ae (ig w0 p L vL en k sR W6 mb.out.pr);have mi:=ae bP;have xE:=ae hv0;have qg:=ae fZ;clear oU oW jP fZ hp hbt hr hv0 iN bD hR bP iA;go_wp2_with (refine wpList_store_mid rfl 101 (.tmp 3) (.tmp 7) rfl u5.heap.size 0 #[.int .i64 vk,.string vx,.int .i64 vn,vu,.int .i64 va] rfl rfl pY.out jk (by simp [Value.oneCell'] at o1 ⊢;exact o1) ?_;rw [pX.out]);refine Calls.mono (show Calls _ _ _ _ _ from HM.out) ?_;intro e u7 hr;cases hR:aY L en sR k with
   | error z =>
    obtain ⟨rfl,hb⟩:=bE hr (dU hR);have HB:=ae hb;have aA:Hid (az=.error z):=ae (by have hq:=eX.out;rw [hR] at hq;exact hq);clear hb hr hR eX HM;go_wp2;exact ⟨rfl,bA aA.out HB.out⟩
   | ok l =>
    obtain ⟨⟨v,rfl,hv⟩,hp,hbt⟩:=bw hr (dU hR);subst hv;have bz:Hid (az=.ok (tr,l)):=ae (by have hq:=eX.out;rw [hR] at hq;exact hq);have lF:=ae (hbt.blk uS.out DU.out);have DV:=ae (mb.out.call hp hbt);have xF:bX u.heap.size W6 u7:=bX.but hbt (by have:=aO.out.pr.lt;omega);have DW:=ae ((xE.out.on (bX.of qg.out) (Nat.le_refl _)).on xF (Nat.le_refl _));clear hr hR eX HM hp hbt xF DT xE qg;have y0:=ak lF.out 0 _ rfl;have y1:=ak lF.out 1 _ rfl;have y2:=ak lF.out 2 _ rfl;have y3:=ak lF.out 3 _ rfl;have y4:=ak lF.out 4 _ rfl;obtain ⟨W,hW,hth,hbk,hpr,aU,hab⟩:=DV.out.put #[.int .i64 vk,.string vx,.int .i64 vn,vu,.int .i64 va] rfl;have HV:=ae (DW.out.on (hab.lo mi.out) (Nat.le_of_lt mi.out));have HW:=ae hW;have aC:=ae hth;have au:=ae hbk;have HF:=ae (And.intro hpr aU);clear hW hth hbk hpr aU hab;go_wp2_with (refine wpList_store_mid rfl 101 (.tmp 2) (.tmp 10) rfl w.heap.size 0 #[.int .i64 vk,.string vx,.int .i64 vn,vu,.int .i64 va] rfl rfl aC.out jk (by simp [Value.oneCell'] at o1 ⊢;exact o1) ?_;rw [HW.out]);have z0:=ak au.out 0 _ rfl;have z1:=ak au.out 1 _ rfl;have z2:=ak au.out 2 _ rfl;have z3:=ak au.out 3 _ rfl;have z4:=ak au.out 4 _ rfl;refine bodyPost_ret (v:=.agg #[.int .i64 vk,.string vx,.int .i64 vn,vu,.int .i64 va]) (by simp [results,Tryz.results234,go_sem,z0,z1,z2,z3,z4]) rfl (cz bz.out HV.out HF.out.1 HF.out.2)
theorem aaw (w0:World) (p:Nat) (L:List Tk) (vL:Value) (en:Int) (i:Nat) (E:Nat->Rd Value) (HE:∀j u,i<j->PR w0 p L vL en j u->Calls Tryz.prog 185 #[.pointer (some ⟨p,0,none⟩)] u (Rp w0 p L vL en (fE u.heap.size) u (E j))) (w:World) (h:PR w0 p L vL en i w) :
  Calls Tryz.prog 178 #[.pointer (some ⟨p,0,none⟩)] w (Rp w0 p L vL en (fE w.heap.size) w (brk L en E i)):=by
 have HA:=ae (AP.start h 79 nR);have HM:=ae (ig w0 p L vL en i sL _ HA.out.pr);obtain ⟨az,aW⟩:∃X,X=brk L en E i:=⟨_,rfl⟩;rw [<- aW];have bT:=ae aW;clear h aW;have cH:=ae HE;clear HE;go_enter Tryz.func178,Tryz.ntmps178;go_wp2_with fail;refine Calls.mono (show Calls _ _ _ _ _ from HM.out) ?_;intro e u hr;cases hR:aY L en sL i with
 | error z =>
  obtain ⟨rfl,hb⟩:=bE hr (dU hR);have HB:=ae hb;have dQ:az=.error z:=by have hq:=bT.out;rw [brk,hR] at hq;exact hq
  have aA:=ae dQ;clear hb HM dQ hR bT;go_wp2;exact ⟨rfl,bA aA.out HB.out⟩
 | ok j =>
  obtain ⟨⟨v,rfl,hv⟩,hp,hbt⟩:=bw hr (dU hR);subst hv;have aO:=ae (HA.out.call hp hbt);have iN:=ae (cH.out j u (fK hR) hp);have bD:Hid (az=(match E j with | .error z=>.error z | .ok (e,j)=>match aY L en sR j with | .error z=>.error z | .ok j=>.ok (e,j))):=ae (by have hq:=bT.out;rw [brk,hR] at hq;exact hq)
  clear hp hbt HM HA hR hr bT cH;go_wp2_with fail;refine Calls.mono (show Calls _ _ _ _ _ from iN.out) ?_;intro e u5 hr;cases hR:E j with
  | error z =>
   obtain ⟨rfl,hb⟩:=bE hr hR;have HB:=ae hb;have aA:Hid (az=.error z):=ae (by have hq:=bD.out;rw [hR] at hq;exact hq);clear hb hr hR iN bD;go_wp2;exact ⟨rfl,bA aA.out HB.out⟩
  | ok r =>
   obtain ⟨tr,k⟩:=r;obtain ⟨⟨v,rfl,hv0⟩,hp,hbt⟩:=bw hr hR;obtain ⟨vk,vx,vn,vu,hv,o1⟩:=hv0.val;subst hv;have bP:=aO.out.lt;have HS:=ae hbt.size;have dm:=ae (aO.out.call hp hbt);have eX:Hid (az=(match aY L en sR k with | .error z=>.error z | .ok j=>.ok (tr,j))):=ae (by have hq:=bD.out;rw [hR] at hq;exact hq)
   obtain ⟨W6,oU,oW,jP,fZ⟩:=kW u5 79 nR #[.int .i64 vk,.string vx,.int .i64 vn,vu] rfl;have mb:=ae (dm.out.on fZ);have DT:=ae (hv0.on (bX.of fZ) (Nat.le_of_lt bP));have pX:=ae oU;have pY:=ae oW;have uS:=ae jP;have iA:u5.heap.size≠p:=by have:=dm.out.pr.lt;omega
   have DU:=ae iA;have HM:=ae (ig w0 p L vL en k sR W6 mb.out.pr);have mi:=ae bP;have xE:=ae hv0;have qg:=ae fZ;clear oU oW jP fZ hp hbt hr hv0 iN bD hR bP iA;go_wp2_with (refine wpList_store_mid rfl 79 (.tmp 3) (.tmp 7) rfl u5.heap.size 0 #[.int .i64 vk,.string vx,.int .i64 vn,vu] rfl rfl pY.out jH (by simp [Value.oneCell'] at o1 ⊢;exact o1) ?_;rw [pX.out]);refine Calls.mono (show Calls _ _ _ _ _ from HM.out) ?_;intro e u7 hr;cases hR:aY L en sR k with
   | error z =>
    obtain ⟨rfl,hb⟩:=bE hr (dU hR);have HB:=ae hb;have aA:Hid (az=.error z):=ae (by have hq:=eX.out;rw [hR] at hq;exact hq);clear hb hr hR eX HM;go_wp2;exact ⟨rfl,bA aA.out HB.out⟩
   | ok l =>
    obtain ⟨⟨v,rfl,hv⟩,hp,hbt⟩:=bw hr (dU hR);subst hv;have bz:Hid (az=.ok (tr,l)):=ae (by have hq:=eX.out;rw [hR] at hq;exact hq);have lF:=ae (hbt.blk uS.out DU.out);have DV:=ae (mb.out.call hp hbt);have xF:bX u.heap.size W6 u7:=bX.but hbt (by have:=aO.out.pr.lt;omega);have DW:=ae ((xE.out.on (bX.of qg.out) (Nat.le_refl _)).on xF (Nat.le_refl _));clear hr hR eX HM hp hbt xF DT xE qg;have y0:=ak lF.out 0 _ rfl;have y1:=ak lF.out 1 _ rfl;have y2:=ak lF.out 2 _ rfl;have y3:=ak lF.out 3 _ rfl;obtain ⟨W,hW,hth,hbk,hpr,aU,hab⟩:=DV.out.put #[.int .i64 vk,.string vx,.int .i64 vn,vu] rfl;have HV:=ae (DW.out.on (hab.lo mi.out) (Nat.le_of_lt mi.out));have HW:=ae hW;have aC:=ae hth;have au:=ae hbk;have HF:=ae (And.intro hpr aU);clear hW hth hbk hpr aU hab;go_wp2_with (refine wpList_store_mid rfl 79 (.tmp 2) (.tmp 10) rfl w.heap.size 0 #[.int .i64 vk,.string vx,.int .i64 vn,vu] rfl rfl aC.out jH (by simp [Value.oneCell'] at o1 ⊢;exact o1) ?_;rw [HW.out]);have z0:=ak au.out 0 _ rfl;have z1:=ak au.out 1 _ rfl;have z2:=ak au.out 2 _ rfl;have z3:=ak au.out 3 _ rfl;refine bodyPost_ret (v:=.agg #[.int .i64 vk,.string vx,.int .i64 vn,vu]) (by simp [results,Tryz.results178,go_sem,z0,z1,z2,z3]) rfl (cz bz.out HV.out HF.out.1 HF.out.2)
namespace Pz
def MQ (B:Nat) (g:Option Nat) (w w':World):Prop:=∀k,B<=k->k<w.heap.size->some k≠g->w'.heap[k]?=w.heap[k]?
def sW (V:Value->Value->World->Prop) (B:Nat) (g:Option Nat) (w:World) (t v:Value):Prop:=∀w',MQ B g w w'->V t v w'
section
variable {V:Value->Value->World->Prop} {B:Nat} {g g':Option Nat} {w w':World} {t v:Value}
theorem sW.out (h:sW V B g w t v):V t v w:=h w fun _ _ _ _=>rfl
theorem sW.on (h:sW V B g w t v) (hb:MQ B g w w') (hs:w.heap.size<=w'.heap.size) (hg:g'=g\/g'=some w.heap.size):sW V B g' w' t v:=fun u hu=>h u fun k hk hl hn =>
 (hu k hk (Nat.lt_of_lt_of_le hl hs) (by
  rcases hg with rfl|rfl
  ·exact hn
  ·intro e;injection e with e;omega)).trans (hb k hk hl hn)
def Sv (V:Value->Value->World->Prop) (B:Nat) (e:TypeId) (sz:Nat) (w:World) (v:Value) (ts:List Value):Prop :=
 ∃xs,w.ownsRow B e sz v ts.length xs/\∀k t,ts[k]?=some t->∃cs:Array Value,cs.size=sz/\sW V B v.ownBlock w t (.agg cs)/\∀j u,cs[j]?=some u->xs[k*sz+j]?=some u
variable {e:TypeId} {sz:Nat} {ts:List Value}
theorem Sv.nil (w:World):Sv V B e sz w (.slice none 0 0) []:=⟨[],⟨by simp,.inl ⟨rfl,rfl⟩⟩,fun k t h=>by simp at h⟩
theorem Sv.on (h:Sv V B e sz w v ts) (hb:bX B w w') (hs:w.heap.size<=w'.heap.size):Sv V B e sz w' v ts:=by
 obtain ⟨xs,⟨hl,ho⟩,hx⟩:=h;refine ⟨xs,⟨hl,?_⟩,fun k t hk=>?_⟩
 ·rcases ho with ho|⟨g,cap,cur,h1,h2,h3,h4⟩
  ·exact .inl ho
  ·exact .inr ⟨g,cap,cur,h1,h2,by rw [hb g h2 (Array.getElem?_eq_some_iff.1 h3).1];exact h3,h4⟩
 ·obtain ⟨cs,hc,hr,hj⟩:=hx k t hk;exact ⟨cs,hc,hr.on (fun k hk hl _=>hb k hk hl) hs (.inl rfl),hj⟩
theorem Sv.app {v':Value} {xs:List Value} {cs:Array Value} (ho:w.ownsRow B e sz v ts.length xs) (hx:∀k t,ts[k]?=some t->∃cs:Array Value,cs.size=sz/\sW V B v.ownBlock w t (.agg cs)/\∀j u,cs[j]?=some u->xs[k*sz+j]?=some u)
  (ho':w'.ownsRow B e sz v' (ts.length+1) (xs++cs.toList)) (hg:w.grownBy w' v.ownBlock) (hv:v'.ownBlock=v.ownBlock\/v'.ownBlock=some w.heap.size) (hc:cs.size=sz) (hr:sW V B v.ownBlock w t (.agg cs)):Sv V B e sz w' v' (ts++[t]):=by
 have hb:MQ B v.ownBlock w w':=fun k _ hl hn=>hg.block k hl hn;refine ⟨xs++cs.toList,by simpa using ho',fun k s hk=>?_⟩;by_cases hlt:k<ts.length
 ·rw [List.getElem?_append_left hlt] at hk;obtain ⟨ds,hd,hq,hj⟩:=hx k s hk;refine ⟨ds,hd,hq.on hb hg.size hv,fun j u hu=>?_⟩
  have:=hj j u hu
  rw [List.getElem?_append_left (List.getElem?_eq_some_iff.1 this).1];exact this
 ·rw [List.getElem?_append_right (by omega)] at hk
  have hk0:k-ts.length=0:=by
   have:=(List.getElem?_eq_some_iff.1 hk).1;simp at this;omega
  have hke:k=ts.length:=by omega
  subst hke;simp at hk;subst hk;refine ⟨cs,hc,hr.on hb hg.size hv,fun j u hu=>?_⟩;rw [List.getElem?_append_right (by rw [ho.1];omega),ho.1,Nat.add_sub_cancel_left];simpa using hu
theorem D5 {P:Nat->Nat->Value->Prop} (hup:∀d e k t,d<=e->P d k t->P e k t):∀n,(∀k t,k<n->ts[k]?=some t->∃d,P d k t)->∃d,∀k t,k<n->ts[k]?=some t->P d k t
 | 0,_=>⟨0,fun k t h=>absurd h (Nat.not_lt_zero _)⟩
 | n+1,h=>by
  obtain ⟨d,hd⟩:=D5 hup n fun k t hk=>h k t (by omega);cases hn:ts[n]? with
  | none =>
   refine ⟨d,fun k t hk ht=>hd k t ?_ ht⟩;rcases Nat.lt_or_ge k n with h1|h1
   ·exact h1
   ·have:k=n:=by omega
    subst this;rw [hn] at ht;cases ht
  | some s =>
   obtain ⟨d',hd'⟩:=h n s (by omega) hn;refine ⟨d+d',fun k t hk ht=>?_⟩;rcases Nat.lt_or_ge k n with h1|h1
   ·exact hup d _ k t (by omega) (hd k t h1 ht)
   ·have:k=n:=by omega
    subst this;rw [hn] at ht;injection ht with ht;subst ht;exact hup d' _ _ _ (by omega) hd'
theorem Sv.row {F:Nat->Nat->Nat->Value->Prop} (hF:∀d b o t,F d b o t->F (d+1) b o t) (h:Sv V B e sz w v ts) (hn:ts.length<=9223372036854775807)
  (hV:∀(t:Value) (cs:Array Value) (b o:Nat),V t (.agg cs) w->B<=b->(∀j u,cs[j]?=some u->w.cell? ⟨b,o+j,none⟩=some u)->∃d,F d b o t):∃d,Row sz (F d) v ts:=by
 obtain ⟨xs,hown,hx⟩:=h;rcases hown.2 with ⟨rfl,h0⟩|⟨g,cap,cur,rfl,hB,hg,_⟩
 ·exact ⟨0,hn,.inl ⟨List.eq_nil_of_length_eq_zero h0,none,0,rfl⟩⟩
 ·have hcell:=hown.cells (g:=g) rfl
  obtain ⟨d,hd⟩:=D5 (ts:=ts) (P:=fun d k t=>F d g (k*sz) t) (fun d e k t hde hp=>ug hF hde hp) ts.length fun k t _ hk=>by
   obtain ⟨cs,hc,hr,hj⟩:=hx k t hk;refine hV t cs g (k*sz) hr.out hB fun j u hu=>?_
   have:=hcell _ u (hj j u hu)
   have ha:(⟨g,0,none⟩:Addr).add (k*sz+j)=⟨g,k*sz+j,none⟩:=by
    by_cases h0:k*sz+j=0
    ·rw [h0];rfl
    ·simp only [Addr.add,if_neg h0,Nat.zero_add]
   rw [ha] at this;exact this
  exact ⟨d,hn,.inr ⟨g,0,cap,rfl,fun k t hk=>by rw [Nat.zero_add];exact hd k t (List.getElem?_eq_some_iff.1 hk).1 hk⟩⟩
end
theorem abS {B C:Nat} {g:Option Nat} {w:World} {t v:Value} (h:aX C t v w) (hB:B<=C) (hg:∀k,g=some k->k<C):sW (aX B) B g w t v:=fun w' hw =>
 h.on (fun k hk hl=>hw k (Nat.le_trans hB hk) hl (fun e=>by have:=hg k e.symm;omega)) hB
theorem abU {B C:Nat} {g:Option Nat} {w:World} {t v:Value} (h:cW C t v w) (hB:B<=C) (hg:∀k,g=some k->k<C):sW (cW B) B g w t v:=fun w' hw =>
 h.on (fun k hk hl=>hw k (Nat.le_trans hB hk) hl (fun e=>by have:=hg k e.symm;omega)) hB
theorem abW {B C:Nat} {g:Option Nat} {w:World} {t v:Value} (h:fE C t v w) (hB:B<=C) (hg:∀k,g=some k->k<C):sW (fE B) B g w t v:=fun w' hw =>
 h.on (fun k hk hl=>hw k (Nat.le_trans hB hk) hl (fun e=>by have:=hg k e.symm;omega)) hB
theorem D6 {B:Nat} {w:World} {t:Value} {cs:Array Value} {b o:Nat} (h:aX B t (.agg cs) w) (hB:B<=b) (hc:∀j u,cs[j]?=some u->w.cell? ⟨b,o+j,none⟩=some u):∃d,dW B w d b o t:=by
 obtain ⟨d,k,x,y,n,es,ps,a,u,z,h0,h1,h2,h3⟩:=h;injection h1 with h1;subst h1;exact ⟨d+1,hB,k,x,y,n,es,ps,a,u,z,h0,hc 0 _ rfl,hc 1 _ rfl,hc 2 _ rfl,hc 3 _ rfl,hc 4 _ rfl,hc 5 _ rfl,hc 6 _ rfl,h2,h3⟩
theorem KM {B:Nat} {w:World} {t:Value} {cs:Array Value} {b o:Nat} (h:cW B t (.agg cs) w) (hB:B<=b) (hc:∀j u,cs[j]?=some u->w.cell? ⟨b,o+j,none⟩=some u):∃d,di B w d b o t:=by
 obtain ⟨d,k,x,n,es,a,u,h0,h1,h2⟩:=h;injection h1 with h1;subst h1;exact ⟨d+1,hB,k,x,n,es,a,u,h0,hc 0 _ rfl,hc 1 _ rfl,hc 2 _ rfl,hc 3 _ rfl,hc 4 _ rfl,h2⟩
theorem RG {B:Nat} {w:World} {t:Value} {cs:Array Value} {b o:Nat} (h:fE B t (.agg cs) w) (hB:B<=b) (hc:∀j u,cs[j]?=some u->w.cell? ⟨b,o+j,none⟩=some u):∃d,eM B w d b o t:=by
 obtain ⟨d,k,x,n,es,u,h0,h1,h2⟩:=h;injection h1 with h1;subst h1;exact ⟨d+1,hB,k,x,n,es,u,h0,hc 0 _ rfl,hc 1 _ rfl,hc 2 _ rfl,hc 3 _ rfl,h2⟩
end Pz
end Go.Proofs.YtkdbgopgjbfhbaaGreatDoor
