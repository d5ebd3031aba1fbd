/- Texts that the claim needs. -/
import Derived.Test.YtkdbgopgjbfhbaaGreatDoorQPS9
import Derived.Test.YtkdbgopgjbfhbaaGreatDoorQPS5
namespace Go.Proofs.YtkdbgopgjbfhbaaGreatDoor
open Go.RowKit Lx Pz bb
set_option linter.unusedVariables false
set_option maxRecDepth 100000
set_option maxHeartbeats 8000000
namespace Pz
theorem l4 (u:World) (T:TypeId) (z vs:Array Value) (hz:z.size=vs.size) :
  ∃W,(u.alloc (.cells z T)).setCells u.heap.size 0 vs.toList=W/\(u.alloc (.cells z T)).there u.heap.size 0 vs.size/\W.heap[u.heap.size]?=some (.cells vs T (0,0))/\Below u.heap.size u W:=by
 have hn:(u.alloc (.cells z T)).heap[u.heap.size]?=some (.cells z T (0,0)):=heap_alloc_new _ _;refine ⟨_,rfl,by have:=CP hn;rw [hz] at this;exact this,CQ hn hz,?_⟩;exact mY _ _ (Nat.le_refl _) vs.toList 0 _ _ ((Below.refl _ u).alloc (Nat.le_refl _) _)
theorem But.blk {p g:Nat} {u u':World} {T:TypeId} {cs:Array Value} (h:But p u u') (hg:u.heap[g]?=some (.cells cs T (0,0))) (hp:g≠p):u'.heap[g]?=some (.cells cs T (0,0)):=by
 rw [h.block g (Array.getElem?_eq_some_iff.1 hg).1 hp];exact hg
theorem bT.trans {p:Nat} {u v w:World} (h:bT p u v) (hs:u.heap.size<=v.heap.size) (h':bT p v w):bT p u w:=fun k hk hl=>(h' k hk (Nat.lt_of_lt_of_le hl hs)).trans (h k hk hl)
def Sd (t:Tk) (x:Except Int Nat):Rd Int:=match x with | .ok j=>.ok (t.a,j) | .error z=>.error z
theorem dO {L:List Tk} {en:Int} {s:ByteArray} {i:Nat} {X:Except Int Nat} (h:aX L en s i=X):Sd (tk L en i) (aX L en s i)=Sd (tk L en i) X:=by rw [h]
theorem fL {L:List Tk} {en:Int} {s:ByteArray} {i j:Nat} (h:aX L en s i=.ok j):i<j:=by
 unfold aX at h;split at h
 ·injection h with h;omega
 ·cases h
theorem lK {L:List Tk} {en:Int} {k:Int} {i j:Nat} {t:Tk} (h:bM L en k i=.ok (t,j)):i<j:=by
 unfold bM at h;split at h
 ·injection h with h;injection h with _ h;omega
 ·cases h
end Pz
theorem aaR (w0:World) (p:Nat) (L:List Tk) (vL:Value) (en:Int) (i:Nat) (E:Nat->Rd Value) (HE:∀j u,i<j->PR w0 p L vL en j u->Calls Tryz.prog 60 #[.pointer (some ⟨p,0,none⟩)] u (Rp w0 p L vL en (aY u.heap.size) u (E j))) (w:World) (h:PR w0 p L vL en i w) :
  Calls Tryz.prog 247 #[.pointer (some ⟨p,0,none⟩)] w (Rp w0 p L vL en (aY w.heap.size) w (brk L en E i)):=by
 have HA:=ae (AP.start h 27 bK);have HM:=ae (gZ w0 p L vL en i sL _ HA.out.pr);obtain ⟨ak,aT⟩:∃X,X=brk L en E i:=⟨_,rfl⟩;rw [<- aT];have bO:=ae aT;clear h aT;have ck:=ae HE;clear HE;go_enter Tryz.func247,Tryz.ntmps247;go_wp2_with fail;refine Calls.mono (show Calls _ _ _ _ _ from HM.out) ?_;intro e u hr;cases hR:aX L en sL i with
 | error z =>
  obtain ⟨rfl,hb⟩:=bz hr (dO hR);have HB:=ae hb;have dL:ak=.error z:=by have hq:=bO.out;rw [brk,hR] at hq;exact hq
  have ay:=ae dL;clear hb HM dL hR bO;go_wp2;exact ⟨rfl,bn ay.out HB.out⟩
 | ok j =>
  obtain ⟨⟨v,rfl,hv⟩,hp,hbt⟩:=bf hr (dO hR);subst hv;have aB:=ae (HA.out.call hp hbt);have iP:=ae (ck.out j u (fL hR) hp);have bu:Hid (ak=(match E j with | .error z=>.error z | .ok (e,j)=>match aX L en sR j with | .error z=>.error z | .ok j=>.ok (e,j))):=ae (by have hq:=bO.out;rw [brk,hR] at hq;exact hq)
  clear hp hbt HM HA hR hr bO ck;go_wp2_with fail;refine Calls.mono (show Calls _ _ _ _ _ from iP.out) ?_;intro e u5 hr;cases hR:E j with
  | error z =>
   obtain ⟨rfl,hb⟩:=bz hr hR;have HB:=ae hb;have ay:Hid (ak=.error z):=ae (by have hq:=bu.out;rw [hR] at hq;exact hq);clear hb hr hR iP bu;go_wp2;exact ⟨rfl,bn ay.out HB.out⟩
  | ok r =>
   obtain ⟨tr,k⟩:=r;obtain ⟨⟨v,rfl,hv0⟩,hp,hbt⟩:=bf hr hR;obtain ⟨vk,vx,vy,vn,vu,vz,va,hv,o1,o2⟩:=hv0.val;subst hv;have bL:=aB.out.lt;have HS:=ae hbt.size;have cZ:=ae (aB.out.call hp hbt);have dZ:Hid (ak=(match aX L en sR k with | .error z=>.error z | .ok j=>.ok (tr,j))):=ae (by have hq:=bu.out;rw [hR] at hq;exact hq)
   obtain ⟨W6,nZ,og,jQ,ik⟩:=l4 u5 27 bK #[.int .i64 vk,.string vx,.string vy,.int .i64 vn,vu,vz,.int .i64 va] rfl;have l5:=ae (cZ.out.on ik);have DT:=ae (hv0.on (bT.of ik) (Nat.le_of_lt bL));have pq:=ae nZ;have pE:=ae og;have uH:=ae jQ;have iB:u5.heap.size≠p:=by have:=cZ.out.pr.lt;omega
   have DU:=ae iB;have HM:=ae (gZ w0 p L vL en k sR W6 l5.out.pr);have kv:=ae bL;have xj:=ae hv0;have tu:=ae ik;clear nZ og jQ ik hp hbt hr hv0 iP bu hR bL iB;go_wp2_with (refine wpList_store_mid rfl 27 (.tmp 3) (.tmp 7) rfl u5.heap.size 0 #[.int .i64 vk,.string vx,.string vy,.int .i64 vn,vu,vz,.int .i64 va] rfl rfl pE.out cz (by simp [Value.oneCell'] at o1 o2 ⊢;exact ⟨o1,o2⟩) ?_;rw [pq.out]);refine Calls.mono (show Calls _ _ _ _ _ from HM.out) ?_;intro e u7 hr;cases hR:aX L en sR k with
   | error z =>
    obtain ⟨rfl,hb⟩:=bz hr (dO hR);have HB:=ae hb;have ay:Hid (ak=.error z):=ae (by have hq:=dZ.out;rw [hR] at hq;exact hq);clear hb hr hR dZ HM;go_wp2;exact ⟨rfl,bn ay.out HB.out⟩
   | ok l =>
    obtain ⟨⟨v,rfl,hv⟩,hp,hbt⟩:=bf hr (dO hR);subst hv;have bh:Hid (ak=.ok (tr,l)):=ae (by have hq:=dZ.out;rw [hR] at hq;exact hq);have lD:=ae (hbt.blk uH.out DU.out);have DV:=ae (l5.out.call hp hbt);have xk:bT u.heap.size W6 u7:=bT.but hbt (by have:=aB.out.pr.lt;omega);have DW:=ae ((xj.out.on (bT.of tu.out) (Nat.le_refl _)).on xk (Nat.le_refl _));clear hr hR dZ HM hp hbt xk DT xj tu;have y0:=af lD.out 0 _ rfl;have y1:=af lD.out 1 _ rfl;have y2:=af lD.out 2 _ rfl;have y3:=af lD.out 3 _ rfl;have y4:=af lD.out 4 _ rfl;have y5:=af lD.out 5 _ rfl;have y6:=af lD.out 6 _ rfl;obtain ⟨W,hW,hth,hbk,hpr,aO,hab⟩:=DV.out.put #[.int .i64 vk,.string vx,.string vy,.int .i64 vn,vu,vz,.int .i64 va] rfl;have HV:=ae (DW.out.on (hab.lo kv.out) (Nat.le_of_lt kv.out));have HW:=ae hW;have ax:=ae hth;have aj:=ae hbk;have HF:=ae (And.intro hpr aO);clear hW hth hbk hpr aO hab;go_wp2_with (refine wpList_store_mid rfl 27 (.tmp 2) (.tmp 10) rfl w.heap.size 0 #[.int .i64 vk,.string vx,.string vy,.int .i64 vn,vu,vz,.int .i64 va] rfl rfl ax.out cz (by simp [Value.oneCell'] at o1 o2 ⊢;exact ⟨o1,o2⟩) ?_;rw [HW.out]);have z0:=af aj.out 0 _ rfl;have z1:=af aj.out 1 _ rfl;have z2:=af aj.out 2 _ rfl;have z3:=af aj.out 3 _ rfl;have z4:=af aj.out 4 _ rfl;have z5:=af aj.out 5 _ rfl;have z6:=af aj.out 6 _ rfl;refine bodyPost_ret (v:=.agg #[.int .i64 vk,.string vx,.string vy,.int .i64 vn,vu,vz,.int .i64 va]) (by simp [results,Tryz.results247,go_sem,z0,z1,z2,z3,z4,z5,z6]) rfl (bY bh.out HV.out HF.out.1 HF.out.2)
theorem aaS (w0:World) (p:Nat) (L:List Tk) (vL:Value) (en:Int) (i:Nat) (E:Nat->Rd Value) (HE:∀j u,i<j->PR w0 p L vL en j u->Calls Tryz.prog 186 #[.pointer (some ⟨p,0,none⟩)] u (Rp w0 p L vL en (cG u.heap.size) u (E j))) (w:World) (h:PR w0 p L vL en i w) :
  Calls Tryz.prog 234 #[.pointer (some ⟨p,0,none⟩)] w (Rp w0 p L vL en (cG w.heap.size) w (brk L en E i)):=by
 have HA:=ae (AP.start h 101 iA);have HM:=ae (gZ w0 p L vL en i sL _ HA.out.pr);obtain ⟨ak,aT⟩:∃X,X=brk L en E i:=⟨_,rfl⟩;rw [<- aT];have bO:=ae aT;clear h aT;have ck:=ae HE;clear HE;go_enter Tryz.func234,Tryz.ntmps234;go_wp2_with fail;refine Calls.mono (show Calls _ _ _ _ _ from HM.out) ?_;intro e u hr;cases hR:aX L en sL i with
 | error z =>
  obtain ⟨rfl,hb⟩:=bz hr (dO hR);have HB:=ae hb;have dL:ak=.error z:=by have hq:=bO.out;rw [brk,hR] at hq;exact hq
  have ay:=ae dL;clear hb HM dL hR bO;go_wp2;exact ⟨rfl,bn ay.out HB.out⟩
 | ok j =>
  obtain ⟨⟨v,rfl,hv⟩,hp,hbt⟩:=bf hr (dO hR);subst hv;have aB:=ae (HA.out.call hp hbt);have iP:=ae (ck.out j u (fL hR) hp);have bu:Hid (ak=(match E j with | .error z=>.error z | .ok (e,j)=>match aX L en sR j with | .error z=>.error z | .ok j=>.ok (e,j))):=ae (by have hq:=bO.out;rw [brk,hR] at hq;exact hq)
  clear hp hbt HM HA hR hr bO ck;go_wp2_with fail;refine Calls.mono (show Calls _ _ _ _ _ from iP.out) ?_;intro e u5 hr;cases hR:E j with
  | error z =>
   obtain ⟨rfl,hb⟩:=bz hr hR;have HB:=ae hb;have ay:Hid (ak=.error z):=ae (by have hq:=bu.out;rw [hR] at hq;exact hq);clear hb hr hR iP bu;go_wp2;exact ⟨rfl,bn ay.out HB.out⟩
  | ok r =>
   obtain ⟨tr,k⟩:=r;obtain ⟨⟨v,rfl,hv0⟩,hp,hbt⟩:=bf hr hR;obtain ⟨vk,vx,vn,vu,va,hv,o1⟩:=hv0.val;subst hv;have bL:=aB.out.lt;have HS:=ae hbt.size;have cZ:=ae (aB.out.call hp hbt);have dZ:Hid (ak=(match aX L en sR k with | .error z=>.error z | .ok j=>.ok (tr,j))):=ae (by have hq:=bu.out;rw [hR] at hq;exact hq)
   obtain ⟨W6,nZ,og,jQ,ik⟩:=l4 u5 101 iA #[.int .i64 vk,.string vx,.int .i64 vn,vu,.int .i64 va] rfl;have l5:=ae (cZ.out.on ik);have DT:=ae (hv0.on (bT.of ik) (Nat.le_of_lt bL));have pq:=ae nZ;have pE:=ae og;have uH:=ae jQ;have iB:u5.heap.size≠p:=by have:=cZ.out.pr.lt;omega
   have DU:=ae iB;have HM:=ae (gZ w0 p L vL en k sR W6 l5.out.pr);have kv:=ae bL;have xj:=ae hv0;have tu:=ae ik;clear nZ og jQ ik hp hbt hr hv0 iP bu hR bL iB;go_wp2_with (refine wpList_store_mid rfl 101 (.tmp 3) (.tmp 7) rfl u5.heap.size 0 #[.int .i64 vk,.string vx,.int .i64 vn,vu,.int .i64 va] rfl rfl pE.out jk (by simp [Value.oneCell'] at o1 ⊢;exact o1) ?_;rw [pq.out]);refine Calls.mono (show Calls _ _ _ _ _ from HM.out) ?_;intro e u7 hr;cases hR:aX L en sR k with
   | error z =>
    obtain ⟨rfl,hb⟩:=bz hr (dO hR);have HB:=ae hb;have ay:Hid (ak=.error z):=ae (by have hq:=dZ.out;rw [hR] at hq;exact hq);clear hb hr hR dZ HM;go_wp2;exact ⟨rfl,bn ay.out HB.out⟩
   | ok l =>
    obtain ⟨⟨v,rfl,hv⟩,hp,hbt⟩:=bf hr (dO hR);subst hv;have bh:Hid (ak=.ok (tr,l)):=ae (by have hq:=dZ.out;rw [hR] at hq;exact hq);have lD:=ae (hbt.blk uH.out DU.out);have DV:=ae (l5.out.call hp hbt);have xk:bT u.heap.size W6 u7:=bT.but hbt (by have:=aB.out.pr.lt;omega);have DW:=ae ((xj.out.on (bT.of tu.out) (Nat.le_refl _)).on xk (Nat.le_refl _));clear hr hR dZ HM hp hbt xk DT xj tu;have y0:=af lD.out 0 _ rfl;have y1:=af lD.out 1 _ rfl;have y2:=af lD.out 2 _ rfl;have y3:=af lD.out 3 _ rfl;have y4:=af lD.out 4 _ rfl;obtain ⟨W,hW,hth,hbk,hpr,aO,hab⟩:=DV.out.put #[.int .i64 vk,.string vx,.int .i64 vn,vu,.int .i64 va] rfl;have HV:=ae (DW.out.on (hab.lo kv.out) (Nat.le_of_lt kv.out));have HW:=ae hW;have ax:=ae hth;have aj:=ae hbk;have HF:=ae (And.intro hpr aO);clear hW hth hbk hpr aO hab;go_wp2_with (refine wpList_store_mid rfl 101 (.tmp 2) (.tmp 10) rfl w.heap.size 0 #[.int .i64 vk,.string vx,.int .i64 vn,vu,.int .i64 va] rfl rfl ax.out jk (by simp [Value.oneCell'] at o1 ⊢;exact o1) ?_;rw [HW.out]);have z0:=af aj.out 0 _ rfl;have z1:=af aj.out 1 _ rfl;have z2:=af aj.out 2 _ rfl;have z3:=af aj.out 3 _ rfl;have z4:=af aj.out 4 _ rfl;refine bodyPost_ret (v:=.agg #[.int .i64 vk,.string vx,.int .i64 vn,vu,.int .i64 va]) (by simp [results,Tryz.results234,go_sem,z0,z1,z2,z3,z4]) rfl (bY bh.out HV.out HF.out.1 HF.out.2)
theorem aaT (w0:World) (p:Nat) (L:List Tk) (vL:Value) (en:Int) (i:Nat) (E:Nat->Rd Value) (HE:∀j u,i<j->PR w0 p L vL en j u->Calls Tryz.prog 185 #[.pointer (some ⟨p,0,none⟩)] u (Rp w0 p L vL en (fC u.heap.size) u (E j))) (w:World) (h:PR w0 p L vL en i w) :
  Calls Tryz.prog 178 #[.pointer (some ⟨p,0,none⟩)] w (Rp w0 p L vL en (fC w.heap.size) w (brk L en E i)):=by
 have HA:=ae (AP.start h 79 nz);have HM:=ae (gZ w0 p L vL en i sL _ HA.out.pr);obtain ⟨ak,aT⟩:∃X,X=brk L en E i:=⟨_,rfl⟩;rw [<- aT];have bO:=ae aT;clear h aT;have ck:=ae HE;clear HE;go_enter Tryz.func178,Tryz.ntmps178;go_wp2_with fail;refine Calls.mono (show Calls _ _ _ _ _ from HM.out) ?_;intro e u hr;cases hR:aX L en sL i with
 | error z =>
  obtain ⟨rfl,hb⟩:=bz hr (dO hR);have HB:=ae hb;have dL:ak=.error z:=by have hq:=bO.out;rw [brk,hR] at hq;exact hq
  have ay:=ae dL;clear hb HM dL hR bO;go_wp2;exact ⟨rfl,bn ay.out HB.out⟩
 | ok j =>
  obtain ⟨⟨v,rfl,hv⟩,hp,hbt⟩:=bf hr (dO hR);subst hv;have aB:=ae (HA.out.call hp hbt);have iP:=ae (ck.out j u (fL hR) hp);have bu:Hid (ak=(match E j with | .error z=>.error z | .ok (e,j)=>match aX L en sR j with | .error z=>.error z | .ok j=>.ok (e,j))):=ae (by have hq:=bO.out;rw [brk,hR] at hq;exact hq)
  clear hp hbt HM HA hR hr bO ck;go_wp2_with fail;refine Calls.mono (show Calls _ _ _ _ _ from iP.out) ?_;intro e u5 hr;cases hR:E j with
  | error z =>
   obtain ⟨rfl,hb⟩:=bz hr hR;have HB:=ae hb;have ay:Hid (ak=.error z):=ae (by have hq:=bu.out;rw [hR] at hq;exact hq);clear hb hr hR iP bu;go_wp2;exact ⟨rfl,bn ay.out HB.out⟩
  | ok r =>
   obtain ⟨tr,k⟩:=r;obtain ⟨⟨v,rfl,hv0⟩,hp,hbt⟩:=bf hr hR;obtain ⟨vk,vx,vn,vu,hv,o1⟩:=hv0.val;subst hv;have bL:=aB.out.lt;have HS:=ae hbt.size;have cZ:=ae (aB.out.call hp hbt);have dZ:Hid (ak=(match aX L en sR k with | .error z=>.error z | .ok j=>.ok (tr,j))):=ae (by have hq:=bu.out;rw [hR] at hq;exact hq)
   obtain ⟨W6,nZ,og,jQ,ik⟩:=l4 u5 79 nz #[.int .i64 vk,.string vx,.int .i64 vn,vu] rfl;have l5:=ae (cZ.out.on ik);have DT:=ae (hv0.on (bT.of ik) (Nat.le_of_lt bL));have pq:=ae nZ;have pE:=ae og;have uH:=ae jQ;have iB:u5.heap.size≠p:=by have:=cZ.out.pr.lt;omega
   have DU:=ae iB;have HM:=ae (gZ w0 p L vL en k sR W6 l5.out.pr);have kv:=ae bL;have xj:=ae hv0;have tu:=ae ik;clear nZ og jQ ik hp hbt hr hv0 iP bu hR bL iB;go_wp2_with (refine wpList_store_mid rfl 79 (.tmp 3) (.tmp 7) rfl u5.heap.size 0 #[.int .i64 vk,.string vx,.int .i64 vn,vu] rfl rfl pE.out jK (by simp [Value.oneCell'] at o1 ⊢;exact o1) ?_;rw [pq.out]);refine Calls.mono (show Calls _ _ _ _ _ from HM.out) ?_;intro e u7 hr;cases hR:aX L en sR k with
   | error z =>
    obtain ⟨rfl,hb⟩:=bz hr (dO hR);have HB:=ae hb;have ay:Hid (ak=.error z):=ae (by have hq:=dZ.out;rw [hR] at hq;exact hq);clear hb hr hR dZ HM;go_wp2;exact ⟨rfl,bn ay.out HB.out⟩
   | ok l =>
    obtain ⟨⟨v,rfl,hv⟩,hp,hbt⟩:=bf hr (dO hR);subst hv;have bh:Hid (ak=.ok (tr,l)):=ae (by have hq:=dZ.out;rw [hR] at hq;exact hq);have lD:=ae (hbt.blk uH.out DU.out);have DV:=ae (l5.out.call hp hbt);have xk:bT u.heap.size W6 u7:=bT.but hbt (by have:=aB.out.pr.lt;omega);have DW:=ae ((xj.out.on (bT.of tu.out) (Nat.le_refl _)).on xk (Nat.le_refl _));clear hr hR dZ HM hp hbt xk DT xj tu;have y0:=af lD.out 0 _ rfl;have y1:=af lD.out 1 _ rfl;have y2:=af lD.out 2 _ rfl;have y3:=af lD.out 3 _ rfl;obtain ⟨W,hW,hth,hbk,hpr,aO,hab⟩:=DV.out.put #[.int .i64 vk,.string vx,.int .i64 vn,vu] rfl;have HV:=ae (DW.out.on (hab.lo kv.out) (Nat.le_of_lt kv.out));have HW:=ae hW;have ax:=ae hth;have aj:=ae hbk;have HF:=ae (And.intro hpr aO);clear hW hth hbk hpr aO hab;go_wp2_with (refine wpList_store_mid rfl 79 (.tmp 2) (.tmp 10) rfl w.heap.size 0 #[.int .i64 vk,.string vx,.int .i64 vn,vu] rfl rfl ax.out jK (by simp [Value.oneCell'] at o1 ⊢;exact o1) ?_;rw [HW.out]);have z0:=af aj.out 0 _ rfl;have z1:=af aj.out 1 _ rfl;have z2:=af aj.out 2 _ rfl;have z3:=af aj.out 3 _ rfl;refine bodyPost_ret (v:=.agg #[.int .i64 vk,.string vx,.int .i64 vn,vu]) (by simp [results,Tryz.results178,go_sem,z0,z1,z2,z3]) rfl (bY bh.out HV.out HF.out.1 HF.out.2)
namespace Pz
def MB (B:Nat) (g:Option Nat) (w w':World):Prop:=∀k,B<=k->k<w.heap.size->some k≠g->w'.heap[k]?=w.heap[k]?
def sw (V:Value->Value->World->Prop) (B:Nat) (g:Option Nat) (w:World) (t v:Value):Prop:=∀w',MB B g w w'->V t v w'
section
variable {V:Value->Value->World->Prop} {B:Nat} {g g':Option Nat} {w w':World} {t v:Value}
theorem sw.out (h:sw V B g w t v):V t v w:=h w fun _ _ _ _=>rfl
theorem sw.on (h:sw V B g w t v) (hb:MB B g w w') (hs:w.heap.size<=w'.heap.size) (hg:g'=g\/g'=some w.heap.size):sw V B g' w' t v:=fun u hu=>h u fun k hk hl hn =>
 (hu k hk (Nat.lt_of_lt_of_le hl hs) (by
  rcases hg with rfl|rfl
  ·exact hn
  ·intro e;injection e with e;omega)).trans (hb k hk hl hn)
def Sv (V:Value->Value->World->Prop) (B:Nat) (e:TypeId) (sz:Nat) (w:World) (v:Value) (ts:List Value):Prop :=
 ∃xs,w.ownsRow B e sz v ts.length xs/\∀k t,ts[k]?=some t->∃cs:Array Value,cs.size=sz/\sw V B v.ownBlock w t (.agg cs)/\∀j u,cs[j]?=some u->xs[k*sz+j]?=some u
variable {e:TypeId} {sz:Nat} {ts:List Value}
theorem Sv.nil (w:World):Sv V B e sz w (.slice none 0 0) []:=⟨[],⟨by simp,.inl ⟨rfl,rfl⟩⟩,fun k t h=>by simp at h⟩
theorem Sv.on (h:Sv V B e sz w v ts) (hb:bT B w w') (hs:w.heap.size<=w'.heap.size):Sv V B e sz w' v ts:=by
 obtain ⟨xs,⟨hl,ho⟩,hx⟩:=h;refine ⟨xs,⟨hl,?_⟩,fun k t hk=>?_⟩
 ·rcases ho with ho|⟨g,cap,cur,h1,h2,h3,h4⟩
  ·exact .inl ho
  ·exact .inr ⟨g,cap,cur,h1,h2,by rw [hb g h2 (Array.getElem?_eq_some_iff.1 h3).1];exact h3,h4⟩
 ·obtain ⟨cs,hc,hr,hj⟩:=hx k t hk;exact ⟨cs,hc,hr.on (fun k hk hl _=>hb k hk hl) hs (.inl rfl),hj⟩
theorem Sv.app {v':Value} {xs:List Value} {cs:Array Value} (ho:w.ownsRow B e sz v ts.length xs) (hx:∀k t,ts[k]?=some t->∃cs:Array Value,cs.size=sz/\sw V B v.ownBlock w t (.agg cs)/\∀j u,cs[j]?=some u->xs[k*sz+j]?=some u)
  (ho':w'.ownsRow B e sz v' (ts.length+1) (xs++cs.toList)) (hg:w.grownBy w' v.ownBlock) (hv:v'.ownBlock=v.ownBlock\/v'.ownBlock=some w.heap.size) (hc:cs.size=sz) (hr:sw V B v.ownBlock w t (.agg cs)):Sv V B e sz w' v' (ts++[t]):=by
 have hb:MB B v.ownBlock w w':=fun k _ hl hn=>hg.block k hl hn;refine ⟨xs++cs.toList,by simpa using ho',fun k s hk=>?_⟩;by_cases hlt:k<ts.length
 ·rw [List.getElem?_append_left hlt] at hk;obtain ⟨ds,hd,hq,hj⟩:=hx k s hk;refine ⟨ds,hd,hq.on hb hg.size hv,fun j u hu=>?_⟩
  have:=hj j u hu
  rw [List.getElem?_append_left (List.getElem?_eq_some_iff.1 this).1];exact this
 ·rw [List.getElem?_append_right (by omega)] at hk
  have hk0:k-ts.length=0:=by
   have:=(List.getElem?_eq_some_iff.1 hk).1;simp at this;omega
  have hke:k=ts.length:=by omega
  subst hke;simp at hk;subst hk;refine ⟨cs,hc,hr.on hb hg.size hv,fun j u hu=>?_⟩;rw [List.getElem?_append_right (by rw [ho.1];omega),ho.1,Nat.add_sub_cancel_left];simpa using hu
theorem GA {P:Nat->Nat->Value->Prop} (hup:∀d e k t,d<=e->P d k t->P e k t):∀n,(∀k t,k<n->ts[k]?=some t->∃d,P d k t)->∃d,∀k t,k<n->ts[k]?=some t->P d k t
 | 0,_=>⟨0,fun k t h=>absurd h (Nat.not_lt_zero _)⟩
 | n+1,h=>by
  obtain ⟨d,hd⟩:=GA hup n fun k t hk=>h k t (by omega);cases hn:ts[n]? with
  | none =>
   refine ⟨d,fun k t hk ht=>hd k t ?_ ht⟩;rcases Nat.lt_or_ge k n with h1|h1
   ·exact h1
   ·have:k=n:=by omega
    subst this;rw [hn] at ht;cases ht
  | some s =>
   obtain ⟨d',hd'⟩:=h n s (by omega) hn;refine ⟨d+d',fun k t hk ht=>?_⟩;rcases Nat.lt_or_ge k n with h1|h1
   ·exact hup d _ k t (by omega) (hd k t h1 ht)
   ·have:k=n:=by omega
    subst this;rw [hn] at ht;injection ht with ht;subst ht;exact hup d' _ _ _ (by omega) hd'
theorem Sv.row {F:Nat->Nat->Nat->Value->Prop} (hF:∀d b o t,F d b o t->F (d+1) b o t) (h:Sv V B e sz w v ts) (hn:ts.length<=9223372036854775807)
  (hV:∀(t:Value) (cs:Array Value) (b o:Nat),V t (.agg cs) w->B<=b->(∀j u,cs[j]?=some u->w.cell? ⟨b,o+j,none⟩=some u)->∃d,F d b o t):∃d,Row sz (F d) v ts:=by
 obtain ⟨xs,hown,hx⟩:=h;rcases hown.2 with ⟨rfl,h0⟩|⟨g,cap,cur,rfl,hB,hg,_⟩
 ·exact ⟨0,hn,.inl ⟨List.eq_nil_of_length_eq_zero h0,none,0,rfl⟩⟩
 ·have hcell:=hown.cells (g:=g) rfl
  obtain ⟨d,hd⟩:=GA (ts:=ts) (P:=fun d k t=>F d g (k*sz) t) (fun d e k t hde hp=>uW hF hde hp) ts.length fun k t _ hk=>by
   obtain ⟨cs,hc,hr,hj⟩:=hx k t hk;refine hV t cs g (k*sz) hr.out hB fun j u hu=>?_
   have:=hcell _ u (hj j u hu)
   have ha:(⟨g,0,none⟩:Addr).add (k*sz+j)=⟨g,k*sz+j,none⟩:=by
    by_cases h0:k*sz+j=0
    ·rw [h0];rfl
    ·simp only [Addr.add,if_neg h0,Nat.zero_add]
   rw [ha] at this;exact this
  exact ⟨d,hn,.inr ⟨g,0,cap,rfl,fun k t hk=>by rw [Nat.zero_add];exact hd k t (List.getElem?_eq_some_iff.1 hk).1 hk⟩⟩
end
theorem ace {B C:Nat} {g:Option Nat} {w:World} {t v:Value} (h:aY C t v w) (hB:B<=C) (hg:∀k,g=some k->k<C):sw (aY B) B g w t v:=fun w' hw =>
 h.on (fun k hk hl=>hw k (Nat.le_trans hB hk) hl (fun e=>by have:=hg k e.symm;omega)) hB
theorem acg {B C:Nat} {g:Option Nat} {w:World} {t v:Value} (h:cG C t v w) (hB:B<=C) (hg:∀k,g=some k->k<C):sw (cG B) B g w t v:=fun w' hw =>
 h.on (fun k hk hl=>hw k (Nat.le_trans hB hk) hl (fun e=>by have:=hg k e.symm;omega)) hB
theorem aci {B C:Nat} {g:Option Nat} {w:World} {t v:Value} (h:fC C t v w) (hB:B<=C) (hg:∀k,g=some k->k<C):sw (fC B) B g w t v:=fun w' hw =>
 h.on (fun k hk hl=>hw k (Nat.le_trans hB hk) hl (fun e=>by have:=hg k e.symm;omega)) hB
theorem DZ {B:Nat} {w:World} {t:Value} {cs:Array Value} {b o:Nat} (h:aY B t (.agg cs) w) (hB:B<=b) (hc:∀j u,cs[j]?=some u->w.cell? ⟨b,o+j,none⟩=some u):∃d,dR B w d b o t:=by
 obtain ⟨d,k,x,y,n,es,ps,a,u,z,h0,h1,h2,h3⟩:=h;injection h1 with h1;subst h1;exact ⟨d+1,hB,k,x,y,n,es,ps,a,u,z,h0,hc 0 _ rfl,hc 1 _ rfl,hc 2 _ rfl,hc 3 _ rfl,hc 4 _ rfl,hc 5 _ rfl,hc 6 _ rfl,h2,h3⟩
theorem KM {B:Nat} {w:World} {t:Value} {cs:Array Value} {b o:Nat} (h:cG B t (.agg cs) w) (hB:B<=b) (hc:∀j u,cs[j]?=some u->w.cell? ⟨b,o+j,none⟩=some u):∃d,cW B w d b o t:=by
 obtain ⟨d,k,x,n,es,a,u,h0,h1,h2⟩:=h;injection h1 with h1;subst h1;exact ⟨d+1,hB,k,x,n,es,a,u,h0,hc 0 _ rfl,hc 1 _ rfl,hc 2 _ rfl,hc 3 _ rfl,hc 4 _ rfl,h2⟩
theorem SC {B:Nat} {w:World} {t:Value} {cs:Array Value} {b o:Nat} (h:fC B t (.agg cs) w) (hB:B<=b) (hc:∀j u,cs[j]?=some u->w.cell? ⟨b,o+j,none⟩=some u):∃d,eG B w d b o t:=by
 obtain ⟨d,k,x,n,es,u,h0,h1,h2⟩:=h;injection h1 with h1;subst h1;exact ⟨d+1,hB,k,x,n,es,u,h0,hc 0 _ rfl,hc 1 _ rfl,hc 2 _ rfl,hc 3 _ rfl,h2⟩
end Pz
end Go.Proofs.YtkdbgopgjbfhbaaGreatDoor
