/- Texts that the claim needs. -/
import Derived.Test.YtkdbgopgjbfhbaaGreatDoorQPW6
namespace Go.Proofs.YtkdbgopgjbfhbaaGreatDoor
open Go.RowKit Lx Pz bq
set_option linter.unusedVariables false
set_option maxRecDepth 100000
set_option maxHeartbeats 16000000
theorem X0 (w0:World) (p:Nat) (L:List Tk) (vL:Value) (en:Int) (i:Nat) (R0:Rd Value) (iw:∀u,PR w0 p L vL en i u->Calls Tryz.prog 207 #[.pointer (some ⟨p,0,none⟩)] u (Rp w0 p L vL en (cW u.heap.size) u R0)) (R1:Rd Value) (dV:∀u,PR w0 p L vL en i u->Calls Tryz.prog 208 #[.pointer (some ⟨p,0,none⟩)] u (Rp w0 p L vL en (cW u.heap.size) u R1)) (g:Nat) (w:World) (h:PR w0 p L vL en i w) (hg:w.heap[g]?=some (.cells AX 207 (0,0))) :
  Calls Tryz.prog 197 #[.pointer (some ⟨p,0,none⟩),.slice (some ⟨g,0,none⟩) 2 2] w (Rp w0 p L vL en (cW w.heap.size) w (bC (tk L en i) [(2,e0,R0),(0,e0,R1)])):=by
 have HA:=ae (AP.start h 101 iz);have H:=ae (jc w0 p L vL en i _ HA.out.pr);obtain ⟨az,aW⟩:∃X,X=bC (tk L en i) [(2,e0,R0),(0,e0,R1)]:=⟨_,rfl⟩;rw [<- aW];have bT:=ae aW;have HG:=ae hg;have hgl:g<w.heap.size:=(Array.getElem?_eq_some_iff.1 hg).1;have iA:g≠p:=fun e=>by rw [e,h.blk] at hg;injection hg with hg;injection hg with hg _ _;cases hg
 have dI:=ae (And.intro hgl iA);generalize tk L en i=t at *;obtain ⟨tk,tx,tn,ta⟩:=t;clear h hg aW hgl iA;go_enter Tryz.func197,Tryz.ntmps197;go_wp2_with fail;refine Calls.mono (show Calls _ _ _ _ _ from H.out) ?_;rintro e u ⟨rfl,hb⟩;have hA1:=HA.out.on hb;obtain ⟨u2,hu2,fM,hb2,m0,m1,m2,m3,hpl⟩:=mK hA1.pr tk tx tn ta;have aO:=ae (hA1.on hb2);have HM:Hid (u2.cell? ⟨u.heap.size,0,none⟩=some (.int .i64 tk)/\u2.cell? ⟨u.heap.size,1,none⟩=some (.string tx)/\u2.cell? ⟨u.heap.size,2,none⟩=some (.int .i64 tn)/\u2.cell? ⟨u.heap.size,3,none⟩=some (.int .i64 ta)):=ae ⟨m0,m1,m2,m3⟩;go_upto_region 2 with fail;simp only [dO]
 try rw [<- hu2]
 generalize u.heap.size=q at *;clear hu2 hb hb2 fM H hA1 m0 m1 m2 m3;go_wp2_with fail;go_loopw [12] (fun x wr=>∃k:Nat,k<=2/\x=.int .i64 k/\Hid (∀j,j<k->([(2,e0,R0),(0,e0,R1)]:List (Int × ByteArray × Rd Value))[j]?.map (fun r=>bg r.1 r.2.1 ⟨tk,tx,tn,ta⟩)=some false)/\Hid (AP w0 p L vL en w 101 iz i wr)/\Hid (wr.cell? ⟨q,0,none⟩=some (.int .i64 tk)/\wr.cell? ⟨q,1,none⟩=some (.string tx)/\wr.cell? ⟨q,2,none⟩=some (.int .i64 tn)/\wr.cell? ⟨q,3,none⟩=some (.int .i64 ta))) (fun x _=>match x with | .int _ k=>2-k.toNat|_=>0)
 case atStart=>exact ⟨0,Nat.zero_le _,rfl,ae (fun j hj=>absurd hj (Nat.not_lt_zero _)),aO,HM⟩
 case round =>
  clear aO HM;obtain ⟨k,hk,rfl,HN,aO,HM⟩:=hrel
  have hcs:∀(o:Nat) (v:Value),AX[o]?=some v->wr.cell? ⟨g,o,none⟩=some v:=fun o v ho=>by
   unfold World.cell?;rw [aO.out.but.block g dI.out.1 dI.out.2,HG.out];exact ho
  have hcase:k=0\/k=1\/k=2:=by omega
  clear hk;rcases hcase with rfl|rfl|rfl
  ·have y0:=hcs 0 _ rfl;have y1:=hcs 1 _ rfl;have y2:=hcs 2 _ rfl;obtain ⟨m0,m1,m2,m3⟩:=HM.out;have bJ:g<wr.heap.size:=Nat.lt_of_lt_of_le dI.out.1 aO.out.but.size;have fe:q<wr.heap.size:=World.block_lt_of_cell? _ _ m0;obtain ⟨u3,hu3,hb3,r0,r1,r2⟩:=gy wr 207 (.int .i64 2) (.string e0) (.func (.func 207) #[] #[]);have bS:=ae (aO.out.on hb3);have HB:=ae (qW 2 e0 (.func (.func 207) #[] #[]) ⟨tk,tx,tn,ta⟩ u3);have m0:=ai hb3 m0;have m1:=ai hb3 m1;have m2:=ai hb3 m2;have m3:=ai hb3 m3;go_upto_region 5 with fail
   try rw [<- hu3]
   generalize wr.heap.size=q2 at *;clear hu3 hb3 hcs y0 y1 y2 HM bJ fe aO;go_wp2_with fail;refine HB.out.mono ?_;rintro e u4 ⟨rfl,hb4⟩;have bF:=ae (bS.out.on hb4);have r2:=ai hb4 r2;have m0:=ai hb4 m0;have m1:=ai hb4 m1;have m2:=ai hb4 m2;have m3:=ai hb4 m3;clear hb4 HB bS r0 r1;cases hbg:bg 2 e0 ⟨tk,tx,tn,ta⟩ with
   | false =>
    have cG:Hid (∀j,j<1->([(2,e0,R0),(0,e0,R1)]:List (Int × ByteArray × Rd Value))[j]?.map (fun r=>bg r.1 r.2.1 ⟨tk,tx,tn,ta⟩)=some false):=ae fun j hj=>by
     rcases Nat.lt_succ_iff_lt_or_eq.1 hj with hj|rfl
     ·exact HN.out j hj
     ·simp [hbg]
    have dw:=ae (And.intro m0 (And.intro m1 (And.intro m2 m3)));clear m0 m1 m2 m3 r2 hbg HN;go_wp2;go_roundw
    case rel=>exact ⟨1,by decide,by first|rfl|simp,cG,bF,dw⟩
    case measure=>simp
   | true =>
    have hE:az=R0:=by rw [bT.out,bC,if_pos hbg]
    have HE:=ae hE;have HC:=ae (iw u4 bF.out.pr);clear hbg hE HN m0 m1 m2 m3;go_wp2_with fail;refine HC.out.mono ?_;intro e u5 hr;cases hR:R0 with
    | error z =>
     obtain ⟨rfl,hb⟩:=bE hr hR;have HB:=ae hb;have aA:Hid (az=.error z):=ae (by rw [HE.out,hR]);clear hb hr hR HE;go_wp2;exact ⟨rfl,bA aA.out HB.out⟩
    | ok r =>
     obtain ⟨tr,j⟩:=r;obtain ⟨⟨v,rfl,hv0⟩,hp,hbt⟩:=bw hr hR;obtain ⟨vk,vx,vn,vu,va,hv,o1⟩:=hv0.val;subst hv;have bz:Hid (az=.ok (tr,j)):=ae (by rw [HE.out,hR]);have bP:=bF.out.lt;have dm:=ae (bF.out.call hp hbt);obtain ⟨W,hW,hth,hbk,hpr,aU,hab⟩:=dm.out.put #[.int .i64 vk,.string vx,.int .i64 vn,vu,.int .i64 va] rfl;have HV:=ae (hv0.on (hab.lo bP) (Nat.le_of_lt bP));have HW:=ae hW;have aC:=ae hth;have au:=ae hbk;have HF:=ae (And.intro hpr aU);clear hW hth hbk hpr aU hab hp hbt hr hR HE hv0 HC;go_wp2_with (refine wpList_store_mid rfl 101 (.tmp 4) (.tmp 22) rfl w.heap.size 0 #[.int .i64 vk,.string vx,.int .i64 vn,vu,.int .i64 va] rfl rfl aC.out jk (by simp [Value.oneCell'] at o1 ⊢;exact o1) ?_;rw [HW.out]);have z0:=ak au.out 0 _ rfl;have z1:=ak au.out 1 _ rfl;have z2:=ak au.out 2 _ rfl;have z3:=ak au.out 3 _ rfl;have z4:=ak au.out 4 _ rfl;refine bodyPost_ret (v:=.agg #[.int .i64 vk,.string vx,.int .i64 vn,vu,.int .i64 va]) (by simp [results,Tryz.results197,go_sem,z0,z1,z2,z3,z4]) rfl (cz bz.out HV.out HF.out.1 HF.out.2)
  ·have y0:=hcs 3 _ rfl;have y1:=hcs 4 _ rfl;have y2:=hcs 5 _ rfl;have b0:bg 2 e0 ⟨tk,tx,tn,ta⟩=false:=by have:=HN.out 0 (by decide);simpa using this
   obtain ⟨m0,m1,m2,m3⟩:=HM.out;have bJ:g<wr.heap.size:=Nat.lt_of_lt_of_le dI.out.1 aO.out.but.size;have fe:q<wr.heap.size:=World.block_lt_of_cell? _ _ m0;obtain ⟨u3,hu3,hb3,r0,r1,r2⟩:=gy wr 207 (.int .i64 0) (.string e0) (.func (.func 208) #[] #[]);have bS:=ae (aO.out.on hb3);have HB:=ae (qW 0 e0 (.func (.func 208) #[] #[]) ⟨tk,tx,tn,ta⟩ u3);have m0:=ai hb3 m0;have m1:=ai hb3 m1;have m2:=ai hb3 m2;have m3:=ai hb3 m3;go_upto_region 5 with fail
   try rw [<- hu3]
   generalize wr.heap.size=q2 at *;clear hu3 hb3 hcs y0 y1 y2 HM bJ fe aO;go_wp2_with fail;refine HB.out.mono ?_;rintro e u4 ⟨rfl,hb4⟩;have bF:=ae (bS.out.on hb4);have r2:=ai hb4 r2;have m0:=ai hb4 m0;have m1:=ai hb4 m1;have m2:=ai hb4 m2;have m3:=ai hb4 m3;clear hb4 HB bS r0 r1;cases hbg:bg 0 e0 ⟨tk,tx,tn,ta⟩ with
   | false =>
    have cG:Hid (∀j,j<2->([(2,e0,R0),(0,e0,R1)]:List (Int × ByteArray × Rd Value))[j]?.map (fun r=>bg r.1 r.2.1 ⟨tk,tx,tn,ta⟩)=some false):=ae fun j hj=>by
     rcases Nat.lt_succ_iff_lt_or_eq.1 hj with hj|rfl
     ·exact HN.out j hj
     ·simp [hbg]
    have dw:=ae (And.intro m0 (And.intro m1 (And.intro m2 m3)));clear m0 m1 m2 m3 r2 hbg HN;go_wp2;go_roundw
    case rel=>exact ⟨2,by decide,by first|rfl|simp,cG,bF,dw⟩
    case measure=>simp
   | true =>
    have hE:az=R1:=by rw [bT.out,bC,bC,if_neg (by rw [b0];decide),if_pos hbg]
    have HE:=ae hE;have HC:=ae (dV u4 bF.out.pr);clear hbg hE HN m0 m1 m2 m3;go_wp2_with fail;refine HC.out.mono ?_;intro e u5 hr;cases hR:R1 with
    | error z =>
     obtain ⟨rfl,hb⟩:=bE hr hR;have HB:=ae hb;have aA:Hid (az=.error z):=ae (by rw [HE.out,hR]);clear hb hr hR HE;go_wp2;exact ⟨rfl,bA aA.out HB.out⟩
    | ok r =>
     obtain ⟨tr,j⟩:=r;obtain ⟨⟨v,rfl,hv0⟩,hp,hbt⟩:=bw hr hR;obtain ⟨vk,vx,vn,vu,va,hv,o1⟩:=hv0.val;subst hv;have bz:Hid (az=.ok (tr,j)):=ae (by rw [HE.out,hR]);have bP:=bF.out.lt;have dm:=ae (bF.out.call hp hbt);obtain ⟨W,hW,hth,hbk,hpr,aU,hab⟩:=dm.out.put #[.int .i64 vk,.string vx,.int .i64 vn,vu,.int .i64 va] rfl;have HV:=ae (hv0.on (hab.lo bP) (Nat.le_of_lt bP));have HW:=ae hW;have aC:=ae hth;have au:=ae hbk;have HF:=ae (And.intro hpr aU);clear hW hth hbk hpr aU hab hp hbt hr hR HE hv0 HC;go_wp2_with (refine wpList_store_mid rfl 101 (.tmp 4) (.tmp 22) rfl w.heap.size 0 #[.int .i64 vk,.string vx,.int .i64 vn,vu,.int .i64 va] rfl rfl aC.out jk (by simp [Value.oneCell'] at o1 ⊢;exact o1) ?_;rw [HW.out]);have z0:=ak au.out 0 _ rfl;have z1:=ak au.out 1 _ rfl;have z2:=ak au.out 2 _ rfl;have z3:=ak au.out 3 _ rfl;have z4:=ak au.out 4 _ rfl;refine bodyPost_ret (v:=.agg #[.int .i64 vk,.string vx,.int .i64 vn,vu,.int .i64 va]) (by simp [results,Tryz.results197,go_sem,z0,z1,z2,z3,z4]) rfl (cz bz.out HV.out HF.out.1 HF.out.2)
  ·obtain ⟨m0,m1,m2,m3⟩:=HM.out;have b0:bg 2 e0 ⟨tk,tx,tn,ta⟩=false:=by have:=HN.out 0 (by decide);simpa using this
   have b1:bg 0 e0 ⟨tk,tx,tn,ta⟩=false:=by have:=HN.out 1 (by decide);simpa using this
   have aA:Hid (az=.error ta):=ae (by rw [bT.out,bC,bC,bC,if_neg (by rw [b0];decide),if_neg (by rw [b1];decide)]);clear hcs HN b0 b1;go_wp2;exact ⟨rfl,bA aA.out aO.out.pr.below⟩
theorem O8 (w0:World) (p:Nat) (L:List Tk) (vL:Value) (en:Int) (i:Nat) (R0:Rd Value) (iw:∀u,PR w0 p L vL en i u->Calls Tryz.prog 231 #[.pointer (some ⟨p,0,none⟩)] u (Rp w0 p L vL en (cW u.heap.size) u R0)) (R1:Rd Value) (dV:∀u,PR w0 p L vL en i u->Calls Tryz.prog 232 #[.pointer (some ⟨p,0,none⟩)] u (Rp w0 p L vL en (cW u.heap.size) u R1)) (R2:Rd Value) (dM:∀u,PR w0 p L vL en i u->Calls Tryz.prog 233 #[.pointer (some ⟨p,0,none⟩)] u (Rp w0 p L vL en (cW u.heap.size) u R2)) (R3:Rd Value) (kU:∀u,PR w0 p L vL en i u->Calls Tryz.prog 219 #[.pointer (some ⟨p,0,none⟩)] u (Rp w0 p L vL en (cW u.heap.size) u R3)) (R4:Rd Value) (uI:∀u,PR w0 p L vL en i u->Calls Tryz.prog 234 #[.pointer (some ⟨p,0,none⟩)] u (Rp w0 p L vL en (cW u.heap.size) u R4)) (g:Nat) (w:World) (h:PR w0 p L vL en i w) (hg:w.heap[g]?=some (.cells oM 207 (0,0))) :
  Calls Tryz.prog 197 #[.pointer (some ⟨p,0,none⟩),.slice (some ⟨g,0,none⟩) 5 5] w (Rp w0 p L vL en (cW w.heap.size) w (bC (tk L en i) [(1,e0,R0),(6,dP,R1),(4,e0,R2),(2,e0,R3),(6,sL,R4)])):=by
 have HA:=ae (AP.start h 101 iz);have H:=ae (jc w0 p L vL en i _ HA.out.pr);obtain ⟨az,aW⟩:∃X,X=bC (tk L en i) [(1,e0,R0),(6,dP,R1),(4,e0,R2),(2,e0,R3),(6,sL,R4)]:=⟨_,rfl⟩;rw [<- aW];have bT:=ae aW;have HG:=ae hg;have hgl:g<w.heap.size:=(Array.getElem?_eq_some_iff.1 hg).1;have iA:g≠p:=fun e=>by rw [e,h.blk] at hg;injection hg with hg;injection hg with hg _ _;cases hg
 have dI:=ae (And.intro hgl iA);generalize tk L en i=t at *;obtain ⟨tk,tx,tn,ta⟩:=t;clear h hg aW hgl iA;go_enter Tryz.func197,Tryz.ntmps197;go_wp2_with fail;refine Calls.mono (show Calls _ _ _ _ _ from H.out) ?_;rintro e u ⟨rfl,hb⟩;have hA1:=HA.out.on hb;obtain ⟨u2,hu2,fM,hb2,m0,m1,m2,m3,hpl⟩:=mK hA1.pr tk tx tn ta;have aO:=ae (hA1.on hb2);have HM:Hid (u2.cell? ⟨u.heap.size,0,none⟩=some (.int .i64 tk)/\u2.cell? ⟨u.heap.size,1,none⟩=some (.string tx)/\u2.cell? ⟨u.heap.size,2,none⟩=some (.int .i64 tn)/\u2.cell? ⟨u.heap.size,3,none⟩=some (.int .i64 ta)):=ae ⟨m0,m1,m2,m3⟩;go_upto_region 2 with fail;simp only [dO]
 try rw [<- hu2]
 generalize u.heap.size=q at *;clear hu2 hb hb2 fM H hA1 m0 m1 m2 m3;go_wp2_with fail;go_loopw [12] (fun x wr=>∃k:Nat,k<=5/\x=.int .i64 k/\Hid (∀j,j<k->([(1,e0,R0),(6,dP,R1),(4,e0,R2),(2,e0,R3),(6,sL,R4)]:List (Int × ByteArray × Rd Value))[j]?.map (fun r=>bg r.1 r.2.1 ⟨tk,tx,tn,ta⟩)=some false)/\Hid (AP w0 p L vL en w 101 iz i wr)/\Hid (wr.cell? ⟨q,0,none⟩=some (.int .i64 tk)/\wr.cell? ⟨q,1,none⟩=some (.string tx)/\wr.cell? ⟨q,2,none⟩=some (.int .i64 tn)/\wr.cell? ⟨q,3,none⟩=some (.int .i64 ta))) (fun x _=>match x with | .int _ k=>5-k.toNat|_=>0)
 case atStart=>exact ⟨0,Nat.zero_le _,rfl,ae (fun j hj=>absurd hj (Nat.not_lt_zero _)),aO,HM⟩
 case round =>
  clear aO HM;obtain ⟨k,hk,rfl,HN,aO,HM⟩:=hrel
  have hcs:∀(o:Nat) (v:Value),oM[o]?=some v->wr.cell? ⟨g,o,none⟩=some v:=fun o v ho=>by
   unfold World.cell?;rw [aO.out.but.block g dI.out.1 dI.out.2,HG.out];exact ho
  have hcase:k=0\/k=1\/k=2\/k=3\/k=4\/k=5:=by omega
  clear hk;rcases hcase with rfl|rfl|rfl|rfl|rfl|rfl
  ·have y0:=hcs 0 _ rfl;have y1:=hcs 1 _ rfl;have y2:=hcs 2 _ rfl;obtain ⟨m0,m1,m2,m3⟩:=HM.out;have bJ:g<wr.heap.size:=Nat.lt_of_lt_of_le dI.out.1 aO.out.but.size;have fe:q<wr.heap.size:=World.block_lt_of_cell? _ _ m0;obtain ⟨u3,hu3,hb3,r0,r1,r2⟩:=gy wr 207 (.int .i64 1) (.string e0) (.func (.func 231) #[] #[]);have bS:=ae (aO.out.on hb3);have HB:=ae (qW 1 e0 (.func (.func 231) #[] #[]) ⟨tk,tx,tn,ta⟩ u3);have m0:=ai hb3 m0;have m1:=ai hb3 m1;have m2:=ai hb3 m2;have m3:=ai hb3 m3;go_upto_region 5 with fail
   try rw [<- hu3]
   generalize wr.heap.size=q2 at *;clear hu3 hb3 hcs y0 y1 y2 HM bJ fe aO;go_wp2_with fail;refine HB.out.mono ?_;rintro e u4 ⟨rfl,hb4⟩;have bF:=ae (bS.out.on hb4);have r2:=ai hb4 r2;have m0:=ai hb4 m0;have m1:=ai hb4 m1;have m2:=ai hb4 m2;have m3:=ai hb4 m3;clear hb4 HB bS r0 r1;cases hbg:bg 1 e0 ⟨tk,tx,tn,ta⟩ with
   | false =>
    have cG:Hid (∀j,j<1->([(1,e0,R0),(6,dP,R1),(4,e0,R2),(2,e0,R3),(6,sL,R4)]:List (Int × ByteArray × Rd Value))[j]?.map (fun r=>bg r.1 r.2.1 ⟨tk,tx,tn,ta⟩)=some false):=ae fun j hj=>by
     rcases Nat.lt_succ_iff_lt_or_eq.1 hj with hj|rfl
     ·exact HN.out j hj
     ·simp [hbg]
    have dw:=ae (And.intro m0 (And.intro m1 (And.intro m2 m3)));clear m0 m1 m2 m3 r2 hbg HN;go_wp2;go_roundw
    case rel=>exact ⟨1,by decide,by first|rfl|simp,cG,bF,dw⟩
    case measure=>simp
   | true =>
    have hE:az=R0:=by rw [bT.out,bC,if_pos hbg]
    have HE:=ae hE;have HC:=ae (iw u4 bF.out.pr);clear hbg hE HN m0 m1 m2 m3;go_wp2_with fail;refine HC.out.mono ?_;intro e u5 hr;cases hR:R0 with
    | error z =>
     obtain ⟨rfl,hb⟩:=bE hr hR;have HB:=ae hb;have aA:Hid (az=.error z):=ae (by rw [HE.out,hR]);clear hb hr hR HE;go_wp2;exact ⟨rfl,bA aA.out HB.out⟩
    | ok r =>
     obtain ⟨tr,j⟩:=r;obtain ⟨⟨v,rfl,hv0⟩,hp,hbt⟩:=bw hr hR;obtain ⟨vk,vx,vn,vu,va,hv,o1⟩:=hv0.val;subst hv;have bz:Hid (az=.ok (tr,j)):=ae (by rw [HE.out,hR]);have bP:=bF.out.lt;have dm:=ae (bF.out.call hp hbt);obtain ⟨W,hW,hth,hbk,hpr,aU,hab⟩:=dm.out.put #[.int .i64 vk,.string vx,.int .i64 vn,vu,.int .i64 va] rfl;have HV:=ae (hv0.on (hab.lo bP) (Nat.le_of_lt bP));have HW:=ae hW;have aC:=ae hth;have au:=ae hbk;have HF:=ae (And.intro hpr aU);clear hW hth hbk hpr aU hab hp hbt hr hR HE hv0 HC;go_wp2_with (refine wpList_store_mid rfl 101 (.tmp 4) (.tmp 22) rfl w.heap.size 0 #[.int .i64 vk,.string vx,.int .i64 vn,vu,.int .i64 va] rfl rfl aC.out jk (by simp [Value.oneCell'] at o1 ⊢;exact o1) ?_;rw [HW.out]);have z0:=ak au.out 0 _ rfl;have z1:=ak au.out 1 _ rfl;have z2:=ak au.out 2 _ rfl;have z3:=ak au.out 3 _ rfl;have z4:=ak au.out 4 _ rfl;refine bodyPost_ret (v:=.agg #[.int .i64 vk,.string vx,.int .i64 vn,vu,.int .i64 va]) (by simp [results,Tryz.results197,go_sem,z0,z1,z2,z3,z4]) rfl (cz bz.out HV.out HF.out.1 HF.out.2)
  ·have y0:=hcs 3 _ rfl;have y1:=hcs 4 _ rfl;have y2:=hcs 5 _ rfl;have b0:bg 1 e0 ⟨tk,tx,tn,ta⟩=false:=by have:=HN.out 0 (by decide);simpa using this
   obtain ⟨m0,m1,m2,m3⟩:=HM.out;have bJ:g<wr.heap.size:=Nat.lt_of_lt_of_le dI.out.1 aO.out.but.size;have fe:q<wr.heap.size:=World.block_lt_of_cell? _ _ m0;obtain ⟨u3,hu3,hb3,r0,r1,r2⟩:=gy wr 207 (.int .i64 6) (.string dP) (.func (.func 232) #[] #[]);have bS:=ae (aO.out.on hb3);have HB:=ae (qW 6 dP (.func (.func 232) #[] #[]) ⟨tk,tx,tn,ta⟩ u3);have m0:=ai hb3 m0;have m1:=ai hb3 m1;have m2:=ai hb3 m2;have m3:=ai hb3 m3;go_upto_region 5 with fail
   try rw [<- hu3]
   generalize wr.heap.size=q2 at *;clear hu3 hb3 hcs y0 y1 y2 HM bJ fe aO;go_wp2_with fail;refine HB.out.mono ?_;rintro e u4 ⟨rfl,hb4⟩;have bF:=ae (bS.out.on hb4);have r2:=ai hb4 r2;have m0:=ai hb4 m0;have m1:=ai hb4 m1;have m2:=ai hb4 m2;have m3:=ai hb4 m3;clear hb4 HB bS r0 r1;cases hbg:bg 6 dP ⟨tk,tx,tn,ta⟩ with
   | false =>
    have cG:Hid (∀j,j<2->([(1,e0,R0),(6,dP,R1),(4,e0,R2),(2,e0,R3),(6,sL,R4)]:List (Int × ByteArray × Rd Value))[j]?.map (fun r=>bg r.1 r.2.1 ⟨tk,tx,tn,ta⟩)=some false):=ae fun j hj=>by
     rcases Nat.lt_succ_iff_lt_or_eq.1 hj with hj|rfl
     ·exact HN.out j hj
     ·simp [hbg]
    have dw:=ae (And.intro m0 (And.intro m1 (And.intro m2 m3)));clear m0 m1 m2 m3 r2 hbg HN;go_wp2;go_roundw
    case rel=>exact ⟨2,by decide,by first|rfl|simp,cG,bF,dw⟩
    case measure=>simp
   | true =>
    have hE:az=R1:=by rw [bT.out,bC,bC,if_neg (by rw [b0];decide),if_pos hbg]
    have HE:=ae hE;have HC:=ae (dV u4 bF.out.pr);clear hbg hE HN m0 m1 m2 m3;go_wp2_with fail;refine HC.out.mono ?_;intro e u5 hr;cases hR:R1 with
    | error z =>
     obtain ⟨rfl,hb⟩:=bE hr hR;have HB:=ae hb;have aA:Hid (az=.error z):=ae (by rw [HE.out,hR]);clear hb hr hR HE;go_wp2;exact ⟨rfl,bA aA.out HB.out⟩
    | ok r =>
     obtain ⟨tr,j⟩:=r;obtain ⟨⟨v,rfl,hv0⟩,hp,hbt⟩:=bw hr hR;obtain ⟨vk,vx,vn,vu,va,hv,o1⟩:=hv0.val;subst hv;have bz:Hid (az=.ok (tr,j)):=ae (by rw [HE.out,hR]);have bP:=bF.out.lt;have dm:=ae (bF.out.call hp hbt);obtain ⟨W,hW,hth,hbk,hpr,aU,hab⟩:=dm.out.put #[.int .i64 vk,.string vx,.int .i64 vn,vu,.int .i64 va] rfl;have HV:=ae (hv0.on (hab.lo bP) (Nat.le_of_lt bP));have HW:=ae hW;have aC:=ae hth;have au:=ae hbk;have HF:=ae (And.intro hpr aU);clear hW hth hbk hpr aU hab hp hbt hr hR HE hv0 HC;go_wp2_with (refine wpList_store_mid rfl 101 (.tmp 4) (.tmp 22) rfl w.heap.size 0 #[.int .i64 vk,.string vx,.int .i64 vn,vu,.int .i64 va] rfl rfl aC.out jk (by simp [Value.oneCell'] at o1 ⊢;exact o1) ?_;rw [HW.out]);have z0:=ak au.out 0 _ rfl;have z1:=ak au.out 1 _ rfl;have z2:=ak au.out 2 _ rfl;have z3:=ak au.out 3 _ rfl;have z4:=ak au.out 4 _ rfl;refine bodyPost_ret (v:=.agg #[.int .i64 vk,.string vx,.int .i64 vn,vu,.int .i64 va]) (by simp [results,Tryz.results197,go_sem,z0,z1,z2,z3,z4]) rfl (cz bz.out HV.out HF.out.1 HF.out.2)
  ·have y0:=hcs 6 _ rfl;have y1:=hcs 7 _ rfl;have y2:=hcs 8 _ rfl;have b0:bg 1 e0 ⟨tk,tx,tn,ta⟩=false:=by have:=HN.out 0 (by decide);simpa using this
   have b1:bg 6 dP ⟨tk,tx,tn,ta⟩=false:=by have:=HN.out 1 (by decide);simpa using this
   obtain ⟨m0,m1,m2,m3⟩:=HM.out;have bJ:g<wr.heap.size:=Nat.lt_of_lt_of_le dI.out.1 aO.out.but.size;have fe:q<wr.heap.size:=World.block_lt_of_cell? _ _ m0;obtain ⟨u3,hu3,hb3,r0,r1,r2⟩:=gy wr 207 (.int .i64 4) (.string e0) (.func (.func 233) #[] #[]);have bS:=ae (aO.out.on hb3);have HB:=ae (qW 4 e0 (.func (.func 233) #[] #[]) ⟨tk,tx,tn,ta⟩ u3);have m0:=ai hb3 m0;have m1:=ai hb3 m1;have m2:=ai hb3 m2;have m3:=ai hb3 m3;go_upto_region 5 with fail
   try rw [<- hu3]
   generalize wr.heap.size=q2 at *;clear hu3 hb3 hcs y0 y1 y2 HM bJ fe aO;go_wp2_with fail;refine HB.out.mono ?_;rintro e u4 ⟨rfl,hb4⟩;have bF:=ae (bS.out.on hb4);have r2:=ai hb4 r2;have m0:=ai hb4 m0;have m1:=ai hb4 m1;have m2:=ai hb4 m2;have m3:=ai hb4 m3;clear hb4 HB bS r0 r1;cases hbg:bg 4 e0 ⟨tk,tx,tn,ta⟩ with
   | false =>
    have cG:Hid (∀j,j<3->([(1,e0,R0),(6,dP,R1),(4,e0,R2),(2,e0,R3),(6,sL,R4)]:List (Int × ByteArray × Rd Value))[j]?.map (fun r=>bg r.1 r.2.1 ⟨tk,tx,tn,ta⟩)=some false):=ae fun j hj=>by
     rcases Nat.lt_succ_iff_lt_or_eq.1 hj with hj|rfl
     ·exact HN.out j hj
     ·simp [hbg]
    have dw:=ae (And.intro m0 (And.intro m1 (And.intro m2 m3)));clear m0 m1 m2 m3 r2 hbg HN;go_wp2;go_roundw
    case rel=>exact ⟨3,by decide,by first|rfl|simp,cG,bF,dw⟩
    case measure=>simp
   | true =>
    have hE:az=R2:=by rw [bT.out,bC,bC,bC,if_neg (by rw [b0];decide),if_neg (by rw [b1];decide),if_pos hbg]
    have HE:=ae hE;have HC:=ae (dM u4 bF.out.pr);clear hbg hE HN m0 m1 m2 m3;go_wp2_with fail;refine HC.out.mono ?_;intro e u5 hr;cases hR:R2 with
    | error z =>
     obtain ⟨rfl,hb⟩:=bE hr hR;have HB:=ae hb;have aA:Hid (az=.error z):=ae (by rw [HE.out,hR]);clear hb hr hR HE;go_wp2;exact ⟨rfl,bA aA.out HB.out⟩
    | ok r =>
     obtain ⟨tr,j⟩:=r;obtain ⟨⟨v,rfl,hv0⟩,hp,hbt⟩:=bw hr hR;obtain ⟨vk,vx,vn,vu,va,hv,o1⟩:=hv0.val;subst hv;have bz:Hid (az=.ok (tr,j)):=ae (by rw [HE.out,hR]);have bP:=bF.out.lt;have dm:=ae (bF.out.call hp hbt);obtain ⟨W,hW,hth,hbk,hpr,aU,hab⟩:=dm.out.put #[.int .i64 vk,.string vx,.int .i64 vn,vu,.int .i64 va] rfl;have HV:=ae (hv0.on (hab.lo bP) (Nat.le_of_lt bP));have HW:=ae hW;have aC:=ae hth;have au:=ae hbk;have HF:=ae (And.intro hpr aU);clear hW hth hbk hpr aU hab hp hbt hr hR HE hv0 HC;go_wp2_with (refine wpList_store_mid rfl 101 (.tmp 4) (.tmp 22) rfl w.heap.size 0 #[.int .i64 vk,.string vx,.int .i64 vn,vu,.int .i64 va] rfl rfl aC.out jk (by simp [Value.oneCell'] at o1 ⊢;exact o1) ?_;rw [HW.out]);have z0:=ak au.out 0 _ rfl;have z1:=ak au.out 1 _ rfl;have z2:=ak au.out 2 _ rfl;have z3:=ak au.out 3 _ rfl;have z4:=ak au.out 4 _ rfl;refine bodyPost_ret (v:=.agg #[.int .i64 vk,.string vx,.int .i64 vn,vu,.int .i64 va]) (by simp [results,Tryz.results197,go_sem,z0,z1,z2,z3,z4]) rfl (cz bz.out HV.out HF.out.1 HF.out.2)
  ·have y0:=hcs 9 _ rfl;have y1:=hcs 10 _ rfl;have y2:=hcs 11 _ rfl;have b0:bg 1 e0 ⟨tk,tx,tn,ta⟩=false:=by have:=HN.out 0 (by decide);simpa using this
   have b1:bg 6 dP ⟨tk,tx,tn,ta⟩=false:=by have:=HN.out 1 (by decide);simpa using this
   have b2:bg 4 e0 ⟨tk,tx,tn,ta⟩=false:=by have:=HN.out 2 (by decide);simpa using this
   obtain ⟨m0,m1,m2,m3⟩:=HM.out;have bJ:g<wr.heap.size:=Nat.lt_of_lt_of_le dI.out.1 aO.out.but.size;have fe:q<wr.heap.size:=World.block_lt_of_cell? _ _ m0;obtain ⟨u3,hu3,hb3,r0,r1,r2⟩:=gy wr 207 (.int .i64 2) (.string e0) (.func (.func 219) #[] #[]);have bS:=ae (aO.out.on hb3);have HB:=ae (qW 2 e0 (.func (.func 219) #[] #[]) ⟨tk,tx,tn,ta⟩ u3);have m0:=ai hb3 m0;have m1:=ai hb3 m1;have m2:=ai hb3 m2;have m3:=ai hb3 m3;go_upto_region 5 with fail
   try rw [<- hu3]
   generalize wr.heap.size=q2 at *;clear hu3 hb3 hcs y0 y1 y2 HM bJ fe aO;go_wp2_with fail;refine HB.out.mono ?_;rintro e u4 ⟨rfl,hb4⟩;have bF:=ae (bS.out.on hb4);have r2:=ai hb4 r2;have m0:=ai hb4 m0;have m1:=ai hb4 m1;have m2:=ai hb4 m2;have m3:=ai hb4 m3;clear hb4 HB bS r0 r1;cases hbg:bg 2 e0 ⟨tk,tx,tn,ta⟩ with
   | false =>
    have cG:Hid (∀j,j<4->([(1,e0,R0),(6,dP,R1),(4,e0,R2),(2,e0,R3),(6,sL,R4)]:List (Int × ByteArray × Rd Value))[j]?.map (fun r=>bg r.1 r.2.1 ⟨tk,tx,tn,ta⟩)=some false):=ae fun j hj=>by
     rcases Nat.lt_succ_iff_lt_or_eq.1 hj with hj|rfl
     ·exact HN.out j hj
     ·simp [hbg]
    have dw:=ae (And.intro m0 (And.intro m1 (And.intro m2 m3)));clear m0 m1 m2 m3 r2 hbg HN;go_wp2;go_roundw
    case rel=>exact ⟨4,by decide,by first|rfl|simp,cG,bF,dw⟩
    case measure=>simp
   | true =>
    have hE:az=R3:=by rw [bT.out,bC,bC,bC,bC,if_neg (by rw [b0];decide),if_neg (by rw [b1];decide),if_neg (by rw [b2];decide),if_pos hbg]
    have HE:=ae hE;have HC:=ae (kU u4 bF.out.pr);clear hbg hE HN m0 m1 m2 m3;go_wp2_with fail;refine HC.out.mono ?_;intro e u5 hr;cases hR:R3 with
    | error z =>
     obtain ⟨rfl,hb⟩:=bE hr hR;have HB:=ae hb;have aA:Hid (az=.error z):=ae (by rw [HE.out,hR]);clear hb hr hR HE;go_wp2;exact ⟨rfl,bA aA.out HB.out⟩
    | ok r =>
     obtain ⟨tr,j⟩:=r;obtain ⟨⟨v,rfl,hv0⟩,hp,hbt⟩:=bw hr hR;obtain ⟨vk,vx,vn,vu,va,hv,o1⟩:=hv0.val;subst hv;have bz:Hid (az=.ok (tr,j)):=ae (by rw [HE.out,hR]);have bP:=bF.out.lt;have dm:=ae (bF.out.call hp hbt);obtain ⟨W,hW,hth,hbk,hpr,aU,hab⟩:=dm.out.put #[.int .i64 vk,.string vx,.int .i64 vn,vu,.int .i64 va] rfl;have HV:=ae (hv0.on (hab.lo bP) (Nat.le_of_lt bP));have HW:=ae hW;have aC:=ae hth;have au:=ae hbk;have HF:=ae (And.intro hpr aU);clear hW hth hbk hpr aU hab hp hbt hr hR HE hv0 HC;go_wp2_with (refine wpList_store_mid rfl 101 (.tmp 4) (.tmp 22) rfl w.heap.size 0 #[.int .i64 vk,.string vx,.int .i64 vn,vu,.int .i64 va] rfl rfl aC.out jk (by simp [Value.oneCell'] at o1 ⊢;exact o1) ?_;rw [HW.out]);have z0:=ak au.out 0 _ rfl;have z1:=ak au.out 1 _ rfl;have z2:=ak au.out 2 _ rfl;have z3:=ak au.out 3 _ rfl;have z4:=ak au.out 4 _ rfl;refine bodyPost_ret (v:=.agg #[.int .i64 vk,.string vx,.int .i64 vn,vu,.int .i64 va]) (by simp [results,Tryz.results197,go_sem,z0,z1,z2,z3,z4]) rfl (cz bz.out HV.out HF.out.1 HF.out.2)
  ·have y0:=hcs 12 _ rfl;have y1:=hcs 13 _ rfl;have y2:=hcs 14 _ rfl;have b0:bg 1 e0 ⟨tk,tx,tn,ta⟩=false:=by have:=HN.out 0 (by decide);simpa using this
   have b1:bg 6 dP ⟨tk,tx,tn,ta⟩=false:=by have:=HN.out 1 (by decide);simpa using this
   have b2:bg 4 e0 ⟨tk,tx,tn,ta⟩=false:=by have:=HN.out 2 (by decide);simpa using this
   have b3:bg 2 e0 ⟨tk,tx,tn,ta⟩=false:=by have:=HN.out 3 (by decide);simpa using this
   obtain ⟨m0,m1,m2,m3⟩:=HM.out;have bJ:g<wr.heap.size:=Nat.lt_of_lt_of_le dI.out.1 aO.out.but.size;have fe:q<wr.heap.size:=World.block_lt_of_cell? _ _ m0;obtain ⟨u3,hu3,hb3,r0,r1,r2⟩:=gy wr 207 (.int .i64 6) (.string sL) (.func (.func 234) #[] #[]);have bS:=ae (aO.out.on hb3);have HB:=ae (qW 6 sL (.func (.func 234) #[] #[]) ⟨tk,tx,tn,ta⟩ u3);have m0:=ai hb3 m0;have m1:=ai hb3 m1;have m2:=ai hb3 m2;have m3:=ai hb3 m3;go_upto_region 5 with fail
   try rw [<- hu3]
   generalize wr.heap.size=q2 at *;clear hu3 hb3 hcs y0 y1 y2 HM bJ fe aO;go_wp2_with fail;refine HB.out.mono ?_;rintro e u4 ⟨rfl,hb4⟩;have bF:=ae (bS.out.on hb4);have r2:=ai hb4 r2;have m0:=ai hb4 m0;have m1:=ai hb4 m1;have m2:=ai hb4 m2;have m3:=ai hb4 m3;clear hb4 HB bS r0 r1;cases hbg:bg 6 sL ⟨tk,tx,tn,ta⟩ with
   | false =>
    have cG:Hid (∀j,j<5->([(1,e0,R0),(6,dP,R1),(4,e0,R2),(2,e0,R3),(6,sL,R4)]:List (Int × ByteArray × Rd Value))[j]?.map (fun r=>bg r.1 r.2.1 ⟨tk,tx,tn,ta⟩)=some false):=ae fun j hj=>by
     rcases Nat.lt_succ_iff_lt_or_eq.1 hj with hj|rfl
     ·exact HN.out j hj
     ·simp [hbg]
    have dw:=ae (And.intro m0 (And.intro m1 (And.intro m2 m3)));clear m0 m1 m2 m3 r2 hbg HN;go_wp2;go_roundw
    case rel=>exact ⟨5,by decide,by first|rfl|simp,cG,bF,dw⟩
    case measure=>simp
   | true =>
    have hE:az=R4:=by rw [bT.out,bC,bC,bC,bC,bC,if_neg (by rw [b0];decide),if_neg (by rw [b1];decide),if_neg (by rw [b2];decide),if_neg (by rw [b3];decide),if_pos hbg]
    have HE:=ae hE;have HC:=ae (uI u4 bF.out.pr);clear hbg hE HN m0 m1 m2 m3;go_wp2_with fail;refine HC.out.mono ?_;intro e u5 hr;cases hR:R4 with
    | error z =>
     obtain ⟨rfl,hb⟩:=bE hr hR;have HB:=ae hb;have aA:Hid (az=.error z):=ae (by rw [HE.out,hR]);clear hb hr hR HE;go_wp2;exact ⟨rfl,bA aA.out HB.out⟩
    | ok r =>
     obtain ⟨tr,j⟩:=r;obtain ⟨⟨v,rfl,hv0⟩,hp,hbt⟩:=bw hr hR;obtain ⟨vk,vx,vn,vu,va,hv,o1⟩:=hv0.val;subst hv;have bz:Hid (az=.ok (tr,j)):=ae (by rw [HE.out,hR]);have bP:=bF.out.lt;have dm:=ae (bF.out.call hp hbt);obtain ⟨W,hW,hth,hbk,hpr,aU,hab⟩:=dm.out.put #[.int .i64 vk,.string vx,.int .i64 vn,vu,.int .i64 va] rfl;have HV:=ae (hv0.on (hab.lo bP) (Nat.le_of_lt bP));have HW:=ae hW;have aC:=ae hth;have au:=ae hbk;have HF:=ae (And.intro hpr aU);clear hW hth hbk hpr aU hab hp hbt hr hR HE hv0 HC;go_wp2_with (refine wpList_store_mid rfl 101 (.tmp 4) (.tmp 22) rfl w.heap.size 0 #[.int .i64 vk,.string vx,.int .i64 vn,vu,.int .i64 va] rfl rfl aC.out jk (by simp [Value.oneCell'] at o1 ⊢;exact o1) ?_;rw [HW.out]);have z0:=ak au.out 0 _ rfl;have z1:=ak au.out 1 _ rfl;have z2:=ak au.out 2 _ rfl;have z3:=ak au.out 3 _ rfl;have z4:=ak au.out 4 _ rfl;refine bodyPost_ret (v:=.agg #[.int .i64 vk,.string vx,.int .i64 vn,vu,.int .i64 va]) (by simp [results,Tryz.results197,go_sem,z0,z1,z2,z3,z4]) rfl (cz bz.out HV.out HF.out.1 HF.out.2)
  ·obtain ⟨m0,m1,m2,m3⟩:=HM.out;have b0:bg 1 e0 ⟨tk,tx,tn,ta⟩=false:=by have:=HN.out 0 (by decide);simpa using this
   have b1:bg 6 dP ⟨tk,tx,tn,ta⟩=false:=by have:=HN.out 1 (by decide);simpa using this
   have b2:bg 4 e0 ⟨tk,tx,tn,ta⟩=false:=by have:=HN.out 2 (by decide);simpa using this
   have b3:bg 2 e0 ⟨tk,tx,tn,ta⟩=false:=by have:=HN.out 3 (by decide);simpa using this
   have b4:bg 6 sL ⟨tk,tx,tn,ta⟩=false:=by have:=HN.out 4 (by decide);simpa using this
   have aA:Hid (az=.error ta):=ae (by rw [bT.out,bC,bC,bC,bC,bC,bC,if_neg (by rw [b0];decide),if_neg (by rw [b1];decide),if_neg (by rw [b2];decide),if_neg (by rw [b3];decide),if_neg (by rw [b4];decide)]);clear hcs HN b0 b1 b2 b3 b4;go_wp2;exact ⟨rfl,bA aA.out aO.out.pr.below⟩
end Go.Proofs.YtkdbgopgjbfhbaaGreatDoor
