/- Texts that the claim needs. -/
import Derived.Test.YtkdbgopgjbfhbaaGreatDoorQPW5
import Derived.WalkMore
namespace Go.Proofs.YtkdbgopgjbfhbaaGreatDoor
open Go.RowKit Lx Pz bq
set_option linter.unusedVariables false
set_option maxRecDepth 100000
set_option maxHeartbeats 16000000
namespace Pz
def bC (t:Tk):List (Int × ByteArray × Rd Value)->Rd Value
 | []=>.error t.a
 | (K,X,R) :: l=>if bg K X t=true then R else bC t l
theorem aX.val {B:Nat} {t v:Value} {w:World} (h:aX B t v w):∃k x y n u z a,v=.agg #[.int .i64 k,.string x,.string y,.int .i64 n,u,z,.int .i64 a]/\u.oneCell'=true/\z.oneCell'=true:=by
 obtain ⟨d,k,x,y,n,es,ps,a,u,z,_,h1,h2,h3⟩:=h;obtain ⟨o1,c1,rfl⟩:=Row.len h2;obtain ⟨o2,c2,rfl⟩:=Row.len h3;exact ⟨k,x,y,n,_,_,a,h1,rfl,rfl⟩
theorem cW.val {B:Nat} {t v:Value} {w:World} (h:cW B t v w):∃k x n u a,v=.agg #[.int .i64 k,.string x,.int .i64 n,u,.int .i64 a]/\u.oneCell'=true:=by
 obtain ⟨d,k,x,n,es,a,u,_,h1,h2⟩:=h;obtain ⟨o1,c1,rfl⟩:=Row.len h2;exact ⟨k,x,n,_,a,h1,rfl⟩
theorem fE.val {B:Nat} {t v:Value} {w:World} (h:fE B t v w):∃k x n u,v=.agg #[.int .i64 k,.string x,.int .i64 n,u]/\u.oneCell'=true:=by
 obtain ⟨d,k,x,n,es,u,_,h1,h2⟩:=h;obtain ⟨o1,c1,rfl⟩:=Row.len h2;exact ⟨k,x,n,_,h1,rfl⟩
theorem aX.on {B C:Nat} {t v:Value} {w w':World} (h:aX B t v w) (hb:bX B w w') (hc:C<=B):aX C t v w':=by obtain ⟨d,h⟩:=h;exact ⟨d,(h.but hb).lo hc⟩
theorem cW.on {B C:Nat} {t v:Value} {w w':World} (h:cW B t v w) (hb:bX B w w') (hc:C<=B):cW C t v w':=by obtain ⟨d,h⟩:=h;exact ⟨d,(h.but hb).lo hc⟩
theorem fE.on {B C:Nat} {t v:Value} {w w':World} (h:fE B t v w) (hb:bX B w w') (hc:C<=B):fE C t v w':=by obtain ⟨d,h⟩:=h;exact ⟨d,(h.but hb).lo hc⟩
theorem bX.lo {p q:Nat} {w w':World} (h:bX q w w') (hq:q<=p):bX p w w':=fun k hk hl=>h k (Nat.le_trans hq hk) hl
theorem gy (u:World) (T:TypeId) (a0 a1 a2:Value):∃u2,u2=u.alloc (.cells #[a0,a1,a2] T)/\Below u.heap.size u u2/\u2.cell? ⟨u.heap.size,0,none⟩=some a0/\u2.cell? ⟨u.heap.size,1,none⟩=some a1/\u2.cell? ⟨u.heap.size,2,none⟩=some a2:=by
 refine ⟨_,rfl,(Below.refl _ u).alloc (Nat.le_refl _) _,?_,?_,?_⟩
 all_goals (rw [World.cell?_alloc_at _ _ _ _ rfl];rfl)
end Pz
theorem O6 (w0:World) (p:Nat) (L:List Tk) (vL:Value) (en:Int) (i:Nat) (R0:Rd Value) (iw:∀u,PR w0 p L vL en i u->Calls Tryz.prog 245 #[.pointer (some ⟨p,0,none⟩)] u (Rp w0 p L vL en (aX u.heap.size) u R0)) (R1:Rd Value) (dV:∀u,PR w0 p L vL en i u->Calls Tryz.prog 246 #[.pointer (some ⟨p,0,none⟩)] u (Rp w0 p L vL en (aX u.heap.size) u R1)) (R2:Rd Value) (dM:∀u,PR w0 p L vL en i u->Calls Tryz.prog 241 #[.pointer (some ⟨p,0,none⟩)] u (Rp w0 p L vL en (aX u.heap.size) u R2)) (R3:Rd Value) (kU:∀u,PR w0 p L vL en i u->Calls Tryz.prog 247 #[.pointer (some ⟨p,0,none⟩)] u (Rp w0 p L vL en (aX u.heap.size) u R3)) (g:Nat) (w:World) (h:PR w0 p L vL en i w) (hg:w.heap[g]?=some (.cells nC 163 (0,0))) :
  Calls Tryz.prog 123 #[.pointer (some ⟨p,0,none⟩),.slice (some ⟨g,0,none⟩) 4 4] w (Rp w0 p L vL en (aX w.heap.size) w (bC (tk L en i) [(1,e0,R0),(4,e0,R1),(2,e0,R2),(6,sL,R3)])):=by
 have HA:=ae (AP.start h 27 bO);have H:=ae (jc w0 p L vL en i _ HA.out.pr);obtain ⟨az,aW⟩:∃X,X=bC (tk L en i) [(1,e0,R0),(4,e0,R1),(2,e0,R2),(6,sL,R3)]:=⟨_,rfl⟩;rw [<- aW];have bT:=ae aW;have HG:=ae hg;have hgl:g<w.heap.size:=(Array.getElem?_eq_some_iff.1 hg).1;have iA:g≠p:=fun e=>by rw [e,h.blk] at hg;injection hg with hg;injection hg with hg _ _;cases hg
 have dI:=ae (And.intro hgl iA);generalize tk L en i=t at *;obtain ⟨tk,tx,tn,ta⟩:=t;clear h hg aW hgl iA;go_enter Tryz.func123,Tryz.ntmps123;go_wp2_with fail;refine Calls.mono (show Calls _ _ _ _ _ from H.out) ?_;rintro e u ⟨rfl,hb⟩;have hA1:=HA.out.on hb;obtain ⟨u2,hu2,fM,hb2,m0,m1,m2,m3,hpl⟩:=mK hA1.pr tk tx tn ta;have aO:=ae (hA1.on hb2);have HM:Hid (u2.cell? ⟨u.heap.size,0,none⟩=some (.int .i64 tk)/\u2.cell? ⟨u.heap.size,1,none⟩=some (.string tx)/\u2.cell? ⟨u.heap.size,2,none⟩=some (.int .i64 tn)/\u2.cell? ⟨u.heap.size,3,none⟩=some (.int .i64 ta)):=ae ⟨m0,m1,m2,m3⟩;go_upto_region 2 with fail;simp only [dO]
 try rw [<- hu2]
 generalize u.heap.size=q at *;clear hu2 hb hb2 fM H hA1 m0 m1 m2 m3;go_wp2_with fail;go_loopw [12] (fun x wr=>∃k:Nat,k<=4/\x=.int .i64 k/\Hid (∀j,j<k->([(1,e0,R0),(4,e0,R1),(2,e0,R2),(6,sL,R3)]:List (Int × ByteArray × Rd Value))[j]?.map (fun r=>bg r.1 r.2.1 ⟨tk,tx,tn,ta⟩)=some false)/\Hid (AP w0 p L vL en w 27 bO i wr)/\Hid (wr.cell? ⟨q,0,none⟩=some (.int .i64 tk)/\wr.cell? ⟨q,1,none⟩=some (.string tx)/\wr.cell? ⟨q,2,none⟩=some (.int .i64 tn)/\wr.cell? ⟨q,3,none⟩=some (.int .i64 ta))) (fun x _=>match x with | .int _ k=>4-k.toNat|_=>0)
 case atStart=>exact ⟨0,Nat.zero_le _,rfl,ae (fun j hj=>absurd hj (Nat.not_lt_zero _)),aO,HM⟩
 case round =>
  clear aO HM;obtain ⟨k,hk,rfl,HN,aO,HM⟩:=hrel
  have hcs:∀(o:Nat) (v:Value),nC[o]?=some v->wr.cell? ⟨g,o,none⟩=some v:=fun o v ho=>by
   unfold World.cell?;rw [aO.out.but.block g dI.out.1 dI.out.2,HG.out];exact ho
  have hcase:k=0\/k=1\/k=2\/k=3\/k=4:=by omega
  clear hk;rcases hcase with rfl|rfl|rfl|rfl|rfl
  ·have y0:=hcs 0 _ rfl;have y1:=hcs 1 _ rfl;have y2:=hcs 2 _ rfl;obtain ⟨m0,m1,m2,m3⟩:=HM.out;have bJ:g<wr.heap.size:=Nat.lt_of_lt_of_le dI.out.1 aO.out.but.size;have fe:q<wr.heap.size:=World.block_lt_of_cell? _ _ m0;obtain ⟨u3,hu3,hb3,r0,r1,r2⟩:=gy wr 163 (.int .i64 1) (.string e0) (.func (.func 245) #[] #[]);have bS:=ae (aO.out.on hb3);have HB:=ae (mR 1 e0 (.func (.func 245) #[] #[]) ⟨tk,tx,tn,ta⟩ u3);have m0:=ai hb3 m0;have m1:=ai hb3 m1;have m2:=ai hb3 m2;have m3:=ai hb3 m3;go_upto_region 5 with fail
   try rw [<- hu3]
   generalize wr.heap.size=q2 at *;clear hu3 hb3 hcs y0 y1 y2 HM bJ fe aO;go_wp2_with fail;refine HB.out.mono ?_;rintro e u4 ⟨rfl,hb4⟩;have bF:=ae (bS.out.on hb4);have r2:=ai hb4 r2;have m0:=ai hb4 m0;have m1:=ai hb4 m1;have m2:=ai hb4 m2;have m3:=ai hb4 m3;clear hb4 HB bS r0 r1;cases hbg:bg 1 e0 ⟨tk,tx,tn,ta⟩ with
   | false =>
    have cG:Hid (∀j,j<1->([(1,e0,R0),(4,e0,R1),(2,e0,R2),(6,sL,R3)]:List (Int × ByteArray × Rd Value))[j]?.map (fun r=>bg r.1 r.2.1 ⟨tk,tx,tn,ta⟩)=some false):=ae fun j hj=>by
     rcases Nat.lt_succ_iff_lt_or_eq.1 hj with hj|rfl
     ·exact HN.out j hj
     ·simp [hbg]
    have dw:=ae (And.intro m0 (And.intro m1 (And.intro m2 m3)));clear m0 m1 m2 m3 r2 hbg HN;go_wp2;go_roundw
    case rel=>exact ⟨1,by decide,by first|rfl|simp,cG,bF,dw⟩
    case measure=>simp
   | true =>
    have hE:az=R0:=by rw [bT.out,bC,if_pos hbg]
    have HE:=ae hE;have HC:=ae (iw u4 bF.out.pr);clear hbg hE HN m0 m1 m2 m3;go_wp2_with fail;refine HC.out.mono ?_;intro e u5 hr;cases hR:R0 with
    | error z =>
     obtain ⟨rfl,hb⟩:=bE hr hR;have HB:=ae hb;have aA:Hid (az=.error z):=ae (by rw [HE.out,hR]);clear hb hr hR HE;go_wp2;exact ⟨rfl,bA aA.out HB.out⟩
    | ok r =>
     obtain ⟨tr,j⟩:=r;obtain ⟨⟨v,rfl,hv0⟩,hp,hbt⟩:=bw hr hR;obtain ⟨vk,vx,vy,vn,vu,vz,va,hv,o1,o2⟩:=hv0.val;subst hv;have bz:Hid (az=.ok (tr,j)):=ae (by rw [HE.out,hR]);have bP:=bF.out.lt;have dm:=ae (bF.out.call hp hbt);obtain ⟨W,hW,hth,hbk,hpr,aU,hab⟩:=dm.out.put #[.int .i64 vk,.string vx,.string vy,.int .i64 vn,vu,vz,.int .i64 va] rfl;have HV:=ae (hv0.on (hab.lo bP) (Nat.le_of_lt bP));have HW:=ae hW;have aC:=ae hth;have au:=ae hbk;have HF:=ae (And.intro hpr aU);clear hW hth hbk hpr aU hab hp hbt hr hR HE hv0 HC;go_wp2_with (refine wpList_store_mid rfl 27 (.tmp 4) (.tmp 22) rfl w.heap.size 0 #[.int .i64 vk,.string vx,.string vy,.int .i64 vn,vu,vz,.int .i64 va] rfl rfl aC.out cO (by simp [Value.oneCell'] at o1 o2 ⊢;exact ⟨o1,o2⟩) ?_;rw [HW.out]);have z0:=ak au.out 0 _ rfl;have z1:=ak au.out 1 _ rfl;have z2:=ak au.out 2 _ rfl;have z3:=ak au.out 3 _ rfl;have z4:=ak au.out 4 _ rfl;have z5:=ak au.out 5 _ rfl;have z6:=ak au.out 6 _ rfl;refine bodyPost_ret (v:=.agg #[.int .i64 vk,.string vx,.string vy,.int .i64 vn,vu,vz,.int .i64 va]) (by simp [results,Tryz.results123,go_sem,z0,z1,z2,z3,z4,z5,z6]) rfl (cz bz.out HV.out HF.out.1 HF.out.2)
  ·have y0:=hcs 3 _ rfl;have y1:=hcs 4 _ rfl;have y2:=hcs 5 _ rfl;have b0:bg 1 e0 ⟨tk,tx,tn,ta⟩=false:=by have:=HN.out 0 (by decide);simpa using this
   obtain ⟨m0,m1,m2,m3⟩:=HM.out;have bJ:g<wr.heap.size:=Nat.lt_of_lt_of_le dI.out.1 aO.out.but.size;have fe:q<wr.heap.size:=World.block_lt_of_cell? _ _ m0;obtain ⟨u3,hu3,hb3,r0,r1,r2⟩:=gy wr 163 (.int .i64 4) (.string e0) (.func (.func 246) #[] #[]);have bS:=ae (aO.out.on hb3);have HB:=ae (mR 4 e0 (.func (.func 246) #[] #[]) ⟨tk,tx,tn,ta⟩ u3);have m0:=ai hb3 m0;have m1:=ai hb3 m1;have m2:=ai hb3 m2;have m3:=ai hb3 m3;go_upto_region 5 with fail
   try rw [<- hu3]
   generalize wr.heap.size=q2 at *;clear hu3 hb3 hcs y0 y1 y2 HM bJ fe aO;go_wp2_with fail;refine HB.out.mono ?_;rintro e u4 ⟨rfl,hb4⟩;have bF:=ae (bS.out.on hb4);have r2:=ai hb4 r2;have m0:=ai hb4 m0;have m1:=ai hb4 m1;have m2:=ai hb4 m2;have m3:=ai hb4 m3;clear hb4 HB bS r0 r1;cases hbg:bg 4 e0 ⟨tk,tx,tn,ta⟩ with
   | false =>
    have cG:Hid (∀j,j<2->([(1,e0,R0),(4,e0,R1),(2,e0,R2),(6,sL,R3)]:List (Int × ByteArray × Rd Value))[j]?.map (fun r=>bg r.1 r.2.1 ⟨tk,tx,tn,ta⟩)=some false):=ae fun j hj=>by
     rcases Nat.lt_succ_iff_lt_or_eq.1 hj with hj|rfl
     ·exact HN.out j hj
     ·simp [hbg]
    have dw:=ae (And.intro m0 (And.intro m1 (And.intro m2 m3)));clear m0 m1 m2 m3 r2 hbg HN;go_wp2;go_roundw
    case rel=>exact ⟨2,by decide,by first|rfl|simp,cG,bF,dw⟩
    case measure=>simp
   | true =>
    have hE:az=R1:=by rw [bT.out,bC,bC,if_neg (by rw [b0];decide),if_pos hbg]
    have HE:=ae hE;have HC:=ae (dV u4 bF.out.pr);clear hbg hE HN m0 m1 m2 m3;go_wp2_with fail;refine HC.out.mono ?_;intro e u5 hr;cases hR:R1 with
    | error z =>
     obtain ⟨rfl,hb⟩:=bE hr hR;have HB:=ae hb;have aA:Hid (az=.error z):=ae (by rw [HE.out,hR]);clear hb hr hR HE;go_wp2;exact ⟨rfl,bA aA.out HB.out⟩
    | ok r =>
     obtain ⟨tr,j⟩:=r;obtain ⟨⟨v,rfl,hv0⟩,hp,hbt⟩:=bw hr hR;obtain ⟨vk,vx,vy,vn,vu,vz,va,hv,o1,o2⟩:=hv0.val;subst hv;have bz:Hid (az=.ok (tr,j)):=ae (by rw [HE.out,hR]);have bP:=bF.out.lt;have dm:=ae (bF.out.call hp hbt);obtain ⟨W,hW,hth,hbk,hpr,aU,hab⟩:=dm.out.put #[.int .i64 vk,.string vx,.string vy,.int .i64 vn,vu,vz,.int .i64 va] rfl;have HV:=ae (hv0.on (hab.lo bP) (Nat.le_of_lt bP));have HW:=ae hW;have aC:=ae hth;have au:=ae hbk;have HF:=ae (And.intro hpr aU);clear hW hth hbk hpr aU hab hp hbt hr hR HE hv0 HC;go_wp2_with (refine wpList_store_mid rfl 27 (.tmp 4) (.tmp 22) rfl w.heap.size 0 #[.int .i64 vk,.string vx,.string vy,.int .i64 vn,vu,vz,.int .i64 va] rfl rfl aC.out cO (by simp [Value.oneCell'] at o1 o2 ⊢;exact ⟨o1,o2⟩) ?_;rw [HW.out]);have z0:=ak au.out 0 _ rfl;have z1:=ak au.out 1 _ rfl;have z2:=ak au.out 2 _ rfl;have z3:=ak au.out 3 _ rfl;have z4:=ak au.out 4 _ rfl;have z5:=ak au.out 5 _ rfl;have z6:=ak au.out 6 _ rfl;refine bodyPost_ret (v:=.agg #[.int .i64 vk,.string vx,.string vy,.int .i64 vn,vu,vz,.int .i64 va]) (by simp [results,Tryz.results123,go_sem,z0,z1,z2,z3,z4,z5,z6]) rfl (cz bz.out HV.out HF.out.1 HF.out.2)
  ·have y0:=hcs 6 _ rfl;have y1:=hcs 7 _ rfl;have y2:=hcs 8 _ rfl;have b0:bg 1 e0 ⟨tk,tx,tn,ta⟩=false:=by have:=HN.out 0 (by decide);simpa using this
   have b1:bg 4 e0 ⟨tk,tx,tn,ta⟩=false:=by have:=HN.out 1 (by decide);simpa using this
   obtain ⟨m0,m1,m2,m3⟩:=HM.out;have bJ:g<wr.heap.size:=Nat.lt_of_lt_of_le dI.out.1 aO.out.but.size;have fe:q<wr.heap.size:=World.block_lt_of_cell? _ _ m0;obtain ⟨u3,hu3,hb3,r0,r1,r2⟩:=gy wr 163 (.int .i64 2) (.string e0) (.func (.func 241) #[] #[]);have bS:=ae (aO.out.on hb3);have HB:=ae (mR 2 e0 (.func (.func 241) #[] #[]) ⟨tk,tx,tn,ta⟩ u3);have m0:=ai hb3 m0;have m1:=ai hb3 m1;have m2:=ai hb3 m2;have m3:=ai hb3 m3;go_upto_region 5 with fail
   try rw [<- hu3]
   generalize wr.heap.size=q2 at *;clear hu3 hb3 hcs y0 y1 y2 HM bJ fe aO;go_wp2_with fail;refine HB.out.mono ?_;rintro e u4 ⟨rfl,hb4⟩;have bF:=ae (bS.out.on hb4);have r2:=ai hb4 r2;have m0:=ai hb4 m0;have m1:=ai hb4 m1;have m2:=ai hb4 m2;have m3:=ai hb4 m3;clear hb4 HB bS r0 r1;cases hbg:bg 2 e0 ⟨tk,tx,tn,ta⟩ with
   | false =>
    have cG:Hid (∀j,j<3->([(1,e0,R0),(4,e0,R1),(2,e0,R2),(6,sL,R3)]:List (Int × ByteArray × Rd Value))[j]?.map (fun r=>bg r.1 r.2.1 ⟨tk,tx,tn,ta⟩)=some false):=ae fun j hj=>by
     rcases Nat.lt_succ_iff_lt_or_eq.1 hj with hj|rfl
     ·exact HN.out j hj
     ·simp [hbg]
    have dw:=ae (And.intro m0 (And.intro m1 (And.intro m2 m3)));clear m0 m1 m2 m3 r2 hbg HN;go_wp2;go_roundw
    case rel=>exact ⟨3,by decide,by first|rfl|simp,cG,bF,dw⟩
    case measure=>simp
   | true =>
    have hE:az=R2:=by rw [bT.out,bC,bC,bC,if_neg (by rw [b0];decide),if_neg (by rw [b1];decide),if_pos hbg]
    have HE:=ae hE;have HC:=ae (dM u4 bF.out.pr);clear hbg hE HN m0 m1 m2 m3;go_wp2_with fail;refine HC.out.mono ?_;intro e u5 hr;cases hR:R2 with
    | error z =>
     obtain ⟨rfl,hb⟩:=bE hr hR;have HB:=ae hb;have aA:Hid (az=.error z):=ae (by rw [HE.out,hR]);clear hb hr hR HE;go_wp2;exact ⟨rfl,bA aA.out HB.out⟩
    | ok r =>
     obtain ⟨tr,j⟩:=r;obtain ⟨⟨v,rfl,hv0⟩,hp,hbt⟩:=bw hr hR;obtain ⟨vk,vx,vy,vn,vu,vz,va,hv,o1,o2⟩:=hv0.val;subst hv;have bz:Hid (az=.ok (tr,j)):=ae (by rw [HE.out,hR]);have bP:=bF.out.lt;have dm:=ae (bF.out.call hp hbt);obtain ⟨W,hW,hth,hbk,hpr,aU,hab⟩:=dm.out.put #[.int .i64 vk,.string vx,.string vy,.int .i64 vn,vu,vz,.int .i64 va] rfl;have HV:=ae (hv0.on (hab.lo bP) (Nat.le_of_lt bP));have HW:=ae hW;have aC:=ae hth;have au:=ae hbk;have HF:=ae (And.intro hpr aU);clear hW hth hbk hpr aU hab hp hbt hr hR HE hv0 HC;go_wp2_with (refine wpList_store_mid rfl 27 (.tmp 4) (.tmp 22) rfl w.heap.size 0 #[.int .i64 vk,.string vx,.string vy,.int .i64 vn,vu,vz,.int .i64 va] rfl rfl aC.out cO (by simp [Value.oneCell'] at o1 o2 ⊢;exact ⟨o1,o2⟩) ?_;rw [HW.out]);have z0:=ak au.out 0 _ rfl;have z1:=ak au.out 1 _ rfl;have z2:=ak au.out 2 _ rfl;have z3:=ak au.out 3 _ rfl;have z4:=ak au.out 4 _ rfl;have z5:=ak au.out 5 _ rfl;have z6:=ak au.out 6 _ rfl;refine bodyPost_ret (v:=.agg #[.int .i64 vk,.string vx,.string vy,.int .i64 vn,vu,vz,.int .i64 va]) (by simp [results,Tryz.results123,go_sem,z0,z1,z2,z3,z4,z5,z6]) rfl (cz bz.out HV.out HF.out.1 HF.out.2)
  ·have y0:=hcs 9 _ rfl;have y1:=hcs 10 _ rfl;have y2:=hcs 11 _ rfl;have b0:bg 1 e0 ⟨tk,tx,tn,ta⟩=false:=by have:=HN.out 0 (by decide);simpa using this
   have b1:bg 4 e0 ⟨tk,tx,tn,ta⟩=false:=by have:=HN.out 1 (by decide);simpa using this
   have b2:bg 2 e0 ⟨tk,tx,tn,ta⟩=false:=by have:=HN.out 2 (by decide);simpa using this
   obtain ⟨m0,m1,m2,m3⟩:=HM.out;have bJ:g<wr.heap.size:=Nat.lt_of_lt_of_le dI.out.1 aO.out.but.size;have fe:q<wr.heap.size:=World.block_lt_of_cell? _ _ m0;obtain ⟨u3,hu3,hb3,r0,r1,r2⟩:=gy wr 163 (.int .i64 6) (.string sL) (.func (.func 247) #[] #[]);have bS:=ae (aO.out.on hb3);have HB:=ae (mR 6 sL (.func (.func 247) #[] #[]) ⟨tk,tx,tn,ta⟩ u3);have m0:=ai hb3 m0;have m1:=ai hb3 m1;have m2:=ai hb3 m2;have m3:=ai hb3 m3;go_upto_region 5 with fail
   try rw [<- hu3]
   generalize wr.heap.size=q2 at *;clear hu3 hb3 hcs y0 y1 y2 HM bJ fe aO;go_wp2_with fail;refine HB.out.mono ?_;rintro e u4 ⟨rfl,hb4⟩;have bF:=ae (bS.out.on hb4);have r2:=ai hb4 r2;have m0:=ai hb4 m0;have m1:=ai hb4 m1;have m2:=ai hb4 m2;have m3:=ai hb4 m3;clear hb4 HB bS r0 r1;cases hbg:bg 6 sL ⟨tk,tx,tn,ta⟩ with
   | false =>
    have cG:Hid (∀j,j<4->([(1,e0,R0),(4,e0,R1),(2,e0,R2),(6,sL,R3)]:List (Int × ByteArray × Rd Value))[j]?.map (fun r=>bg r.1 r.2.1 ⟨tk,tx,tn,ta⟩)=some false):=ae fun j hj=>by
     rcases Nat.lt_succ_iff_lt_or_eq.1 hj with hj|rfl
     ·exact HN.out j hj
     ·simp [hbg]
    have dw:=ae (And.intro m0 (And.intro m1 (And.intro m2 m3)));clear m0 m1 m2 m3 r2 hbg HN;go_wp2;go_roundw
    case rel=>exact ⟨4,by decide,by first|rfl|simp,cG,bF,dw⟩
    case measure=>simp
   | true =>
    have hE:az=R3:=by rw [bT.out,bC,bC,bC,bC,if_neg (by rw [b0];decide),if_neg (by rw [b1];decide),if_neg (by rw [b2];decide),if_pos hbg]
    have HE:=ae hE;have HC:=ae (kU u4 bF.out.pr);clear hbg hE HN m0 m1 m2 m3;go_wp2_with fail;refine HC.out.mono ?_;intro e u5 hr;cases hR:R3 with
    | error z =>
     obtain ⟨rfl,hb⟩:=bE hr hR;have HB:=ae hb;have aA:Hid (az=.error z):=ae (by rw [HE.out,hR]);clear hb hr hR HE;go_wp2;exact ⟨rfl,bA aA.out HB.out⟩
    | ok r =>
     obtain ⟨tr,j⟩:=r;obtain ⟨⟨v,rfl,hv0⟩,hp,hbt⟩:=bw hr hR;obtain ⟨vk,vx,vy,vn,vu,vz,va,hv,o1,o2⟩:=hv0.val;subst hv;have bz:Hid (az=.ok (tr,j)):=ae (by rw [HE.out,hR]);have bP:=bF.out.lt;have dm:=ae (bF.out.call hp hbt);obtain ⟨W,hW,hth,hbk,hpr,aU,hab⟩:=dm.out.put #[.int .i64 vk,.string vx,.string vy,.int .i64 vn,vu,vz,.int .i64 va] rfl;have HV:=ae (hv0.on (hab.lo bP) (Nat.le_of_lt bP));have HW:=ae hW;have aC:=ae hth;have au:=ae hbk;have HF:=ae (And.intro hpr aU);clear hW hth hbk hpr aU hab hp hbt hr hR HE hv0 HC;go_wp2_with (refine wpList_store_mid rfl 27 (.tmp 4) (.tmp 22) rfl w.heap.size 0 #[.int .i64 vk,.string vx,.string vy,.int .i64 vn,vu,vz,.int .i64 va] rfl rfl aC.out cO (by simp [Value.oneCell'] at o1 o2 ⊢;exact ⟨o1,o2⟩) ?_;rw [HW.out]);have z0:=ak au.out 0 _ rfl;have z1:=ak au.out 1 _ rfl;have z2:=ak au.out 2 _ rfl;have z3:=ak au.out 3 _ rfl;have z4:=ak au.out 4 _ rfl;have z5:=ak au.out 5 _ rfl;have z6:=ak au.out 6 _ rfl;refine bodyPost_ret (v:=.agg #[.int .i64 vk,.string vx,.string vy,.int .i64 vn,vu,vz,.int .i64 va]) (by simp [results,Tryz.results123,go_sem,z0,z1,z2,z3,z4,z5,z6]) rfl (cz bz.out HV.out HF.out.1 HF.out.2)
  ·obtain ⟨m0,m1,m2,m3⟩:=HM.out;have b0:bg 1 e0 ⟨tk,tx,tn,ta⟩=false:=by have:=HN.out 0 (by decide);simpa using this
   have b1:bg 4 e0 ⟨tk,tx,tn,ta⟩=false:=by have:=HN.out 1 (by decide);simpa using this
   have b2:bg 2 e0 ⟨tk,tx,tn,ta⟩=false:=by have:=HN.out 2 (by decide);simpa using this
   have b3:bg 6 sL ⟨tk,tx,tn,ta⟩=false:=by have:=HN.out 3 (by decide);simpa using this
   have aA:Hid (az=.error ta):=ae (by rw [bT.out,bC,bC,bC,bC,bC,if_neg (by rw [b0];decide),if_neg (by rw [b1];decide),if_neg (by rw [b2];decide),if_neg (by rw [b3];decide)]);clear hcs HN b0 b1 b2 b3;go_wp2;exact ⟨rfl,bA aA.out aO.out.pr.below⟩
def Pz.jZ (t:Tk):Bool:=bg 1 e0 t || bg 4 e0 t || bg 2 e0 t || bg 6 sL t
theorem Ox (w0:World) (p:Nat) (L:List Tk) (vL:Value) (en:Int) (i:Nat) (g:Nat) (w:World) (h:PR w0 p L vL en i w) (hg:w.heap[g]?=some (.cells nC 163 (0,0))) :
  Calls Tryz.prog 244 #[.pointer (some ⟨p,0,none⟩),.slice (some ⟨g,0,none⟩) 4 4] w fun e w'=>e=.returned (.bool (jZ (tk L en i)))/\Below w.heap.size w w':=by
 have HP:=ae h;have HG:=ae hg;have hgl:g<w.heap.size:=(Array.getElem?_eq_some_iff.1 hg).1;have dI:=ae hgl;obtain ⟨az,aW⟩:∃X,X=jZ (tk L en i):=⟨_,rfl⟩;rw [<- aW];have bT:=ae aW;clear h hg aW hgl;go_enter Tryz.func244,Tryz.ntmps244;go_wp2_with fail;go_loopw [9] (fun x wr=>∃k:Nat,k<=4/\x=.int .i64 k/\Hid (∀j,j<k->([(1,e0),(4,e0),(2,e0),(6,sL)]:List (Int × ByteArray))[j]?.map (fun r=>bg r.1 r.2 (tk L en i))=some false)/\Hid (Below w.heap.size w wr)) (fun x _=>match x with | .int _ k=>4-k.toNat|_=>0)
 case atStart=>exact ⟨0,Nat.zero_le _,rfl,ae (fun j hj=>absurd hj (Nat.not_lt_zero _)),ae (Below.refl _ _)⟩
 case round =>
  obtain ⟨k,hk,rfl,HN,HB⟩:=hrel
  have hcs:∀(o:Nat) (v:Value),nC[o]?=some v->wr.cell? ⟨g,o,none⟩=some v:=fun o v ho=>by
   unfold World.cell?;rw [HB.out.block g dI.out,HG.out];exact ho
  have hcase:k=0\/k=1\/k=2\/k=3\/k=4:=by omega
  clear hk;rcases hcase with rfl|rfl|rfl|rfl|rfl
  ·have y0:=hcs 0 _ rfl;have y1:=hcs 1 _ rfl;have y2:=hcs 2 _ rfl;have bJ:g<wr.heap.size:=Nat.lt_of_lt_of_le dI.out HB.out.size;obtain ⟨u3,hu3,hb3,r0,r1,r2⟩:=gy wr 163 (.int .i64 1) (.string e0) (.func (.func 245) #[] #[]);have bb:=ae (aB HB.out hb3);have HR:Hid (∀u,Below u3.heap.size u3 u->u.cell? ⟨wr.heap.size,0,none⟩=some (.int .i64 1)/\u.cell? ⟨wr.heap.size,1,none⟩=some (.string e0)/\u.cell? ⟨wr.heap.size,2,none⟩=some (.func (.func 245) #[] #[])):=ae fun u hb=>⟨ai hb r0,ai hb r1,ai hb r2⟩;go_upto_region 4 with fail
   try rw [<- hu3]
   generalize wr.heap.size=q2 at *;clear hu3 hb3 hcs y0 y1 y2 bJ r0 r1 r2;refine aj.qh 3 (fun j=>13+j) (fun j v _=>v = [.agg #[.int .i64 1,.string e0,.func (.func 245) #[] #[]],.pointer (some ⟨p,0,none⟩),dO (tk L en i)].getD j undef) (by kernel_rfl) (by kernel_rfl) (fun a b h1 h2 h=>by have h':13+a=13+b:=h;omega) (aj.qi (size:=18) (by kernel_rfl)) (fun a v w w' _ h _=>h) ?hs0 ?ht0
   case hs0 =>
    intro j o a w2 hj ho hF hb2 hd;obtain ⟨r0,r1,r2⟩:=HR.out w2 hb2;have HQ:=ae (jc w0 p L vL en i w2 (HP.out.on (aB bb.out hb2)));have f0:a.tmps[0]?.getD undef=.pointer (some ⟨p,0,none⟩):=aj.ay (hF.eval 0 (fun i hi=>by show 13+i≠0;omega));have f6:a.tmps[6]?.getD undef=.pointer (some ⟨q2,0,none⟩):=aj.ay (hF.eval 6 (fun i hi=>by show 13+i≠6;omega));have hc:j=0\/j=1\/j=2:=by omega
    clear hj;rcases hc with rfl|rfl|rfl
    all_goals (simp only [List.getElem?_toArray,List.getElem?_cons_succ,List.getElem?_cons_zero,Option.some.injEq] at ho;subst ho;refine aj.bB fun KK ax=>?_)
    ·go_simp;exact ax _ _ ⟨_,rfl,Below.refl _ _,rfl⟩
    ·go_simp;exact ax _ _ ⟨_,rfl,Below.refl _ _,rfl⟩
    ·have g0:a.tmps[14]?.getD undef=.pointer (some ⟨p,0,none⟩):=aj.ay (hd 1 (by decide));have HK:=ae ax;clear ax;go_simp;refine HQ.out.mono ?_;rintro e w3 ⟨rfl,hb3⟩;exact HK.out _ _ ⟨_,rfl,hb3,rfl⟩
   case ht0 =>
    intro a w2 hF hb2 hG;have g0:a.eval (.tmp 13)=.agg #[.int .i64 1,.string e0,.func (.func 245) #[] #[]]:=hG 0 (by decide);have g2:a.eval (.tmp 15)=dO (tk L en i):=hG 2 (by decide);obtain ⟨xs,hxl,rfl,hev⟩:=hF.lit (by simp);rw [hev 0 (by decide)] at g0;rw [hev 2 (by decide)] at g2;obtain ⟨x0,x1,x2,rfl⟩:∃x0 x1 x2,xs = [x0,x1,x2]:=by match xs,hxl with|[x0,x1,x2],_=>exact ⟨x0,x1,x2,rfl⟩
    have g0:x0=_:=g0;have g2:x2=_:=g2;subst g0;subst g2;have HQ:=ae (mR 1 e0 (.func (.func 245) #[] #[]) (tk L en i) w2);have fF:=ae (aB bb.out hb2);clear hF hb2 hG hev hxl HR;simp only [List.take_succ_cons,List.take_zero,List.drop_succ_cons,List.drop_zero,List.cons_append,List.nil_append];go_wp2_with fail;refine HQ.out.mono ?_;rintro e u5 ⟨rfl,hb5⟩;have gh:=ae (aB fF.out hb5);clear hb5 HQ;cases hbg:bg 1 e0 (tk L en i) with
    | false =>
     have cG:Hid (∀j,j<1->([(1,e0),(4,e0),(2,e0),(6,sL)]:List (Int × ByteArray))[j]?.map (fun r=>bg r.1 r.2 (tk L en i))=some false):=ae fun j hj=>by
      rcases Nat.lt_succ_iff_lt_or_eq.1 hj with hj|rfl
      ·exact HN.out j hj
      ·simp [hbg]
     clear hbg HN;go_wp2;go_roundw
     case rel=>exact ⟨1,by decide,by first|rfl|simp,cG,gh⟩
     case measure=>simp
    | true =>
     have hE:az=true:=by rw [bT.out,jZ];simp [hbg]
     have HE:=ae hE;clear hbg hE HN;go_wp2;go_ret;exact ⟨bf HE.out.symm,gh.out⟩
  ·have y0:=hcs 3 _ rfl;have y1:=hcs 4 _ rfl;have y2:=hcs 5 _ rfl;have bJ:g<wr.heap.size:=Nat.lt_of_lt_of_le dI.out HB.out.size;obtain ⟨u3,hu3,hb3,r0,r1,r2⟩:=gy wr 163 (.int .i64 4) (.string e0) (.func (.func 246) #[] #[]);have bb:=ae (aB HB.out hb3);have HR:Hid (∀u,Below u3.heap.size u3 u->u.cell? ⟨wr.heap.size,0,none⟩=some (.int .i64 4)/\u.cell? ⟨wr.heap.size,1,none⟩=some (.string e0)/\u.cell? ⟨wr.heap.size,2,none⟩=some (.func (.func 246) #[] #[])):=ae fun u hb=>⟨ai hb r0,ai hb r1,ai hb r2⟩;go_upto_region 4 with fail
   try rw [<- hu3]
   generalize wr.heap.size=q2 at *;clear hu3 hb3 hcs y0 y1 y2 bJ r0 r1 r2;refine aj.qh 3 (fun j=>13+j) (fun j v _=>v = [.agg #[.int .i64 4,.string e0,.func (.func 246) #[] #[]],.pointer (some ⟨p,0,none⟩),dO (tk L en i)].getD j undef) (by kernel_rfl) (by kernel_rfl) (fun a b h1 h2 h=>by have h':13+a=13+b:=h;omega) (aj.qi (size:=18) (by kernel_rfl)) (fun a v w w' _ h _=>h) ?hs1 ?ht1
   case hs1 =>
    intro j o a w2 hj ho hF hb2 hd;obtain ⟨r0,r1,r2⟩:=HR.out w2 hb2;have HQ:=ae (jc w0 p L vL en i w2 (HP.out.on (aB bb.out hb2)));have f0:a.tmps[0]?.getD undef=.pointer (some ⟨p,0,none⟩):=aj.ay (hF.eval 0 (fun i hi=>by show 13+i≠0;omega));have f6:a.tmps[6]?.getD undef=.pointer (some ⟨q2,0,none⟩):=aj.ay (hF.eval 6 (fun i hi=>by show 13+i≠6;omega));have hc:j=0\/j=1\/j=2:=by omega
    clear hj;rcases hc with rfl|rfl|rfl
    all_goals (simp only [List.getElem?_toArray,List.getElem?_cons_succ,List.getElem?_cons_zero,Option.some.injEq] at ho;subst ho;refine aj.bB fun KK ax=>?_)
    ·go_simp;exact ax _ _ ⟨_,rfl,Below.refl _ _,rfl⟩
    ·go_simp;exact ax _ _ ⟨_,rfl,Below.refl _ _,rfl⟩
    ·have g0:a.tmps[14]?.getD undef=.pointer (some ⟨p,0,none⟩):=aj.ay (hd 1 (by decide));have HK:=ae ax;clear ax;go_simp;refine HQ.out.mono ?_;rintro e w3 ⟨rfl,hb3⟩;exact HK.out _ _ ⟨_,rfl,hb3,rfl⟩
   case ht1 =>
    intro a w2 hF hb2 hG;have g0:a.eval (.tmp 13)=.agg #[.int .i64 4,.string e0,.func (.func 246) #[] #[]]:=hG 0 (by decide);have g2:a.eval (.tmp 15)=dO (tk L en i):=hG 2 (by decide);obtain ⟨xs,hxl,rfl,hev⟩:=hF.lit (by simp);rw [hev 0 (by decide)] at g0;rw [hev 2 (by decide)] at g2;obtain ⟨x0,x1,x2,rfl⟩:∃x0 x1 x2,xs = [x0,x1,x2]:=by match xs,hxl with|[x0,x1,x2],_=>exact ⟨x0,x1,x2,rfl⟩
    have g0:x0=_:=g0;have g2:x2=_:=g2;subst g0;subst g2;have HQ:=ae (mR 4 e0 (.func (.func 246) #[] #[]) (tk L en i) w2);have fF:=ae (aB bb.out hb2);clear hF hb2 hG hev hxl HR;simp only [List.take_succ_cons,List.take_zero,List.drop_succ_cons,List.drop_zero,List.cons_append,List.nil_append];go_wp2_with fail;refine HQ.out.mono ?_;rintro e u5 ⟨rfl,hb5⟩;have gh:=ae (aB fF.out hb5);clear hb5 HQ;have b0:bg 1 e0 (tk L en i)=false:=by have:=HN.out 0 (by decide);simpa using this
    cases hbg:bg 4 e0 (tk L en i) with
    | false =>
     have cG:Hid (∀j,j<2->([(1,e0),(4,e0),(2,e0),(6,sL)]:List (Int × ByteArray))[j]?.map (fun r=>bg r.1 r.2 (tk L en i))=some false):=ae fun j hj=>by
      rcases Nat.lt_succ_iff_lt_or_eq.1 hj with hj|rfl
      ·exact HN.out j hj
      ·simp [hbg]
     clear hbg HN b0;go_wp2;go_roundw
     case rel=>exact ⟨2,by decide,by first|rfl|simp,cG,gh⟩
     case measure=>simp
    | true =>
     have hE:az=true:=by rw [bT.out,jZ];simp [hbg]
     have HE:=ae hE;clear hbg hE HN b0;go_wp2;go_ret;exact ⟨bf HE.out.symm,gh.out⟩
  ·have y0:=hcs 6 _ rfl;have y1:=hcs 7 _ rfl;have y2:=hcs 8 _ rfl;have bJ:g<wr.heap.size:=Nat.lt_of_lt_of_le dI.out HB.out.size;obtain ⟨u3,hu3,hb3,r0,r1,r2⟩:=gy wr 163 (.int .i64 2) (.string e0) (.func (.func 241) #[] #[]);have bb:=ae (aB HB.out hb3);have HR:Hid (∀u,Below u3.heap.size u3 u->u.cell? ⟨wr.heap.size,0,none⟩=some (.int .i64 2)/\u.cell? ⟨wr.heap.size,1,none⟩=some (.string e0)/\u.cell? ⟨wr.heap.size,2,none⟩=some (.func (.func 241) #[] #[])):=ae fun u hb=>⟨ai hb r0,ai hb r1,ai hb r2⟩;go_upto_region 4 with fail
   try rw [<- hu3]
   generalize wr.heap.size=q2 at *;clear hu3 hb3 hcs y0 y1 y2 bJ r0 r1 r2;refine aj.qh 3 (fun j=>13+j) (fun j v _=>v = [.agg #[.int .i64 2,.string e0,.func (.func 241) #[] #[]],.pointer (some ⟨p,0,none⟩),dO (tk L en i)].getD j undef) (by kernel_rfl) (by kernel_rfl) (fun a b h1 h2 h=>by have h':13+a=13+b:=h;omega) (aj.qi (size:=18) (by kernel_rfl)) (fun a v w w' _ h _=>h) ?hs2 ?ht2
   case hs2 =>
    intro j o a w2 hj ho hF hb2 hd;obtain ⟨r0,r1,r2⟩:=HR.out w2 hb2;have HQ:=ae (jc w0 p L vL en i w2 (HP.out.on (aB bb.out hb2)));have f0:a.tmps[0]?.getD undef=.pointer (some ⟨p,0,none⟩):=aj.ay (hF.eval 0 (fun i hi=>by show 13+i≠0;omega));have f6:a.tmps[6]?.getD undef=.pointer (some ⟨q2,0,none⟩):=aj.ay (hF.eval 6 (fun i hi=>by show 13+i≠6;omega));have hc:j=0\/j=1\/j=2:=by omega
    clear hj;rcases hc with rfl|rfl|rfl
    all_goals (simp only [List.getElem?_toArray,List.getElem?_cons_succ,List.getElem?_cons_zero,Option.some.injEq] at ho;subst ho;refine aj.bB fun KK ax=>?_)
    ·go_simp;exact ax _ _ ⟨_,rfl,Below.refl _ _,rfl⟩
    ·go_simp;exact ax _ _ ⟨_,rfl,Below.refl _ _,rfl⟩
    ·have g0:a.tmps[14]?.getD undef=.pointer (some ⟨p,0,none⟩):=aj.ay (hd 1 (by decide));have HK:=ae ax;clear ax;go_simp;refine HQ.out.mono ?_;rintro e w3 ⟨rfl,hb3⟩;exact HK.out _ _ ⟨_,rfl,hb3,rfl⟩
   case ht2 =>
    intro a w2 hF hb2 hG;have g0:a.eval (.tmp 13)=.agg #[.int .i64 2,.string e0,.func (.func 241) #[] #[]]:=hG 0 (by decide);have g2:a.eval (.tmp 15)=dO (tk L en i):=hG 2 (by decide);obtain ⟨xs,hxl,rfl,hev⟩:=hF.lit (by simp);rw [hev 0 (by decide)] at g0;rw [hev 2 (by decide)] at g2;obtain ⟨x0,x1,x2,rfl⟩:∃x0 x1 x2,xs = [x0,x1,x2]:=by match xs,hxl with|[x0,x1,x2],_=>exact ⟨x0,x1,x2,rfl⟩
    have g0:x0=_:=g0;have g2:x2=_:=g2;subst g0;subst g2;have HQ:=ae (mR 2 e0 (.func (.func 241) #[] #[]) (tk L en i) w2);have fF:=ae (aB bb.out hb2);clear hF hb2 hG hev hxl HR;simp only [List.take_succ_cons,List.take_zero,List.drop_succ_cons,List.drop_zero,List.cons_append,List.nil_append];go_wp2_with fail;refine HQ.out.mono ?_;rintro e u5 ⟨rfl,hb5⟩;have gh:=ae (aB fF.out hb5);clear hb5 HQ;have b0:bg 1 e0 (tk L en i)=false:=by have:=HN.out 0 (by decide);simpa using this
    have b1:bg 4 e0 (tk L en i)=false:=by have:=HN.out 1 (by decide);simpa using this
    cases hbg:bg 2 e0 (tk L en i) with
    | false =>
     have cG:Hid (∀j,j<3->([(1,e0),(4,e0),(2,e0),(6,sL)]:List (Int × ByteArray))[j]?.map (fun r=>bg r.1 r.2 (tk L en i))=some false):=ae fun j hj=>by
      rcases Nat.lt_succ_iff_lt_or_eq.1 hj with hj|rfl
      ·exact HN.out j hj
      ·simp [hbg]
     clear hbg HN b0 b1;go_wp2;go_roundw
     case rel=>exact ⟨3,by decide,by first|rfl|simp,cG,gh⟩
     case measure=>simp
    | true =>
     have hE:az=true:=by rw [bT.out,jZ];simp [hbg]
     have HE:=ae hE;clear hbg hE HN b0 b1;go_wp2;go_ret;exact ⟨bf HE.out.symm,gh.out⟩
  ·have y0:=hcs 9 _ rfl;have y1:=hcs 10 _ rfl;have y2:=hcs 11 _ rfl;have bJ:g<wr.heap.size:=Nat.lt_of_lt_of_le dI.out HB.out.size;obtain ⟨u3,hu3,hb3,r0,r1,r2⟩:=gy wr 163 (.int .i64 6) (.string sL) (.func (.func 247) #[] #[]);have bb:=ae (aB HB.out hb3);have HR:Hid (∀u,Below u3.heap.size u3 u->u.cell? ⟨wr.heap.size,0,none⟩=some (.int .i64 6)/\u.cell? ⟨wr.heap.size,1,none⟩=some (.string sL)/\u.cell? ⟨wr.heap.size,2,none⟩=some (.func (.func 247) #[] #[])):=ae fun u hb=>⟨ai hb r0,ai hb r1,ai hb r2⟩;go_upto_region 4 with fail
   try rw [<- hu3]
   generalize wr.heap.size=q2 at *;clear hu3 hb3 hcs y0 y1 y2 bJ r0 r1 r2;refine aj.qh 3 (fun j=>13+j) (fun j v _=>v = [.agg #[.int .i64 6,.string sL,.func (.func 247) #[] #[]],.pointer (some ⟨p,0,none⟩),dO (tk L en i)].getD j undef) (by kernel_rfl) (by kernel_rfl) (fun a b h1 h2 h=>by have h':13+a=13+b:=h;omega) (aj.qi (size:=18) (by kernel_rfl)) (fun a v w w' _ h _=>h) ?zy ?Lu
   case zy =>
    intro j o a w2 hj ho hF hb2 hd;obtain ⟨r0,r1,r2⟩:=HR.out w2 hb2;have HQ:=ae (jc w0 p L vL en i w2 (HP.out.on (aB bb.out hb2)));have f0:a.tmps[0]?.getD undef=.pointer (some ⟨p,0,none⟩):=aj.ay (hF.eval 0 (fun i hi=>by show 13+i≠0;omega));have f6:a.tmps[6]?.getD undef=.pointer (some ⟨q2,0,none⟩):=aj.ay (hF.eval 6 (fun i hi=>by show 13+i≠6;omega));have hc:j=0\/j=1\/j=2:=by omega
    clear hj;rcases hc with rfl|rfl|rfl
    all_goals (simp only [List.getElem?_toArray,List.getElem?_cons_succ,List.getElem?_cons_zero,Option.some.injEq] at ho;subst ho;refine aj.bB fun KK ax=>?_)
    ·go_simp;exact ax _ _ ⟨_,rfl,Below.refl _ _,rfl⟩
    ·go_simp;exact ax _ _ ⟨_,rfl,Below.refl _ _,rfl⟩
    ·have g0:a.tmps[14]?.getD undef=.pointer (some ⟨p,0,none⟩):=aj.ay (hd 1 (by decide));have HK:=ae ax;clear ax;go_simp;refine HQ.out.mono ?_;rintro e w3 ⟨rfl,hb3⟩;exact HK.out _ _ ⟨_,rfl,hb3,rfl⟩
   case Lu =>
    intro a w2 hF hb2 hG;have g0:a.eval (.tmp 13)=.agg #[.int .i64 6,.string sL,.func (.func 247) #[] #[]]:=hG 0 (by decide);have g2:a.eval (.tmp 15)=dO (tk L en i):=hG 2 (by decide);obtain ⟨xs,hxl,rfl,hev⟩:=hF.lit (by simp);rw [hev 0 (by decide)] at g0;rw [hev 2 (by decide)] at g2;obtain ⟨x0,x1,x2,rfl⟩:∃x0 x1 x2,xs = [x0,x1,x2]:=by match xs,hxl with|[x0,x1,x2],_=>exact ⟨x0,x1,x2,rfl⟩
    have g0:x0=_:=g0;have g2:x2=_:=g2;subst g0;subst g2;have HQ:=ae (mR 6 sL (.func (.func 247) #[] #[]) (tk L en i) w2);have fF:=ae (aB bb.out hb2);clear hF hb2 hG hev hxl HR;simp only [List.take_succ_cons,List.take_zero,List.drop_succ_cons,List.drop_zero,List.cons_append,List.nil_append];go_wp2_with fail;refine HQ.out.mono ?_;rintro e u5 ⟨rfl,hb5⟩;have gh:=ae (aB fF.out hb5);clear hb5 HQ;have b0:bg 1 e0 (tk L en i)=false:=by have:=HN.out 0 (by decide);simpa using this
    have b1:bg 4 e0 (tk L en i)=false:=by have:=HN.out 1 (by decide);simpa using this
    have b2:bg 2 e0 (tk L en i)=false:=by have:=HN.out 2 (by decide);simpa using this
    cases hbg:bg 6 sL (tk L en i) with
    | false =>
     have cG:Hid (∀j,j<4->([(1,e0),(4,e0),(2,e0),(6,sL)]:List (Int × ByteArray))[j]?.map (fun r=>bg r.1 r.2 (tk L en i))=some false):=ae fun j hj=>by
      rcases Nat.lt_succ_iff_lt_or_eq.1 hj with hj|rfl
      ·exact HN.out j hj
      ·simp [hbg]
     clear hbg HN b0 b1 b2;go_wp2;go_roundw
     case rel=>exact ⟨4,by decide,by first|rfl|simp,cG,gh⟩
     case measure=>simp
    | true =>
     have hE:az=true:=by rw [bT.out,jZ];simp [hbg]
     have HE:=ae hE;clear hbg hE HN b0 b1 b2;go_wp2;go_ret;exact ⟨bf HE.out.symm,gh.out⟩
  ·skip
   have b0:bg 1 e0 (tk L en i)=false:=by have:=HN.out 0 (by decide);simpa using this
   have b1:bg 4 e0 (tk L en i)=false:=by have:=HN.out 1 (by decide);simpa using this
   have b2:bg 2 e0 (tk L en i)=false:=by have:=HN.out 2 (by decide);simpa using this
   have b3:bg 6 sL (tk L en i)=false:=by have:=HN.out 3 (by decide);simpa using this
   have hE:az=false:=by rw [bT.out,jZ,b0,b1,b2,b3];rfl
   have HE:=ae hE;clear hcs HN hE b0 b1 b2 b3;go_wp2;go_ret;exact ⟨bf HE.out.symm,HB.out⟩
end Go.Proofs.YtkdbgopgjbfhbaaGreatDoor
