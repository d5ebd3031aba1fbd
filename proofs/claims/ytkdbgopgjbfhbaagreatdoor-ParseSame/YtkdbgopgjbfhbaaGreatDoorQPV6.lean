/- Texts that the claim needs. -/
import Derived.Test.YtkdbgopgjbfhbaaGreatDoorQPV5
import Derived.WalkMore
namespace Go.Proofs.YtkdbgopgjbfhbaaGreatDoor
open Go.RowKit Lx Pz bw
set_option linter.unusedVariables false
set_option maxRecDepth 100000
set_option maxHeartbeats 16000000
namespace Pz
def bA (t:Tk):List (Int × ByteArray × Rd Value)->Rd Value
 | []=>.error t.a
 | (K,X,R) :: l=>if bg K X t=true then R else bA t l
theorem aW.val {B:Nat} {t v:Value} {w:World} (h:aW B t v w):∃k x y n u z a,v=.agg #[.int .i64 k,.string x,.string y,.int .i64 n,u,z,.int .i64 a]/\u.oneCell'=true/\z.oneCell'=true:=by
 obtain ⟨d,k,x,y,n,es,ps,a,u,z,_,h1,h2,h3⟩:=h;obtain ⟨o1,c1,rfl⟩:=Row.len h2;obtain ⟨o2,c2,rfl⟩:=Row.len h3;exact ⟨k,x,y,n,_,_,a,h1,rfl,rfl⟩
theorem bV.val {B:Nat} {t v:Value} {w:World} (h:bV B t v w):∃k x n u a,v=.agg #[.int .i64 k,.string x,.int .i64 n,u,.int .i64 a]/\u.oneCell'=true:=by
 obtain ⟨d,k,x,n,es,a,u,_,h1,h2⟩:=h;obtain ⟨o1,c1,rfl⟩:=Row.len h2;exact ⟨k,x,n,_,a,h1,rfl⟩
theorem eu.val {B:Nat} {t v:Value} {w:World} (h:eu B t v w):∃k x n u,v=.agg #[.int .i64 k,.string x,.int .i64 n,u]/\u.oneCell'=true:=by
 obtain ⟨d,k,x,n,es,u,_,h1,h2⟩:=h;obtain ⟨o1,c1,rfl⟩:=Row.len h2;exact ⟨k,x,n,_,h1,rfl⟩
theorem aW.on {B C:Nat} {t v:Value} {w w':World} (h:aW B t v w) (hb:bF B w w') (hc:C<=B):aW C t v w':=by obtain ⟨d,h⟩:=h;exact ⟨d,(h.but hb).lo hc⟩
theorem bV.on {B C:Nat} {t v:Value} {w w':World} (h:bV B t v w) (hb:bF B w w') (hc:C<=B):bV C t v w':=by obtain ⟨d,h⟩:=h;exact ⟨d,(h.but hb).lo hc⟩
theorem eu.on {B C:Nat} {t v:Value} {w w':World} (h:eu B t v w) (hb:bF B w w') (hc:C<=B):eu C t v w':=by obtain ⟨d,h⟩:=h;exact ⟨d,(h.but hb).lo hc⟩
theorem bF.lo {p q:Nat} {w w':World} (h:bF q w w') (hq:q<=p):bF p w w':=fun k hk hl=>h k (Nat.le_trans hq hk) hl
theorem fW (u:World) (T:TypeId) (a0 a1 a2:Value):∃u2,u2=u.alloc (.cells #[a0,a1,a2] T)/\Below u.heap.size u u2/\u2.cell? ⟨u.heap.size,0,none⟩=some a0/\u2.cell? ⟨u.heap.size,1,none⟩=some a1/\u2.cell? ⟨u.heap.size,2,none⟩=some a2:=by
 refine ⟨_,rfl,(Below.refl _ u).alloc (Nat.le_refl _) _,?_,?_,?_⟩
 all_goals (rw [World.cell?_alloc_at _ _ _ _ rfl];rfl)
end Pz
theorem NY (w0:World) (p:Nat) (L:List Tk) (vL:Value) (en:Int) (i:Nat) (R0:Rd Value) (ia:∀u,PR w0 p L vL en i u->Calls Tryz.prog 245 #[.pointer (some ⟨p,0,none⟩)] u (Rp w0 p L vL en (aW u.heap.size) u R0)) (R1:Rd Value) (dS:∀u,PR w0 p L vL en i u->Calls Tryz.prog 246 #[.pointer (some ⟨p,0,none⟩)] u (Rp w0 p L vL en (aW u.heap.size) u R1)) (R2:Rd Value) (cG:∀u,PR w0 p L vL en i u->Calls Tryz.prog 241 #[.pointer (some ⟨p,0,none⟩)] u (Rp w0 p L vL en (aW u.heap.size) u R2)) (R3:Rd Value) (kL:∀u,PR w0 p L vL en i u->Calls Tryz.prog 247 #[.pointer (some ⟨p,0,none⟩)] u (Rp w0 p L vL en (aW u.heap.size) u R3)) (g:Nat) (w:World) (h:PR w0 p L vL en i w) (hg:w.heap[g]?=some (.cells mG 163 (0,0))) :
  Calls Tryz.prog 123 #[.pointer (some ⟨p,0,none⟩),.slice (some ⟨g,0,none⟩) 4 4] w (Rp w0 p L vL en (aW w.heap.size) w (bA (tk L en i) [(1,e0,R0),(4,e0,R1),(2,e0,R2),(6,sL,R3)])):=by
 have HA:=ae (AP.start h 27 bS);have H:=ae (jf w0 p L vL en i _ HA.out.pr);obtain ⟨au,ba⟩:∃X,X=bA (tk L en i) [(1,e0,R0),(4,e0,R1),(2,e0,R2),(6,sL,R3)]:=⟨_,rfl⟩;rw [<- ba];have bT:=ae ba;have HG:=ae hg;have hgl:g<w.heap.size:=(Array.getElem?_eq_some_iff.1 hg).1;have ig:g≠p:=fun e=>by rw [e,h.blk] at hg;injection hg with hg;injection hg with hg _ _;cases hg
 have dH:=ae (And.intro hgl ig);generalize tk L en i=t at *;obtain ⟨tk,tx,tn,ta⟩:=t;clear h hg ba hgl ig;go_enter Tryz.func123,Tryz.ntmps123;go_wp2_with fail;refine Calls.mono (show Calls _ _ _ _ _ from H.out) ?_;rintro e u ⟨rfl,hb⟩;have hA1:=HA.out.on hb;obtain ⟨u2,hu2,fH,hb2,m0,m1,m2,m3,hpl⟩:=lW hA1.pr tk tx tn ta;have aC:=ae (hA1.on hb2);have HM:Hid (u2.cell? ⟨u.heap.size,0,none⟩=some (.int .i64 tk)/\u2.cell? ⟨u.heap.size,1,none⟩=some (.string tx)/\u2.cell? ⟨u.heap.size,2,none⟩=some (.int .i64 tn)/\u2.cell? ⟨u.heap.size,3,none⟩=some (.int .i64 ta)):=ae ⟨m0,m1,m2,m3⟩;go_upto_region 2 with fail;simp only [dM]
 try rw [<- hu2]
 generalize u.heap.size=q at *;clear hu2 hb hb2 fH H hA1 m0 m1 m2 m3;go_wp2_with fail;go_loopw [12] (fun x wr=>∃k:Nat,k<=4/\x=.int .i64 k/\Hid (∀j,j<k->([(1,e0,R0),(4,e0,R1),(2,e0,R2),(6,sL,R3)]:List (Int × ByteArray × Rd Value))[j]?.map (fun r=>bg r.1 r.2.1 ⟨tk,tx,tn,ta⟩)=some false)/\Hid (AP w0 p L vL en w 27 bS i wr)/\Hid (wr.cell? ⟨q,0,none⟩=some (.int .i64 tk)/\wr.cell? ⟨q,1,none⟩=some (.string tx)/\wr.cell? ⟨q,2,none⟩=some (.int .i64 tn)/\wr.cell? ⟨q,3,none⟩=some (.int .i64 ta))) (fun x _=>match x with | .int _ k=>4-k.toNat|_=>0)
 case atStart=>exact ⟨0,Nat.zero_le _,rfl,ae (fun j hj=>absurd hj (Nat.not_lt_zero _)),aC,HM⟩
 case round =>
  clear aC HM;obtain ⟨k,hk,rfl,HN,aC,HM⟩:=hrel
  have hcs:∀(o:Nat) (v:Value),mG[o]?=some v->wr.cell? ⟨g,o,none⟩=some v:=fun o v ho=>by
   unfold World.cell?;rw [aC.out.but.block g dH.out.1 dH.out.2,HG.out];exact ho
  have hcase:k=0\/k=1\/k=2\/k=3\/k=4:=by omega
  clear hk;rcases hcase with rfl|rfl|rfl|rfl|rfl
  ·have y0:=hcs 0 _ rfl;have y1:=hcs 1 _ rfl;have y2:=hcs 2 _ rfl;obtain ⟨m0,m1,m2,m3⟩:=HM.out;have bI:g<wr.heap.size:=Nat.lt_of_lt_of_le dH.out.1 aC.out.but.size;have eT:q<wr.heap.size:=World.block_lt_of_cell? _ _ m0;obtain ⟨u3,hu3,hb3,r0,r1,r2⟩:=fW wr 163 (.int .i64 1) (.string e0) (.func (.func 245) #[] #[]);have bQ:=ae (aC.out.on hb3);have HB:=ae (mb 1 e0 (.func (.func 245) #[] #[]) ⟨tk,tx,tn,ta⟩ u3);have m0:=ag hb3 m0;have m1:=ag hb3 m1;have m2:=ag hb3 m2;have m3:=ag hb3 m3;go_upto_region 5 with fail
   try rw [<- hu3]
   generalize wr.heap.size=q2 at *;clear hu3 hb3 hcs y0 y1 y2 HM bI eT aC;go_wp2_with fail;refine HB.out.mono ?_;rintro e u4 ⟨rfl,hb4⟩;have bE:=ae (bQ.out.on hb4);have r2:=ag hb4 r2;have m0:=ag hb4 m0;have m1:=ag hb4 m1;have m2:=ag hb4 m2;have m3:=ag hb4 m3;clear hb4 HB bQ r0 r1;cases hbg:bg 1 e0 ⟨tk,tx,tn,ta⟩ with
   | false =>
    have bX:Hid (∀j,j<1->([(1,e0,R0),(4,e0,R1),(2,e0,R2),(6,sL,R3)]:List (Int × ByteArray × Rd Value))[j]?.map (fun r=>bg r.1 r.2.1 ⟨tk,tx,tn,ta⟩)=some false):=ae fun j hj=>by
     rcases Nat.lt_succ_iff_lt_or_eq.1 hj with hj|rfl
     ·exact HN.out j hj
     ·simp [hbg]
    have dm:=ae (And.intro m0 (And.intro m1 (And.intro m2 m3)));clear m0 m1 m2 m3 r2 hbg HN;go_wp2;go_roundw
    case rel=>exact ⟨1,by decide,by first|rfl|simp,bX,bE,dm⟩
    case measure=>simp
   | true =>
    have hE:au=R0:=by rw [bT.out,bA,if_pos hbg]
    have HE:=ae hE;have HC:=ae (ia u4 bE.out.pr);clear hbg hE HN m0 m1 m2 m3;go_wp2_with fail;refine HC.out.mono ?_;intro e u5 hr;cases hR:R0 with
    | error z =>
     obtain ⟨rfl,hb⟩:=bC hr hR;have HB:=ae hb;have ay:Hid (au=.error z):=ae (by rw [HE.out,hR]);clear hb hr hR HE;go_wp2;exact ⟨rfl,bu ay.out HB.out⟩
    | ok r =>
     obtain ⟨tr,j⟩:=r;obtain ⟨⟨v,rfl,hv0⟩,hp,hbt⟩:=bn hr hR;obtain ⟨vk,vx,vy,vn,vu,vz,va,hv,o1,o2⟩:=hv0.val;subst hv;have bq:Hid (au=.ok (tr,j)):=ae (by rw [HE.out,hR]);have bM:=bE.out.lt;have di:=ae (bE.out.call hp hbt);obtain ⟨W,hW,hth,hbk,hpr,aU,hab⟩:=di.out.put #[.int .i64 vk,.string vx,.string vy,.int .i64 vn,vu,vz,.int .i64 va] rfl;have HV:=ae (hv0.on (hab.lo bM) (Nat.le_of_lt bM));have HW:=ae hW;have az:=ae hth;have ai:=ae hbk;have HF:=ae (And.intro hpr aU);clear hW hth hbk hpr aU hab hp hbt hr hR HE hv0 HC;go_wp2_with (refine wpList_store_mid rfl 27 (.tmp 4) (.tmp 22) rfl w.heap.size 0 #[.int .i64 vk,.string vx,.string vy,.int .i64 vn,vu,vz,.int .i64 va] rfl rfl az.out cK (by simp [Value.oneCell'] at o1 o2 ⊢;exact ⟨o1,o2⟩) ?_;rw [HW.out]);have z0:=af ai.out 0 _ rfl;have z1:=af ai.out 1 _ rfl;have z2:=af ai.out 2 _ rfl;have z3:=af ai.out 3 _ rfl;have z4:=af ai.out 4 _ rfl;have z5:=af ai.out 5 _ rfl;have z6:=af ai.out 6 _ rfl;refine bodyPost_ret (v:=.agg #[.int .i64 vk,.string vx,.string vy,.int .i64 vn,vu,vz,.int .i64 va]) (by simp [results,Tryz.results123,go_sem,z0,z1,z2,z3,z4,z5,z6]) rfl (cH bq.out HV.out HF.out.1 HF.out.2)
  ·have y0:=hcs 3 _ rfl;have y1:=hcs 4 _ rfl;have y2:=hcs 5 _ rfl;have b0:bg 1 e0 ⟨tk,tx,tn,ta⟩=false:=by have:=HN.out 0 (by decide);simpa using this
   obtain ⟨m0,m1,m2,m3⟩:=HM.out;have bI:g<wr.heap.size:=Nat.lt_of_lt_of_le dH.out.1 aC.out.but.size;have eT:q<wr.heap.size:=World.block_lt_of_cell? _ _ m0;obtain ⟨u3,hu3,hb3,r0,r1,r2⟩:=fW wr 163 (.int .i64 4) (.string e0) (.func (.func 246) #[] #[]);have bQ:=ae (aC.out.on hb3);have HB:=ae (mb 4 e0 (.func (.func 246) #[] #[]) ⟨tk,tx,tn,ta⟩ u3);have m0:=ag hb3 m0;have m1:=ag hb3 m1;have m2:=ag hb3 m2;have m3:=ag hb3 m3;go_upto_region 5 with fail
   try rw [<- hu3]
   generalize wr.heap.size=q2 at *;clear hu3 hb3 hcs y0 y1 y2 HM bI eT aC;go_wp2_with fail;refine HB.out.mono ?_;rintro e u4 ⟨rfl,hb4⟩;have bE:=ae (bQ.out.on hb4);have r2:=ag hb4 r2;have m0:=ag hb4 m0;have m1:=ag hb4 m1;have m2:=ag hb4 m2;have m3:=ag hb4 m3;clear hb4 HB bQ r0 r1;cases hbg:bg 4 e0 ⟨tk,tx,tn,ta⟩ with
   | false =>
    have bX:Hid (∀j,j<2->([(1,e0,R0),(4,e0,R1),(2,e0,R2),(6,sL,R3)]:List (Int × ByteArray × Rd Value))[j]?.map (fun r=>bg r.1 r.2.1 ⟨tk,tx,tn,ta⟩)=some false):=ae fun j hj=>by
     rcases Nat.lt_succ_iff_lt_or_eq.1 hj with hj|rfl
     ·exact HN.out j hj
     ·simp [hbg]
    have dm:=ae (And.intro m0 (And.intro m1 (And.intro m2 m3)));clear m0 m1 m2 m3 r2 hbg HN;go_wp2;go_roundw
    case rel=>exact ⟨2,by decide,by first|rfl|simp,bX,bE,dm⟩
    case measure=>simp
   | true =>
    have hE:au=R1:=by rw [bT.out,bA,bA,if_neg (by rw [b0];decide),if_pos hbg]
    have HE:=ae hE;have HC:=ae (dS u4 bE.out.pr);clear hbg hE HN m0 m1 m2 m3;go_wp2_with fail;refine HC.out.mono ?_;intro e u5 hr;cases hR:R1 with
    | error z =>
     obtain ⟨rfl,hb⟩:=bC hr hR;have HB:=ae hb;have ay:Hid (au=.error z):=ae (by rw [HE.out,hR]);clear hb hr hR HE;go_wp2;exact ⟨rfl,bu ay.out HB.out⟩
    | ok r =>
     obtain ⟨tr,j⟩:=r;obtain ⟨⟨v,rfl,hv0⟩,hp,hbt⟩:=bn hr hR;obtain ⟨vk,vx,vy,vn,vu,vz,va,hv,o1,o2⟩:=hv0.val;subst hv;have bq:Hid (au=.ok (tr,j)):=ae (by rw [HE.out,hR]);have bM:=bE.out.lt;have di:=ae (bE.out.call hp hbt);obtain ⟨W,hW,hth,hbk,hpr,aU,hab⟩:=di.out.put #[.int .i64 vk,.string vx,.string vy,.int .i64 vn,vu,vz,.int .i64 va] rfl;have HV:=ae (hv0.on (hab.lo bM) (Nat.le_of_lt bM));have HW:=ae hW;have az:=ae hth;have ai:=ae hbk;have HF:=ae (And.intro hpr aU);clear hW hth hbk hpr aU hab hp hbt hr hR HE hv0 HC;go_wp2_with (refine wpList_store_mid rfl 27 (.tmp 4) (.tmp 22) rfl w.heap.size 0 #[.int .i64 vk,.string vx,.string vy,.int .i64 vn,vu,vz,.int .i64 va] rfl rfl az.out cK (by simp [Value.oneCell'] at o1 o2 ⊢;exact ⟨o1,o2⟩) ?_;rw [HW.out]);have z0:=af ai.out 0 _ rfl;have z1:=af ai.out 1 _ rfl;have z2:=af ai.out 2 _ rfl;have z3:=af ai.out 3 _ rfl;have z4:=af ai.out 4 _ rfl;have z5:=af ai.out 5 _ rfl;have z6:=af ai.out 6 _ rfl;refine bodyPost_ret (v:=.agg #[.int .i64 vk,.string vx,.string vy,.int .i64 vn,vu,vz,.int .i64 va]) (by simp [results,Tryz.results123,go_sem,z0,z1,z2,z3,z4,z5,z6]) rfl (cH bq.out HV.out HF.out.1 HF.out.2)
  ·have y0:=hcs 6 _ rfl;have y1:=hcs 7 _ rfl;have y2:=hcs 8 _ rfl;have b0:bg 1 e0 ⟨tk,tx,tn,ta⟩=false:=by have:=HN.out 0 (by decide);simpa using this
   have b1:bg 4 e0 ⟨tk,tx,tn,ta⟩=false:=by have:=HN.out 1 (by decide);simpa using this
   obtain ⟨m0,m1,m2,m3⟩:=HM.out;have bI:g<wr.heap.size:=Nat.lt_of_lt_of_le dH.out.1 aC.out.but.size;have eT:q<wr.heap.size:=World.block_lt_of_cell? _ _ m0;obtain ⟨u3,hu3,hb3,r0,r1,r2⟩:=fW wr 163 (.int .i64 2) (.string e0) (.func (.func 241) #[] #[]);have bQ:=ae (aC.out.on hb3);have HB:=ae (mb 2 e0 (.func (.func 241) #[] #[]) ⟨tk,tx,tn,ta⟩ u3);have m0:=ag hb3 m0;have m1:=ag hb3 m1;have m2:=ag hb3 m2;have m3:=ag hb3 m3;go_upto_region 5 with fail
   try rw [<- hu3]
   generalize wr.heap.size=q2 at *;clear hu3 hb3 hcs y0 y1 y2 HM bI eT aC;go_wp2_with fail;refine HB.out.mono ?_;rintro e u4 ⟨rfl,hb4⟩;have bE:=ae (bQ.out.on hb4);have r2:=ag hb4 r2;have m0:=ag hb4 m0;have m1:=ag hb4 m1;have m2:=ag hb4 m2;have m3:=ag hb4 m3;clear hb4 HB bQ r0 r1;cases hbg:bg 2 e0 ⟨tk,tx,tn,ta⟩ with
   | false =>
    have bX:Hid (∀j,j<3->([(1,e0,R0),(4,e0,R1),(2,e0,R2),(6,sL,R3)]:List (Int × ByteArray × Rd Value))[j]?.map (fun r=>bg r.1 r.2.1 ⟨tk,tx,tn,ta⟩)=some false):=ae fun j hj=>by
     rcases Nat.lt_succ_iff_lt_or_eq.1 hj with hj|rfl
     ·exact HN.out j hj
     ·simp [hbg]
    have dm:=ae (And.intro m0 (And.intro m1 (And.intro m2 m3)));clear m0 m1 m2 m3 r2 hbg HN;go_wp2;go_roundw
    case rel=>exact ⟨3,by decide,by first|rfl|simp,bX,bE,dm⟩
    case measure=>simp
   | true =>
    have hE:au=R2:=by rw [bT.out,bA,bA,bA,if_neg (by rw [b0];decide),if_neg (by rw [b1];decide),if_pos hbg]
    have HE:=ae hE;have HC:=ae (cG u4 bE.out.pr);clear hbg hE HN m0 m1 m2 m3;go_wp2_with fail;refine HC.out.mono ?_;intro e u5 hr;cases hR:R2 with
    | error z =>
     obtain ⟨rfl,hb⟩:=bC hr hR;have HB:=ae hb;have ay:Hid (au=.error z):=ae (by rw [HE.out,hR]);clear hb hr hR HE;go_wp2;exact ⟨rfl,bu ay.out HB.out⟩
    | ok r =>
     obtain ⟨tr,j⟩:=r;obtain ⟨⟨v,rfl,hv0⟩,hp,hbt⟩:=bn hr hR;obtain ⟨vk,vx,vy,vn,vu,vz,va,hv,o1,o2⟩:=hv0.val;subst hv;have bq:Hid (au=.ok (tr,j)):=ae (by rw [HE.out,hR]);have bM:=bE.out.lt;have di:=ae (bE.out.call hp hbt);obtain ⟨W,hW,hth,hbk,hpr,aU,hab⟩:=di.out.put #[.int .i64 vk,.string vx,.string vy,.int .i64 vn,vu,vz,.int .i64 va] rfl;have HV:=ae (hv0.on (hab.lo bM) (Nat.le_of_lt bM));have HW:=ae hW;have az:=ae hth;have ai:=ae hbk;have HF:=ae (And.intro hpr aU);clear hW hth hbk hpr aU hab hp hbt hr hR HE hv0 HC;go_wp2_with (refine wpList_store_mid rfl 27 (.tmp 4) (.tmp 22) rfl w.heap.size 0 #[.int .i64 vk,.string vx,.string vy,.int .i64 vn,vu,vz,.int .i64 va] rfl rfl az.out cK (by simp [Value.oneCell'] at o1 o2 ⊢;exact ⟨o1,o2⟩) ?_;rw [HW.out]);have z0:=af ai.out 0 _ rfl;have z1:=af ai.out 1 _ rfl;have z2:=af ai.out 2 _ rfl;have z3:=af ai.out 3 _ rfl;have z4:=af ai.out 4 _ rfl;have z5:=af ai.out 5 _ rfl;have z6:=af ai.out 6 _ rfl;refine bodyPost_ret (v:=.agg #[.int .i64 vk,.string vx,.string vy,.int .i64 vn,vu,vz,.int .i64 va]) (by simp [results,Tryz.results123,go_sem,z0,z1,z2,z3,z4,z5,z6]) rfl (cH bq.out HV.out HF.out.1 HF.out.2)
  ·have y0:=hcs 9 _ rfl;have y1:=hcs 10 _ rfl;have y2:=hcs 11 _ rfl;have b0:bg 1 e0 ⟨tk,tx,tn,ta⟩=false:=by have:=HN.out 0 (by decide);simpa using this
   have b1:bg 4 e0 ⟨tk,tx,tn,ta⟩=false:=by have:=HN.out 1 (by decide);simpa using this
   have b2:bg 2 e0 ⟨tk,tx,tn,ta⟩=false:=by have:=HN.out 2 (by decide);simpa using this
   obtain ⟨m0,m1,m2,m3⟩:=HM.out;have bI:g<wr.heap.size:=Nat.lt_of_lt_of_le dH.out.1 aC.out.but.size;have eT:q<wr.heap.size:=World.block_lt_of_cell? _ _ m0;obtain ⟨u3,hu3,hb3,r0,r1,r2⟩:=fW wr 163 (.int .i64 6) (.string sL) (.func (.func 247) #[] #[]);have bQ:=ae (aC.out.on hb3);have HB:=ae (mb 6 sL (.func (.func 247) #[] #[]) ⟨tk,tx,tn,ta⟩ u3);have m0:=ag hb3 m0;have m1:=ag hb3 m1;have m2:=ag hb3 m2;have m3:=ag hb3 m3;go_upto_region 5 with fail
   try rw [<- hu3]
   generalize wr.heap.size=q2 at *;clear hu3 hb3 hcs y0 y1 y2 HM bI eT aC;go_wp2_with fail;refine HB.out.mono ?_;rintro e u4 ⟨rfl,hb4⟩;have bE:=ae (bQ.out.on hb4);have r2:=ag hb4 r2;have m0:=ag hb4 m0;have m1:=ag hb4 m1;have m2:=ag hb4 m2;have m3:=ag hb4 m3;clear hb4 HB bQ r0 r1;cases hbg:bg 6 sL ⟨tk,tx,tn,ta⟩ with
   | false =>
    have bX:Hid (∀j,j<4->([(1,e0,R0),(4,e0,R1),(2,e0,R2),(6,sL,R3)]:List (Int × ByteArray × Rd Value))[j]?.map (fun r=>bg r.1 r.2.1 ⟨tk,tx,tn,ta⟩)=some false):=ae fun j hj=>by
     rcases Nat.lt_succ_iff_lt_or_eq.1 hj with hj|rfl
     ·exact HN.out j hj
     ·simp [hbg]
    have dm:=ae (And.intro m0 (And.intro m1 (And.intro m2 m3)));clear m0 m1 m2 m3 r2 hbg HN;go_wp2;go_roundw
    case rel=>exact ⟨4,by decide,by first|rfl|simp,bX,bE,dm⟩
    case measure=>simp
   | true =>
    have hE:au=R3:=by rw [bT.out,bA,bA,bA,bA,if_neg (by rw [b0];decide),if_neg (by rw [b1];decide),if_neg (by rw [b2];decide),if_pos hbg]
    have HE:=ae hE;have HC:=ae (kL u4 bE.out.pr);clear hbg hE HN m0 m1 m2 m3;go_wp2_with fail;refine HC.out.mono ?_;intro e u5 hr;cases hR:R3 with
    | error z =>
     obtain ⟨rfl,hb⟩:=bC hr hR;have HB:=ae hb;have ay:Hid (au=.error z):=ae (by rw [HE.out,hR]);clear hb hr hR HE;go_wp2;exact ⟨rfl,bu ay.out HB.out⟩
    | ok r =>
     obtain ⟨tr,j⟩:=r;obtain ⟨⟨v,rfl,hv0⟩,hp,hbt⟩:=bn hr hR;obtain ⟨vk,vx,vy,vn,vu,vz,va,hv,o1,o2⟩:=hv0.val;subst hv;have bq:Hid (au=.ok (tr,j)):=ae (by rw [HE.out,hR]);have bM:=bE.out.lt;have di:=ae (bE.out.call hp hbt);obtain ⟨W,hW,hth,hbk,hpr,aU,hab⟩:=di.out.put #[.int .i64 vk,.string vx,.string vy,.int .i64 vn,vu,vz,.int .i64 va] rfl;have HV:=ae (hv0.on (hab.lo bM) (Nat.le_of_lt bM));have HW:=ae hW;have az:=ae hth;have ai:=ae hbk;have HF:=ae (And.intro hpr aU);clear hW hth hbk hpr aU hab hp hbt hr hR HE hv0 HC;go_wp2_with (refine wpList_store_mid rfl 27 (.tmp 4) (.tmp 22) rfl w.heap.size 0 #[.int .i64 vk,.string vx,.string vy,.int .i64 vn,vu,vz,.int .i64 va] rfl rfl az.out cK (by simp [Value.oneCell'] at o1 o2 ⊢;exact ⟨o1,o2⟩) ?_;rw [HW.out]);have z0:=af ai.out 0 _ rfl;have z1:=af ai.out 1 _ rfl;have z2:=af ai.out 2 _ rfl;have z3:=af ai.out 3 _ rfl;have z4:=af ai.out 4 _ rfl;have z5:=af ai.out 5 _ rfl;have z6:=af ai.out 6 _ rfl;refine bodyPost_ret (v:=.agg #[.int .i64 vk,.string vx,.string vy,.int .i64 vn,vu,vz,.int .i64 va]) (by simp [results,Tryz.results123,go_sem,z0,z1,z2,z3,z4,z5,z6]) rfl (cH bq.out HV.out HF.out.1 HF.out.2)
  ·obtain ⟨m0,m1,m2,m3⟩:=HM.out;have b0:bg 1 e0 ⟨tk,tx,tn,ta⟩=false:=by have:=HN.out 0 (by decide);simpa using this
   have b1:bg 4 e0 ⟨tk,tx,tn,ta⟩=false:=by have:=HN.out 1 (by decide);simpa using this
   have b2:bg 2 e0 ⟨tk,tx,tn,ta⟩=false:=by have:=HN.out 2 (by decide);simpa using this
   have b3:bg 6 sL ⟨tk,tx,tn,ta⟩=false:=by have:=HN.out 3 (by decide);simpa using this
   have ay:Hid (au=.error ta):=ae (by rw [bT.out,bA,bA,bA,bA,bA,if_neg (by rw [b0];decide),if_neg (by rw [b1];decide),if_neg (by rw [b2];decide),if_neg (by rw [b3];decide)]);clear hcs HN b0 b1 b2 b3;go_wp2;exact ⟨rfl,bu ay.out aC.out.pr.below⟩
def Pz.jW (t:Tk):Bool:=bg 1 e0 t || bg 4 e0 t || bg 2 e0 t || bg 6 sL t
theorem Ns (w0:World) (p:Nat) (L:List Tk) (vL:Value) (en:Int) (i:Nat) (g:Nat) (w:World) (h:PR w0 p L vL en i w) (hg:w.heap[g]?=some (.cells mG 163 (0,0))) :
  Calls Tryz.prog 244 #[.pointer (some ⟨p,0,none⟩),.slice (some ⟨g,0,none⟩) 4 4] w fun e w'=>e=.returned (.bool (jW (tk L en i)))/\Below w.heap.size w w':=by
 have HP:=ae h;have HG:=ae hg;have hgl:g<w.heap.size:=(Array.getElem?_eq_some_iff.1 hg).1;have dH:=ae hgl;obtain ⟨au,ba⟩:∃X,X=jW (tk L en i):=⟨_,rfl⟩;rw [<- ba];have bT:=ae ba;clear h hg ba hgl;go_enter Tryz.func244,Tryz.ntmps244;go_wp2_with fail;go_loopw [9] (fun x wr=>∃k:Nat,k<=4/\x=.int .i64 k/\Hid (∀j,j<k->([(1,e0),(4,e0),(2,e0),(6,sL)]:List (Int × ByteArray))[j]?.map (fun r=>bg r.1 r.2 (tk L en i))=some false)/\Hid (Below w.heap.size w wr)) (fun x _=>match x with | .int _ k=>4-k.toNat|_=>0)
 case atStart=>exact ⟨0,Nat.zero_le _,rfl,ae (fun j hj=>absurd hj (Nat.not_lt_zero _)),ae (Below.refl _ _)⟩
 case round =>
  obtain ⟨k,hk,rfl,HN,HB⟩:=hrel
  have hcs:∀(o:Nat) (v:Value),mG[o]?=some v->wr.cell? ⟨g,o,none⟩=some v:=fun o v ho=>by
   unfold World.cell?;rw [HB.out.block g dH.out,HG.out];exact ho
  have hcase:k=0\/k=1\/k=2\/k=3\/k=4:=by omega
  clear hk;rcases hcase with rfl|rfl|rfl|rfl|rfl
  ·have y0:=hcs 0 _ rfl;have y1:=hcs 1 _ rfl;have y2:=hcs 2 _ rfl;have bI:g<wr.heap.size:=Nat.lt_of_lt_of_le dH.out HB.out.size;obtain ⟨u3,hu3,hb3,r0,r1,r2⟩:=fW wr 163 (.int .i64 1) (.string e0) (.func (.func 245) #[] #[]);have aD:=ae (ax HB.out hb3);have HR:Hid (∀u,Below u3.heap.size u3 u->u.cell? ⟨wr.heap.size,0,none⟩=some (.int .i64 1)/\u.cell? ⟨wr.heap.size,1,none⟩=some (.string e0)/\u.cell? ⟨wr.heap.size,2,none⟩=some (.func (.func 245) #[] #[])):=ae fun u hb=>⟨ag hb r0,ag hb r1,ag hb r2⟩;go_upto_region 4 with fail
   try rw [<- hu3]
   generalize wr.heap.size=q2 at *;clear hu3 hb3 hcs y0 y1 y2 bI r0 r1 r2;refine ah.mQ 3 (fun j=>13+j) (fun j v _=>v = [.agg #[.int .i64 1,.string e0,.func (.func 245) #[] #[]],.pointer (some ⟨p,0,none⟩),dM (tk L en i)].getD j undef) (by kernel_rfl) (by kernel_rfl) (fun a b h1 h2 h=>by have h':13+a=13+b:=h;omega) (ah.mR (size:=18) (by kernel_rfl)) (fun a v w w' _ h _=>h) ?hs0 ?ht0
   case hs0 =>
    intro j o a w2 hj ho hF hb2 hd;obtain ⟨r0,r1,r2⟩:=HR.out w2 hb2;have HQ:=ae (jf w0 p L vL en i w2 (HP.out.on (ax aD.out hb2)));have f0:a.tmps[0]?.getD undef=.pointer (some ⟨p,0,none⟩):=ah.ak (hF.eval 0 (fun i hi=>by show 13+i≠0;omega));have f6:a.tmps[6]?.getD undef=.pointer (some ⟨q2,0,none⟩):=ah.ak (hF.eval 6 (fun i hi=>by show 13+i≠6;omega));have hc:j=0\/j=1\/j=2:=by omega
    clear hj;rcases hc with rfl|rfl|rfl
    all_goals (simp only [List.getElem?_toArray,List.getElem?_cons_succ,List.getElem?_cons_zero,Option.some.injEq] at ho;subst ho;refine ah.bh fun KK aj=>?_)
    ·go_simp;exact aj _ _ ⟨_,rfl,Below.refl _ _,rfl⟩
    ·go_simp;exact aj _ _ ⟨_,rfl,Below.refl _ _,rfl⟩
    ·have g0:a.tmps[14]?.getD undef=.pointer (some ⟨p,0,none⟩):=ah.ak (hd 1 (by decide));have HK:=ae aj;clear aj;go_simp;refine HQ.out.mono ?_;rintro e w3 ⟨rfl,hb3⟩;exact HK.out _ _ ⟨_,rfl,hb3,rfl⟩
   case ht0 =>
    intro a w2 hF hb2 hG;have g0:a.eval (.tmp 13)=.agg #[.int .i64 1,.string e0,.func (.func 245) #[] #[]]:=hG 0 (by decide);have g2:a.eval (.tmp 15)=dM (tk L en i):=hG 2 (by decide);obtain ⟨xs,hxl,rfl,hev⟩:=hF.lit (by simp);rw [hev 0 (by decide)] at g0;rw [hev 2 (by decide)] at g2;obtain ⟨x0,x1,x2,rfl⟩:∃x0 x1 x2,xs = [x0,x1,x2]:=by match xs,hxl with|[x0,x1,x2],_=>exact ⟨x0,x1,x2,rfl⟩
    have g0:x0=_:=g0;have g2:x2=_:=g2;subst g0;subst g2;have HQ:=ae (mb 1 e0 (.func (.func 245) #[] #[]) (tk L en i) w2);have dF:=ae (ax aD.out hb2);clear hF hb2 hG hev hxl HR;simp only [List.take_succ_cons,List.take_zero,List.drop_succ_cons,List.drop_zero,List.cons_append,List.nil_append];go_wp2_with fail;refine HQ.out.mono ?_;rintro e u5 ⟨rfl,hb5⟩;have fD:=ae (ax dF.out hb5);clear hb5 HQ;cases hbg:bg 1 e0 (tk L en i) with
    | false =>
     have bX:Hid (∀j,j<1->([(1,e0),(4,e0),(2,e0),(6,sL)]:List (Int × ByteArray))[j]?.map (fun r=>bg r.1 r.2 (tk L en i))=some false):=ae fun j hj=>by
      rcases Nat.lt_succ_iff_lt_or_eq.1 hj with hj|rfl
      ·exact HN.out j hj
      ·simp [hbg]
     clear hbg HN;go_wp2;go_roundw
     case rel=>exact ⟨1,by decide,by first|rfl|simp,bX,fD⟩
     case measure=>simp
    | true =>
     have hE:au=true:=by rw [bT.out,jW];simp [hbg]
     have HE:=ae hE;clear hbg hE HN;go_wp2;go_ret;exact ⟨aO HE.out.symm,fD.out⟩
  ·have y0:=hcs 3 _ rfl;have y1:=hcs 4 _ rfl;have y2:=hcs 5 _ rfl;have bI:g<wr.heap.size:=Nat.lt_of_lt_of_le dH.out HB.out.size;obtain ⟨u3,hu3,hb3,r0,r1,r2⟩:=fW wr 163 (.int .i64 4) (.string e0) (.func (.func 246) #[] #[]);have aD:=ae (ax HB.out hb3);have HR:Hid (∀u,Below u3.heap.size u3 u->u.cell? ⟨wr.heap.size,0,none⟩=some (.int .i64 4)/\u.cell? ⟨wr.heap.size,1,none⟩=some (.string e0)/\u.cell? ⟨wr.heap.size,2,none⟩=some (.func (.func 246) #[] #[])):=ae fun u hb=>⟨ag hb r0,ag hb r1,ag hb r2⟩;go_upto_region 4 with fail
   try rw [<- hu3]
   generalize wr.heap.size=q2 at *;clear hu3 hb3 hcs y0 y1 y2 bI r0 r1 r2;refine ah.mQ 3 (fun j=>13+j) (fun j v _=>v = [.agg #[.int .i64 4,.string e0,.func (.func 246) #[] #[]],.pointer (some ⟨p,0,none⟩),dM (tk L en i)].getD j undef) (by kernel_rfl) (by kernel_rfl) (fun a b h1 h2 h=>by have h':13+a=13+b:=h;omega) (ah.mR (size:=18) (by kernel_rfl)) (fun a v w w' _ h _=>h) ?hs1 ?ht1
   case hs1 =>
    intro j o a w2 hj ho hF hb2 hd;obtain ⟨r0,r1,r2⟩:=HR.out w2 hb2;have HQ:=ae (jf w0 p L vL en i w2 (HP.out.on (ax aD.out hb2)));have f0:a.tmps[0]?.getD undef=.pointer (some ⟨p,0,none⟩):=ah.ak (hF.eval 0 (fun i hi=>by show 13+i≠0;omega));have f6:a.tmps[6]?.getD undef=.pointer (some ⟨q2,0,none⟩):=ah.ak (hF.eval 6 (fun i hi=>by show 13+i≠6;omega));have hc:j=0\/j=1\/j=2:=by omega
    clear hj;rcases hc with rfl|rfl|rfl
    all_goals (simp only [List.getElem?_toArray,List.getElem?_cons_succ,List.getElem?_cons_zero,Option.some.injEq] at ho;subst ho;refine ah.bh fun KK aj=>?_)
    ·go_simp;exact aj _ _ ⟨_,rfl,Below.refl _ _,rfl⟩
    ·go_simp;exact aj _ _ ⟨_,rfl,Below.refl _ _,rfl⟩
    ·have g0:a.tmps[14]?.getD undef=.pointer (some ⟨p,0,none⟩):=ah.ak (hd 1 (by decide));have HK:=ae aj;clear aj;go_simp;refine HQ.out.mono ?_;rintro e w3 ⟨rfl,hb3⟩;exact HK.out _ _ ⟨_,rfl,hb3,rfl⟩
   case ht1 =>
    intro a w2 hF hb2 hG;have g0:a.eval (.tmp 13)=.agg #[.int .i64 4,.string e0,.func (.func 246) #[] #[]]:=hG 0 (by decide);have g2:a.eval (.tmp 15)=dM (tk L en i):=hG 2 (by decide);obtain ⟨xs,hxl,rfl,hev⟩:=hF.lit (by simp);rw [hev 0 (by decide)] at g0;rw [hev 2 (by decide)] at g2;obtain ⟨x0,x1,x2,rfl⟩:∃x0 x1 x2,xs = [x0,x1,x2]:=by match xs,hxl with|[x0,x1,x2],_=>exact ⟨x0,x1,x2,rfl⟩
    have g0:x0=_:=g0;have g2:x2=_:=g2;subst g0;subst g2;have HQ:=ae (mb 4 e0 (.func (.func 246) #[] #[]) (tk L en i) w2);have dF:=ae (ax aD.out hb2);clear hF hb2 hG hev hxl HR;simp only [List.take_succ_cons,List.take_zero,List.drop_succ_cons,List.drop_zero,List.cons_append,List.nil_append];go_wp2_with fail;refine HQ.out.mono ?_;rintro e u5 ⟨rfl,hb5⟩;have fD:=ae (ax dF.out hb5);clear hb5 HQ;have b0:bg 1 e0 (tk L en i)=false:=by have:=HN.out 0 (by decide);simpa using this
    cases hbg:bg 4 e0 (tk L en i) with
    | false =>
     have bX:Hid (∀j,j<2->([(1,e0),(4,e0),(2,e0),(6,sL)]:List (Int × ByteArray))[j]?.map (fun r=>bg r.1 r.2 (tk L en i))=some false):=ae fun j hj=>by
      rcases Nat.lt_succ_iff_lt_or_eq.1 hj with hj|rfl
      ·exact HN.out j hj
      ·simp [hbg]
     clear hbg HN b0;go_wp2;go_roundw
     case rel=>exact ⟨2,by decide,by first|rfl|simp,bX,fD⟩
     case measure=>simp
    | true =>
     have hE:au=true:=by rw [bT.out,jW];simp [hbg]
     have HE:=ae hE;clear hbg hE HN b0;go_wp2;go_ret;exact ⟨aO HE.out.symm,fD.out⟩
  ·have y0:=hcs 6 _ rfl;have y1:=hcs 7 _ rfl;have y2:=hcs 8 _ rfl;have bI:g<wr.heap.size:=Nat.lt_of_lt_of_le dH.out HB.out.size;obtain ⟨u3,hu3,hb3,r0,r1,r2⟩:=fW wr 163 (.int .i64 2) (.string e0) (.func (.func 241) #[] #[]);have aD:=ae (ax HB.out hb3);have HR:Hid (∀u,Below u3.heap.size u3 u->u.cell? ⟨wr.heap.size,0,none⟩=some (.int .i64 2)/\u.cell? ⟨wr.heap.size,1,none⟩=some (.string e0)/\u.cell? ⟨wr.heap.size,2,none⟩=some (.func (.func 241) #[] #[])):=ae fun u hb=>⟨ag hb r0,ag hb r1,ag hb r2⟩;go_upto_region 4 with fail
   try rw [<- hu3]
   generalize wr.heap.size=q2 at *;clear hu3 hb3 hcs y0 y1 y2 bI r0 r1 r2;refine ah.mQ 3 (fun j=>13+j) (fun j v _=>v = [.agg #[.int .i64 2,.string e0,.func (.func 241) #[] #[]],.pointer (some ⟨p,0,none⟩),dM (tk L en i)].getD j undef) (by kernel_rfl) (by kernel_rfl) (fun a b h1 h2 h=>by have h':13+a=13+b:=h;omega) (ah.mR (size:=18) (by kernel_rfl)) (fun a v w w' _ h _=>h) ?hs2 ?ht2
   case hs2 =>
    intro j o a w2 hj ho hF hb2 hd;obtain ⟨r0,r1,r2⟩:=HR.out w2 hb2;have HQ:=ae (jf w0 p L vL en i w2 (HP.out.on (ax aD.out hb2)));have f0:a.tmps[0]?.getD undef=.pointer (some ⟨p,0,none⟩):=ah.ak (hF.eval 0 (fun i hi=>by show 13+i≠0;omega));have f6:a.tmps[6]?.getD undef=.pointer (some ⟨q2,0,none⟩):=ah.ak (hF.eval 6 (fun i hi=>by show 13+i≠6;omega));have hc:j=0\/j=1\/j=2:=by omega
    clear hj;rcases hc with rfl|rfl|rfl
    all_goals (simp only [List.getElem?_toArray,List.getElem?_cons_succ,List.getElem?_cons_zero,Option.some.injEq] at ho;subst ho;refine ah.bh fun KK aj=>?_)
    ·go_simp;exact aj _ _ ⟨_,rfl,Below.refl _ _,rfl⟩
    ·go_simp;exact aj _ _ ⟨_,rfl,Below.refl _ _,rfl⟩
    ·have g0:a.tmps[14]?.getD undef=.pointer (some ⟨p,0,none⟩):=ah.ak (hd 1 (by decide));have HK:=ae aj;clear aj;go_simp;refine HQ.out.mono ?_;rintro e w3 ⟨rfl,hb3⟩;exact HK.out _ _ ⟨_,rfl,hb3,rfl⟩
   case ht2 =>
    intro a w2 hF hb2 hG;have g0:a.eval (.tmp 13)=.agg #[.int .i64 2,.string e0,.func (.func 241) #[] #[]]:=hG 0 (by decide);have g2:a.eval (.tmp 15)=dM (tk L en i):=hG 2 (by decide);obtain ⟨xs,hxl,rfl,hev⟩:=hF.lit (by simp);rw [hev 0 (by decide)] at g0;rw [hev 2 (by decide)] at g2;obtain ⟨x0,x1,x2,rfl⟩:∃x0 x1 x2,xs = [x0,x1,x2]:=by match xs,hxl with|[x0,x1,x2],_=>exact ⟨x0,x1,x2,rfl⟩
    have g0:x0=_:=g0;have g2:x2=_:=g2;subst g0;subst g2;have HQ:=ae (mb 2 e0 (.func (.func 241) #[] #[]) (tk L en i) w2);have dF:=ae (ax aD.out hb2);clear hF hb2 hG hev hxl HR;simp only [List.take_succ_cons,List.take_zero,List.drop_succ_cons,List.drop_zero,List.cons_append,List.nil_append];go_wp2_with fail;refine HQ.out.mono ?_;rintro e u5 ⟨rfl,hb5⟩;have fD:=ae (ax dF.out hb5);clear hb5 HQ;have b0:bg 1 e0 (tk L en i)=false:=by have:=HN.out 0 (by decide);simpa using this
    have b1:bg 4 e0 (tk L en i)=false:=by have:=HN.out 1 (by decide);simpa using this
    cases hbg:bg 2 e0 (tk L en i) with
    | false =>
     have bX:Hid (∀j,j<3->([(1,e0),(4,e0),(2,e0),(6,sL)]:List (Int × ByteArray))[j]?.map (fun r=>bg r.1 r.2 (tk L en i))=some false):=ae fun j hj=>by
      rcases Nat.lt_succ_iff_lt_or_eq.1 hj with hj|rfl
      ·exact HN.out j hj
      ·simp [hbg]
     clear hbg HN b0 b1;go_wp2;go_roundw
     case rel=>exact ⟨3,by decide,by first|rfl|simp,bX,fD⟩
     case measure=>simp
    | true =>
     have hE:au=true:=by rw [bT.out,jW];simp [hbg]
     have HE:=ae hE;clear hbg hE HN b0 b1;go_wp2;go_ret;exact ⟨aO HE.out.symm,fD.out⟩
  ·have y0:=hcs 9 _ rfl;have y1:=hcs 10 _ rfl;have y2:=hcs 11 _ rfl;have bI:g<wr.heap.size:=Nat.lt_of_lt_of_le dH.out HB.out.size;obtain ⟨u3,hu3,hb3,r0,r1,r2⟩:=fW wr 163 (.int .i64 6) (.string sL) (.func (.func 247) #[] #[]);have aD:=ae (ax HB.out hb3);have HR:Hid (∀u,Below u3.heap.size u3 u->u.cell? ⟨wr.heap.size,0,none⟩=some (.int .i64 6)/\u.cell? ⟨wr.heap.size,1,none⟩=some (.string sL)/\u.cell? ⟨wr.heap.size,2,none⟩=some (.func (.func 247) #[] #[])):=ae fun u hb=>⟨ag hb r0,ag hb r1,ag hb r2⟩;go_upto_region 4 with fail
   try rw [<- hu3]
   generalize wr.heap.size=q2 at *;clear hu3 hb3 hcs y0 y1 y2 bI r0 r1 r2;refine ah.mQ 3 (fun j=>13+j) (fun j v _=>v = [.agg #[.int .i64 6,.string sL,.func (.func 247) #[] #[]],.pointer (some ⟨p,0,none⟩),dM (tk L en i)].getD j undef) (by kernel_rfl) (by kernel_rfl) (fun a b h1 h2 h=>by have h':13+a=13+b:=h;omega) (ah.mR (size:=18) (by kernel_rfl)) (fun a v w w' _ h _=>h) ?nE ?zJ
   case nE =>
    intro j o a w2 hj ho hF hb2 hd;obtain ⟨r0,r1,r2⟩:=HR.out w2 hb2;have HQ:=ae (jf w0 p L vL en i w2 (HP.out.on (ax aD.out hb2)));have f0:a.tmps[0]?.getD undef=.pointer (some ⟨p,0,none⟩):=ah.ak (hF.eval 0 (fun i hi=>by show 13+i≠0;omega));have f6:a.tmps[6]?.getD undef=.pointer (some ⟨q2,0,none⟩):=ah.ak (hF.eval 6 (fun i hi=>by show 13+i≠6;omega));have hc:j=0\/j=1\/j=2:=by omega
    clear hj;rcases hc with rfl|rfl|rfl
    all_goals (simp only [List.getElem?_toArray,List.getElem?_cons_succ,List.getElem?_cons_zero,Option.some.injEq] at ho;subst ho;refine ah.bh fun KK aj=>?_)
    ·go_simp;exact aj _ _ ⟨_,rfl,Below.refl _ _,rfl⟩
    ·go_simp;exact aj _ _ ⟨_,rfl,Below.refl _ _,rfl⟩
    ·have g0:a.tmps[14]?.getD undef=.pointer (some ⟨p,0,none⟩):=ah.ak (hd 1 (by decide));have HK:=ae aj;clear aj;go_simp;refine HQ.out.mono ?_;rintro e w3 ⟨rfl,hb3⟩;exact HK.out _ _ ⟨_,rfl,hb3,rfl⟩
   case zJ =>
    intro a w2 hF hb2 hG;have g0:a.eval (.tmp 13)=.agg #[.int .i64 6,.string sL,.func (.func 247) #[] #[]]:=hG 0 (by decide);have g2:a.eval (.tmp 15)=dM (tk L en i):=hG 2 (by decide);obtain ⟨xs,hxl,rfl,hev⟩:=hF.lit (by simp);rw [hev 0 (by decide)] at g0;rw [hev 2 (by decide)] at g2;obtain ⟨x0,x1,x2,rfl⟩:∃x0 x1 x2,xs = [x0,x1,x2]:=by match xs,hxl with|[x0,x1,x2],_=>exact ⟨x0,x1,x2,rfl⟩
    have g0:x0=_:=g0;have g2:x2=_:=g2;subst g0;subst g2;have HQ:=ae (mb 6 sL (.func (.func 247) #[] #[]) (tk L en i) w2);have dF:=ae (ax aD.out hb2);clear hF hb2 hG hev hxl HR;simp only [List.take_succ_cons,List.take_zero,List.drop_succ_cons,List.drop_zero,List.cons_append,List.nil_append];go_wp2_with fail;refine HQ.out.mono ?_;rintro e u5 ⟨rfl,hb5⟩;have fD:=ae (ax dF.out hb5);clear hb5 HQ;have b0:bg 1 e0 (tk L en i)=false:=by have:=HN.out 0 (by decide);simpa using this
    have b1:bg 4 e0 (tk L en i)=false:=by have:=HN.out 1 (by decide);simpa using this
    have b2:bg 2 e0 (tk L en i)=false:=by have:=HN.out 2 (by decide);simpa using this
    cases hbg:bg 6 sL (tk L en i) with
    | false =>
     have bX:Hid (∀j,j<4->([(1,e0),(4,e0),(2,e0),(6,sL)]:List (Int × ByteArray))[j]?.map (fun r=>bg r.1 r.2 (tk L en i))=some false):=ae fun j hj=>by
      rcases Nat.lt_succ_iff_lt_or_eq.1 hj with hj|rfl
      ·exact HN.out j hj
      ·simp [hbg]
     clear hbg HN b0 b1 b2;go_wp2;go_roundw
     case rel=>exact ⟨4,by decide,by first|rfl|simp,bX,fD⟩
     case measure=>simp
    | true =>
     have hE:au=true:=by rw [bT.out,jW];simp [hbg]
     have HE:=ae hE;clear hbg hE HN b0 b1 b2;go_wp2;go_ret;exact ⟨aO HE.out.symm,fD.out⟩
  ·skip
   have b0:bg 1 e0 (tk L en i)=false:=by have:=HN.out 0 (by decide);simpa using this
   have b1:bg 4 e0 (tk L en i)=false:=by have:=HN.out 1 (by decide);simpa using this
   have b2:bg 2 e0 (tk L en i)=false:=by have:=HN.out 2 (by decide);simpa using this
   have b3:bg 6 sL (tk L en i)=false:=by have:=HN.out 3 (by decide);simpa using this
   have hE:au=false:=by rw [bT.out,jW,b0,b1,b2,b3];rfl
   have HE:=ae hE;clear hcs HN hE b0 b1 b2 b3;go_wp2;go_ret;exact ⟨aO HE.out.symm,HB.out⟩
end Go.Proofs.YtkdbgopgjbfhbaaGreatDoor
