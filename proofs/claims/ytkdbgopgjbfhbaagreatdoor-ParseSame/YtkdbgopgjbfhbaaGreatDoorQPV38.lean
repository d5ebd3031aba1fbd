/- Texts that the claim needs. -/
import Derived.Test.YtkdbgopgjbfhbaaGreatDoorQPV35
import Derived.Test.YtkdbgopgjbfhbaaGreatDoorQPV29
namespace Go.Proofs.YtkdbgopgjbfhbaaGreatDoor
open Go.RowKit Lx Pz bw
set_option linter.unusedVariables false
set_option maxRecDepth 100000
set_option maxHeartbeats 8000000
namespace Pz
def bD {α:Type} (f:α->α->Bool):List α->List α->Bool
 | [],[]=>true
 | a :: l,b :: k=>f a b && bD f l k
 | _,_=>false
section
variable {α:Type} {f:α->α->Bool}
theorem mH:∀ {l k:List α},l.length≠k.length->bD f l k=false
 | [],[],h=>absurd rfl h
 | [],_ :: _,_=>rfl
 | _ :: _,[],_=>rfl
 | a :: l,b :: k,h=>by unfold bD;rw [mH (l:=l) (k:=k) (fun e=>h (by simp [e])),Bool.and_false]
theorem nL {l k:List α} {i:Nat} {a b:α} (ha:l[i]?=some a) (hb:k[i]?=some b):bD f (l.drop i) (k.drop i)=(f a b && bD f (l.drop (i+1)) (k.drop (i+1))):=by
 have h1:=List.getElem?_eq_some_iff.1 ha;have h2:=List.getElem?_eq_some_iff.1 hb;rw [List.drop_eq_getElem_cons h1.1,List.drop_eq_getElem_cons h2.1,h1.2,h2.2,bD]
theorem nN {l k:List α} {i:Nat} (hl:l.length<=i) (hk:k.length<=i):bD f (l.drop i) (k.drop i)=true:=by
 rw [List.drop_eq_nil_of_le hl,List.drop_eq_nil_of_le hk];rfl
end
end Pz
theorem Wj (g:Value->Value->Bool) (l k:List Value) (vl vk:Value) (w:World) (h:Row 4 (nV 0 w) vl l) (hk:Row 4 (nV 0 w) vk k) (HF:∀a b va vb w',a ∈ l->b ∈ k->iL 0 a va w'->iL 0 b vb w'->Below w.heap.size w w'->Calls Tryz.prog 50 #[va,vb] w' fun e w2=>e=.returned (.bool (g a b))/\Below w'.heap.size w' w2) :
  Calls Tryz.prog 49 #[vl,vk,.func (.func 50) #[] #[]] w fun e w'=>e=.returned (.bool (bD g l k))/\Below w.heap.size w w':=by
 obtain ⟨oR,cR,rfl,hel⟩:=bz h;obtain ⟨oS,cS,rfl,hes⟩:=bz hk;obtain ⟨R,hR⟩:∃R,R=bD g l k:=⟨_,rfl⟩;rw [<- hR];by_cases hlen:l.length=k.length
 ·have st0:Hid (bD g (l.drop 0) (k.drop 0)=R):=ae (by rw [hR];rfl);have HL:=ae h.1;have dB:=ae hel;have jN:=ae hes;have lM:=ae HF;have gW:=ae hlen;rw [<- hlen];clear hR h hk hel hes HF hlen;go_enter Tryz.func49,Tryz.ntmps49;go_wp2_with fail;go_loopw [17] (fun a wr=>∃i:Nat,a=.int .i64 i/\i<=l.length/\Hid (bD g (l.drop i) (k.drop i)=R)/\Hid (Below w.heap.size w wr)) (fun a _=>match a with | .int _ i=>l.length-i.toNat|_=>0)
  case atStart=>exact ⟨0,rfl,Nat.zero_le _,st0,ae (Below.refl _ _)⟩
  case round =>
   obtain ⟨i,rfl,hi,HN,HB2⟩:=hrel;clear st0;by_cases hp:i<l.length
   ·obtain ⟨t1,ht1⟩:∃t1,l[i]?=some t1:=⟨_,List.getElem?_eq_getElem hp⟩;obtain ⟨t2,ht2⟩:∃t2,k[i]?=some t2:=⟨_,List.getElem?_eq_getElem (by have:=gW.out;omega)⟩;obtain ⟨b,off,dh,hC⟩:=dB.out i t1 ht1;obtain ⟨b2,bL,kK,hD⟩:=jN.out i t2 ht2;subst dh;subst kK;obtain ⟨px,pu,pz,pa,p1,p2,p3,p4,gF,pT⟩:=Ty hC;obtain ⟨qx,qu,qz,qa,q1,q2,q3,q4,gG,qT⟩:=Ty hD;have y0:=ag HB2.out p1;have y1:=ag HB2.out p2;have y2:=ag HB2.out p3;have y3:=ag HB2.out p4;have w1:decide ((i:Int)<(l.length:Int))=true:=decide_eq_true (by omega);have hw1:=fO hp HL.out;have hd:=nL (f:=g) ht1 ht2;rw [HN.out] at hd;obtain ⟨V1,hW1,oh,kQ,om⟩:=jk wr 62 qO #[.string px,pu,pz,.int .i64 pa] rfl;obtain ⟨V2,aY,jy,hbk2,jH⟩:=jk V1 62 qO #[.string qx,qu,qz,.int .i64 qa] rfl;have fL:=ae (ax HB2.out om);have aT:=ae (ax fL.out jH);have bP:=ae (lM.out t1 t2 _ _ V2 (List.mem_of_getElem? ht1) (List.mem_of_getElem? ht2) (pT.on (B:=0) (C:=0) (fun kk _ hl=>aT.out.block kk hl) (Nat.le_refl _)) (qT.on (B:=0) (C:=0) (fun kk _ hl=>aT.out.block kk hl) (Nat.le_refl _)) aT.out);have HW1:=ae hW1;have lS:=ae oh;have iR:=ae ((jH.block _ (Array.getElem?_eq_some_iff.1 kQ).1).trans kQ);have HW2:=ae aY;have dW:=ae jy;have iS:=ae hbk2;have x0:=ag fL.out q1;have x1:=ag fL.out q2;have x2:=ag fL.out q3;have x3:=ag fL.out q4;have z0:=af iR.out 0 _ rfl;have z1:=af iR.out 1 _ rfl;have z2:=af iR.out 2 _ rfl;have z3:=af iR.out 3 _ rfl;have u0:=af iS.out 0 _ rfl;have u1:=af iS.out 1 _ rfl;have u2:=af iS.out 2 _ rfl;have u3:=af iS.out 3 _ rfl;clear hC hD p1 q1 p2 q2 p3 q3 p4 q4 pT qT hW1 oh kQ om aY jy hbk2 jH ht1 ht2 HN HB2 fL;generalize g t1 t2=Bt at *;cases Bt with
    | false =>
     have HS:Hid (R=false):=ae hd;clear hd;go_wp2_with (first|(refine wpList_store_mid rfl 62 (.tmp 8) (.tmp 21) rfl wr.heap.size 0 #[.string px,pu,pz,.int .i64 pa] rfl rfl lS.out tX (by simp [Value.oneCell'] at gF ⊢;exact ⟨gF.1,gF.2⟩) ?_;rw [HW1.out])|(refine wpList_store_mid rfl 62 (.tmp 9) (.tmp 25) rfl V1.heap.size 0 #[.string qx,qu,qz,.int .i64 qa] rfl rfl dW.out tX (by simp [Value.oneCell'] at gG ⊢;exact ⟨gG.1,gG.2⟩) ?_;rw [HW2.out]))
     refine Calls.mono (show Calls _ _ _ _ _ from bP.out) ?_;rintro e w3 ⟨rfl,hb3⟩;have aD:=ae (ax aT.out hb3);clear hb3 y0 x0 z0 u0 y1 x1 z1 u1 y2 x2 z2 u2 y3 x3 z3 u3;go_wp2;go_ret;exact ⟨aO HS.out.symm,aD.out⟩
    | true =>
     have HS:Hid (bD g (l.drop (i+1)) (k.drop (i+1))=R):=ae hd.symm;clear hd;go_wp2_with (first|(refine wpList_store_mid rfl 62 (.tmp 8) (.tmp 21) rfl wr.heap.size 0 #[.string px,pu,pz,.int .i64 pa] rfl rfl lS.out tX (by simp [Value.oneCell'] at gF ⊢;exact ⟨gF.1,gF.2⟩) ?_;rw [HW1.out])|(refine wpList_store_mid rfl 62 (.tmp 9) (.tmp 25) rfl V1.heap.size 0 #[.string qx,qu,qz,.int .i64 qa] rfl rfl dW.out tX (by simp [Value.oneCell'] at gG ⊢;exact ⟨gG.1,gG.2⟩) ?_;rw [HW2.out]))
     refine Calls.mono (show Calls _ _ _ _ _ from bP.out) ?_;rintro e w3 ⟨rfl,hb3⟩;have aD:=ae (ax aT.out hb3);clear hb3 y0 x0 z0 u0 y1 x1 z1 u1 y2 x2 z2 u2 y3 x3 z3 u3;go_wp2;go_roundw
     case rel=>exact ⟨i+1,by first|rfl|(congr 1),hp,HS,aD⟩
     case measure=>simp;omega
   ·have q1:decide ((i:Int)<(l.length:Int))=false:=decide_eq_false (by omega);have HS:Hid (R=true):=ae (by rw [<- HN.out];exact nN (by omega) (by have:=gW.out;omega));clear HN;go_wp2;go_ret;exact ⟨aO HS.out.symm,HB2.out⟩
 ·have HS:Hid (R=false):=ae (by rw [hR,mH hlen]);clear hR h hk hel hes HF;go_enter Tryz.func49,Tryz.ntmps49;go_wp2;go_ret;exact ⟨aO HS.out.symm,Below.refl _ _⟩
theorem Wi (g:Value->Value->Bool) (l k:List Value) (vl vk:Value) (w:World) (h:Row 2 (lD 0 w) vl l) (hk:Row 2 (lD 0 w) vk k) (HF:∀a b va vb w',a ∈ l->b ∈ k->iw 0 a va w'->iw 0 b vb w'->Below w.heap.size w w'->Calls Tryz.prog 103 #[va,vb] w' fun e w2=>e=.returned (.bool (g a b))/\Below w'.heap.size w' w2) :
  Calls Tryz.prog 102 #[vl,vk,.func (.func 103) #[] #[]] w fun e w'=>e=.returned (.bool (bD g l k))/\Below w.heap.size w w':=by
 obtain ⟨oR,cR,rfl,hel⟩:=bz h;obtain ⟨oS,cS,rfl,hes⟩:=bz hk;obtain ⟨R,hR⟩:∃R,R=bD g l k:=⟨_,rfl⟩;rw [<- hR];by_cases hlen:l.length=k.length
 ·have st0:Hid (bD g (l.drop 0) (k.drop 0)=R):=ae (by rw [hR];rfl);have HL:=ae h.1;have dB:=ae hel;have jN:=ae hes;have lM:=ae HF;have gW:=ae hlen;rw [<- hlen];clear hR h hk hel hes HF hlen;go_enter Tryz.func102,Tryz.ntmps102;go_wp2_with fail;go_loopw [17] (fun a wr=>∃i:Nat,a=.int .i64 i/\i<=l.length/\Hid (bD g (l.drop i) (k.drop i)=R)/\Hid (Below w.heap.size w wr)) (fun a _=>match a with | .int _ i=>l.length-i.toNat|_=>0)
  case atStart=>exact ⟨0,rfl,Nat.zero_le _,st0,ae (Below.refl _ _)⟩
  case round =>
   obtain ⟨i,rfl,hi,HN,HB2⟩:=hrel;clear st0;by_cases hp:i<l.length
   ·obtain ⟨t1,ht1⟩:∃t1,l[i]?=some t1:=⟨_,List.getElem?_eq_getElem hp⟩;obtain ⟨t2,ht2⟩:∃t2,k[i]?=some t2:=⟨_,List.getElem?_eq_getElem (by have:=gW.out;omega)⟩;obtain ⟨b,off,dh,hC⟩:=dB.out i t1 ht1;obtain ⟨b2,bL,kK,hD⟩:=jN.out i t2 ht2;subst dh;subst kK;obtain ⟨px,pu,p1,p2,gF,pT⟩:=Tz hC;obtain ⟨qx,qu,q1,q2,gG,qT⟩:=Tz hD;have y0:=ag HB2.out p1;have y1:=ag HB2.out p2;have w1:decide ((i:Int)<(l.length:Int))=true:=decide_eq_true (by omega);have hw1:=fO hp HL.out;have hd:=nL (f:=g) ht1 ht2;rw [HN.out] at hd;obtain ⟨V1,hW1,oh,kQ,om⟩:=jk wr 76 Bm #[.string px,pu] rfl;obtain ⟨V2,aY,jy,hbk2,jH⟩:=jk V1 76 Bm #[.string qx,qu] rfl;have fL:=ae (ax HB2.out om);have aT:=ae (ax fL.out jH);have bP:=ae (lM.out t1 t2 _ _ V2 (List.mem_of_getElem? ht1) (List.mem_of_getElem? ht2) (pT.on (B:=0) (C:=0) (fun kk _ hl=>aT.out.block kk hl) (Nat.le_refl _)) (qT.on (B:=0) (C:=0) (fun kk _ hl=>aT.out.block kk hl) (Nat.le_refl _)) aT.out);have HW1:=ae hW1;have lS:=ae oh;have iR:=ae ((jH.block _ (Array.getElem?_eq_some_iff.1 kQ).1).trans kQ);have HW2:=ae aY;have dW:=ae jy;have iS:=ae hbk2;have x0:=ag fL.out q1;have x1:=ag fL.out q2;have z0:=af iR.out 0 _ rfl;have z1:=af iR.out 1 _ rfl;have u0:=af iS.out 0 _ rfl;have u1:=af iS.out 1 _ rfl;clear hC hD p1 q1 p2 q2 pT qT hW1 oh kQ om aY jy hbk2 jH ht1 ht2 HN HB2 fL;generalize g t1 t2=Bt at *;cases Bt with
    | false =>
     have HS:Hid (R=false):=ae hd;clear hd;go_wp2_with (first|(refine wpList_store_mid rfl 76 (.tmp 8) (.tmp 21) rfl wr.heap.size 0 #[.string px,pu] rfl rfl lS.out zS (by simp [Value.oneCell'] at gF ⊢;exact gF) ?_;rw [HW1.out])|(refine wpList_store_mid rfl 76 (.tmp 9) (.tmp 25) rfl V1.heap.size 0 #[.string qx,qu] rfl rfl dW.out zS (by simp [Value.oneCell'] at gG ⊢;exact gG) ?_;rw [HW2.out]))
     refine Calls.mono (show Calls _ _ _ _ _ from bP.out) ?_;rintro e w3 ⟨rfl,hb3⟩;have aD:=ae (ax aT.out hb3);clear hb3 y0 x0 z0 u0 y1 x1 z1 u1;go_wp2;go_ret;exact ⟨aO HS.out.symm,aD.out⟩
    | true =>
     have HS:Hid (bD g (l.drop (i+1)) (k.drop (i+1))=R):=ae hd.symm;clear hd;go_wp2_with (first|(refine wpList_store_mid rfl 76 (.tmp 8) (.tmp 21) rfl wr.heap.size 0 #[.string px,pu] rfl rfl lS.out zS (by simp [Value.oneCell'] at gF ⊢;exact gF) ?_;rw [HW1.out])|(refine wpList_store_mid rfl 76 (.tmp 9) (.tmp 25) rfl V1.heap.size 0 #[.string qx,qu] rfl rfl dW.out zS (by simp [Value.oneCell'] at gG ⊢;exact gG) ?_;rw [HW2.out]))
     refine Calls.mono (show Calls _ _ _ _ _ from bP.out) ?_;rintro e w3 ⟨rfl,hb3⟩;have aD:=ae (ax aT.out hb3);clear hb3 y0 x0 z0 u0 y1 x1 z1 u1;go_wp2;go_roundw
     case rel=>exact ⟨i+1,by first|rfl|(congr 1),hp,HS,aD⟩
     case measure=>simp;omega
   ·have q1:decide ((i:Int)<(l.length:Int))=false:=decide_eq_false (by omega);have HS:Hid (R=true):=ae (by rw [<- HN.out];exact nN (by omega) (by have:=gW.out;omega));clear HN;go_wp2;go_ret;exact ⟨aO HS.out.symm,HB2.out⟩
 ·have HS:Hid (R=false):=ae (by rw [hR,mH hlen]);clear hR h hk hel hes HF;go_enter Tryz.func102,Tryz.ntmps102;go_wp2;go_ret;exact ⟨aO HS.out.symm,Below.refl _ _⟩
theorem WN (g:Value->Value->Bool) (l k:List Value) (vl vk:Value) (w:World) (d d2:Nat) (h:Row 7 (cf 0 w d) vl l) (hk:Row 7 (cf 0 w d2) vk k) (HF:∀a b va vb w',a ∈ l->b ∈ k->aW 0 a va w'->aW 0 b vb w'->Below w.heap.size w w'->Calls Tryz.prog 51 #[va,vb] w' fun e w2=>e=.returned (.bool (g a b))/\Below w'.heap.size w' w2) :
  Calls Tryz.prog 104 #[vl,vk,.func (.func 51) #[] #[]] w fun e w'=>e=.returned (.bool (bD g l k))/\Below w.heap.size w w':=by
 obtain ⟨oR,cR,rfl,hel⟩:=bz h;obtain ⟨oS,cS,rfl,hes⟩:=bz hk;obtain ⟨R,hR⟩:∃R,R=bD g l k:=⟨_,rfl⟩;rw [<- hR];by_cases hlen:l.length=k.length
 ·have st0:Hid (bD g (l.drop 0) (k.drop 0)=R):=ae (by rw [hR];rfl);have HL:=ae h.1;have dB:=ae hel;have jN:=ae hes;have lM:=ae HF;have gW:=ae hlen;rw [<- hlen];clear hR h hk hel hes HF hlen;go_enter Tryz.func104,Tryz.ntmps104;go_wp2_with fail;go_loopw [17] (fun a wr=>∃i:Nat,a=.int .i64 i/\i<=l.length/\Hid (bD g (l.drop i) (k.drop i)=R)/\Hid (Below w.heap.size w wr)) (fun a _=>match a with | .int _ i=>l.length-i.toNat|_=>0)
  case atStart=>exact ⟨0,rfl,Nat.zero_le _,st0,ae (Below.refl _ _)⟩
  case round =>
   obtain ⟨i,rfl,hi,HN,HB2⟩:=hrel;clear st0;by_cases hp:i<l.length
   ·obtain ⟨t1,ht1⟩:∃t1,l[i]?=some t1:=⟨_,List.getElem?_eq_getElem hp⟩;obtain ⟨t2,ht2⟩:∃t2,k[i]?=some t2:=⟨_,List.getElem?_eq_getElem (by have:=gW.out;omega)⟩;obtain ⟨b,off,dh,hC⟩:=dB.out i t1 ht1;obtain ⟨b2,bL,kK,hD⟩:=jN.out i t2 ht2;subst dh;subst kK;obtain ⟨pk,px,py,pn,pu,pz,pa,p1,p2,p3,p4,p5,p6,p7,gF,pT⟩:=GG hC;obtain ⟨qk,qx,qy,qn,qu,qz,qa,q1,q2,q3,q4,q5,q6,q7,gG,qT⟩:=GG hD;have y0:=ag HB2.out p1;have y1:=ag HB2.out p2;have y2:=ag HB2.out p3;have y3:=ag HB2.out p4;have y4:=ag HB2.out p5;have y5:=ag HB2.out p6;have y6:=ag HB2.out p7;have w1:decide ((i:Int)<(l.length:Int))=true:=decide_eq_true (by omega);have hw1:=fO hp HL.out;have hd:=nL (f:=g) ht1 ht2;rw [HN.out] at hd;obtain ⟨V1,hW1,oh,kQ,om⟩:=jk wr 27 bS #[.int .i64 pk,.string px,.string py,.int .i64 pn,pu,pz,.int .i64 pa] rfl;obtain ⟨V2,aY,jy,hbk2,jH⟩:=jk V1 27 bS #[.int .i64 qk,.string qx,.string qy,.int .i64 qn,qu,qz,.int .i64 qa] rfl;have fL:=ae (ax HB2.out om);have aT:=ae (ax fL.out jH);have bP:=ae (lM.out t1 t2 _ _ V2 (List.mem_of_getElem? ht1) (List.mem_of_getElem? ht2) (pT.on (B:=0) (C:=0) (fun kk _ hl=>aT.out.block kk hl) (Nat.le_refl _)) (qT.on (B:=0) (C:=0) (fun kk _ hl=>aT.out.block kk hl) (Nat.le_refl _)) aT.out);have HW1:=ae hW1;have lS:=ae oh;have iR:=ae ((jH.block _ (Array.getElem?_eq_some_iff.1 kQ).1).trans kQ);have HW2:=ae aY;have dW:=ae jy;have iS:=ae hbk2;have x0:=ag fL.out q1;have x1:=ag fL.out q2;have x2:=ag fL.out q3;have x3:=ag fL.out q4;have x4:=ag fL.out q5;have x5:=ag fL.out q6;have x6:=ag fL.out q7;have z0:=af iR.out 0 _ rfl;have z1:=af iR.out 1 _ rfl;have z2:=af iR.out 2 _ rfl;have z3:=af iR.out 3 _ rfl;have z4:=af iR.out 4 _ rfl;have z5:=af iR.out 5 _ rfl;have z6:=af iR.out 6 _ rfl;have u0:=af iS.out 0 _ rfl;have u1:=af iS.out 1 _ rfl;have u2:=af iS.out 2 _ rfl;have u3:=af iS.out 3 _ rfl;have u4:=af iS.out 4 _ rfl;have u5:=af iS.out 5 _ rfl;have u6:=af iS.out 6 _ rfl;clear hC hD p1 q1 p2 q2 p3 q3 p4 q4 p5 q5 p6 q6 p7 q7 pT qT hW1 oh kQ om aY jy hbk2 jH ht1 ht2 HN HB2 fL;generalize g t1 t2=Bt at *;cases Bt with
    | false =>
     have HS:Hid (R=false):=ae hd;clear hd;go_wp2_with (first|(refine wpList_store_mid rfl 27 (.tmp 8) (.tmp 21) rfl wr.heap.size 0 #[.int .i64 pk,.string px,.string py,.int .i64 pn,pu,pz,.int .i64 pa] rfl rfl lS.out cK (by simp [Value.oneCell'] at gF ⊢;exact ⟨gF.1,gF.2⟩) ?_;rw [HW1.out])|(refine wpList_store_mid rfl 27 (.tmp 9) (.tmp 25) rfl V1.heap.size 0 #[.int .i64 qk,.string qx,.string qy,.int .i64 qn,qu,qz,.int .i64 qa] rfl rfl dW.out cK (by simp [Value.oneCell'] at gG ⊢;exact ⟨gG.1,gG.2⟩) ?_;rw [HW2.out]))
     refine Calls.mono (show Calls _ _ _ _ _ from bP.out) ?_;rintro e w3 ⟨rfl,hb3⟩;have aD:=ae (ax aT.out hb3);clear hb3 y0 x0 z0 u0 y1 x1 z1 u1 y2 x2 z2 u2 y3 x3 z3 u3 y4 x4 z4 u4 y5 x5 z5 u5 y6 x6 z6 u6;go_wp2;go_ret;exact ⟨aO HS.out.symm,aD.out⟩
    | true =>
     have HS:Hid (bD g (l.drop (i+1)) (k.drop (i+1))=R):=ae hd.symm;clear hd;go_wp2_with (first|(refine wpList_store_mid rfl 27 (.tmp 8) (.tmp 21) rfl wr.heap.size 0 #[.int .i64 pk,.string px,.string py,.int .i64 pn,pu,pz,.int .i64 pa] rfl rfl lS.out cK (by simp [Value.oneCell'] at gF ⊢;exact ⟨gF.1,gF.2⟩) ?_;rw [HW1.out])|(refine wpList_store_mid rfl 27 (.tmp 9) (.tmp 25) rfl V1.heap.size 0 #[.int .i64 qk,.string qx,.string qy,.int .i64 qn,qu,qz,.int .i64 qa] rfl rfl dW.out cK (by simp [Value.oneCell'] at gG ⊢;exact ⟨gG.1,gG.2⟩) ?_;rw [HW2.out]))
     refine Calls.mono (show Calls _ _ _ _ _ from bP.out) ?_;rintro e w3 ⟨rfl,hb3⟩;have aD:=ae (ax aT.out hb3);clear hb3 y0 x0 z0 u0 y1 x1 z1 u1 y2 x2 z2 u2 y3 x3 z3 u3 y4 x4 z4 u4 y5 x5 z5 u5 y6 x6 z6 u6;go_wp2;go_roundw
     case rel=>exact ⟨i+1,by first|rfl|(congr 1),hp,HS,aD⟩
     case measure=>simp;omega
   ·have q1:decide ((i:Int)<(l.length:Int))=false:=decide_eq_false (by omega);have HS:Hid (R=true):=ae (by rw [<- HN.out];exact nN (by omega) (by have:=gW.out;omega));clear HN;go_wp2;go_ret;exact ⟨aO HS.out.symm,HB2.out⟩
 ·have HS:Hid (R=false):=ae (by rw [hR,mH hlen]);clear hR h hk hel hes HF;go_enter Tryz.func104,Tryz.ntmps104;go_wp2;go_ret;exact ⟨aO HS.out.symm,Below.refl _ _⟩
theorem Oo (g:Value->Value->Bool) (l k:List Value) (vl vk:Value) (w:World) (d d2:Nat) (h:Row 5 (bR 0 w d) vl l) (hk:Row 5 (bR 0 w d2) vk k) (HF:∀a b va vb w',a ∈ l->b ∈ k->bV 0 a va w'->bV 0 b vb w'->Below w.heap.size w w'->Calls Tryz.prog 106 #[va,vb] w' fun e w2=>e=.returned (.bool (g a b))/\Below w'.heap.size w' w2) :
  Calls Tryz.prog 105 #[vl,vk,.func (.func 106) #[] #[]] w fun e w'=>e=.returned (.bool (bD g l k))/\Below w.heap.size w w':=by
 obtain ⟨oR,cR,rfl,hel⟩:=bz h;obtain ⟨oS,cS,rfl,hes⟩:=bz hk;obtain ⟨R,hR⟩:∃R,R=bD g l k:=⟨_,rfl⟩;rw [<- hR];by_cases hlen:l.length=k.length
 ·have st0:Hid (bD g (l.drop 0) (k.drop 0)=R):=ae (by rw [hR];rfl);have HL:=ae h.1;have dB:=ae hel;have jN:=ae hes;have lM:=ae HF;have gW:=ae hlen;rw [<- hlen];clear hR h hk hel hes HF hlen;go_enter Tryz.func105,Tryz.ntmps105;go_wp2_with fail;go_loopw [17] (fun a wr=>∃i:Nat,a=.int .i64 i/\i<=l.length/\Hid (bD g (l.drop i) (k.drop i)=R)/\Hid (Below w.heap.size w wr)) (fun a _=>match a with | .int _ i=>l.length-i.toNat|_=>0)
  case atStart=>exact ⟨0,rfl,Nat.zero_le _,st0,ae (Below.refl _ _)⟩
  case round =>
   obtain ⟨i,rfl,hi,HN,HB2⟩:=hrel;clear st0;by_cases hp:i<l.length
   ·obtain ⟨t1,ht1⟩:∃t1,l[i]?=some t1:=⟨_,List.getElem?_eq_getElem hp⟩;obtain ⟨t2,ht2⟩:∃t2,k[i]?=some t2:=⟨_,List.getElem?_eq_getElem (by have:=gW.out;omega)⟩;obtain ⟨b,off,dh,hC⟩:=dB.out i t1 ht1;obtain ⟨b2,bL,kK,hD⟩:=jN.out i t2 ht2;subst dh;subst kK;obtain ⟨pk,px,pn,pu,pa,p1,p2,p3,p4,p5,gF,pT⟩:=GF hC;obtain ⟨qk,qx,qn,qu,qa,q1,q2,q3,q4,q5,gG,qT⟩:=GF hD;have y0:=ag HB2.out p1;have y1:=ag HB2.out p2;have y2:=ag HB2.out p3;have y3:=ag HB2.out p4;have y4:=ag HB2.out p5;have w1:decide ((i:Int)<(l.length:Int))=true:=decide_eq_true (by omega);have hw1:=fO hp HL.out;have hd:=nL (f:=g) ht1 ht2;rw [HN.out] at hd;obtain ⟨V1,hW1,oh,kQ,om⟩:=jk wr 101 gH #[.int .i64 pk,.string px,.int .i64 pn,pu,.int .i64 pa] rfl;obtain ⟨V2,aY,jy,hbk2,jH⟩:=jk V1 101 gH #[.int .i64 qk,.string qx,.int .i64 qn,qu,.int .i64 qa] rfl;have fL:=ae (ax HB2.out om);have aT:=ae (ax fL.out jH);have bP:=ae (lM.out t1 t2 _ _ V2 (List.mem_of_getElem? ht1) (List.mem_of_getElem? ht2) (pT.on (B:=0) (C:=0) (fun kk _ hl=>aT.out.block kk hl) (Nat.le_refl _)) (qT.on (B:=0) (C:=0) (fun kk _ hl=>aT.out.block kk hl) (Nat.le_refl _)) aT.out);have HW1:=ae hW1;have lS:=ae oh;have iR:=ae ((jH.block _ (Array.getElem?_eq_some_iff.1 kQ).1).trans kQ);have HW2:=ae aY;have dW:=ae jy;have iS:=ae hbk2;have x0:=ag fL.out q1;have x1:=ag fL.out q2;have x2:=ag fL.out q3;have x3:=ag fL.out q4;have x4:=ag fL.out q5;have z0:=af iR.out 0 _ rfl;have z1:=af iR.out 1 _ rfl;have z2:=af iR.out 2 _ rfl;have z3:=af iR.out 3 _ rfl;have z4:=af iR.out 4 _ rfl;have u0:=af iS.out 0 _ rfl;have u1:=af iS.out 1 _ rfl;have u2:=af iS.out 2 _ rfl;have u3:=af iS.out 3 _ rfl;have u4:=af iS.out 4 _ rfl;clear hC hD p1 q1 p2 q2 p3 q3 p4 q4 p5 q5 pT qT hW1 oh kQ om aY jy hbk2 jH ht1 ht2 HN HB2 fL;generalize g t1 t2=Bt at *;cases Bt with
    | false =>
     have HS:Hid (R=false):=ae hd;clear hd;go_wp2_with (first|(refine wpList_store_mid rfl 101 (.tmp 8) (.tmp 21) rfl wr.heap.size 0 #[.int .i64 pk,.string px,.int .i64 pn,pu,.int .i64 pa] rfl rfl lS.out iC (by simp [Value.oneCell'] at gF ⊢;exact gF) ?_;rw [HW1.out])|(refine wpList_store_mid rfl 101 (.tmp 9) (.tmp 25) rfl V1.heap.size 0 #[.int .i64 qk,.string qx,.int .i64 qn,qu,.int .i64 qa] rfl rfl dW.out iC (by simp [Value.oneCell'] at gG ⊢;exact gG) ?_;rw [HW2.out]))
     refine Calls.mono (show Calls _ _ _ _ _ from bP.out) ?_;rintro e w3 ⟨rfl,hb3⟩;have aD:=ae (ax aT.out hb3);clear hb3 y0 x0 z0 u0 y1 x1 z1 u1 y2 x2 z2 u2 y3 x3 z3 u3 y4 x4 z4 u4;go_wp2;go_ret;exact ⟨aO HS.out.symm,aD.out⟩
    | true =>
     have HS:Hid (bD g (l.drop (i+1)) (k.drop (i+1))=R):=ae hd.symm;clear hd;go_wp2_with (first|(refine wpList_store_mid rfl 101 (.tmp 8) (.tmp 21) rfl wr.heap.size 0 #[.int .i64 pk,.string px,.int .i64 pn,pu,.int .i64 pa] rfl rfl lS.out iC (by simp [Value.oneCell'] at gF ⊢;exact gF) ?_;rw [HW1.out])|(refine wpList_store_mid rfl 101 (.tmp 9) (.tmp 25) rfl V1.heap.size 0 #[.int .i64 qk,.string qx,.int .i64 qn,qu,.int .i64 qa] rfl rfl dW.out iC (by simp [Value.oneCell'] at gG ⊢;exact gG) ?_;rw [HW2.out]))
     refine Calls.mono (show Calls _ _ _ _ _ from bP.out) ?_;rintro e w3 ⟨rfl,hb3⟩;have aD:=ae (ax aT.out hb3);clear hb3 y0 x0 z0 u0 y1 x1 z1 u1 y2 x2 z2 u2 y3 x3 z3 u3 y4 x4 z4 u4;go_wp2;go_roundw
     case rel=>exact ⟨i+1,by first|rfl|(congr 1),hp,HS,aD⟩
     case measure=>simp;omega
   ·have q1:decide ((i:Int)<(l.length:Int))=false:=decide_eq_false (by omega);have HS:Hid (R=true):=ae (by rw [<- HN.out];exact nN (by omega) (by have:=gW.out;omega));clear HN;go_wp2;go_ret;exact ⟨aO HS.out.symm,HB2.out⟩
 ·have HS:Hid (R=false):=ae (by rw [hR,mH hlen]);clear hR h hk hel hes HF;go_enter Tryz.func105,Tryz.ntmps105;go_wp2;go_ret;exact ⟨aO HS.out.symm,Below.refl _ _⟩
theorem N8 (g:Value->Value->Bool) (l k:List Value) (vl vk:Value) (w:World) (d d2:Nat) (h:Row 4 (dw 0 w d) vl l) (hk:Row 4 (dw 0 w d2) vk k) (HF:∀a b va vb w',a ∈ l->b ∈ k->eu 0 a va w'->eu 0 b vb w'->Below w.heap.size w w'->Calls Tryz.prog 148 #[va,vb] w' fun e w2=>e=.returned (.bool (g a b))/\Below w'.heap.size w' w2) :
  Calls Tryz.prog 147 #[vl,vk,.func (.func 148) #[] #[]] w fun e w'=>e=.returned (.bool (bD g l k))/\Below w.heap.size w w':=by
 obtain ⟨oR,cR,rfl,hel⟩:=bz h;obtain ⟨oS,cS,rfl,hes⟩:=bz hk;obtain ⟨R,hR⟩:∃R,R=bD g l k:=⟨_,rfl⟩;rw [<- hR];by_cases hlen:l.length=k.length
 ·have st0:Hid (bD g (l.drop 0) (k.drop 0)=R):=ae (by rw [hR];rfl);have HL:=ae h.1;have dB:=ae hel;have jN:=ae hes;have lM:=ae HF;have gW:=ae hlen;rw [<- hlen];clear hR h hk hel hes HF hlen;go_enter Tryz.func147,Tryz.ntmps147;go_wp2_with fail;go_loopw [17] (fun a wr=>∃i:Nat,a=.int .i64 i/\i<=l.length/\Hid (bD g (l.drop i) (k.drop i)=R)/\Hid (Below w.heap.size w wr)) (fun a _=>match a with | .int _ i=>l.length-i.toNat|_=>0)
  case atStart=>exact ⟨0,rfl,Nat.zero_le _,st0,ae (Below.refl _ _)⟩
  case round =>
   obtain ⟨i,rfl,hi,HN,HB2⟩:=hrel;clear st0;by_cases hp:i<l.length
   ·obtain ⟨t1,ht1⟩:∃t1,l[i]?=some t1:=⟨_,List.getElem?_eq_getElem hp⟩;obtain ⟨t2,ht2⟩:∃t2,k[i]?=some t2:=⟨_,List.getElem?_eq_getElem (by have:=gW.out;omega)⟩;obtain ⟨b,off,dh,hC⟩:=dB.out i t1 ht1;obtain ⟨b2,bL,kK,hD⟩:=jN.out i t2 ht2;subst dh;subst kK;obtain ⟨pk,px,pn,pu,p1,p2,p3,p4,gF,pT⟩:=EM hC;obtain ⟨qk,qx,qn,qu,q1,q2,q3,q4,gG,qT⟩:=EM hD;have y0:=ag HB2.out p1;have y1:=ag HB2.out p2;have y2:=ag HB2.out p3;have y3:=ag HB2.out p4;have w1:decide ((i:Int)<(l.length:Int))=true:=decide_eq_true (by omega);have hw1:=fO hp HL.out;have hd:=nL (f:=g) ht1 ht2;rw [HN.out] at hd;obtain ⟨V1,hW1,oh,kQ,om⟩:=jk wr 79 lL #[.int .i64 pk,.string px,.int .i64 pn,pu] rfl;obtain ⟨V2,aY,jy,hbk2,jH⟩:=jk V1 79 lL #[.int .i64 qk,.string qx,.int .i64 qn,qu] rfl;have fL:=ae (ax HB2.out om);have aT:=ae (ax fL.out jH);have bP:=ae (lM.out t1 t2 _ _ V2 (List.mem_of_getElem? ht1) (List.mem_of_getElem? ht2) (pT.on (B:=0) (C:=0) (fun kk _ hl=>aT.out.block kk hl) (Nat.le_refl _)) (qT.on (B:=0) (C:=0) (fun kk _ hl=>aT.out.block kk hl) (Nat.le_refl _)) aT.out);have HW1:=ae hW1;have lS:=ae oh;have iR:=ae ((jH.block _ (Array.getElem?_eq_some_iff.1 kQ).1).trans kQ);have HW2:=ae aY;have dW:=ae jy;have iS:=ae hbk2;have x0:=ag fL.out q1;have x1:=ag fL.out q2;have x2:=ag fL.out q3;have x3:=ag fL.out q4;have z0:=af iR.out 0 _ rfl;have z1:=af iR.out 1 _ rfl;have z2:=af iR.out 2 _ rfl;have z3:=af iR.out 3 _ rfl;have u0:=af iS.out 0 _ rfl;have u1:=af iS.out 1 _ rfl;have u2:=af iS.out 2 _ rfl;have u3:=af iS.out 3 _ rfl;clear hC hD p1 q1 p2 q2 p3 q3 p4 q4 pT qT hW1 oh kQ om aY jy hbk2 jH ht1 ht2 HN HB2 fL;generalize g t1 t2=Bt at *;cases Bt with
    | false =>
     have HS:Hid (R=false):=ae hd;clear hd;go_wp2_with (first|(refine wpList_store_mid rfl 79 (.tmp 8) (.tmp 21) rfl wr.heap.size 0 #[.int .i64 pk,.string px,.int .i64 pn,pu] rfl rfl lS.out iQ (by simp [Value.oneCell'] at gF ⊢;exact gF) ?_;rw [HW1.out])|(refine wpList_store_mid rfl 79 (.tmp 9) (.tmp 25) rfl V1.heap.size 0 #[.int .i64 qk,.string qx,.int .i64 qn,qu] rfl rfl dW.out iQ (by simp [Value.oneCell'] at gG ⊢;exact gG) ?_;rw [HW2.out]))
     refine Calls.mono (show Calls _ _ _ _ _ from bP.out) ?_;rintro e w3 ⟨rfl,hb3⟩;have aD:=ae (ax aT.out hb3);clear hb3 y0 x0 z0 u0 y1 x1 z1 u1 y2 x2 z2 u2 y3 x3 z3 u3;go_wp2;go_ret;exact ⟨aO HS.out.symm,aD.out⟩
    | true =>
     have HS:Hid (bD g (l.drop (i+1)) (k.drop (i+1))=R):=ae hd.symm;clear hd;go_wp2_with (first|(refine wpList_store_mid rfl 79 (.tmp 8) (.tmp 21) rfl wr.heap.size 0 #[.int .i64 pk,.string px,.int .i64 pn,pu] rfl rfl lS.out iQ (by simp [Value.oneCell'] at gF ⊢;exact gF) ?_;rw [HW1.out])|(refine wpList_store_mid rfl 79 (.tmp 9) (.tmp 25) rfl V1.heap.size 0 #[.int .i64 qk,.string qx,.int .i64 qn,qu] rfl rfl dW.out iQ (by simp [Value.oneCell'] at gG ⊢;exact gG) ?_;rw [HW2.out]))
     refine Calls.mono (show Calls _ _ _ _ _ from bP.out) ?_;rintro e w3 ⟨rfl,hb3⟩;have aD:=ae (ax aT.out hb3);clear hb3 y0 x0 z0 u0 y1 x1 z1 u1 y2 x2 z2 u2 y3 x3 z3 u3;go_wp2;go_roundw
     case rel=>exact ⟨i+1,by first|rfl|(congr 1),hp,HS,aD⟩
     case measure=>simp;omega
   ·have q1:decide ((i:Int)<(l.length:Int))=false:=decide_eq_false (by omega);have HS:Hid (R=true):=ae (by rw [<- HN.out];exact nN (by omega) (by have:=gW.out;omega));clear HN;go_wp2;go_ret;exact ⟨aO HS.out.symm,HB2.out⟩
 ·have HS:Hid (R=false):=ae (by rw [hR,mH hlen]);clear hR h hk hel hes HF;go_enter Tryz.func147,Tryz.ntmps147;go_wp2;go_ret;exact ⟨aO HS.out.symm,Below.refl _ _⟩
theorem Wh (l k:List ByteArray) (vl vk:Value) (w:World) (h:kS 0 vl l w) (hk:kS 0 vk k w) :
  Calls Tryz.prog 101 #[vl,vk] w fun e w'=>e=.returned (.bool (bD (fun a b=>decide (a=b)) l k))/\Below w.heap.size w w':=by
 obtain ⟨oR,cR,rfl,hel⟩:=bz h;obtain ⟨oS,cS,rfl,hes⟩:=bz hk;obtain ⟨R,hR⟩:∃R,R=bD (fun a b=>decide (a=b)) l k:=⟨_,rfl⟩;rw [<- hR];rw [List.length_map,List.length_map];by_cases hlen:l.length=k.length
 ·have st0:Hid (bD (fun a b=>decide (a=b)) (l.drop 0) (k.drop 0)=R):=ae (by rw [hR];rfl);have HL:Hid (l.length<=9223372036854775807):=ae (by have:=h.1;simpa using this);have dB:=ae hel;have jN:=ae hes;have gW:=ae hlen;rw [<- hlen];clear hR h hk hel hes hlen;go_enter Tryz.func101,Tryz.ntmps101;go_wp2_with fail;go_loopw [13] (fun a wr=>∃i:Nat,a=.int .i64 i/\i<=l.length/\Hid (bD (fun a b=>decide (a=b)) (l.drop i) (k.drop i)=R)/\Hid (Below w.heap.size w wr)) (fun a _=>match a with | .int _ i=>l.length-i.toNat|_=>0)
  case atStart=>exact ⟨0,rfl,Nat.zero_le _,st0,ae (Below.refl _ _)⟩
  case round =>
   obtain ⟨i,rfl,hi,HN,HB2⟩:=hrel;clear st0;by_cases hp:i<l.length
   ·obtain ⟨t1,ht1⟩:∃t1,l[i]?=some t1:=⟨_,List.getElem?_eq_getElem hp⟩;obtain ⟨t2,ht2⟩:∃t2,k[i]?=some t2:=⟨_,List.getElem?_eq_getElem (by have:=gW.out;omega)⟩;obtain ⟨b,off,dh,hC⟩:=dB.out i (.string t1) (by rw [List.getElem?_map,ht1];rfl);obtain ⟨b2,bL,kK,hD⟩:=jN.out i (.string t2) (by rw [List.getElem?_map,ht2];rfl);subst dh;subst kK;have y0:=ag HB2.out hC.2;have x0:=ag HB2.out hD.2;rw [Nat.mul_one] at y0 x0;have q1:decide ((i:Int)<(l.length:Int))=true:=decide_eq_true (by omega);have hw1:=fO hp HL.out;have hd:=nL (f:=fun a b=>decide (a=b)) ht1 ht2;rw [HN.out] at hd;have hin:i<k.length:=by have:=gW.out;omega
    have HEq:Hid ((t1.toList != t2.toList) = !decide (t1=t2)):=ae (by
     rw [ByteArray.toList_eq,ByteArray.toList_eq];by_cases he:t1=t2
     ·subst he;simp
     ·rw [decide_eq_false he,Bool.not_false,bne_iff_ne];exact fun e=>he (ByteArray.ext (Array.toList_inj.1 e)))
    clear hC hD ht1 ht2 HN;generalize decide (t1=t2)=Bt at *;go_upto_region 6 with fail;refine ah.rf 9 16 26 [.slice (some ⟨b,off,none⟩) l.length cR,.int .i64 (i:Int),.pointer (some ⟨b,off+i,none⟩),.string t1,.slice (some ⟨b2,bL,none⟩) l.length cS,.int .i64 (i:Int),.pointer (some ⟨b2,bL+i,none⟩),.string t2,.bool (!Bt)] (by kernel_rfl) (by kernel_rfl) (by kernel_rfl) rfl ?hstep ?hend
    case hstep =>
     intro j o a u hj ho hF hB hd;have f0:a.tmps[0]?.getD undef=.slice (some ⟨b,off,none⟩) l.length cR:=ah.ak (hF.eval 0 (fun i hi=>by show 16+i≠0;omega));have f1:a.tmps[1]?.getD undef=.slice (some ⟨b2,bL,none⟩) l.length cS:=ah.ak (hF.eval 1 (fun i hi=>by show 16+i≠1;omega));have f5:a.tmps[5]?.getD undef=.int .i64 (i:Int):=ah.ak (hF.eval 5 (fun i hi=>by show 16+i≠5;omega));have y0:=ag hB y0;have x0:=ag hB x0;have he:(t1.toList == t2.toList)=Bt:=by have:=HEq.out;rw [bne] at this;simpa using this
     iterate 9 (rcases Nat.lt_succ_iff_lt_or_eq.1 hj with hj|rfl)
     exact absurd hj (Nat.not_lt_zero _)
     all_goals (
      simp only [List.getElem?_toArray,List.getElem?_cons_succ,List.getElem?_cons_zero,Option.some.injEq] at ho;subst ho;refine ah.Does.go rfl (ah.bh fun K hK=>?_);simp [ah.deps,Region.binds] at hd;go_simp
      first|exact hK _ _ ⟨_,rfl,Below.refl _ _,rfl⟩|exact hK _ _ ⟨_,rfl,Below.refl _ _,by simp [ah.oO,he]⟩)
    case hend =>
     intro a u hF hB hG;have aD:=ae (ax HB2.out hB);obtain ⟨xl,hxl,rfl,hev⟩:=hF.lit (by simp)
     obtain ⟨g0,g1,g2,g3,g4,g5,g6,g7,g8,rfl⟩:∃g0 g1 g2 g3 g4 g5 g6 g7 g8,xl = [g0,g1,g2,g3,g4,g5,g6,g7,g8]:=by
      match xl,hxl with
      | [g0,g1,g2,g3,g4,g5,g6,g7,g8],_=>exact ⟨g0,g1,g2,g3,g4,g5,g6,g7,g8,rfl⟩
     obtain rfl:g8=.bool (!Bt):=(hev 8 (by decide)).symm.trans (hG 8 (by decide));clear hev hxl hF hG hB y0 x0 HEq;simp only [List.take_succ_cons,List.take_zero,List.drop_succ_cons,List.drop_zero,List.cons_append,List.nil_append];cases Bt with
     | false =>
      have HS:Hid (R=false):=ae hd;clear hd;go_wp2;go_ret;exact ⟨aO HS.out.symm,aD.out⟩
     | true =>
      have HS:Hid (bD (fun a b=>decide (a=b)) (l.drop (i+1)) (k.drop (i+1))=R):=ae hd.symm;clear hd;go_wp2;go_roundw
      case rel=>exact ⟨i+1,by first|rfl|(congr 1),hp,HS,aD⟩
      case measure=>simp;omega
   ·have q1:decide ((i:Int)<(l.length:Int))=false:=decide_eq_false (by omega);have HS:Hid (R=true):=ae (by rw [<- HN.out];exact nN (by omega) (by have:=gW.out;omega));clear HN;go_wp2;go_ret;exact ⟨aO HS.out.symm,HB2.out⟩
 ·have HS:Hid (R=false):=ae (by rw [hR,mH hlen]);clear hR h hk hel hes;go_enter Tryz.func101,Tryz.ntmps101;go_wp2;go_ret;exact ⟨aO HS.out.symm,Below.refl _ _⟩
end Go.Proofs.YtkdbgopgjbfhbaaGreatDoor
