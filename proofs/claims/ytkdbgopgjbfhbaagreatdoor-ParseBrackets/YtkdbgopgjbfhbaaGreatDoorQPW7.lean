/- Texts that the claim needs. -/
import Derived.Test.YtkdbgopgjbfhbaaGreatDoorQPW6
namespace Go.Proofs.YtkdbgopgjbfhbaaGreatDoor
open Go.RowKit Lx Pz bq
set_option linter.unusedVariables false
set_option maxRecDepth 100000
set_option maxHeartbeats 16000000
def Pz.mW (t:Tk):Bool:=bg 1 e0 t || bg 6 dP t || bg 4 e0 t || bg 2 e0 t || bg 6 sL t
theorem abT (w0:World) (p:Nat) (L:List Tk) (vL:Value) (en:Int) (i:Nat) (g:Nat) (w:World) (h:PR w0 p L vL en i w) (hg:w.heap[g]?=some (.cells oM 207 (0,0))) :
  Calls Tryz.prog 230 #[.pointer (some ⟨p,0,none⟩),.slice (some ⟨g,0,none⟩) 5 5] w fun e w'=>e=.returned (.bool (mW (tk L en i)))/\Below w.heap.size w w':=by
 have HP:=ae h;have HG:=ae hg;have hgl:g<w.heap.size:=(Array.getElem?_eq_some_iff.1 hg).1;have dI:=ae hgl;obtain ⟨az,aW⟩:∃X,X=mW (tk L en i):=⟨_,rfl⟩;rw [<- aW];have bT:=ae aW;clear h hg aW hgl;go_enter Tryz.func230,Tryz.ntmps230;go_wp2_with fail;go_loopw [9] (fun x wr=>∃k:Nat,k<=5/\x=.int .i64 k/\Hid (∀j,j<k->([(1,e0),(6,dP),(4,e0),(2,e0),(6,sL)]:List (Int × ByteArray))[j]?.map (fun r=>bg r.1 r.2 (tk L en i))=some false)/\Hid (Below w.heap.size w wr)) (fun x _=>match x with | .int _ k=>5-k.toNat|_=>0)
 case atStart=>exact ⟨0,Nat.zero_le _,rfl,ae (fun j hj=>absurd hj (Nat.not_lt_zero _)),ae (Below.refl _ _)⟩
 case round =>
  obtain ⟨k,hk,rfl,HN,HB⟩:=hrel
  have hcs:∀(o:Nat) (v:Value),oM[o]?=some v->wr.cell? ⟨g,o,none⟩=some v:=fun o v ho=>by
   unfold World.cell?;rw [HB.out.block g dI.out,HG.out];exact ho
  have hcase:k=0\/k=1\/k=2\/k=3\/k=4\/k=5:=by omega
  clear hk;rcases hcase with rfl|rfl|rfl|rfl|rfl|rfl
  ·have y0:=hcs 0 _ rfl;have y1:=hcs 1 _ rfl;have y2:=hcs 2 _ rfl;have bJ:g<wr.heap.size:=Nat.lt_of_lt_of_le dI.out HB.out.size;obtain ⟨u3,hu3,hb3,r0,r1,r2⟩:=gy wr 207 (.int .i64 1) (.string e0) (.func (.func 231) #[] #[]);have bb:=ae (aB HB.out hb3);have HR:Hid (∀u,Below u3.heap.size u3 u->u.cell? ⟨wr.heap.size,0,none⟩=some (.int .i64 1)/\u.cell? ⟨wr.heap.size,1,none⟩=some (.string e0)/\u.cell? ⟨wr.heap.size,2,none⟩=some (.func (.func 231) #[] #[])):=ae fun u hb=>⟨ai hb r0,ai hb r1,ai hb r2⟩;go_upto_region 4 with fail
   try rw [<- hu3]
   generalize wr.heap.size=q2 at *;clear hu3 hb3 hcs y0 y1 y2 bJ r0 r1 r2;refine aj.qh 3 (fun j=>13+j) (fun j v _=>v = [.agg #[.int .i64 1,.string e0,.func (.func 231) #[] #[]],.pointer (some ⟨p,0,none⟩),dO (tk L en i)].getD j undef) (by kernel_rfl) (by kernel_rfl) (fun a b h1 h2 h=>by have h':13+a=13+b:=h;omega) (aj.qi (size:=18) (by kernel_rfl)) (fun a v w w' _ h _=>h) ?hs0 ?ht0
   case hs0 =>
    intro j o a w2 hj ho hF hb2 hd;obtain ⟨r0,r1,r2⟩:=HR.out w2 hb2;have HQ:=ae (jc w0 p L vL en i w2 (HP.out.on (aB bb.out hb2)));have f0:a.tmps[0]?.getD undef=.pointer (some ⟨p,0,none⟩):=aj.ay (hF.eval 0 (fun i hi=>by show 13+i≠0;omega));have f6:a.tmps[6]?.getD undef=.pointer (some ⟨q2,0,none⟩):=aj.ay (hF.eval 6 (fun i hi=>by show 13+i≠6;omega));have hc:j=0\/j=1\/j=2:=by omega
    clear hj;rcases hc with rfl|rfl|rfl
    all_goals (simp only [List.getElem?_toArray,List.getElem?_cons_succ,List.getElem?_cons_zero,Option.some.injEq] at ho;subst ho;refine aj.bB fun KK ax=>?_)
    ·go_simp;exact ax _ _ ⟨_,rfl,Below.refl _ _,rfl⟩
    ·go_simp;exact ax _ _ ⟨_,rfl,Below.refl _ _,rfl⟩
    ·have g0:a.tmps[14]?.getD undef=.pointer (some ⟨p,0,none⟩):=aj.ay (hd 1 (by decide));have HK:=ae ax;clear ax;go_simp;refine HQ.out.mono ?_;rintro e w3 ⟨rfl,hb3⟩;exact HK.out _ _ ⟨_,rfl,hb3,rfl⟩
   case ht0 =>
    intro a w2 hF hb2 hG;have g0:a.eval (.tmp 13)=.agg #[.int .i64 1,.string e0,.func (.func 231) #[] #[]]:=hG 0 (by decide);have g2:a.eval (.tmp 15)=dO (tk L en i):=hG 2 (by decide);obtain ⟨xs,hxl,rfl,hev⟩:=hF.lit (by simp);rw [hev 0 (by decide)] at g0;rw [hev 2 (by decide)] at g2;obtain ⟨x0,x1,x2,rfl⟩:∃x0 x1 x2,xs = [x0,x1,x2]:=by match xs,hxl with|[x0,x1,x2],_=>exact ⟨x0,x1,x2,rfl⟩
    have g0:x0=_:=g0;have g2:x2=_:=g2;subst g0;subst g2;have HQ:=ae (qW 1 e0 (.func (.func 231) #[] #[]) (tk L en i) w2);have fF:=ae (aB bb.out hb2);clear hF hb2 hG hev hxl HR;simp only [List.take_succ_cons,List.take_zero,List.drop_succ_cons,List.drop_zero,List.cons_append,List.nil_append];go_wp2_with fail;refine HQ.out.mono ?_;rintro e u5 ⟨rfl,hb5⟩;have gh:=ae (aB fF.out hb5);clear hb5 HQ;cases hbg:bg 1 e0 (tk L en i) with
    | false =>
     have cG:Hid (∀j,j<1->([(1,e0),(6,dP),(4,e0),(2,e0),(6,sL)]:List (Int × ByteArray))[j]?.map (fun r=>bg r.1 r.2 (tk L en i))=some false):=ae fun j hj=>by
      rcases Nat.lt_succ_iff_lt_or_eq.1 hj with hj|rfl
      ·exact HN.out j hj
      ·simp [hbg]
     clear hbg HN;go_wp2;go_roundw
     case rel=>exact ⟨1,by decide,by first|rfl|simp,cG,gh⟩
     case measure=>simp
    | true =>
     have hE:az=true:=by rw [bT.out,mW];simp [hbg]
     have HE:=ae hE;clear hbg hE HN;go_wp2;go_ret;exact ⟨bf HE.out.symm,gh.out⟩
  ·have y0:=hcs 3 _ rfl;have y1:=hcs 4 _ rfl;have y2:=hcs 5 _ rfl;have bJ:g<wr.heap.size:=Nat.lt_of_lt_of_le dI.out HB.out.size;obtain ⟨u3,hu3,hb3,r0,r1,r2⟩:=gy wr 207 (.int .i64 6) (.string dP) (.func (.func 232) #[] #[]);have bb:=ae (aB HB.out hb3);have HR:Hid (∀u,Below u3.heap.size u3 u->u.cell? ⟨wr.heap.size,0,none⟩=some (.int .i64 6)/\u.cell? ⟨wr.heap.size,1,none⟩=some (.string dP)/\u.cell? ⟨wr.heap.size,2,none⟩=some (.func (.func 232) #[] #[])):=ae fun u hb=>⟨ai hb r0,ai hb r1,ai hb r2⟩;go_upto_region 4 with fail
   try rw [<- hu3]
   generalize wr.heap.size=q2 at *;clear hu3 hb3 hcs y0 y1 y2 bJ r0 r1 r2;refine aj.qh 3 (fun j=>13+j) (fun j v _=>v = [.agg #[.int .i64 6,.string dP,.func (.func 232) #[] #[]],.pointer (some ⟨p,0,none⟩),dO (tk L en i)].getD j undef) (by kernel_rfl) (by kernel_rfl) (fun a b h1 h2 h=>by have h':13+a=13+b:=h;omega) (aj.qi (size:=18) (by kernel_rfl)) (fun a v w w' _ h _=>h) ?hs1 ?ht1
   case hs1 =>
    intro j o a w2 hj ho hF hb2 hd;obtain ⟨r0,r1,r2⟩:=HR.out w2 hb2;have HQ:=ae (jc w0 p L vL en i w2 (HP.out.on (aB bb.out hb2)));have f0:a.tmps[0]?.getD undef=.pointer (some ⟨p,0,none⟩):=aj.ay (hF.eval 0 (fun i hi=>by show 13+i≠0;omega));have f6:a.tmps[6]?.getD undef=.pointer (some ⟨q2,0,none⟩):=aj.ay (hF.eval 6 (fun i hi=>by show 13+i≠6;omega));have hc:j=0\/j=1\/j=2:=by omega
    clear hj;rcases hc with rfl|rfl|rfl
    all_goals (simp only [List.getElem?_toArray,List.getElem?_cons_succ,List.getElem?_cons_zero,Option.some.injEq] at ho;subst ho;refine aj.bB fun KK ax=>?_)
    ·go_simp;exact ax _ _ ⟨_,rfl,Below.refl _ _,rfl⟩
    ·go_simp;exact ax _ _ ⟨_,rfl,Below.refl _ _,rfl⟩
    ·have g0:a.tmps[14]?.getD undef=.pointer (some ⟨p,0,none⟩):=aj.ay (hd 1 (by decide));have HK:=ae ax;clear ax;go_simp;refine HQ.out.mono ?_;rintro e w3 ⟨rfl,hb3⟩;exact HK.out _ _ ⟨_,rfl,hb3,rfl⟩
   case ht1 =>
    intro a w2 hF hb2 hG;have g0:a.eval (.tmp 13)=.agg #[.int .i64 6,.string dP,.func (.func 232) #[] #[]]:=hG 0 (by decide);have g2:a.eval (.tmp 15)=dO (tk L en i):=hG 2 (by decide);obtain ⟨xs,hxl,rfl,hev⟩:=hF.lit (by simp);rw [hev 0 (by decide)] at g0;rw [hev 2 (by decide)] at g2;obtain ⟨x0,x1,x2,rfl⟩:∃x0 x1 x2,xs = [x0,x1,x2]:=by match xs,hxl with|[x0,x1,x2],_=>exact ⟨x0,x1,x2,rfl⟩
    have g0:x0=_:=g0;have g2:x2=_:=g2;subst g0;subst g2;have HQ:=ae (qW 6 dP (.func (.func 232) #[] #[]) (tk L en i) w2);have fF:=ae (aB bb.out hb2);clear hF hb2 hG hev hxl HR;simp only [List.take_succ_cons,List.take_zero,List.drop_succ_cons,List.drop_zero,List.cons_append,List.nil_append];go_wp2_with fail;refine HQ.out.mono ?_;rintro e u5 ⟨rfl,hb5⟩;have gh:=ae (aB fF.out hb5);clear hb5 HQ;have b0:bg 1 e0 (tk L en i)=false:=by have:=HN.out 0 (by decide);simpa using this
    cases hbg:bg 6 dP (tk L en i) with
    | false =>
     have cG:Hid (∀j,j<2->([(1,e0),(6,dP),(4,e0),(2,e0),(6,sL)]:List (Int × ByteArray))[j]?.map (fun r=>bg r.1 r.2 (tk L en i))=some false):=ae fun j hj=>by
      rcases Nat.lt_succ_iff_lt_or_eq.1 hj with hj|rfl
      ·exact HN.out j hj
      ·simp [hbg]
     clear hbg HN b0;go_wp2;go_roundw
     case rel=>exact ⟨2,by decide,by first|rfl|simp,cG,gh⟩
     case measure=>simp
    | true =>
     have hE:az=true:=by rw [bT.out,mW];simp [hbg]
     have HE:=ae hE;clear hbg hE HN b0;go_wp2;go_ret;exact ⟨bf HE.out.symm,gh.out⟩
  ·have y0:=hcs 6 _ rfl;have y1:=hcs 7 _ rfl;have y2:=hcs 8 _ rfl;have bJ:g<wr.heap.size:=Nat.lt_of_lt_of_le dI.out HB.out.size;obtain ⟨u3,hu3,hb3,r0,r1,r2⟩:=gy wr 207 (.int .i64 4) (.string e0) (.func (.func 233) #[] #[]);have bb:=ae (aB HB.out hb3);have HR:Hid (∀u,Below u3.heap.size u3 u->u.cell? ⟨wr.heap.size,0,none⟩=some (.int .i64 4)/\u.cell? ⟨wr.heap.size,1,none⟩=some (.string e0)/\u.cell? ⟨wr.heap.size,2,none⟩=some (.func (.func 233) #[] #[])):=ae fun u hb=>⟨ai hb r0,ai hb r1,ai hb r2⟩;go_upto_region 4 with fail
   try rw [<- hu3]
   generalize wr.heap.size=q2 at *;clear hu3 hb3 hcs y0 y1 y2 bJ r0 r1 r2;refine aj.qh 3 (fun j=>13+j) (fun j v _=>v = [.agg #[.int .i64 4,.string e0,.func (.func 233) #[] #[]],.pointer (some ⟨p,0,none⟩),dO (tk L en i)].getD j undef) (by kernel_rfl) (by kernel_rfl) (fun a b h1 h2 h=>by have h':13+a=13+b:=h;omega) (aj.qi (size:=18) (by kernel_rfl)) (fun a v w w' _ h _=>h) ?hs2 ?ht2
   case hs2 =>
    intro j o a w2 hj ho hF hb2 hd;obtain ⟨r0,r1,r2⟩:=HR.out w2 hb2;have HQ:=ae (jc w0 p L vL en i w2 (HP.out.on (aB bb.out hb2)));have f0:a.tmps[0]?.getD undef=.pointer (some ⟨p,0,none⟩):=aj.ay (hF.eval 0 (fun i hi=>by show 13+i≠0;omega));have f6:a.tmps[6]?.getD undef=.pointer (some ⟨q2,0,none⟩):=aj.ay (hF.eval 6 (fun i hi=>by show 13+i≠6;omega));have hc:j=0\/j=1\/j=2:=by omega
    clear hj;rcases hc with rfl|rfl|rfl
    all_goals (simp only [List.getElem?_toArray,List.getElem?_cons_succ,List.getElem?_cons_zero,Option.some.injEq] at ho;subst ho;refine aj.bB fun KK ax=>?_)
    ·go_simp;exact ax _ _ ⟨_,rfl,Below.refl _ _,rfl⟩
    ·go_simp;exact ax _ _ ⟨_,rfl,Below.refl _ _,rfl⟩
    ·have g0:a.tmps[14]?.getD undef=.pointer (some ⟨p,0,none⟩):=aj.ay (hd 1 (by decide));have HK:=ae ax;clear ax;go_simp;refine HQ.out.mono ?_;rintro e w3 ⟨rfl,hb3⟩;exact HK.out _ _ ⟨_,rfl,hb3,rfl⟩
   case ht2 =>
    intro a w2 hF hb2 hG;have g0:a.eval (.tmp 13)=.agg #[.int .i64 4,.string e0,.func (.func 233) #[] #[]]:=hG 0 (by decide);have g2:a.eval (.tmp 15)=dO (tk L en i):=hG 2 (by decide);obtain ⟨xs,hxl,rfl,hev⟩:=hF.lit (by simp);rw [hev 0 (by decide)] at g0;rw [hev 2 (by decide)] at g2;obtain ⟨x0,x1,x2,rfl⟩:∃x0 x1 x2,xs = [x0,x1,x2]:=by match xs,hxl with|[x0,x1,x2],_=>exact ⟨x0,x1,x2,rfl⟩
    have g0:x0=_:=g0;have g2:x2=_:=g2;subst g0;subst g2;have HQ:=ae (qW 4 e0 (.func (.func 233) #[] #[]) (tk L en i) w2);have fF:=ae (aB bb.out hb2);clear hF hb2 hG hev hxl HR;simp only [List.take_succ_cons,List.take_zero,List.drop_succ_cons,List.drop_zero,List.cons_append,List.nil_append];go_wp2_with fail;refine HQ.out.mono ?_;rintro e u5 ⟨rfl,hb5⟩;have gh:=ae (aB fF.out hb5);clear hb5 HQ;have b0:bg 1 e0 (tk L en i)=false:=by have:=HN.out 0 (by decide);simpa using this
    have b1:bg 6 dP (tk L en i)=false:=by have:=HN.out 1 (by decide);simpa using this
    cases hbg:bg 4 e0 (tk L en i) with
    | false =>
     have cG:Hid (∀j,j<3->([(1,e0),(6,dP),(4,e0),(2,e0),(6,sL)]:List (Int × ByteArray))[j]?.map (fun r=>bg r.1 r.2 (tk L en i))=some false):=ae fun j hj=>by
      rcases Nat.lt_succ_iff_lt_or_eq.1 hj with hj|rfl
      ·exact HN.out j hj
      ·simp [hbg]
     clear hbg HN b0 b1;go_wp2;go_roundw
     case rel=>exact ⟨3,by decide,by first|rfl|simp,cG,gh⟩
     case measure=>simp
    | true =>
     have hE:az=true:=by rw [bT.out,mW];simp [hbg]
     have HE:=ae hE;clear hbg hE HN b0 b1;go_wp2;go_ret;exact ⟨bf HE.out.symm,gh.out⟩
  ·have y0:=hcs 9 _ rfl;have y1:=hcs 10 _ rfl;have y2:=hcs 11 _ rfl;have bJ:g<wr.heap.size:=Nat.lt_of_lt_of_le dI.out HB.out.size;obtain ⟨u3,hu3,hb3,r0,r1,r2⟩:=gy wr 207 (.int .i64 2) (.string e0) (.func (.func 219) #[] #[]);have bb:=ae (aB HB.out hb3);have HR:Hid (∀u,Below u3.heap.size u3 u->u.cell? ⟨wr.heap.size,0,none⟩=some (.int .i64 2)/\u.cell? ⟨wr.heap.size,1,none⟩=some (.string e0)/\u.cell? ⟨wr.heap.size,2,none⟩=some (.func (.func 219) #[] #[])):=ae fun u hb=>⟨ai hb r0,ai hb r1,ai hb r2⟩;go_upto_region 4 with fail
   try rw [<- hu3]
   generalize wr.heap.size=q2 at *;clear hu3 hb3 hcs y0 y1 y2 bJ r0 r1 r2;refine aj.qh 3 (fun j=>13+j) (fun j v _=>v = [.agg #[.int .i64 2,.string e0,.func (.func 219) #[] #[]],.pointer (some ⟨p,0,none⟩),dO (tk L en i)].getD j undef) (by kernel_rfl) (by kernel_rfl) (fun a b h1 h2 h=>by have h':13+a=13+b:=h;omega) (aj.qi (size:=18) (by kernel_rfl)) (fun a v w w' _ h _=>h) ?zy ?Lu
   case zy =>
    intro j o a w2 hj ho hF hb2 hd;obtain ⟨r0,r1,r2⟩:=HR.out w2 hb2;have HQ:=ae (jc w0 p L vL en i w2 (HP.out.on (aB bb.out hb2)));have f0:a.tmps[0]?.getD undef=.pointer (some ⟨p,0,none⟩):=aj.ay (hF.eval 0 (fun i hi=>by show 13+i≠0;omega));have f6:a.tmps[6]?.getD undef=.pointer (some ⟨q2,0,none⟩):=aj.ay (hF.eval 6 (fun i hi=>by show 13+i≠6;omega));have hc:j=0\/j=1\/j=2:=by omega
    clear hj;rcases hc with rfl|rfl|rfl
    all_goals (simp only [List.getElem?_toArray,List.getElem?_cons_succ,List.getElem?_cons_zero,Option.some.injEq] at ho;subst ho;refine aj.bB fun KK ax=>?_)
    ·go_simp;exact ax _ _ ⟨_,rfl,Below.refl _ _,rfl⟩
    ·go_simp;exact ax _ _ ⟨_,rfl,Below.refl _ _,rfl⟩
    ·have g0:a.tmps[14]?.getD undef=.pointer (some ⟨p,0,none⟩):=aj.ay (hd 1 (by decide));have HK:=ae ax;clear ax;go_simp;refine HQ.out.mono ?_;rintro e w3 ⟨rfl,hb3⟩;exact HK.out _ _ ⟨_,rfl,hb3,rfl⟩
   case Lu =>
    intro a w2 hF hb2 hG;have g0:a.eval (.tmp 13)=.agg #[.int .i64 2,.string e0,.func (.func 219) #[] #[]]:=hG 0 (by decide);have g2:a.eval (.tmp 15)=dO (tk L en i):=hG 2 (by decide);obtain ⟨xs,hxl,rfl,hev⟩:=hF.lit (by simp);rw [hev 0 (by decide)] at g0;rw [hev 2 (by decide)] at g2;obtain ⟨x0,x1,x2,rfl⟩:∃x0 x1 x2,xs = [x0,x1,x2]:=by match xs,hxl with|[x0,x1,x2],_=>exact ⟨x0,x1,x2,rfl⟩
    have g0:x0=_:=g0;have g2:x2=_:=g2;subst g0;subst g2;have HQ:=ae (qW 2 e0 (.func (.func 219) #[] #[]) (tk L en i) w2);have fF:=ae (aB bb.out hb2);clear hF hb2 hG hev hxl HR;simp only [List.take_succ_cons,List.take_zero,List.drop_succ_cons,List.drop_zero,List.cons_append,List.nil_append];go_wp2_with fail;refine HQ.out.mono ?_;rintro e u5 ⟨rfl,hb5⟩;have gh:=ae (aB fF.out hb5);clear hb5 HQ;have b0:bg 1 e0 (tk L en i)=false:=by have:=HN.out 0 (by decide);simpa using this
    have b1:bg 6 dP (tk L en i)=false:=by have:=HN.out 1 (by decide);simpa using this
    have b2:bg 4 e0 (tk L en i)=false:=by have:=HN.out 2 (by decide);simpa using this
    cases hbg:bg 2 e0 (tk L en i) with
    | false =>
     have cG:Hid (∀j,j<4->([(1,e0),(6,dP),(4,e0),(2,e0),(6,sL)]:List (Int × ByteArray))[j]?.map (fun r=>bg r.1 r.2 (tk L en i))=some false):=ae fun j hj=>by
      rcases Nat.lt_succ_iff_lt_or_eq.1 hj with hj|rfl
      ·exact HN.out j hj
      ·simp [hbg]
     clear hbg HN b0 b1 b2;go_wp2;go_roundw
     case rel=>exact ⟨4,by decide,by first|rfl|simp,cG,gh⟩
     case measure=>simp
    | true =>
     have hE:az=true:=by rw [bT.out,mW];simp [hbg]
     have HE:=ae hE;clear hbg hE HN b0 b1 b2;go_wp2;go_ret;exact ⟨bf HE.out.symm,gh.out⟩
  ·have y0:=hcs 12 _ rfl;have y1:=hcs 13 _ rfl;have y2:=hcs 14 _ rfl;have bJ:g<wr.heap.size:=Nat.lt_of_lt_of_le dI.out HB.out.size;obtain ⟨u3,hu3,hb3,r0,r1,r2⟩:=gy wr 207 (.int .i64 6) (.string sL) (.func (.func 234) #[] #[]);have bb:=ae (aB HB.out hb3);have HR:Hid (∀u,Below u3.heap.size u3 u->u.cell? ⟨wr.heap.size,0,none⟩=some (.int .i64 6)/\u.cell? ⟨wr.heap.size,1,none⟩=some (.string sL)/\u.cell? ⟨wr.heap.size,2,none⟩=some (.func (.func 234) #[] #[])):=ae fun u hb=>⟨ai hb r0,ai hb r1,ai hb r2⟩;go_upto_region 4 with fail
   try rw [<- hu3]
   generalize wr.heap.size=q2 at *;clear hu3 hb3 hcs y0 y1 y2 bJ r0 r1 r2;refine aj.qh 3 (fun j=>13+j) (fun j v _=>v = [.agg #[.int .i64 6,.string sL,.func (.func 234) #[] #[]],.pointer (some ⟨p,0,none⟩),dO (tk L en i)].getD j undef) (by kernel_rfl) (by kernel_rfl) (fun a b h1 h2 h=>by have h':13+a=13+b:=h;omega) (aj.qi (size:=18) (by kernel_rfl)) (fun a v w w' _ h _=>h) ?hs4 ?ht4
   case hs4 =>
    intro j o a w2 hj ho hF hb2 hd;obtain ⟨r0,r1,r2⟩:=HR.out w2 hb2;have HQ:=ae (jc w0 p L vL en i w2 (HP.out.on (aB bb.out hb2)));have f0:a.tmps[0]?.getD undef=.pointer (some ⟨p,0,none⟩):=aj.ay (hF.eval 0 (fun i hi=>by show 13+i≠0;omega));have f6:a.tmps[6]?.getD undef=.pointer (some ⟨q2,0,none⟩):=aj.ay (hF.eval 6 (fun i hi=>by show 13+i≠6;omega));have hc:j=0\/j=1\/j=2:=by omega
    clear hj;rcases hc with rfl|rfl|rfl
    all_goals (simp only [List.getElem?_toArray,List.getElem?_cons_succ,List.getElem?_cons_zero,Option.some.injEq] at ho;subst ho;refine aj.bB fun KK ax=>?_)
    ·go_simp;exact ax _ _ ⟨_,rfl,Below.refl _ _,rfl⟩
    ·go_simp;exact ax _ _ ⟨_,rfl,Below.refl _ _,rfl⟩
    ·have g0:a.tmps[14]?.getD undef=.pointer (some ⟨p,0,none⟩):=aj.ay (hd 1 (by decide));have HK:=ae ax;clear ax;go_simp;refine HQ.out.mono ?_;rintro e w3 ⟨rfl,hb3⟩;exact HK.out _ _ ⟨_,rfl,hb3,rfl⟩
   case ht4 =>
    intro a w2 hF hb2 hG;have g0:a.eval (.tmp 13)=.agg #[.int .i64 6,.string sL,.func (.func 234) #[] #[]]:=hG 0 (by decide);have g2:a.eval (.tmp 15)=dO (tk L en i):=hG 2 (by decide);obtain ⟨xs,hxl,rfl,hev⟩:=hF.lit (by simp);rw [hev 0 (by decide)] at g0;rw [hev 2 (by decide)] at g2;obtain ⟨x0,x1,x2,rfl⟩:∃x0 x1 x2,xs = [x0,x1,x2]:=by match xs,hxl with|[x0,x1,x2],_=>exact ⟨x0,x1,x2,rfl⟩
    have g0:x0=_:=g0;have g2:x2=_:=g2;subst g0;subst g2;have HQ:=ae (qW 6 sL (.func (.func 234) #[] #[]) (tk L en i) w2);have fF:=ae (aB bb.out hb2);clear hF hb2 hG hev hxl HR;simp only [List.take_succ_cons,List.take_zero,List.drop_succ_cons,List.drop_zero,List.cons_append,List.nil_append];go_wp2_with fail;refine HQ.out.mono ?_;rintro e u5 ⟨rfl,hb5⟩;have gh:=ae (aB fF.out hb5);clear hb5 HQ;have b0:bg 1 e0 (tk L en i)=false:=by have:=HN.out 0 (by decide);simpa using this
    have b1:bg 6 dP (tk L en i)=false:=by have:=HN.out 1 (by decide);simpa using this
    have b2:bg 4 e0 (tk L en i)=false:=by have:=HN.out 2 (by decide);simpa using this
    have b3:bg 2 e0 (tk L en i)=false:=by have:=HN.out 3 (by decide);simpa using this
    cases hbg:bg 6 sL (tk L en i) with
    | false =>
     have cG:Hid (∀j,j<5->([(1,e0),(6,dP),(4,e0),(2,e0),(6,sL)]:List (Int × ByteArray))[j]?.map (fun r=>bg r.1 r.2 (tk L en i))=some false):=ae fun j hj=>by
      rcases Nat.lt_succ_iff_lt_or_eq.1 hj with hj|rfl
      ·exact HN.out j hj
      ·simp [hbg]
     clear hbg HN b0 b1 b2 b3;go_wp2;go_roundw
     case rel=>exact ⟨5,by decide,by first|rfl|simp,cG,gh⟩
     case measure=>simp
    | true =>
     have hE:az=true:=by rw [bT.out,mW];simp [hbg]
     have HE:=ae hE;clear hbg hE HN b0 b1 b2 b3;go_wp2;go_ret;exact ⟨bf HE.out.symm,gh.out⟩
  ·skip
   have b0:bg 1 e0 (tk L en i)=false:=by have:=HN.out 0 (by decide);simpa using this
   have b1:bg 6 dP (tk L en i)=false:=by have:=HN.out 1 (by decide);simpa using this
   have b2:bg 4 e0 (tk L en i)=false:=by have:=HN.out 2 (by decide);simpa using this
   have b3:bg 2 e0 (tk L en i)=false:=by have:=HN.out 3 (by decide);simpa using this
   have b4:bg 6 sL (tk L en i)=false:=by have:=HN.out 4 (by decide);simpa using this
   have hE:az=false:=by rw [bT.out,mW,b0,b1,b2,b3,b4];rfl
   have HE:=ae hE;clear hcs HN hE b0 b1 b2 b3 b4;go_wp2;go_ret;exact ⟨bf HE.out.symm,HB.out⟩
def Pz.pG (t:Tk):Bool:=bg 1 e0 t || bg 3 e0 t || bg 6 sL t
theorem abV (w0:World) (p:Nat) (L:List Tk) (vL:Value) (en:Int) (i:Nat) (g:Nat) (w:World) (h:PR w0 p L vL en i w) (hg:w.heap[g]?=some (.cells lY 187 (0,0))) :
  Calls Tryz.prog 174 #[.pointer (some ⟨p,0,none⟩),.slice (some ⟨g,0,none⟩) 3 3] w fun e w'=>e=.returned (.bool (pG (tk L en i)))/\Below w.heap.size w w':=by
 have HP:=ae h;have HG:=ae hg;have hgl:g<w.heap.size:=(Array.getElem?_eq_some_iff.1 hg).1;have dI:=ae hgl;obtain ⟨az,aW⟩:∃X,X=pG (tk L en i):=⟨_,rfl⟩;rw [<- aW];have bT:=ae aW;clear h hg aW hgl;go_enter Tryz.func174,Tryz.ntmps174;go_wp2_with fail;go_loopw [9] (fun x wr=>∃k:Nat,k<=3/\x=.int .i64 k/\Hid (∀j,j<k->([(1,e0),(3,e0),(6,sL)]:List (Int × ByteArray))[j]?.map (fun r=>bg r.1 r.2 (tk L en i))=some false)/\Hid (Below w.heap.size w wr)) (fun x _=>match x with | .int _ k=>3-k.toNat|_=>0)
 case atStart=>exact ⟨0,Nat.zero_le _,rfl,ae (fun j hj=>absurd hj (Nat.not_lt_zero _)),ae (Below.refl _ _)⟩
 case round =>
  obtain ⟨k,hk,rfl,HN,HB⟩:=hrel
  have hcs:∀(o:Nat) (v:Value),lY[o]?=some v->wr.cell? ⟨g,o,none⟩=some v:=fun o v ho=>by
   unfold World.cell?;rw [HB.out.block g dI.out,HG.out];exact ho
  have hcase:k=0\/k=1\/k=2\/k=3:=by omega
  clear hk;rcases hcase with rfl|rfl|rfl|rfl
  ·have y0:=hcs 0 _ rfl;have y1:=hcs 1 _ rfl;have y2:=hcs 2 _ rfl;have bJ:g<wr.heap.size:=Nat.lt_of_lt_of_le dI.out HB.out.size;obtain ⟨u3,hu3,hb3,r0,r1,r2⟩:=gy wr 187 (.int .i64 1) (.string e0) (.func (.func 176) #[] #[]);have bb:=ae (aB HB.out hb3);have HR:Hid (∀u,Below u3.heap.size u3 u->u.cell? ⟨wr.heap.size,0,none⟩=some (.int .i64 1)/\u.cell? ⟨wr.heap.size,1,none⟩=some (.string e0)/\u.cell? ⟨wr.heap.size,2,none⟩=some (.func (.func 176) #[] #[])):=ae fun u hb=>⟨ai hb r0,ai hb r1,ai hb r2⟩;go_upto_region 4 with fail
   try rw [<- hu3]
   generalize wr.heap.size=q2 at *;clear hu3 hb3 hcs y0 y1 y2 bJ r0 r1 r2;refine aj.qh 3 (fun j=>13+j) (fun j v _=>v = [.agg #[.int .i64 1,.string e0,.func (.func 176) #[] #[]],.pointer (some ⟨p,0,none⟩),dO (tk L en i)].getD j undef) (by kernel_rfl) (by kernel_rfl) (fun a b h1 h2 h=>by have h':13+a=13+b:=h;omega) (aj.qi (size:=18) (by kernel_rfl)) (fun a v w w' _ h _=>h) ?hs0 ?ht0
   case hs0 =>
    intro j o a w2 hj ho hF hb2 hd;obtain ⟨r0,r1,r2⟩:=HR.out w2 hb2;have HQ:=ae (jc w0 p L vL en i w2 (HP.out.on (aB bb.out hb2)));have f0:a.tmps[0]?.getD undef=.pointer (some ⟨p,0,none⟩):=aj.ay (hF.eval 0 (fun i hi=>by show 13+i≠0;omega));have f6:a.tmps[6]?.getD undef=.pointer (some ⟨q2,0,none⟩):=aj.ay (hF.eval 6 (fun i hi=>by show 13+i≠6;omega));have hc:j=0\/j=1\/j=2:=by omega
    clear hj;rcases hc with rfl|rfl|rfl
    all_goals (simp only [List.getElem?_toArray,List.getElem?_cons_succ,List.getElem?_cons_zero,Option.some.injEq] at ho;subst ho;refine aj.bB fun KK ax=>?_)
    ·go_simp;exact ax _ _ ⟨_,rfl,Below.refl _ _,rfl⟩
    ·go_simp;exact ax _ _ ⟨_,rfl,Below.refl _ _,rfl⟩
    ·have g0:a.tmps[14]?.getD undef=.pointer (some ⟨p,0,none⟩):=aj.ay (hd 1 (by decide));have HK:=ae ax;clear ax;go_simp;refine HQ.out.mono ?_;rintro e w3 ⟨rfl,hb3⟩;exact HK.out _ _ ⟨_,rfl,hb3,rfl⟩
   case ht0 =>
    intro a w2 hF hb2 hG;have g0:a.eval (.tmp 13)=.agg #[.int .i64 1,.string e0,.func (.func 176) #[] #[]]:=hG 0 (by decide);have g2:a.eval (.tmp 15)=dO (tk L en i):=hG 2 (by decide);obtain ⟨xs,hxl,rfl,hev⟩:=hF.lit (by simp);rw [hev 0 (by decide)] at g0;rw [hev 2 (by decide)] at g2;obtain ⟨x0,x1,x2,rfl⟩:∃x0 x1 x2,xs = [x0,x1,x2]:=by match xs,hxl with|[x0,x1,x2],_=>exact ⟨x0,x1,x2,rfl⟩
    have g0:x0=_:=g0;have g2:x2=_:=g2;subst g0;subst g2;have HQ:=ae (BA 1 e0 (.func (.func 176) #[] #[]) (tk L en i) w2);have fF:=ae (aB bb.out hb2);clear hF hb2 hG hev hxl HR;simp only [List.take_succ_cons,List.take_zero,List.drop_succ_cons,List.drop_zero,List.cons_append,List.nil_append];go_wp2_with fail;refine HQ.out.mono ?_;rintro e u5 ⟨rfl,hb5⟩;have gh:=ae (aB fF.out hb5);clear hb5 HQ;cases hbg:bg 1 e0 (tk L en i) with
    | false =>
     have cG:Hid (∀j,j<1->([(1,e0),(3,e0),(6,sL)]:List (Int × ByteArray))[j]?.map (fun r=>bg r.1 r.2 (tk L en i))=some false):=ae fun j hj=>by
      rcases Nat.lt_succ_iff_lt_or_eq.1 hj with hj|rfl
      ·exact HN.out j hj
      ·simp [hbg]
     clear hbg HN;go_wp2;go_roundw
     case rel=>exact ⟨1,by decide,by first|rfl|simp,cG,gh⟩
     case measure=>simp
    | true =>
     have hE:az=true:=by rw [bT.out,pG];simp [hbg]
     have HE:=ae hE;clear hbg hE HN;go_wp2;go_ret;exact ⟨bf HE.out.symm,gh.out⟩
  ·have y0:=hcs 3 _ rfl;have y1:=hcs 4 _ rfl;have y2:=hcs 5 _ rfl;have bJ:g<wr.heap.size:=Nat.lt_of_lt_of_le dI.out HB.out.size;obtain ⟨u3,hu3,hb3,r0,r1,r2⟩:=gy wr 187 (.int .i64 3) (.string e0) (.func (.func 177) #[] #[]);have bb:=ae (aB HB.out hb3);have HR:Hid (∀u,Below u3.heap.size u3 u->u.cell? ⟨wr.heap.size,0,none⟩=some (.int .i64 3)/\u.cell? ⟨wr.heap.size,1,none⟩=some (.string e0)/\u.cell? ⟨wr.heap.size,2,none⟩=some (.func (.func 177) #[] #[])):=ae fun u hb=>⟨ai hb r0,ai hb r1,ai hb r2⟩;go_upto_region 4 with fail
   try rw [<- hu3]
   generalize wr.heap.size=q2 at *;clear hu3 hb3 hcs y0 y1 y2 bJ r0 r1 r2;refine aj.qh 3 (fun j=>13+j) (fun j v _=>v = [.agg #[.int .i64 3,.string e0,.func (.func 177) #[] #[]],.pointer (some ⟨p,0,none⟩),dO (tk L en i)].getD j undef) (by kernel_rfl) (by kernel_rfl) (fun a b h1 h2 h=>by have h':13+a=13+b:=h;omega) (aj.qi (size:=18) (by kernel_rfl)) (fun a v w w' _ h _=>h) ?hs1 ?ht1
   case hs1 =>
    intro j o a w2 hj ho hF hb2 hd;obtain ⟨r0,r1,r2⟩:=HR.out w2 hb2;have HQ:=ae (jc w0 p L vL en i w2 (HP.out.on (aB bb.out hb2)));have f0:a.tmps[0]?.getD undef=.pointer (some ⟨p,0,none⟩):=aj.ay (hF.eval 0 (fun i hi=>by show 13+i≠0;omega));have f6:a.tmps[6]?.getD undef=.pointer (some ⟨q2,0,none⟩):=aj.ay (hF.eval 6 (fun i hi=>by show 13+i≠6;omega));have hc:j=0\/j=1\/j=2:=by omega
    clear hj;rcases hc with rfl|rfl|rfl
    all_goals (simp only [List.getElem?_toArray,List.getElem?_cons_succ,List.getElem?_cons_zero,Option.some.injEq] at ho;subst ho;refine aj.bB fun KK ax=>?_)
    ·go_simp;exact ax _ _ ⟨_,rfl,Below.refl _ _,rfl⟩
    ·go_simp;exact ax _ _ ⟨_,rfl,Below.refl _ _,rfl⟩
    ·have g0:a.tmps[14]?.getD undef=.pointer (some ⟨p,0,none⟩):=aj.ay (hd 1 (by decide));have HK:=ae ax;clear ax;go_simp;refine HQ.out.mono ?_;rintro e w3 ⟨rfl,hb3⟩;exact HK.out _ _ ⟨_,rfl,hb3,rfl⟩
   case ht1 =>
    intro a w2 hF hb2 hG;have g0:a.eval (.tmp 13)=.agg #[.int .i64 3,.string e0,.func (.func 177) #[] #[]]:=hG 0 (by decide);have g2:a.eval (.tmp 15)=dO (tk L en i):=hG 2 (by decide);obtain ⟨xs,hxl,rfl,hev⟩:=hF.lit (by simp);rw [hev 0 (by decide)] at g0;rw [hev 2 (by decide)] at g2;obtain ⟨x0,x1,x2,rfl⟩:∃x0 x1 x2,xs = [x0,x1,x2]:=by match xs,hxl with|[x0,x1,x2],_=>exact ⟨x0,x1,x2,rfl⟩
    have g0:x0=_:=g0;have g2:x2=_:=g2;subst g0;subst g2;have HQ:=ae (BA 3 e0 (.func (.func 177) #[] #[]) (tk L en i) w2);have fF:=ae (aB bb.out hb2);clear hF hb2 hG hev hxl HR;simp only [List.take_succ_cons,List.take_zero,List.drop_succ_cons,List.drop_zero,List.cons_append,List.nil_append];go_wp2_with fail;refine HQ.out.mono ?_;rintro e u5 ⟨rfl,hb5⟩;have gh:=ae (aB fF.out hb5);clear hb5 HQ;have b0:bg 1 e0 (tk L en i)=false:=by have:=HN.out 0 (by decide);simpa using this
    cases hbg:bg 3 e0 (tk L en i) with
    | false =>
     have cG:Hid (∀j,j<2->([(1,e0),(3,e0),(6,sL)]:List (Int × ByteArray))[j]?.map (fun r=>bg r.1 r.2 (tk L en i))=some false):=ae fun j hj=>by
      rcases Nat.lt_succ_iff_lt_or_eq.1 hj with hj|rfl
      ·exact HN.out j hj
      ·simp [hbg]
     clear hbg HN b0;go_wp2;go_roundw
     case rel=>exact ⟨2,by decide,by first|rfl|simp,cG,gh⟩
     case measure=>simp
    | true =>
     have hE:az=true:=by rw [bT.out,pG];simp [hbg]
     have HE:=ae hE;clear hbg hE HN b0;go_wp2;go_ret;exact ⟨bf HE.out.symm,gh.out⟩
  ·have y0:=hcs 6 _ rfl;have y1:=hcs 7 _ rfl;have y2:=hcs 8 _ rfl;have bJ:g<wr.heap.size:=Nat.lt_of_lt_of_le dI.out HB.out.size;obtain ⟨u3,hu3,hb3,r0,r1,r2⟩:=gy wr 187 (.int .i64 6) (.string sL) (.func (.func 178) #[] #[]);have bb:=ae (aB HB.out hb3);have HR:Hid (∀u,Below u3.heap.size u3 u->u.cell? ⟨wr.heap.size,0,none⟩=some (.int .i64 6)/\u.cell? ⟨wr.heap.size,1,none⟩=some (.string sL)/\u.cell? ⟨wr.heap.size,2,none⟩=some (.func (.func 178) #[] #[])):=ae fun u hb=>⟨ai hb r0,ai hb r1,ai hb r2⟩;go_upto_region 4 with fail
   try rw [<- hu3]
   generalize wr.heap.size=q2 at *;clear hu3 hb3 hcs y0 y1 y2 bJ r0 r1 r2;refine aj.qh 3 (fun j=>13+j) (fun j v _=>v = [.agg #[.int .i64 6,.string sL,.func (.func 178) #[] #[]],.pointer (some ⟨p,0,none⟩),dO (tk L en i)].getD j undef) (by kernel_rfl) (by kernel_rfl) (fun a b h1 h2 h=>by have h':13+a=13+b:=h;omega) (aj.qi (size:=18) (by kernel_rfl)) (fun a v w w' _ h _=>h) ?hs2 ?ht2
   case hs2 =>
    intro j o a w2 hj ho hF hb2 hd;obtain ⟨r0,r1,r2⟩:=HR.out w2 hb2;have HQ:=ae (jc w0 p L vL en i w2 (HP.out.on (aB bb.out hb2)));have f0:a.tmps[0]?.getD undef=.pointer (some ⟨p,0,none⟩):=aj.ay (hF.eval 0 (fun i hi=>by show 13+i≠0;omega));have f6:a.tmps[6]?.getD undef=.pointer (some ⟨q2,0,none⟩):=aj.ay (hF.eval 6 (fun i hi=>by show 13+i≠6;omega));have hc:j=0\/j=1\/j=2:=by omega
    clear hj;rcases hc with rfl|rfl|rfl
    all_goals (simp only [List.getElem?_toArray,List.getElem?_cons_succ,List.getElem?_cons_zero,Option.some.injEq] at ho;subst ho;refine aj.bB fun KK ax=>?_)
    ·go_simp;exact ax _ _ ⟨_,rfl,Below.refl _ _,rfl⟩
    ·go_simp;exact ax _ _ ⟨_,rfl,Below.refl _ _,rfl⟩
    ·have g0:a.tmps[14]?.getD undef=.pointer (some ⟨p,0,none⟩):=aj.ay (hd 1 (by decide));have HK:=ae ax;clear ax;go_simp;refine HQ.out.mono ?_;rintro e w3 ⟨rfl,hb3⟩;exact HK.out _ _ ⟨_,rfl,hb3,rfl⟩
   case ht2 =>
    intro a w2 hF hb2 hG;have g0:a.eval (.tmp 13)=.agg #[.int .i64 6,.string sL,.func (.func 178) #[] #[]]:=hG 0 (by decide);have g2:a.eval (.tmp 15)=dO (tk L en i):=hG 2 (by decide);obtain ⟨xs,hxl,rfl,hev⟩:=hF.lit (by simp);rw [hev 0 (by decide)] at g0;rw [hev 2 (by decide)] at g2;obtain ⟨x0,x1,x2,rfl⟩:∃x0 x1 x2,xs = [x0,x1,x2]:=by match xs,hxl with|[x0,x1,x2],_=>exact ⟨x0,x1,x2,rfl⟩
    have g0:x0=_:=g0;have g2:x2=_:=g2;subst g0;subst g2;have HQ:=ae (BA 6 sL (.func (.func 178) #[] #[]) (tk L en i) w2);have fF:=ae (aB bb.out hb2);clear hF hb2 hG hev hxl HR;simp only [List.take_succ_cons,List.take_zero,List.drop_succ_cons,List.drop_zero,List.cons_append,List.nil_append];go_wp2_with fail;refine HQ.out.mono ?_;rintro e u5 ⟨rfl,hb5⟩;have gh:=ae (aB fF.out hb5);clear hb5 HQ;have b0:bg 1 e0 (tk L en i)=false:=by have:=HN.out 0 (by decide);simpa using this
    have b1:bg 3 e0 (tk L en i)=false:=by have:=HN.out 1 (by decide);simpa using this
    cases hbg:bg 6 sL (tk L en i) with
    | false =>
     have cG:Hid (∀j,j<3->([(1,e0),(3,e0),(6,sL)]:List (Int × ByteArray))[j]?.map (fun r=>bg r.1 r.2 (tk L en i))=some false):=ae fun j hj=>by
      rcases Nat.lt_succ_iff_lt_or_eq.1 hj with hj|rfl
      ·exact HN.out j hj
      ·simp [hbg]
     clear hbg HN b0 b1;go_wp2;go_roundw
     case rel=>exact ⟨3,by decide,by first|rfl|simp,cG,gh⟩
     case measure=>simp
    | true =>
     have hE:az=true:=by rw [bT.out,pG];simp [hbg]
     have HE:=ae hE;clear hbg hE HN b0 b1;go_wp2;go_ret;exact ⟨bf HE.out.symm,gh.out⟩
  ·skip
   have b0:bg 1 e0 (tk L en i)=false:=by have:=HN.out 0 (by decide);simpa using this
   have b1:bg 3 e0 (tk L en i)=false:=by have:=HN.out 1 (by decide);simpa using this
   have b2:bg 6 sL (tk L en i)=false:=by have:=HN.out 2 (by decide);simpa using this
   have hE:az=false:=by rw [bT.out,pG,b0,b1,b2];rfl
   have HE:=ae hE;clear hcs HN hE b0 b1 b2;go_wp2;go_ret;exact ⟨bf HE.out.symm,HB.out⟩
end Go.Proofs.YtkdbgopgjbfhbaaGreatDoor
