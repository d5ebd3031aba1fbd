/- Texts that the claim needs. -/
import Derived.Test.YtpaefhceiliaiaaGreatDoorQPAk28
import Derived.Test.YtpaefhceiliaiaaGreatDoorQPAk34
import Derived.Test.YtpaefhceiliaiaaGreatDoorQPAk1
import Derived.Laws.Strings
namespace Go.Proofs.YtpaefhceiliaiaaGreatDoor
open Go.RowKit Lx Pz bB
set_option linter.unusedVariables false
set_option maxRecDepth 100000
set_option maxHeartbeats 8000000
namespace Pz
theorem zE {α:Type} {l:List α} {f:α->Bool} {i:Nat} {x:α} (hx:l[i]?=some x):(l.drop i).all f=(f x && (l.drop (i+1)).all f):=by
 have hi:=(List.getElem?_eq_some_iff.1 hx);rw [List.drop_eq_getElem_cons hi.1,List.all_cons,hi.2]
theorem Ku {b o:Nat} {w:World} {t:Value} (h:qd 0 w b o t):∃x u z a,w.cell? ⟨b,o,none⟩=some (.string x)/\w.cell? ⟨b,o+1,none⟩=some u/\w.cell? ⟨b,o+2,none⟩=some z/\w.cell? ⟨b,o+3,none⟩=some (.int .i64 a)/\(u.oneCell'=true/\z.oneCell'=true)/\il 0 t (.agg #[.string x,u,z,.int .i64 a]) w:=by
 obtain ⟨x,u,z,a,ps,cs,h0,h1,h2,h3,h4,o1,o2,h5,h6⟩:=Qz h;exact ⟨x,u,z,a,h1,h2,h3,h4,⟨o1,o2⟩,x,ps,cs,a,u,z,h0,rfl,h5,h6⟩
theorem Kv {b o:Nat} {w:World} {t:Value} (h:l8 0 w b o t):∃x u,w.cell? ⟨b,o,none⟩=some (.string x)/\w.cell? ⟨b,o+1,none⟩=some u/\u.oneCell'=true/\gS 0 t (.agg #[.string x,u]) w:=by
 obtain ⟨x,u,ts,h0,h1,h2,o1,h5⟩:=QA h;exact ⟨x,u,h1,h2,o1,x,ts,u,h0,rfl,h5⟩
theorem Kw {d b o:Nat} {w:World} {t:Value} (h:dm 0 w d b o t):∃k x y n u z a,w.cell? ⟨b,o,none⟩=some (.int .i64 k)/\w.cell? ⟨b,o+1,none⟩=some (.string x)/\w.cell? ⟨b,o+2,none⟩=some (.string y)/\w.cell? ⟨b,o+3,none⟩=some (.int .i64 n)/\w.cell? ⟨b,o+4,none⟩=some u/\w.cell? ⟨b,o+5,none⟩=some z/\w.cell? ⟨b,o+6,none⟩=some (.int .i64 a)/\(u.oneCell'=true/\z.oneCell'=true)/\aU 0 t (.agg #[.int .i64 k,.string x,.string y,.int .i64 n,u,z,.int .i64 a]) w:=by
 obtain ⟨k,x,y,n,u,z,a,h1,h2,h3,h4,h5,h6,h7,o1,o2,h8⟩:=Iu h;exact ⟨k,x,y,n,u,z,a,h1,h2,h3,h4,h5,h6,h7,⟨o1,o2⟩,h8⟩
theorem Ky {d b o:Nat} {w:World} {t:Value} (h:cf 0 w d b o t):∃k x n u a,w.cell? ⟨b,o,none⟩=some (.int .i64 k)/\w.cell? ⟨b,o+1,none⟩=some (.string x)/\w.cell? ⟨b,o+2,none⟩=some (.int .i64 n)/\w.cell? ⟨b,o+3,none⟩=some u/\w.cell? ⟨b,o+4,none⟩=some (.int .i64 a)/\u.oneCell'=true/\bU 0 t (.agg #[.int .i64 k,.string x,.int .i64 n,u,.int .i64 a]) w:=by
 obtain ⟨k,x,n,u,a,es,_,h1,h2,h3,h4,h5,o1,h6,_⟩:=JK h;exact ⟨k,x,n,u,a,h1,h2,h3,h4,h5,o1,h6⟩
theorem Kz {d b o:Nat} {w:World} {t:Value} (h:dN 0 w d b o t):∃k x n u,w.cell? ⟨b,o,none⟩=some (.int .i64 k)/\w.cell? ⟨b,o+1,none⟩=some (.string x)/\w.cell? ⟨b,o+2,none⟩=some (.int .i64 n)/\w.cell? ⟨b,o+3,none⟩=some u/\u.oneCell'=true/\dX 0 t (.agg #[.int .i64 k,.string x,.int .i64 n,u]) w:=by
 obtain ⟨k,x,n,u,es,_,h1,h2,h3,h4,o1,h5⟩:=JA h;exact ⟨k,x,n,u,h1,h2,h3,h4,o1,h5⟩
end Pz
theorem acI (g:Value->Bool) (l:List Value) (v:Value) (w:World) (h:Row 4 (qd 0 w) v l) (HF:∀t v w',t ∈ l->il 0 t v w'->Below w.heap.size w w'->Calls Tryz.prog 39 #[v] w' fun e w2=>e=.returned (.bool (g t))/\Below w'.heap.size w' w2) :
  Calls Tryz.prog 38 #[v,.func (.func 39) #[] #[]] w fun e w'=>e=.returned (.bool (l.all g))/\Below w.heap.size w w':=by
 obtain ⟨oR,cR,rfl,hel⟩:=bP h;obtain ⟨R,hR⟩:∃R,R=l.all g:=⟨_,rfl⟩;rw [<- hR];have st0:Hid ((l.drop 0).all g=R):=ae (by rw [hR];rfl);have HL:=ae h.1;have eM:=ae hel;have gF:=ae HF;clear hR h hel HF;go_enter Tryz.func38,Tryz.ntmps38;go_wp2_with fail;go_loopw [9] (fun a wr=>∃i:Nat,a=.int .i64 i/\i<=l.length/\Hid ((l.drop i).all g=R)/\Hid (Below w.heap.size w wr)) (fun a _=>match a with | .int _ i=>l.length-i.toNat|_=>0)
 case atStart=>exact ⟨0,rfl,Nat.zero_le _,st0,ae (Below.refl _ _)⟩
 case round =>
  obtain ⟨i,rfl,hi,HN,HB2⟩:=hrel;clear st0;by_cases hp:i<l.length
  ·obtain ⟨t1,ht1⟩:∃t1,l[i]?=some t1:=⟨_,List.getElem?_eq_getElem hp⟩;obtain ⟨b,off,dO,hC⟩:=eM.out i t1 ht1;subst dO;obtain ⟨dx,du,dz,da,h1,h2,h3,h4,o1,hT⟩:=Ku hC;have y0:=ag HB2.out h1;have y1:=ag HB2.out h2;have y2:=ag HB2.out h3;have y3:=ag HB2.out h4;have q1:decide ((i:Int)<(l.length:Int))=true:=decide_eq_true (by omega);have hw1:=gV hp HL.out;have hd:=zE (f:=g) ht1;rw [HN.out] at hd;obtain ⟨W,hW,hth,hbk,hbw⟩:=fL wr 62 rS #[.string dx,du,dz,.int .i64 da] rfl;have bf:=ae (au HB2.out hbw);have bN:=ae (gF.out t1 _ W (List.mem_of_getElem? ht1) ((hT.on (B:=0) (C:=0) (fun kk _ hl=>(HB2.out.block kk hl)) (Nat.le_refl _)).on (fun kk _ hl=>hbw.block kk hl) (Nat.le_refl _)) bf.out);have HW:=ae hW;have ay:=ae hth;have ai:=ae hbk;have z0:=af ai.out 0 _ rfl;have z1:=af ai.out 1 _ rfl;have z2:=af ai.out 2 _ rfl;have z3:=af ai.out 3 _ rfl;clear hC h1 h2 h3 h4 hT hW hth hbk hbw ht1 HN HB2;generalize g t1=Bt at *;cases Bt with
   | false =>
    have HS:Hid (R=false):=ae hd;clear hd;go_wp2_with (refine wpList_store_mid rfl 62 (.tmp 6) (.tmp 12) rfl wr.heap.size 0 #[.string dx,du,dz,.int .i64 da] rfl rfl ay.out rU (by simp [Value.oneCell'] at o1 ⊢;exact ⟨o1.1,o1.2⟩) ?_;rw [HW.out]);refine Calls.mono (show Calls _ _ _ _ _ from bN.out) ?_;rintro e w3 ⟨rfl,hb3⟩;have aT:=ae (au bf.out hb3);clear hb3 y0 y1 y2 y3 z0 z1 z2 z3;go_wp2;go_ret;exact ⟨aC HS.out.symm,aT.out⟩
   | true =>
    have HS:Hid ((l.drop (i+1)).all g=R):=ae hd.symm;clear hd;go_wp2_with (refine wpList_store_mid rfl 62 (.tmp 6) (.tmp 12) rfl wr.heap.size 0 #[.string dx,du,dz,.int .i64 da] rfl rfl ay.out rU (by simp [Value.oneCell'] at o1 ⊢;exact ⟨o1.1,o1.2⟩) ?_;rw [HW.out]);refine Calls.mono (show Calls _ _ _ _ _ from bN.out) ?_;rintro e w3 ⟨rfl,hb3⟩;have aT:=ae (au bf.out hb3);clear hb3 y0 y1 y2 y3 z0 z1 z2 z3;go_wp2;go_roundw
    case rel=>exact ⟨i+1,by first|rfl|(congr 1),hp,HS,aT⟩
    case measure=>simp;omega
  ·have q1:decide ((i:Int)<(l.length:Int))=false:=decide_eq_false (by omega);have HS:Hid (R=true):=ae (by rw [<- HN.out,List.drop_eq_nil_of_le (by omega)];rfl);clear HN;go_wp2;go_ret;exact ⟨aC HS.out.symm,HB2.out⟩
theorem acF (g:Value->Bool) (l:List Value) (v:Value) (w:World) (h:Row 2 (l8 0 w) v l) (HF:∀t v w',t ∈ l->gS 0 t v w'->Below w.heap.size w w'->Calls Tryz.prog 87 #[v] w' fun e w2=>e=.returned (.bool (g t))/\Below w'.heap.size w' w2) :
  Calls Tryz.prog 86 #[v,.func (.func 87) #[] #[]] w fun e w'=>e=.returned (.bool (l.all g))/\Below w.heap.size w w':=by
 obtain ⟨oR,cR,rfl,hel⟩:=bP h;obtain ⟨R,hR⟩:∃R,R=l.all g:=⟨_,rfl⟩;rw [<- hR];have st0:Hid ((l.drop 0).all g=R):=ae (by rw [hR];rfl);have HL:=ae h.1;have eM:=ae hel;have gF:=ae HF;clear hR h hel HF;go_enter Tryz.func86,Tryz.ntmps86;go_wp2_with fail;go_loopw [9] (fun a wr=>∃i:Nat,a=.int .i64 i/\i<=l.length/\Hid ((l.drop i).all g=R)/\Hid (Below w.heap.size w wr)) (fun a _=>match a with | .int _ i=>l.length-i.toNat|_=>0)
 case atStart=>exact ⟨0,rfl,Nat.zero_le _,st0,ae (Below.refl _ _)⟩
 case round =>
  obtain ⟨i,rfl,hi,HN,HB2⟩:=hrel;clear st0;by_cases hp:i<l.length
  ·obtain ⟨t1,ht1⟩:∃t1,l[i]?=some t1:=⟨_,List.getElem?_eq_getElem hp⟩;obtain ⟨b,off,dO,hC⟩:=eM.out i t1 ht1;subst dO;obtain ⟨dx,du,h1,h2,o1,hT⟩:=Kv hC;have y0:=ag HB2.out h1;have y1:=ag HB2.out h2;have q1:decide ((i:Int)<(l.length:Int))=true:=decide_eq_true (by omega);have hw1:=gV hp HL.out;have hd:=zE (f:=g) ht1;rw [HN.out] at hd;obtain ⟨W,hW,hth,hbk,hbw⟩:=fL wr 76 yl #[.string dx,du] rfl;have bf:=ae (au HB2.out hbw);have bN:=ae (gF.out t1 _ W (List.mem_of_getElem? ht1) ((hT.on (B:=0) (C:=0) (fun kk _ hl=>(HB2.out.block kk hl)) (Nat.le_refl _)).on (fun kk _ hl=>hbw.block kk hl) (Nat.le_refl _)) bf.out);have HW:=ae hW;have ay:=ae hth;have ai:=ae hbk;have z0:=af ai.out 0 _ rfl;have z1:=af ai.out 1 _ rfl;clear hC h1 h2 hT hW hth hbk hbw ht1 HN HB2;generalize g t1=Bt at *;cases Bt with
   | false =>
    have HS:Hid (R=false):=ae hd;clear hd;go_wp2_with (refine wpList_store_mid rfl 76 (.tmp 6) (.tmp 12) rfl wr.heap.size 0 #[.string dx,du] rfl rfl ay.out tZ (by simp [Value.oneCell'] at o1 ⊢;exact o1) ?_;rw [HW.out]);refine Calls.mono (show Calls _ _ _ _ _ from bN.out) ?_;rintro e w3 ⟨rfl,hb3⟩;have aT:=ae (au bf.out hb3);clear hb3 y0 y1 z0 z1;go_wp2;go_ret;exact ⟨aC HS.out.symm,aT.out⟩
   | true =>
    have HS:Hid ((l.drop (i+1)).all g=R):=ae hd.symm;clear hd;go_wp2_with (refine wpList_store_mid rfl 76 (.tmp 6) (.tmp 12) rfl wr.heap.size 0 #[.string dx,du] rfl rfl ay.out tZ (by simp [Value.oneCell'] at o1 ⊢;exact o1) ?_;rw [HW.out]);refine Calls.mono (show Calls _ _ _ _ _ from bN.out) ?_;rintro e w3 ⟨rfl,hb3⟩;have aT:=ae (au bf.out hb3);clear hb3 y0 y1 z0 z1;go_wp2;go_roundw
    case rel=>exact ⟨i+1,by first|rfl|(congr 1),hp,HS,aT⟩
    case measure=>simp;omega
  ·have q1:decide ((i:Int)<(l.length:Int))=false:=decide_eq_false (by omega);have HS:Hid (R=true):=ae (by rw [<- HN.out,List.drop_eq_nil_of_le (by omega)];rfl);clear HN;go_wp2;go_ret;exact ⟨aC HS.out.symm,HB2.out⟩
theorem acH (g:Value->Bool) (l:List Value) (v:Value) (w:World) (d:Nat) (h:Row 7 (dm 0 w d) v l) (HF:∀t v w',t ∈ l->aU 0 t v w'->Below w.heap.size w w'->Calls Tryz.prog 40 #[v] w' fun e w2=>e=.returned (.bool (g t))/\Below w'.heap.size w' w2) :
  Calls Tryz.prog 89 #[v,.func (.func 40) #[] #[]] w fun e w'=>e=.returned (.bool (l.all g))/\Below w.heap.size w w':=by
 obtain ⟨oR,cR,rfl,hel⟩:=bP h;obtain ⟨R,hR⟩:∃R,R=l.all g:=⟨_,rfl⟩;rw [<- hR];have st0:Hid ((l.drop 0).all g=R):=ae (by rw [hR];rfl);have HL:=ae h.1;have eM:=ae hel;have gF:=ae HF;clear hR h hel HF;go_enter Tryz.func89,Tryz.ntmps89;go_wp2_with fail;go_loopw [9] (fun a wr=>∃i:Nat,a=.int .i64 i/\i<=l.length/\Hid ((l.drop i).all g=R)/\Hid (Below w.heap.size w wr)) (fun a _=>match a with | .int _ i=>l.length-i.toNat|_=>0)
 case atStart=>exact ⟨0,rfl,Nat.zero_le _,st0,ae (Below.refl _ _)⟩
 case round =>
  obtain ⟨i,rfl,hi,HN,HB2⟩:=hrel;clear st0;by_cases hp:i<l.length
  ·obtain ⟨t1,ht1⟩:∃t1,l[i]?=some t1:=⟨_,List.getElem?_eq_getElem hp⟩;obtain ⟨b,off,dO,hC⟩:=eM.out i t1 ht1;subst dO;obtain ⟨dk,dx,dy,dn,du,dz,da,h1,h2,h3,h4,h5,h6,h7,o1,hT⟩:=Kw hC;have y0:=ag HB2.out h1;have y1:=ag HB2.out h2;have y2:=ag HB2.out h3;have y3:=ag HB2.out h4;have y4:=ag HB2.out h5;have y5:=ag HB2.out h6;have y6:=ag HB2.out h7;have q1:decide ((i:Int)<(l.length:Int))=true:=decide_eq_true (by omega);have hw1:=gV hp HL.out;have hd:=zE (f:=g) ht1;rw [HN.out] at hd;obtain ⟨W,hW,hth,hbk,hbw⟩:=fL wr 27 bG #[.int .i64 dk,.string dx,.string dy,.int .i64 dn,du,dz,.int .i64 da] rfl;have bf:=ae (au HB2.out hbw);have bN:=ae (gF.out t1 _ W (List.mem_of_getElem? ht1) ((hT.on (B:=0) (C:=0) (fun kk _ hl=>(HB2.out.block kk hl)) (Nat.le_refl _)).on (fun kk _ hl=>hbw.block kk hl) (Nat.le_refl _)) bf.out);have HW:=ae hW;have ay:=ae hth;have ai:=ae hbk;have z0:=af ai.out 0 _ rfl;have z1:=af ai.out 1 _ rfl;have z2:=af ai.out 2 _ rfl;have z3:=af ai.out 3 _ rfl;have z4:=af ai.out 4 _ rfl;have z5:=af ai.out 5 _ rfl;have z6:=af ai.out 6 _ rfl;clear hC h1 h2 h3 h4 h5 h6 h7 hT hW hth hbk hbw ht1 HN HB2;generalize g t1=Bt at *;cases Bt with
   | false =>
    have HS:Hid (R=false):=ae hd;clear hd;go_wp2_with (refine wpList_store_mid rfl 27 (.tmp 6) (.tmp 12) rfl wr.heap.size 0 #[.int .i64 dk,.string dx,.string dy,.int .i64 dn,du,dz,.int .i64 da] rfl rfl ay.out bZ (by simp [Value.oneCell'] at o1 ⊢;exact ⟨o1.1,o1.2⟩) ?_;rw [HW.out]);refine Calls.mono (show Calls _ _ _ _ _ from bN.out) ?_;rintro e w3 ⟨rfl,hb3⟩;have aT:=ae (au bf.out hb3);clear hb3 y0 y1 y2 y3 y4 y5 y6 z0 z1 z2 z3 z4 z5 z6;go_wp2;go_ret;exact ⟨aC HS.out.symm,aT.out⟩
   | true =>
    have HS:Hid ((l.drop (i+1)).all g=R):=ae hd.symm;clear hd;go_wp2_with (refine wpList_store_mid rfl 27 (.tmp 6) (.tmp 12) rfl wr.heap.size 0 #[.int .i64 dk,.string dx,.string dy,.int .i64 dn,du,dz,.int .i64 da] rfl rfl ay.out bZ (by simp [Value.oneCell'] at o1 ⊢;exact ⟨o1.1,o1.2⟩) ?_;rw [HW.out]);refine Calls.mono (show Calls _ _ _ _ _ from bN.out) ?_;rintro e w3 ⟨rfl,hb3⟩;have aT:=ae (au bf.out hb3);clear hb3 y0 y1 y2 y3 y4 y5 y6 z0 z1 z2 z3 z4 z5 z6;go_wp2;go_roundw
    case rel=>exact ⟨i+1,by first|rfl|(congr 1),hp,HS,aT⟩
    case measure=>simp;omega
  ·have q1:decide ((i:Int)<(l.length:Int))=false:=decide_eq_false (by omega);have HS:Hid (R=true):=ae (by rw [<- HN.out,List.drop_eq_nil_of_le (by omega)];rfl);clear HN;go_wp2;go_ret;exact ⟨aC HS.out.symm,HB2.out⟩
theorem Pt (g:Value->Bool) (l:List Value) (v:Value) (w:World) (d:Nat) (h:Row 5 (cf 0 w d) v l) (HF:∀t v w',t ∈ l->bU 0 t v w'->Below w.heap.size w w'->Calls Tryz.prog 91 #[v] w' fun e w2=>e=.returned (.bool (g t))/\Below w'.heap.size w' w2) :
  Calls Tryz.prog 90 #[v,.func (.func 91) #[] #[]] w fun e w'=>e=.returned (.bool (l.all g))/\Below w.heap.size w w':=by
 obtain ⟨oR,cR,rfl,hel⟩:=bP h;obtain ⟨R,hR⟩:∃R,R=l.all g:=⟨_,rfl⟩;rw [<- hR];have st0:Hid ((l.drop 0).all g=R):=ae (by rw [hR];rfl);have HL:=ae h.1;have eM:=ae hel;have gF:=ae HF;clear hR h hel HF;go_enter Tryz.func90,Tryz.ntmps90;go_wp2_with fail;go_loopw [9] (fun a wr=>∃i:Nat,a=.int .i64 i/\i<=l.length/\Hid ((l.drop i).all g=R)/\Hid (Below w.heap.size w wr)) (fun a _=>match a with | .int _ i=>l.length-i.toNat|_=>0)
 case atStart=>exact ⟨0,rfl,Nat.zero_le _,st0,ae (Below.refl _ _)⟩
 case round =>
  obtain ⟨i,rfl,hi,HN,HB2⟩:=hrel;clear st0;by_cases hp:i<l.length
  ·obtain ⟨t1,ht1⟩:∃t1,l[i]?=some t1:=⟨_,List.getElem?_eq_getElem hp⟩;obtain ⟨b,off,dO,hC⟩:=eM.out i t1 ht1;subst dO;obtain ⟨dk,dx,dn,du,da,h1,h2,h3,h4,h5,o1,hT⟩:=Ky hC;have y0:=ag HB2.out h1;have y1:=ag HB2.out h2;have y2:=ag HB2.out h3;have y3:=ag HB2.out h4;have y4:=ag HB2.out h5;have q1:decide ((i:Int)<(l.length:Int))=true:=decide_eq_true (by omega);have hw1:=gV hp HL.out;have hd:=zE (f:=g) ht1;rw [HN.out] at hd;obtain ⟨W,hW,hth,hbk,hbw⟩:=fL wr 101 gB #[.int .i64 dk,.string dx,.int .i64 dn,du,.int .i64 da] rfl;have bf:=ae (au HB2.out hbw);have bN:=ae (gF.out t1 _ W (List.mem_of_getElem? ht1) ((hT.on (B:=0) (C:=0) (fun kk _ hl=>(HB2.out.block kk hl)) (Nat.le_refl _)).on (fun kk _ hl=>hbw.block kk hl) (Nat.le_refl _)) bf.out);have HW:=ae hW;have ay:=ae hth;have ai:=ae hbk;have z0:=af ai.out 0 _ rfl;have z1:=af ai.out 1 _ rfl;have z2:=af ai.out 2 _ rfl;have z3:=af ai.out 3 _ rfl;have z4:=af ai.out 4 _ rfl;clear hC h1 h2 h3 h4 h5 hT hW hth hbk hbw ht1 HN HB2;generalize g t1=Bt at *;cases Bt with
   | false =>
    have HS:Hid (R=false):=ae hd;clear hd;go_wp2_with (refine wpList_store_mid rfl 101 (.tmp 6) (.tmp 12) rfl wr.heap.size 0 #[.int .i64 dk,.string dx,.int .i64 dn,du,.int .i64 da] rfl rfl ay.out gK (by simp [Value.oneCell'] at o1 ⊢;exact o1) ?_;rw [HW.out]);refine Calls.mono (show Calls _ _ _ _ _ from bN.out) ?_;rintro e w3 ⟨rfl,hb3⟩;have aT:=ae (au bf.out hb3);clear hb3 y0 y1 y2 y3 y4 z0 z1 z2 z3 z4;go_wp2;go_ret;exact ⟨aC HS.out.symm,aT.out⟩
   | true =>
    have HS:Hid ((l.drop (i+1)).all g=R):=ae hd.symm;clear hd;go_wp2_with (refine wpList_store_mid rfl 101 (.tmp 6) (.tmp 12) rfl wr.heap.size 0 #[.int .i64 dk,.string dx,.int .i64 dn,du,.int .i64 da] rfl rfl ay.out gK (by simp [Value.oneCell'] at o1 ⊢;exact o1) ?_;rw [HW.out]);refine Calls.mono (show Calls _ _ _ _ _ from bN.out) ?_;rintro e w3 ⟨rfl,hb3⟩;have aT:=ae (au bf.out hb3);clear hb3 y0 y1 y2 y3 y4 z0 z1 z2 z3 z4;go_wp2;go_roundw
    case rel=>exact ⟨i+1,by first|rfl|(congr 1),hp,HS,aT⟩
    case measure=>simp;omega
  ·have q1:decide ((i:Int)<(l.length:Int))=false:=decide_eq_false (by omega);have HS:Hid (R=true):=ae (by rw [<- HN.out,List.drop_eq_nil_of_le (by omega)];rfl);clear HN;go_wp2;go_ret;exact ⟨aC HS.out.symm,HB2.out⟩
theorem Pq (g:Value->Bool) (l:List Value) (v:Value) (w:World) (d:Nat) (h:Row 4 (dN 0 w d) v l) (HF:∀t v w',t ∈ l->dX 0 t v w'->Below w.heap.size w w'->Calls Tryz.prog 143 #[v] w' fun e w2=>e=.returned (.bool (g t))/\Below w'.heap.size w' w2) :
  Calls Tryz.prog 142 #[v,.func (.func 143) #[] #[]] w fun e w'=>e=.returned (.bool (l.all g))/\Below w.heap.size w w':=by
 obtain ⟨oR,cR,rfl,hel⟩:=bP h;obtain ⟨R,hR⟩:∃R,R=l.all g:=⟨_,rfl⟩;rw [<- hR];have st0:Hid ((l.drop 0).all g=R):=ae (by rw [hR];rfl);have HL:=ae h.1;have eM:=ae hel;have gF:=ae HF;clear hR h hel HF;go_enter Tryz.func142,Tryz.ntmps142;go_wp2_with fail;go_loopw [9] (fun a wr=>∃i:Nat,a=.int .i64 i/\i<=l.length/\Hid ((l.drop i).all g=R)/\Hid (Below w.heap.size w wr)) (fun a _=>match a with | .int _ i=>l.length-i.toNat|_=>0)
 case atStart=>exact ⟨0,rfl,Nat.zero_le _,st0,ae (Below.refl _ _)⟩
 case round =>
  obtain ⟨i,rfl,hi,HN,HB2⟩:=hrel;clear st0;by_cases hp:i<l.length
  ·obtain ⟨t1,ht1⟩:∃t1,l[i]?=some t1:=⟨_,List.getElem?_eq_getElem hp⟩;obtain ⟨b,off,dO,hC⟩:=eM.out i t1 ht1;subst dO;obtain ⟨dk,dx,dn,du,h1,h2,h3,h4,o1,hT⟩:=Kz hC;have y0:=ag HB2.out h1;have y1:=ag HB2.out h2;have y2:=ag HB2.out h3;have y3:=ag HB2.out h4;have q1:decide ((i:Int)<(l.length:Int))=true:=decide_eq_true (by omega);have hw1:=gV hp HL.out;have hd:=zE (f:=g) ht1;rw [HN.out] at hd;obtain ⟨W,hW,hth,hbk,hbw⟩:=fL wr 79 kg #[.int .i64 dk,.string dx,.int .i64 dn,du] rfl;have bf:=ae (au HB2.out hbw);have bN:=ae (gF.out t1 _ W (List.mem_of_getElem? ht1) ((hT.on (B:=0) (C:=0) (fun kk _ hl=>(HB2.out.block kk hl)) (Nat.le_refl _)).on (fun kk _ hl=>hbw.block kk hl) (Nat.le_refl _)) bf.out);have HW:=ae hW;have ay:=ae hth;have ai:=ae hbk;have z0:=af ai.out 0 _ rfl;have z1:=af ai.out 1 _ rfl;have z2:=af ai.out 2 _ rfl;have z3:=af ai.out 3 _ rfl;clear hC h1 h2 h3 h4 hT hW hth hbk hbw ht1 HN HB2;generalize g t1=Bt at *;cases Bt with
   | false =>
    have HS:Hid (R=false):=ae hd;clear hd;go_wp2_with (refine wpList_store_mid rfl 79 (.tmp 6) (.tmp 12) rfl wr.heap.size 0 #[.int .i64 dk,.string dx,.int .i64 dn,du] rfl rfl ay.out gN (by simp [Value.oneCell'] at o1 ⊢;exact o1) ?_;rw [HW.out]);refine Calls.mono (show Calls _ _ _ _ _ from bN.out) ?_;rintro e w3 ⟨rfl,hb3⟩;have aT:=ae (au bf.out hb3);clear hb3 y0 y1 y2 y3 z0 z1 z2 z3;go_wp2;go_ret;exact ⟨aC HS.out.symm,aT.out⟩
   | true =>
    have HS:Hid ((l.drop (i+1)).all g=R):=ae hd.symm;clear hd;go_wp2_with (refine wpList_store_mid rfl 79 (.tmp 6) (.tmp 12) rfl wr.heap.size 0 #[.int .i64 dk,.string dx,.int .i64 dn,du] rfl rfl ay.out gN (by simp [Value.oneCell'] at o1 ⊢;exact o1) ?_;rw [HW.out]);refine Calls.mono (show Calls _ _ _ _ _ from bN.out) ?_;rintro e w3 ⟨rfl,hb3⟩;have aT:=ae (au bf.out hb3);clear hb3 y0 y1 y2 y3 z0 z1 z2 z3;go_wp2;go_roundw
    case rel=>exact ⟨i+1,by first|rfl|(congr 1),hp,HS,aT⟩
    case measure=>simp;omega
  ·have q1:decide ((i:Int)<(l.length:Int))=false:=decide_eq_false (by omega);have HS:Hid (R=true):=ae (by rw [<- HN.out,List.drop_eq_nil_of_le (by omega)];rfl);clear HN;go_wp2;go_ret;exact ⟨aC HS.out.symm,HB2.out⟩
theorem acE (g:ByteArray->Bool) (l:List ByteArray) (v:Value) (w:World) (h:kQ 0 v l w) (HF:∀x w',x ∈ l->Below w.heap.size w w'->Calls Tryz.prog 85 #[.string x] w' fun e w2=>e=.returned (.bool (g x))/\Below w'.heap.size w' w2) :
  Calls Tryz.prog 84 #[v,.func (.func 85) #[] #[]] w fun e w'=>e=.returned (.bool (l.all g))/\Below w.heap.size w w':=by
 obtain ⟨oR,cR,rfl,hel⟩:=bP h;obtain ⟨R,hR⟩:∃R,R=l.all g:=⟨_,rfl⟩;rw [<- hR];have st0:Hid ((l.drop 0).all g=R):=ae (by rw [hR];rfl);have HL:Hid (l.length<=9223372036854775807):=ae (by have:=h.1;simpa using this);have eM:=ae hel;have gF:=ae HF;rw [List.length_map];clear hR h hel HF;go_enter Tryz.func84,Tryz.ntmps84;go_wp2_with fail;go_loopw [9] (fun a wr=>∃i:Nat,a=.int .i64 i/\i<=l.length/\Hid ((l.drop i).all g=R)/\Hid (Below w.heap.size w wr)) (fun a _=>match a with | .int _ i=>l.length-i.toNat|_=>0)
 case atStart=>exact ⟨0,rfl,Nat.zero_le _,st0,ae (Below.refl _ _)⟩
 case round =>
  obtain ⟨i,rfl,hi,HN,HB2⟩:=hrel;clear st0;by_cases hp:i<l.length
  ·obtain ⟨t1,ht1⟩:∃t1,l[i]?=some t1:=⟨_,List.getElem?_eq_getElem hp⟩;obtain ⟨b,off,dO,hC⟩:=eM.out i (.string t1) (by rw [List.getElem?_map,ht1];rfl);subst dO;have y0:=ag HB2.out hC.2;rw [Nat.mul_one] at y0;have q1:decide ((i:Int)<(l.length:Int))=true:=decide_eq_true (by omega);have hw1:=gV hp HL.out;have hd:=zE (f:=g) ht1;rw [HN.out] at hd;have bN:=ae (gF.out t1 wr (List.mem_of_getElem? ht1) HB2.out);clear hC ht1 HN;generalize g t1=Bt at *;cases Bt with
   | false =>
    have HS:Hid (R=false):=ae hd;clear hd;go_wp2_with fail;refine Calls.mono (show Calls _ _ _ _ _ from bN.out) ?_;rintro e w3 ⟨rfl,hb3⟩;have aT:=ae (au HB2.out hb3);clear hb3 y0;go_wp2;go_ret;exact ⟨aC HS.out.symm,aT.out⟩
   | true =>
    have HS:Hid ((l.drop (i+1)).all g=R):=ae hd.symm;clear hd;go_wp2_with fail;refine Calls.mono (show Calls _ _ _ _ _ from bN.out) ?_;rintro e w3 ⟨rfl,hb3⟩;have aT:=ae (au HB2.out hb3);clear hb3 y0;go_wp2;go_roundw
    case rel=>exact ⟨i+1,by first|rfl|(congr 1),hp,HS,aT⟩
    case measure=>simp;omega
  ·have q1:decide ((i:Int)<(l.length:Int))=false:=decide_eq_false (by omega);have HS:Hid (R=true):=ae (by rw [<- HN.out,List.drop_eq_nil_of_le (by omega)];rfl);clear HN;go_wp2;go_ret;exact ⟨aC HS.out.symm,HB2.out⟩
end Go.Proofs.YtpaefhceiliaiaaGreatDoor
namespace Go.Proofs.YtpaefhceiliaiaaGreatDoor
open Go.RowKit Lx
set_option linter.unusedVariables false
set_option maxRecDepth 100000
set_option maxHeartbeats 8000000
namespace Lx
def VO (l:List Tk):Prop:=∀t ∈ l,t.x.size<=140737488355328/\-9223372036854775808<=t.n/\t.n<=9223372036854775807
theorem tB {j n:Nat} (h:j<n) (hn:n<=4096):decide ((j:Int)<(n:Int))=true/\wrap64 ((j:Int)+1)=((j+1:Nat):Int):=by
 refine ⟨decide_eq_true (by omega),?_⟩;unfold wrap64;omega
theorem VP (w:World):lL w.heap.size w.heap.size [] (w.alloc (.cells #[.pointer none,.slice none 0 0] 170)):=Lib.fresh_isBuilder 170 5 w
theorem VQ {k:Int} {x:ByteArray} {n:Int} (h:x.size<=140737488355328):(gZ k x n).size<=281474976710656\/k=4:=by
 unfold gZ;split
 ·rw [wY];exact .inl (by omega)
 ·split
  ·exact .inr (by assumption)
  ·exact .inl (by omega)
theorem VR {n:Int} (h0:-9223372036854775808<=n) (h1:n<=9223372036854775807):(mo n).size<=281474976710656:=by
 unfold mo;rw [uK];by_cases hn:n<0
 ·rw [Ha hn,List.length_cons]
  have:=Hb n.natAbs (by omega)
  omega
 ·rw [Hd hn]
  have:=Hb n.toNat (by omega)
  omega
theorem VS {k:Int} {x:ByteArray} {n:Int} (h:x.size<=140737488355328) (h0:-9223372036854775808<=n) (h1:n<=9223372036854775807):(gZ k x n).size<=281474976710656:=by
 rcases VQ (k:=k) (n:=n) h with h|h
 ·exact h
 ·subst h;exact VR h0 h1
theorem He {w w':World} {R:ByteArray × Int} {s:ByteArray} {z:Int} (h:R=(s,z)) (hb:Below w.heap.size w w'):Nf w R (.returned (.tuple #[.string s,.int .i64 z])) w':=by subst h;exact ⟨rfl,hb⟩
end Lx
theorem Vq (v:Value) (l:List Tk) (w:World) (hv:kG w v l) (hB:VO l) (ek:WL w) (hT:TP w) :
  Calls Tryz.prog 141 #[v] w (Nf w (txt l)):=by
 obtain ⟨o,c,rfl⟩:=hv.len;by_cases h4:4096<l.length
 ·have hR:txt l=(⟨#[]⟩,3):=if_pos h4;have q0:decide ((l.length:Int) > 4096)=true:=decide_eq_true (by omega);rw [hR];clear hv hB ek hT hR h4;go_enter Tryz.func141,Tryz.ntmps141;go_wp2;go_ret2;exact ⟨rfl,Below.refl _ _⟩
 ·have q0:decide ((l.length:Int) > 4096)=false:=decide_eq_false (by omega);have HV:=ae hv;have HB:=ae hB;have VT:=ae ek;have HT:=ae hT;have H4:=ae h4;have iH:=ae (VP w);have HW0:=ae ((Below.refl w.heap.size w).alloc (Nat.le_refl _) (.cells #[.pointer none,.slice none 0 0] 170));clear hv hB ek hT h4;go_enter Tryz.func141,Tryz.ntmps141;go_wp2_with fail;go_loopw [13] (fun x wx=>∃k:Nat,x=.int .i64 k/\k<=l.length/\Hid (∀t ∈ l.take k,ni t=true)/\Hid (lL w.heap.size w.heap.size (iI (l.take k)) wx)/\Hid (Below w.heap.size w wx)) (fun x _=>match x with | .int _ k=>l.length-k.toNat|_=>0)
  case atStart=>exact ⟨0,rfl,Nat.zero_le _,ae (fun t ht=>by simp at ht),iH,HW0⟩
  case round =>
   obtain ⟨k,rfl,hk,HG,HI,HW⟩:=hrel;clear iH HW0;by_cases hkl:k<l.length
   ·obtain ⟨q1,hw1⟩:=tB hkl (by have:=H4.out;omega);obtain ⟨tt,ht⟩:∃t,l[k]?=some t:=⟨_,List.getElem?_eq_getElem hkl⟩;obtain ⟨DC,hn0,xd⟩:=HB.out tt (List.mem_of_getElem? ht);obtain ⟨g,cg,Hf,hcells⟩:=(HV.out.on HW.out).some (by omega);injection Hf with lJ _ VU;subst lJ;have y0:wr.cell? ⟨g,k*4,none⟩=some (.int .i64 tt.k):=hcells k tt ht 0 _ rfl;have y1:wr.cell? ⟨g,k*4+1,none⟩=some (.string tt.x):=hcells k tt ht 1 _ rfl;have y2:wr.cell? ⟨g,k*4+2,none⟩=some (.int .i64 tt.n):=hcells k tt ht 2 _ rfl;have y3:wr.cell? ⟨g,k*4+3,none⟩=some (.int .i64 tt.a):=hcells k tt ht 3 _ rfl;have HJ:=ae (VV ht);have DD:=ae (fun hg=>taken HG.out ht hg);have AL:=ae (fun hg=>M0 H4.out ht hg);have Ng:ni tt=mZ (gZ tt.k tt.x tt.n) tt.k tt.x tt.n:=(Vl _ _ _).symm;have lM:=ae (fun (hg:ni tt=true)=>Hg (k:=tt.k) (x:=tt.x) (n:=tt.n) hg);have Nh:=ae (VS (k:=tt.k) DC hn0 xd);have Ni:=ae (M3 _ HG.out);have hsk:qO tt=gZ tt.k tt.x tt.n:=rfl;rw [hsk] at HJ;rw [Ng] at DD AL lM;obtain ⟨tk,tx,tn,ta⟩:=tt;simp only at y0 y1 y2 y3 DC hn0 xd HJ DD AL lM Nh;have z1:g<wr.heap.size:=World.block_lt_of_cell? _ _ y0;have HA:=ae (tA wr tk tx tn ta 47);have gL:=ae (VW tk tx tn ta DC hn0 xd _ (HT.out.on (au HW.out HA.out)));have Nj:=fun (u:World) (hb:Below w.heap.size w u)=>ae (VX (gZ tk tx tn) tk tx tn ta Nh.out u (VT.out.on hb));generalize mZ (gZ tk tx tn) tk tx tn=M at *;generalize gZ tk tx tn=S at *;clear ht hcells VU Ng hsk DC hn0 xd;go_wp2_with fail;refine Calls.mono (show Calls _ _ _ _ _ from gL.out) ?_;rintro e u1 ⟨rfl,hb1⟩;have HB1:=ae (au (au HW.out HA.out) hb1);obtain ⟨hlt,c0,c1,c2,c3⟩:=xe hb1;have qP:=ae ((HI.out.on HA.out).on hb1);clear hb1 gL y0 y1 y2 y3 z1;go_wp2_with fail;refine Calls.mono (show Calls _ _ _ _ _ from (Nj _ HB1.out).out) ?_;rintro e u2 ⟨rfl,hb2⟩;have HB2:=ae (au HB1.out hb2);have pF:=ae (qP.out.on hb2);clear hb2 Nj qP HI c0 c1 c2 c3 hlt;cases M with
    | false =>
     have HR:=ae (AL.out rfl);clear AL;go_wp2;go_ret2;exact He HR.out HB2.out
    | true =>
     have Nk:=ae (DD.out rfl);have hsz:=lM.out rfl
     have Nl:(iI (l.take k)).length<=140000:=by
      have h1:=Ni.out;rw [List.length_take,Nat.min_eq_left hk] at h1
      have:=H4.out
      omega
     have Nn:=ae Nl;have Np:=ae hsz;clear Nl hsz Ni lM DD AL;rcases Nat.eq_zero_or_pos k with h0|h0
     ·have q2:¬ 0<k:=by omega
      have hj0:iI (l.take k) = []:=by rw [h0,List.take_zero];rfl
      have rV:=HJ.out;rw [if_pos h0] at rV;have hI2:=pF.out;rw [hj0] at hI2;have AO:=ae (AQ w.heap.size w.heap.size [] S u2 hI2 (by have:=Np.out;simp;omega) HB2.out.size);have Hh:=ae rV;clear hj0 rV hI2 HJ pF h0;go_wp2_with fail;refine Calls.mono (show Calls _ _ _ _ _ from AO.out) ?_;rintro e u3 ⟨rfl,hb3,hw3⟩;have AR:Hid (lL w.heap.size w.heap.size (iI (l.take (k+1))) u3):=ae (by rw [Hh.out];exact hb3);have HW3:=ae (HB2.out.trans hw3);clear hb3 hw3 AO;go_wp2;go_roundw
      case rel=>exact ⟨k+1,by first|rfl|(congr 1),hkl,Nk,AR,HW3⟩
      case measure=>clear hw1 q1;simp;omega
     ·have q2:0<k:=h0;have rV:=HJ.out;rw [if_neg (by omega)] at rV;have Hj:=ae (VY w.heap.size w.heap.size (iI (l.take k)) 32 u2 pF.out (by have:=Nn.out;omega) HB2.out.size);have h32:(((32:UInt8).toNat:Nat):Int)=32:=rfl;rw [h32] at Hj;have Hh:=ae rV;clear rV HJ h32 h0;go_wp2_with fail;refine Calls.mono (show Calls _ _ _ _ _ from Hj.out) ?_;rintro e u3 ⟨rfl,hb3,hw3⟩;have HW3:=ae (HB2.out.trans hw3);have AO:=ae (AQ w.heap.size w.heap.size (iI (l.take k)++[32]) S u3 hb3 (by have:=Np.out;have:=Nn.out;simp;omega) HW3.out.size);clear hb3 hw3 Hj;go_wp2_with fail;refine Calls.mono (show Calls _ _ _ _ _ from AO.out) ?_;rintro e u4 ⟨rfl,hb4,hw4⟩;have VZ:Hid (lL w.heap.size w.heap.size (iI (l.take (k+1))) u4):=ae (by rw [Hh.out];exact hb4);have fQ:=ae (HW3.out.trans hw4);clear hb4 hw4 AO;go_wp2;go_roundw
      case rel=>exact ⟨k+1,by first|rfl|(congr 1),hkl,Nk,VZ,fQ⟩
      case measure=>simp only [hw1];clear hw1 q1;simp;omega
   ·have Nq:k=l.length:=by omega
    have q1:=aK l.length k hkl;have hI:=HI.out;have hG:=HG.out;rw [Nq,List.take_length] at hI hG;have HR:=ae (M4 H4.out hG);have HL:=ae (sLen w.heap.size w.heap.size (iI l) wr hI);have HS:=ae (Nr w.heap.size w.heap.size (iI l) wr hI HW.out.size);clear hI hG HI HG Nq;generalize iI l=J at *;by_cases h8:8192<J.length
    ·have q2:decide ((J.length:Int) > 8192)=true:=decide_eq_true (by omega);have hR:=HR.out;rw [if_pos h8] at hR;have HR2:=ae hR;clear hR HR HS h8;go_wp2_with fail;refine Calls.mono (show Calls _ _ _ _ _ from HL.out) ?_;rintro e u1 ⟨rfl,rfl⟩;go_wp2;go_ret2;exact He HR2.out HW.out
    ·have q2:decide ((J.length:Int) > 8192)=false:=decide_eq_false (by omega);have hR:=HR.out;rw [if_neg h8] at hR;have HR2:=ae hR;clear hR HR h8;go_wp2_with fail;refine Calls.mono (show Calls _ _ _ _ _ from HL.out) ?_;rintro e u1 ⟨rfl,rfl⟩;go_wp2_with fail;refine Calls.mono (show Calls _ _ _ _ _ from HS.out) ?_;rintro e u2 ⟨rfl,hb2⟩;have HW2:=ae (HW.out.trans hb2);clear hb2 HS;go_wp2;go_ret2;exact He HR2.out HW2.out
end Go.Proofs.YtpaefhceiliaiaaGreatDoor
namespace Go.Proofs.YtpaefhceiliaiaaGreatDoor
open Go.RowKit Ints
set_option linter.unusedVariables false
set_option maxHeartbeats 1000000
theorem aaQ (n:Int) (w:World) (h0:-9223372036854775808<=n) (h1:n<=9223372036854775807):Calls Tryz.prog 172 #[.int .i64 n] w fun e w'=>e=.returned (.int .i64 (wr n))/\w'=w:=by
 go_enter Tryz.func172,Tryz.ntmps172;go_wp2;go_ret;exact ⟨rA (by unfold wrap64 wr;omega),rfl⟩
theorem Vs (n:Int) (w:World) (h0:-9223372036854775808<=n) (h1:n<=9223372036854775807):Calls Tryz.prog 144 #[.int .i64 n] w fun e w'=>e=.returned (.bool (wr n == n))/\w'=w:=by
 go_enter Tryz.func144,Tryz.ntmps144;go_wp2_with fail;refine (aaQ n _ h0 h1).mono ?_;rintro e u ⟨rfl,rfl⟩;go_wp2;go_ret;exact ⟨rfl,rfl⟩
set_option linter.unusedVariables false
theorem Vp (s:ByteArray) (w:World) (hW:WI w):Calls Tryz.prog 140 #[.string s] w fun e w'=>e=.returned (.int .i64 (uL s))/\w'=w:=by
 have HW:=ae hW;have fin:Hid (∀k:Nat,k=8->sM s (8-k) k=0):=ae fun k h=>by subst h;rfl
 have Fq:Hid (∀k:Nat,k<8->sM s (8-k) k=if qV.getD k ⟨#[]⟩=s then (k:Int) else sM s (8-(k+1)) (k+1)):=ae fun k h=>by
  obtain ⟨f,hf⟩:∃f,8-k=f+1:=⟨7-k,by omega⟩;rw [hf,show 8-(k+1)=f by omega];rfl
 have st0:Hid (sM s (8-1) 1=uL s):=ae rfl;clear hW;generalize uL s=R at *;go_enter Tryz.func140,Tryz.ntmps140;go_wp2_with fail
 go_loop [3] (fun a=>∃k:Nat,a=.int .i64 k/\1<=k/\k<=8/\Hid (sM s (8-k) k=R)) (fun a=>match a with | .int _ k=>(8-k).toNat|_=>0)
 case atStart=>exact ⟨1,rfl,by omega,by omega,st0⟩
 case round =>
  obtain ⟨k,rfl,k0,k1,hk⟩:=hrel;by_cases h7:k<8
  ·have dl:decide ((k:Int)<=7)=true:=decide_eq_true (by omega);have hc:=HW.out k h7;have hs:=Fq.out k h7;rw [hk.out] at hs;have hwk:wrap64 ((k:Int)+1)=(k:Int)+1:=by unfold wrap64;omega
   by_cases ht:qV.getD k ⟨#[]⟩=s
   ·rw [if_pos ht] at hs;rw [ht] at hc;have HS:=ae hs;clear hs ht hk Fq fin st0;go_wp2;go_ret;exact ⟨rA HS.out.symm,rfl⟩
   ·rw [if_neg ht] at hs;have HS:=ae hs;have q1:=nW ht;generalize qV.getD k ⟨#[]⟩=t at *;clear hs hk Fq fin st0 ht;go_wp2
    go_round
    case rel=>exact ⟨k+1,rfl,by omega,by omega,ae HS.out.symm⟩
    case measure=>simp only [];omega
  ·have dl:decide ((k:Int)<=7)=false:=decide_eq_false (by omega);have hs:=fin.out k (by omega);rw [hk.out] at hs;have HS:=ae hs;clear hs hk Fq fin st0;go_wp2;go_ret;exact ⟨rA HS.out.symm,rfl⟩
end Go.Proofs.YtpaefhceiliaiaaGreatDoor
