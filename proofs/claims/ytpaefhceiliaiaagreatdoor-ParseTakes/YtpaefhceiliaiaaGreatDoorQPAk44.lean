/- Texts that the claim needs. -/
import Derived.Test.YtpaefhceiliaiaaGreatDoorQPAk42
import Derived.Test.YtpaefhceiliaiaaGreatDoorQPAk43
import Derived.Test.YtpaefhceiliaiaaGreatDoorQPAk32
import Derived.Lib.LaidTab
import Derived.ProofKit
import Derived.Test.YtpaefhceiliaiaaGreatDoorQPAk36
import Derived.Lib.LaidIn
import Derived.Lib.LaidU8T
import Derived.OpenShut
namespace Go.Proofs.YtpaefhceiliaiaaGreatDoor
open Go.RowKit Lx Pz bB
set_option linter.unusedVariables false
set_option maxRecDepth 100000
set_option maxHeartbeats 8000000
namespace Pz
theorem Im (d:Nat) (k:Int) (x y:ByteArray) (n a:Int):fit d (nd k x y n [] [] a):=Ib (Nat.zero_le d) ⟨⟨_,_,_,_,_,_,_,rfl⟩,rfl,rfl⟩
theorem Io {d:Nat} {k:Int} {x y:ByteArray} {n:Int} {es ps:List Value} {a:Int} (h1:∀t ∈ es,fit d t) (h2:∀t ∈ ps,fit d t):fit (d+1) (nd k x y n es ps a):=⟨⟨_,_,_,_,_,_,_,rfl⟩,h1,h2⟩
def uU:ByteArray:=⟨#[102,117,110,32,120,32,45,62,32,120,32,43,32,40,49,32,42,32,121,41]⟩
def uV:ByteArray:=⟨#[102,117,110,32,120,32,45,62]⟩
def Xc:Value:=nd 9 ⟨#[43]⟩ e0 0 [nd 1 ⟨#[120]⟩ e0 0 [] [] 9,nd 9 ⟨#[42]⟩ e0 0 [nd 2 e0 e0 1 [] [] 14,nd 1 ⟨#[121]⟩ e0 0 [] [] 18] [] 14] [] 9
def xy:Value:=nd 3 ⟨#[120]⟩ e0 0 [Xc] [] 0
theorem Xd:fit 3 xy:=Io (mem1 (Io (mem2 (Im _ _ _ _ _ _) (Io (mem2 (Im _ _ _ _ _ _) (Im _ _ _ _ _ _)) gq)) gq)) gq
theorem Xe {s:ByteArray} {ds:List Value} {t:Value} {j d:Nat} (h0:(lx s).2.2=0) (h:kJ (lx s).1 s.size=.ok ((ds,t),j)) (hd:fit d t) (h1:jb d ds t=false) (h2:kK 256 ds t=false):Says s (.ok (ds,t)):=by
 unfold Says;rw [if_neg (by simpa using h0),h];exact ⟨d,hd,by unfold mH;rw [if_neg (by simp [h1]),if_neg (by simp [h2])]⟩
theorem Xf {s:ByteArray} {z:Int} (h0:(lx s).2.2=0) (h:kJ (lx s).1 s.size=.error z):Says s (.error (z,120)):=by
 unfold Says;rw [if_neg (by simpa using h0),h]
def Oi:List Tk:=[⟨5,⟨#[102,117,110]⟩,0,0⟩,⟨1,⟨#[120]⟩,0,4⟩,⟨6,⟨#[45,62]⟩,0,6⟩,⟨1,⟨#[120]⟩,0,9⟩,⟨6,⟨#[43]⟩,0,11⟩,⟨6,⟨#[40]⟩,0,13⟩,⟨4,⟨#[]⟩,1,14⟩,⟨6,⟨#[42]⟩,0,16⟩,⟨1,⟨#[121]⟩,0,18⟩,⟨6,⟨#[41]⟩,0,19⟩]
def Oj:List Tk:=[⟨5,⟨#[102,117,110]⟩,0,0⟩,⟨1,⟨#[120]⟩,0,4⟩,⟨6,⟨#[45,62]⟩,0,6⟩]
theorem Ol:lx uU=(Oi,0,0):=by kernel_rfl
theorem Om:lx uV=(Oj,0,0):=by kernel_rfl
theorem Xg:kJ Oi 20=.ok (([],xy),10):=by kernel_rfl
theorem Xh:kJ Oj 8=.error 8:=by kernel_rfl
theorem Xi:(uU.size:Int)=20:=by kernel_rfl
theorem Xj:(uV.size:Int)=8:=by kernel_rfl
theorem Xk:jb 3 [] xy=false:=by kernel_rfl
theorem Xl:kK 256 [] xy=false:=by kernel_rfl
theorem Xm:Says uU (.ok ([],xy)) :=
 have h0:(lx uU).2.2=0:=by rw [Ol]
 have h1:kJ (lx uU).1 uU.size=.ok (([],xy),10):=by rw [Ol,Xi];exact Xg
 @Xe uU [] xy 10 3 h0 h1 Xd Xk Xl
theorem Xn:Says uV (.error (8,120)) :=
 have h0:(lx uV).2.2=0:=by rw [Om]
 have h1:kJ (lx uV).1 uV.size=.error 8:=by rw [Om,Xj];exact Xh
 @Xf uV 8 h0 h1
end Pz
theorem Ip (w:World) (ek:WL w):Calls Tryz.prog 9 #[] w fun e w'=>e=.returned (.bool true)/\Below w.heap.size w w':=by
 have H1:=ae (Iq uU w ek);have H2:=ae (fun (u:World) (hb:Below w.heap.size w u)=>Iq uV u (ek.on hb));clear ek;go_enter Tryz.func9,Tryz.ntmps9;go_wp2_with fail;refine Calls.mono (show Calls _ _ _ _ _ from H1.out) ?_;rintro e u ⟨R,hS,hb,hR⟩;obtain rfl:=Says.one hS Xm;obtain ⟨v,rfl,hpr⟩:=hR;obtain ⟨u0,k0,x0,y0,n0,vu,vz,a0,rfl,hD,hM⟩:=hpr;obtain ⟨q1,q2⟩:=Ir hM;have q0:u0.oneCell'=true:=by obtain ⟨oD,cD,rfl,_⟩:=bP hD;rfl
 obtain ⟨d,k1,x1,y1,n1,es1,ps1,a1,u1,z1,h0,h1,hrow,_⟩:=hM;obtain ⟨rfl,rfl,rfl,rfl,rfl,rfl,rfl⟩:=AZ h0;injection h1 with h1;simp only [Array.mk.injEq,List.cons.injEq,Value.int.injEq,Value.string.injEq,true_and,and_true] at h1;obtain ⟨rfl,rfl,rfl,rfl,rfl,rfl,rfl⟩:=h1;obtain ⟨g,off,cc,rfl,hel⟩:=Row.some hrow (by simp);have hC:=hel 0 _ rfl;rw [Nat.zero_mul,Nat.add_zero] at hC;obtain ⟨k2,x2,y2,n2,u2,z2,a2,e1,e2,e3,e4,e5,e6,e7,o1,o2,d3,hE⟩:=Iu hC;obtain ⟨k3,x3,y3,n3,es3,ps3,a3,u3,z3,h3,h4,_⟩:=hE;obtain ⟨rfl,rfl,rfl,rfl,rfl,rfl,rfl⟩:=AZ h3;injection h4 with h4;simp only [Array.mk.injEq,List.cons.injEq,Value.int.injEq,Value.string.injEq,true_and,and_true] at h4;obtain ⟨rfl,rfl,rfl,rfl,rfl,rfl,rfl⟩:=h4;obtain ⟨W,hW,hth,hbk,hbw⟩:=fL u 29 dw #[u0,.int .i64 3,.string ⟨#[120]⟩,.string e0,.int .i64 0,.slice (some ⟨g,off,none⟩) 1 cc,vz,.int .i64 0] rfl;have HW:=ae hW;have ay:=ae hth;have ai:=ae hbk;have bf:=ae (au hb hbw);have wW:=ae (H2.out W bf.out);have gX:=ae (ag hbw e2);have Oo:=ae (ag hbw e7);clear hW hth hbk hbw hb hS H1 H2 hD hrow hel hC e1 e2 e3 e4 e5 e6 e7 o1 o2 h0 h3;go_wp2_with (refine wpList_store_mid rfl 29 (.tmp 1) (.tmp 9) rfl u.heap.size 0 #[u0,.int .i64 3,.string ⟨#[120]⟩,.string e0,.int .i64 0,.slice (some ⟨g,off,none⟩) 1 cc,vz,.int .i64 0] rfl rfl ay.out pW (by simp [Value.oneCell'] at q0 q1 q2 ⊢;exact ⟨q0,q2⟩) ?_;rw [HW.out]);refine Calls.mono (show Calls _ _ _ _ _ from wW.out) ?_;rintro e w2 ⟨R2,jh,hb2,iR⟩;obtain rfl:=Says.one jh Xn;have Xo:e=.returned (.tuple #[.agg dw,.int .i64 8,.int .i64 120]):=iR;subst Xo;obtain ⟨W2,aX,iM,hbk2,iT⟩:=fL w2 29 dw dw rfl;have HW2:=ae aX;have dL:=ae iM;have hbx:=au hb2 iT;have HB2:=ae (au bf.out hbx);have hx:=(hbx.block _ (Array.getElem?_eq_some_iff.1 ai.out).1).trans ai.out;have r1:=af hx 1 _ rfl;have r5:=af hx 5 _ rfl;have e2:=ag hbx gX.out;have e7:=ag hbx Oo.out;clear aX iM hbk2 iT hb2 hbx hx ai gX Oo wW jh iR bf HW ay;go_wp2_with (refine wpList_store_mid rfl 29 (.tmp 4) (.tmp 14) rfl w2.heap.size 0 dw rfl rfl dL.out pW (by simp [Value.oneCell']) ?_;rw [HW2.out]);go_ret;exact ⟨rfl,HB2.out⟩
namespace Pz
theorem aaq {B:Nat} {ds:List Value} {t v:Value} {w:World} (h:kY B (ds,t) v w):∃u k x y n vu vz a,v=.agg #[u,.int .i64 k,.string x,.string y,.int .i64 n,vu,vz,.int .i64 a]/\(u.oneCell'=true/\vu.oneCell'=true/\vz.oneCell'=true)/\kY B (ds,t) (.agg #[u,.int .i64 k,.string x,.string y,.int .i64 n,vu,vz,.int .i64 a]) w/\(∃dt,∀c ∈ ds,yH dt c)/\∃d,iY B d w t (.agg #[.int .i64 k,.string x,.string y,.int .i64 n,vu,vz,.int .i64 a]):=by
 have h':=h;obtain ⟨u,k,x,y,n,vu,vz,a,rfl,hD,hM⟩:=h;obtain ⟨q1,q2⟩:=Ir hM;have q0:u.oneCell'=true:=by obtain ⟨oD,cD,rfl,_⟩:=bP hD;rfl
 exact ⟨u,k,x,y,n,vu,vz,a,rfl,⟨q0,q1,q2⟩,h',Ws hD,hM⟩
end Pz
theorem aar (s:ByteArray) (w:World) (hG:GW w):Calls Tryz.prog 6 #[.string s] w fun e w'=>e=.returned (.bool true)/\Below w.heap.size w w':=by
 by_cases hbig:20000<s.size
 ·have q0:decide ((s.size:Int) > 20000)=true:=decide_eq_true (by omega);have HW:=ae (Ip w hG.wl);clear hG hbig;go_enter Tryz.func6,Tryz.ntmps6;go_wp2_with fail;refine Calls.mono (show Calls _ _ _ _ _ from HW.out) ?_;rintro e u ⟨rfl,hb⟩;have HB:=ae hb;clear hb;go_wp2;go_ret;exact ⟨rfl,HB.out⟩
 ·have q0:decide ((s.size:Int) > 20000)=false:=decide_eq_false (by omega);have HP:=ae (Iq s w hG.wl);have Ch:=ae (fun (u:World) (hb:Below w.heap.size w u)=>hG.on hb);clear hG hbig;go_enter Tryz.func6,Tryz.ntmps6;go_wp2_with fail;refine Calls.mono (show Calls _ _ _ _ _ from HP.out) ?_;rintro e u ⟨R,hS,hb,hR⟩;cases R with
  | error r =>
   obtain ⟨a,z⟩:=r;have hR':e=.returned (.tuple #[.agg dw,.int .i64 a,.int .i64 z]):=hR;subst hR';obtain ⟨hz,ha0,ha1⟩:=hS.bad;have p1:(z != 0)=true:=bne_iff_ne.2 hz;have p2:decide (a>=0)=true:=decide_eq_true (by omega);have p3:decide (a<=(s.size:Int))=true:=decide_eq_true ha1;obtain ⟨W,hW,hth,hbk,hbw⟩:=fL u 29 dw dw rfl;have HW:=ae hW;have ay:=ae hth;have ai:=ae hbk;have bf:=ae (au hb hbw);have nE:=ae (aas W);have Ci:=ae (fun (u2:World) (hb2:Below w.heap.size w u2)=>Ip u2 (Ch.out u2 hb2).wl);have z0:=af ai.out 0 _ rfl;have z1:=af ai.out 1 _ rfl;have z2:=af ai.out 2 _ rfl;have z3:=af ai.out 3 _ rfl;have z4:=af ai.out 4 _ rfl;have z5:=af ai.out 5 _ rfl;have z6:=af ai.out 6 _ rfl;have z7:=af ai.out 7 _ rfl;clear hW hth hbk hbw hb hS hR hz ha0 ha1 HP Ch;go_wp2_with (refine wpList_store_mid rfl 29 (.tmp 3) (.tmp 13) rfl u.heap.size 0 dw rfl rfl ay.out pW (by simp [Value.oneCell']) ?_;rw [HW.out]);refine Calls.mono (show Calls _ _ _ _ _ from nE.out) ?_;rintro e w2 ⟨rfl,hb2⟩;have HB2:=ae (au bf.out hb2);have QY:=ae (Ci.out w2 HB2.out);clear hb2 nE Ci bf HW ay ai z0 z1 z2 z3 z4 z5 z6 z7;go_wp2_with fail;refine Calls.mono (show Calls _ _ _ _ _ from QY.out) ?_;rintro e w3 ⟨rfl,hb3⟩;have aT:=ae (au HB2.out hb3);clear hb3 QY HB2;go_wp2;go_ret;exact ⟨rfl,aT.out⟩
  | ok r =>
   obtain ⟨ds,t⟩:=r;obtain ⟨v,rfl,hpr⟩:=hR;obtain ⟨hall,hsd,uS⟩:=hS.all;obtain ⟨uD,k0,x0,y0,n0,vu,vz,a0,rfl,hone,hpr,⟨dt,JN⟩,d,hM⟩:=aaq hpr;obtain ⟨o0,o1,o2⟩:=hone;have hf:=hM.fit;obtain ⟨W,hW,hth,hbk,hbw⟩:=fL u 29 dw #[uD,.int .i64 k0,.string x0,.string y0,.int .i64 n0,vu,vz,.int .i64 a0] rfl;have HW:=ae hW;have ay:=ae hth;have ai:=ae hbk;have bf:=ae (au hb hbw);have QZ:=hpr.low (Nat.zero_le _);have q8:=ae (fun (u2:World) (hb2:Below u.heap.size u u2)=>QZ.pE (fun kk _ hl=>hb2.block kk hl));have Q0:=ae (aat ds t _ W (Ch.out W bf.out) (q8.out W hbw) hsd uS);have lM:=ae (fun (u2:World) (hb2:Below u.heap.size u u2)=>N8 d t uD vu vz k0 n0 a0 x0 y0 u2 ((hM.lo (Nat.zero_le _)).but (fun kk _ hl=>hb2.block kk hl)));have ic:=ae (fun (u2:World) (hb2:Below u.heap.size u u2)=>VJ d dt ds ds t t _ _ u2 hf JN (q8.out u2 hb2) (q8.out u2 hb2));rw [VN hf JN] at ic;have Ci:=ae (fun (u2:World) (hb2:Below w.heap.size w u2)=>Ip u2 (Ch.out u2 hb2).wl);have qb:=ae (fun d' hd'=>(hall d' hd').1);obtain ⟨_,hc1,hc2⟩:=hall d hf;obtain ⟨K,hK⟩:∃K:Int,K=((fS (d+1) 0 t:Nat):Int):=⟨_,rfl⟩;have p1:decide (K>=1)=true:=decide_eq_true (by omega);have p2:decide (K<=2048)=true:=decide_eq_true (by omega);rw [<- hK] at lM;have Q3:=ae hbw;have pU:=ae hb;have z0:=af ai.out 0 _ rfl;have z1:=af ai.out 1 _ rfl;have z2:=af ai.out 2 _ rfl;have z3:=af ai.out 3 _ rfl;have z4:=af ai.out 4 _ rfl;have z5:=af ai.out 5 _ rfl;have z6:=af ai.out 6 _ rfl;have z7:=af ai.out 7 _ rfl;clear hW hth hbk hbw hb hS HP Ch hall hsd uS hpr QZ hM hf JN hc1 hc2 hK q8;go_wp2_with (refine wpList_store_mid rfl 29 (.tmp 3) (.tmp 13) rfl u.heap.size 0 #[uD,.int .i64 k0,.string x0,.string y0,.int .i64 n0,vu,vz,.int .i64 a0] rfl rfl ay.out pW (by simp [Value.oneCell'] at o0 o1 o2 ⊢;exact ⟨o0,o1,o2⟩) ?_;rw [HW.out]);refine Calls.mono (show Calls _ _ _ _ _ from Q0.out) ?_;rintro e w2 ⟨⟨d',hd',rfl⟩,hb2⟩;rw [qb.out d' hd'];have HB2:=ae (au Q3.out hb2);have hx:=(hb2.block _ (Array.getElem?_eq_some_iff.1 ai.out).1).trans ai.out;have HX:=ae hx;have Q4:=ae (lM.out w2 HB2.out);clear hb2 Q0 qb hd' hx bf Q3 HW ay ai z0 z1 z2 z3 z4 z5 z6 z7;have z0:=af HX.out 0 _ rfl;have z1:=af HX.out 1 _ rfl;have z2:=af HX.out 2 _ rfl;have z3:=af HX.out 3 _ rfl;have z4:=af HX.out 4 _ rfl;have z5:=af HX.out 5 _ rfl;have z6:=af HX.out 6 _ rfl;have z7:=af HX.out 7 _ rfl;go_wp2_with fail;refine Calls.mono (show Calls _ _ _ _ _ from Q4.out) ?_;rintro e w3 ⟨rfl,hb3⟩;have aT:=ae (au HB2.out hb3);have bR:=ae ((hb3.block _ (Array.getElem?_eq_some_iff.1 HX.out).1).trans HX.out);have Q5:=ae (lM.out w3 aT.out);clear hb3 Q4 lM HB2 HX z0 z1 z2 z3 z4 z5 z6 z7;have z0:=af bR.out 0 _ rfl;have z1:=af bR.out 1 _ rfl;have z2:=af bR.out 2 _ rfl;have z3:=af bR.out 3 _ rfl;have z4:=af bR.out 4 _ rfl;have z5:=af bR.out 5 _ rfl;have z6:=af bR.out 6 _ rfl;have z7:=af bR.out 7 _ rfl;go_wp2_with fail;refine Calls.mono (show Calls _ _ _ _ _ from Q5.out) ?_;rintro e w4 ⟨rfl,hb4⟩;have dR:=ae (au aT.out hb4);have jq:=ae ((hb4.block _ (Array.getElem?_eq_some_iff.1 bR.out).1).trans bR.out);have Q6:=ae (ic.out w4 dR.out);clear hb4 Q5 aT bR ic z0 z1 z2 z3 z4 z5 z6 z7;have z0:=af jq.out 0 _ rfl;have z1:=af jq.out 1 _ rfl;have z2:=af jq.out 2 _ rfl;have z3:=af jq.out 3 _ rfl;have z4:=af jq.out 4 _ rfl;have z5:=af jq.out 5 _ rfl;have z6:=af jq.out 6 _ rfl;have z7:=af jq.out 7 _ rfl;go_wp2_with fail;refine Calls.mono (show Calls _ _ _ _ _ from Q6.out) ?_;rintro e w5 ⟨rfl,hb5⟩;have ed:=ae (au pU.out (au dR.out hb5));have Q7:=ae (Ci.out w5 ed.out);clear hb5 Q6 Ci dR jq z0 z1 z2 z3 z4 z5 z6 z7;go_wp2_with fail;refine Calls.mono (show Calls _ _ _ _ _ from Q7.out) ?_;rintro e w6 ⟨rfl,gp⟩;have rf:=ae (au ed.out gp);clear gp Q7 ed;go_wp2;go_ret;exact ⟨rfl,rf.out⟩
end Go.Proofs.YtpaefhceiliaiaaGreatDoor
namespace Go.Proofs.YtpaefhceiliaiaaGreatDoor
open Go.RowKit Lx
set_option linter.unusedVariables false
theorem own:ownKnob Tryz.prog.godebug=none:=by kernel_rfl
theorem RQ : Tryz.prog.globalNamed "athanor/lex.keyWords" = some 1 := by kernel_rfl
theorem RS : Tryz.prog.globalNamed "athanor/lex.signs" = some 2 := by kernel_rfl
theorem abn:(Tryz.prog.globals[1]?).map (·.type)=some 134:=by kernel_rfl
theorem abo:(Tryz.prog.globals[2]?).map (·.type)=some 135:=by kernel_rfl
theorem abp:Tryz.prog.cellsOf 134=12:=by kernel_rfl
theorem abq:Tryz.prog.cellsOf 135=14:=by kernel_rfl
theorem Kb:Tryz.prog.cellsOf 9=1:=by kernel_rfl
theorem Ka {H:Type} {enc:TypeId × Value->H} {P:Program} {w:World} {base:Nat} {sp:Nat->Bool} {held:Bool} {fuel:Nat} {t e:TypeId} {n:Nat} {cs:List Value} {zs:List ByteArray} {p:List MemPlace}
  (ht:P.underlying t=some (.array n e)) (he:P.underlying e=some .string) (hce:P.cellsOf e=1) (hct:P.cellsOf t=n)
  (h:DataW.trod enc P w base sp held fuel t cs=some (.agg (zs.map fun z=>.lit (.string z.data.toList)),p)):cs=zs.map fun z=>Value.string z:=by
 cases fuel with
 | zero=>simp [DataW.trod] at h
 | succ fuel =>
  simp only [DataW.trod,ht,hce,hct,Nat.mul_one] at h;split at h
  ·rename_i hl;obtain ⟨xs,hm,hx⟩:=Option.map_eq_some_iff.1 h
   have hxs:xs.map (·.1)=zs.map fun z=>(DataW.lit (.string z.data.toList):DataW H):=by
    have:=congrArg Prod.fst hx
    simpa using this
   have hxl:xs.length=n:=by simpa using Lib.mapM_length hm
   have hzl:zs.length=n:=by
    have:=congrArg List.length hxs
    simp at this;omega
   apply List.ext_getElem?;intro i;by_cases hi:i<n
   ·obtain ⟨b,hb,hf⟩:=Lib.mapM_at hm i i (by simp [hi]);obtain ⟨z,hc,rfl,_⟩:=DataW.trod_string he hf
    have h1:cs[i]?=some (.string z):=by
     have:=congrArg (·[0]?) hc
     simpa [List.getElem?_take,List.getElem?_drop] using this
    have h2:(xs.map (·.1))[i]?=some (DataW.lit (.string z.data.toList):DataW H):=by simp [hb]
    rw [hxs] at h2;simp only [List.getElem?_map,Option.map_eq_some_iff,DataW.lit.injEq,Lit.string.injEq] at h2;obtain ⟨z',hz',h3⟩:=h2;obtain rfl:z'=z:=ByteArray.ext (Array.toList_inj.1 h3);simp [h1,hz']
   ·rw [List.getElem?_eq_none (by omega),List.getElem?_eq_none (by simp;omega)]
  ·cases h
theorem abl:(Rows.laid_athanor_lex_keyWords:DataW Unit)=.agg (keys.map fun z=>.lit (.string z.data.toList)):=by kernel_rfl
theorem abm:(Rows.laid_athanor_lex_signs:DataW Unit)=.agg (signs.map fun z=>.lit (.string z.data.toList)):=by kernel_rfl
theorem RU {W:World} {g:Nat} {cs:Array Value} {l:List ByteArray} (h:∀k,W.cell? ⟨g,k,none⟩=cs[k]?) (hc:cs.toList=l.map fun z=>Value.string z):W.rangeAt g 0 (l.map Value.string):=fun j v hv=>by
 rw [Nat.zero_add,h j,<- Array.getElem?_toList,hc];exact hv
noncomputable def adx (os:Os):World :=
 { World.holding Tryz.prog os ⟨#[],#[],[]⟩ with heap:=((World.holding Tryz.prog os ⟨#[],#[],[]⟩).heap.modify 1 fun | .cells _ t frozen=>.cells #[.string ⟨#[116,121,112,101]⟩,.string ⟨#[102,117,110]⟩,.string ⟨#[108,101,116]⟩,.string ⟨#[114,101,99]⟩,.string ⟨#[105,110]⟩,.string ⟨#[99,97,115,101]⟩,.string ⟨#[111,102]⟩,.string ⟨#[101,110,100]⟩,.string ⟨#[105,102]⟩,.string ⟨#[116,104,101,110]⟩,.string ⟨#[101,108,115,101]⟩,.string ⟨#[112,114,105,110,116]⟩] t frozen|o=>o).modify 2 fun | .cells _ t frozen=>.cells #[.string ⟨#[45,62]⟩,.string ⟨#[61,61]⟩,.string ⟨#[124]⟩,.string ⟨#[61]⟩,.string ⟨#[40]⟩,.string ⟨#[41]⟩,.string ⟨#[59]⟩,.string ⟨#[43]⟩,.string ⟨#[45]⟩,.string ⟨#[42]⟩,.string ⟨#[47]⟩,.string ⟨#[37]⟩,.string ⟨#[60]⟩,.string ⟨#[95]⟩] t frozen|o=>o }
end Go.Proofs.YtpaefhceiliaiaaGreatDoor
namespace Go.Proofs.YtpaefhceiliaiaaGreatDoor
open Go.RowKit Lx bB Pz
open Go.WideShapes Go.ChangeShapes Go.ChangeAt
set_option linter.unusedVariables false
theorem aaZ : Tryz.prog.globalNamed "internal/strconv.uint64pow10" = some 9 := by kernel_rfl
theorem aa0:(Tryz.prog.globals[9]?).map (·.type)=some 224:=by kernel_rfl
theorem aa1:(Rows.laid_internal_strconv_uint64pow10:DataW Unit)=Lib.tabData .u64 Lib.pow10Tab:=by kernel_rfl
theorem RH : Tryz.prog.globalNamed "athanor/ints.words" = some 4 := by kernel_rfl
theorem aa2:(Tryz.prog.globals[4]?).map (·.type)=some 167:=by kernel_rfl
theorem aa3:Tryz.prog.cellsOf 167=8:=by kernel_rfl
theorem aa4:(Rows.laid_athanor_ints_words:DataW Unit)=.agg (Ints.qV.map fun z=>.lit (.string z.data.toList)):=by kernel_rfl
theorem RI : Tryz.prog.globalNamed "athanor/parse.typeShapes" = some 5 := by kernel_rfl
theorem aa5:(Tryz.prog.globals[5]?).map (·.type)=some 154:=by kernel_rfl
theorem RJ : Tryz.prog.globalNamed "athanor/parse.patShapes" = some 3 := by kernel_rfl
theorem aa6:(Tryz.prog.globals[3]?).map (·.type)=some 154:=by kernel_rfl
theorem RL : Tryz.prog.globalNamed "athanor/parse.exprShapes" = some 0 := by kernel_rfl
theorem aa7:(Tryz.prog.globals[0]?).map (·.type)=some 115:=by kernel_rfl
theorem aa8:Tryz.prog.cellsOf 114=4:=by kernel_rfl
theorem J6:Tryz.prog.cellsOf 3=1:=by kernel_rfl
theorem aa9:Tryz.prog.cellsOf 4=1:=by kernel_rfl
namespace Pz
abbrev Sh:=Int × Int × Bool × Int
def wy (s:Sh):List Value:=iS s.1 s.2.1 s.2.2.1 s.2.2.2
def xY {H:Type} (s:Sh):DataW H:=.agg [.lit (.int .i64 s.1),.lit (.int .i64 s.2.1),.lit (.bool s.2.2.1),.lit (.int .i64 s.2.2.2)]
def RN:List Sh:=[(0,0,false,0),(0,0,false,0),(3,0,false,0),(0,0,false,2),(1,0,false,-1)]
def RO:List Sh:=[(0,0,false,0),(0,0,false,0),(1,0,false,0),(0,0,true,0),(2,0,false,-1)]
def RP:List Sh:=[(0,0,false,0),(1,0,false,0),(0,0,true,0),(1,0,false,1),(0,0,false,2),(1,0,false,2),(1,1,false,2),(0,0,false,-2),(2,0,false,-1),(6,0,false,2),(0,0,false,1)]
theorem aba:(Rows.laid_athanor_parse_typeShapes:DataW Unit)=.agg (RN.map xY):=by kernel_rfl
theorem abb:(Rows.laid_athanor_parse_patShapes:DataW Unit)=.agg (RO.map xY):=by kernel_rfl
theorem abd:(Rows.laid_athanor_parse_exprShapes:DataW Unit)=.agg (RP.map xY):=by kernel_rfl
section
variable {H:Type} {enc:TypeId × Value->H} {w:World} {base:Nat} {sp:Nat->Bool} {held:Bool} {fuel:Nat} {P:Program}
theorem J7 {t:TypeId} {cs:List Value} {o:Nat} {y:DataW H × List MemPlace} {a:Int} (ht:P.underlying t=some (.int .i64)) (hc:P.cellsOf t=1) (h:DataW.trod enc P w base sp held fuel t ((cs.drop o).take (P.cellsOf t))=some y) (hy:y.1=.lit (.int .i64 a)):cs[o]?=some (.int .i64 a):=by
 obtain ⟨n,h1,h2,_⟩:=DataW.trod_int ht h;rw [h2] at hy;simp only [DataW.lit.injEq,Lit.int.injEq,true_and] at hy;subst hy;rw [hc] at h1
 have:=congrArg (·[0]?) h1
 simpa [List.getElem?_take,List.getElem?_drop] using this
theorem abe {t:TypeId} {cs:List Value} {o:Nat} {y:DataW H × List MemPlace} {a:Bool} (ht:P.underlying t=some .bool) (hc:P.cellsOf t=1) (h:DataW.trod enc P w base sp held fuel t ((cs.drop o).take (P.cellsOf t))=some y) (hy:y.1=.lit (.bool a)):cs[o]?=some (.bool a):=by
 obtain ⟨n,h1,h2⟩:=DataW.trod_bool ht h;rw [h2] at hy;simp only [DataW.lit.injEq,Lit.bool.injEq] at hy;subst hy;rw [hc] at h1
 have:=congrArg (·[0]?) h1
 simpa [List.getElem?_take,List.getElem?_drop] using this
theorem abf {t e:TypeId} {n k:Nat} {cs:List Value} {D:List (DataW H)} {p:List MemPlace} (ht:P.underlying t=some (.array n e)) (hce:P.cellsOf e=k) (h:DataW.trod enc P w base sp held fuel t cs=some (.agg D,p)) (i:Nat) (x:DataW H) (hx:D[i]?=some x):∃f q,DataW.trod enc P w base sp held f e ((cs.drop (i*k)).take k)=some (x,q):=by
 cases fuel with
 | zero=>simp [DataW.trod] at h
 | succ fuel =>
  simp only [DataW.trod,ht,hce] at h;split at h
  ·obtain ⟨xs,hm,hx'⟩:=Option.map_eq_some_iff.1 h
   have hxs:xs.map (·.1)=D:=by
    have:=congrArg Prod.fst hx'
    simpa using this
   have hxl:xs.length=n:=by simpa using Lib.mapM_length hm
   have hi:i<n:=by
    have h1:=(List.getElem?_eq_some_iff.1 hx).1;rw [<- hxs] at h1;simpa [hxl] using h1
   obtain ⟨b,hb,hf⟩:=Lib.mapM_at hm i i (by simp [hi]);have h2:(xs.map (·.1))[i]?=some b.1:=by simp [hb]
   rw [hxs,hx] at h2;injection h2 with h2;exact ⟨fuel,b.2,by rw [h2];exact hf⟩
  ·cases h
theorem flat_get {cs:List Value}:∀(S:List Sh) (o:Nat),(∀i s,S[i]?=some s->∀j v,(wy s)[j]?=some v->cs[o+i*4+j]?=some v)->∀j v,(S.flatMap wy)[j]?=some v->cs[o+j]?=some v
 | [],o,h,j,v,hv=>by cases hv
 | s :: S,o,h,j,v,hv=>by
  rw [List.flatMap_cons] at hv;have hl:(wy s).length=4:=rfl;rcases Nat.lt_or_ge j 4 with hj|hj
  ·rw [List.getElem?_append_left (by omega)] at hv
   have:=h 0 s rfl j v hv
   simpa using this
  ·rw [List.getElem?_append_right (by omega),hl] at hv
   have:=flat_get S (o+4) (fun i s' hs' j' v' hv'=>by
    have:=h (i+1) s' (by simpa using hs') j' v' hv'
    rw [show o+4+i*4+j'=o+(i+1)*4+j' by omega];exact this) (j-4) v hv
   rw [show o+j=o+4+(j-4) by omega];exact this
end
theorem abg {H:Type} {enc:TypeId × Value->H} {w:World} {base:Nat} {sp:Nat->Bool} {held:Bool} {fuel:Nat} {cs:List Value} {s:Sh} {p:List MemPlace} (h:DataW.trod enc Tryz.prog w base sp held fuel 114 cs=some (xY s,p)):∀(j:Nat) (v:Value),(wy s)[j]?=some v->cs[j]?=some v:=by
 obtain ⟨xs,m,_,hx,hl,hxl,hall⟩:=DataW.trod_struct Tryz.underlying114 h
 have hxs:xs.map (·.1) = [.lit (.int .i64 s.1),.lit (.int .i64 s.2.1),.lit (.bool s.2.2.1),.lit (.int .i64 s.2.2.2)]:=by
  have:=congrArg Prod.fst hx
  unfold xY at this;simp only [DataW.agg.injEq] at this;exact this.symm
 obtain ⟨y0,y1,y2,y3,rfl⟩:∃y0 y1 y2 y3,xs = [y0,y1,y2,y3]:=by
  match xs,hxl with
  | [y0,y1,y2,y3],_=>exact ⟨y0,y1,y2,y3,rfl⟩
 simp only [List.map_cons,List.map_nil,List.cons.injEq,and_true] at hxs;obtain ⟨e0,e1,e2,e3⟩:=hxs;have c0:=J7 Tryz.underlying3 J6 (hall 0 _ rfl) e0;have c1:=J7 Tryz.underlying3 J6 (hall 1 _ rfl) e1;have c2:=abe Tryz.underlying4 aa9 (hall 2 _ rfl) e2;have c3:=J7 Tryz.underlying3 J6 (hall 3 _ rfl) e3;intro j v hv
 match j,hv with
 | 0,hv=>injection hv with hv;subst hv;exact c0
 | 1,hv=>injection hv with hv;subst hv;exact c1
 | 2,hv=>injection hv with hv;subst hv;exact c2
 | 3,hv=>injection hv with hv;subst hv;exact c3
theorem J8 {W:World} {g n:Nat} {t:TypeId} {J9:Array Value} {S:List Sh} {H:Type} {enc:TypeId × Value->H} {base:Nat} {sp:Nat->Bool} {held:Bool} {fuel:Nat} {p:List MemPlace} (ht:Tryz.prog.underlying t=some (.array n 114)) (hc:∀k,W.cell? ⟨g,k,none⟩=J9[k]?) (h:DataW.trod enc Tryz.prog W base sp held fuel t J9.toList=some (.agg (S.map xY),p)):∀(j:Nat) (v:Value),(S.flatMap wy)[j]?=some v->W.cell? ⟨g,j,none⟩=some v:=by
 intro j v hv
 have h1:=flat_get (cs:=J9.toList) S 0 (fun i s hs j' v' hv'=>by
  obtain ⟨f,q,hf⟩:=abf ht aa8 h i (xY s) (by rw [List.getElem?_map,hs];rfl);have h2:=abg hf j' v' hv';have hl:j'<4:=(List.getElem?_eq_some_iff.1 hv').1;rw [List.getElem?_take,if_pos hl,List.getElem?_drop] at h2;rw [Nat.zero_add];exact h2) j v hv
 rw [Nat.zero_add,Array.getElem?_toList] at h1;rw [hc j];exact h1
theorem abh:MV=RN.flatMap wy:=rfl
theorem abj:MW=RO.flatMap wy:=rfl
theorem abk:MX=RP.flatMap wy:=rfl
end Pz
abbrev Fe : List (String × DataW Unit) := [("math/bits.deBruijn32tab", Rows.laid_math_bits_deBruijn32tab), ("math/bits.deBruijn64tab", Rows.laid_math_bits_deBruijn64tab), ("athanor/ints.words", Rows.laid_athanor_ints_words), ("internal/strconv.uint64pow10", Rows.laid_internal_strconv_uint64pow10), ("unicode/utf8.acceptRanges", Rows.laid_unicode_utf8_acceptRanges), ("athanor/lex.keyWords", Rows.laid_athanor_lex_keyWords), ("athanor/lex.signs", Rows.laid_athanor_lex_signs), ("athanor/parse.typeShapes", Rows.laid_athanor_parse_typeShapes), ("athanor/parse.patShapes", Rows.laid_athanor_parse_patShapes), ("athanor/parse.exprShapes", Rows.laid_athanor_parse_exprShapes), ("unicode/utf8.first", Rows.laid_unicode_utf8_first)]
theorem aaw {W:World} (hL:laidMetH Tryz.prog Fe W):GW W:=by
 have hM:laidMet Tryz.prog Fe W:=hL;obtain h2:=Lib.laidMet.reads hM (.tail _ (.tail _ (.head _)));obtain h5:=Lib.laidMet.reads hM (.tail _ (.tail _ (.tail _ (.head _))));obtain h0:=Lib.laidMet.reads hM (.tail _ (.tail _ (.tail _ (.tail _ (.tail _ (.head _))))));obtain h1:=Lib.laidMet.reads hM (.tail _ (.tail _ (.tail _ (.tail _ (.tail _ (.tail _ (.head _)))))));obtain h7:=Lib.laidMet.reads hM (.tail _ (.tail _ (.tail _ (.tail _ (.tail _ (.tail _ (.tail _ (.head _))))))));obtain h8:=Lib.laidMet.reads hM (.tail _ (.tail _ (.tail _ (.tail _ (.tail _ (.tail _ (.tail _ (.tail _ (.head _)))))))));obtain h9:=Lib.laidMet.reads hM (.tail _ (.tail _ (.tail _ (.tail _ (.tail _ (.tail _ (.tail _ (.tail _ (.tail _ (.head _))))))))));rw [aa4] at h2;rw [aa1] at h5;rw [abl] at h0;rw [abm] at h1;rw [aba] at h7;rw [abb] at h8;rw [abd] at h9;obtain ⟨g2,t2,sG,f2,p2,hg2,ht2,hv2,hd2⟩:=h2;obtain ⟨g5,t5,cs5,f5,p5,hg5,ht5,jX,mg⟩:=h5;obtain ⟨g0,t0,cs0,f0,p0,hg0,ht0,hv0,hd0⟩:=h0;obtain ⟨g1,t1,cs1,f1,p1,hg1,ht1,hv1,hd1⟩:=h1;obtain ⟨g7,t7,cs7,f7,p7,hg7,ht7,jy,mK⟩:=h7;obtain ⟨g8,t8,EH,f8,p8,xm,ht8,Ea,tK⟩:=h8;obtain ⟨g9,t9,cs9,f9,p9,eO,ht9,bJ,hd9⟩:=h9;obtain rfl:=Option.some.inj (RH.symm.trans hg2);obtain rfl:=Option.some.inj (aa2.symm.trans ht2);obtain rfl:=Option.some.inj (aaZ.symm.trans hg5);obtain rfl:=Option.some.inj (aa0.symm.trans ht5);obtain rfl:=Option.some.inj (RQ.symm.trans hg0);obtain rfl:=Option.some.inj (abn.symm.trans ht0);obtain rfl:=Option.some.inj (RS.symm.trans hg1);obtain rfl:=Option.some.inj (abo.symm.trans ht1);obtain rfl:=Option.some.inj (RI.symm.trans hg7);obtain rfl:=Option.some.inj (aa5.symm.trans ht7);obtain rfl:=Option.some.inj (RJ.symm.trans xm);obtain rfl:=Option.some.inj (aa6.symm.trans ht8);obtain rfl:=Option.some.inj (RL.symm.trans eO);obtain rfl:=Option.some.inj (aa7.symm.trans ht9);refine ⟨⟨RU (fun k=>World.var?_cell RQ hv0 k) (Ka Tryz.underlying134 Tryz.underlying9 Kb abp hd0),RU (fun k=>World.var?_cell RS hv1 k) (Ka Tryz.underlying135 Tryz.underlying9 Kb abq hd1)⟩,?_,fun k hk=>?_,?_,?_,?_⟩
 ·show W.var? Tryz.prog "internal/strconv.uint64pow10" = _
  rw [jX,<- Lib.cells_of_tab Tryz.underlying224 Tryz.underlying214 (by kernel_rfl) (by kernel_rfl) mg]
 ·have hcs:=Ka Tryz.underlying167 Tryz.underlying9 Kb aa3 hd2;rw [World.var?_cell RH hv2 k,<- Array.getElem?_toList,hcs];have hk8:k<Ints.qV.length:=hk;simp [List.getD,hk8]
 ·rw [abh];exact J8 Tryz.underlying154 (fun k=>World.var?_cell RI jy k) mK
 ·rw [abj];exact J8 Tryz.underlying154 (fun k=>World.var?_cell RJ Ea k) tK
 ·rw [abk];exact J8 Tryz.underlying115 (fun k=>World.var?_cell RL bJ k) hd9
def abr:DataW Unit->Value
 | .lit (.int k n)=>.int k n
 | .lit (.string l)=>.string ⟨l.toArray⟩
 | .lit (.bool b)=>.bool b
 | _=>undef
def wz:DataW Unit->List Value
 | .agg l=>l.map abr
 | _=>[]
def Ff:DataW Unit->List Value
 | .agg l=>l.flatMap wz
 | _=>[]
noncomputable def JR (os:Os):World :=
 let w0:=World.holding Tryz.prog os ⟨#[],#[],[]⟩
 let put (h:Array Obj) (g:Nat) (cs:Array Value):Array Obj:=h.modify g fun
  | .cells _ t frozen=>.cells cs t frozen
  | o=>o
 let h1:=put w0.heap 1 (wz Rows.laid_athanor_lex_keyWords).toArray
 let h2:=put h1 2 (wz Rows.laid_athanor_lex_signs).toArray
 let h3:=put h2 7 (wz Rows.laid_unicode_utf8_first).toArray
 let h4:=put h3 8 (Ff Rows.laid_unicode_utf8_acceptRanges).toArray
 let h5:=put h4 9 (wz Rows.laid_internal_strconv_uint64pow10).toArray
 let h6:=put h5 10 (wz Rows.laid_math_bits_deBruijn32tab).toArray
 let h7:=put h6 11 (wz Rows.laid_math_bits_deBruijn64tab).toArray
 let h8:=put h7 4 (wz Rows.laid_athanor_ints_words).toArray
 let h9:=put h8 5 (Ff Rows.laid_athanor_parse_typeShapes).toArray
 let h10:=put h9 3 (Ff Rows.laid_athanor_parse_patShapes).toArray
 let h11:=put h10 0 (Ff Rows.laid_athanor_parse_exprShapes).toArray
 { w0 with heap:=h11 }
theorem aax (os:Os) (args:Array Value):laidMet Tryz.prog Fe ((JR os).forCall (fun _ _=>0) ⟨#[],args,[]⟩).memory :=
 (LaidIn.of_run (l:=Fe) [10,11,4,9,8,1,2,5,3,0,7] 8 (by kernel_rfl) (by kernel_rfl) (by kernel_rfl) (by kernel_rfl)).met
end Go.Proofs.YtpaefhceiliaiaaGreatDoor
