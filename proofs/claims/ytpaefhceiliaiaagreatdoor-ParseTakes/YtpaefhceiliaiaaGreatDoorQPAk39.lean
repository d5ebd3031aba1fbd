/- Texts that the claim needs. -/
import Derived.Test.YtpaefhceiliaiaaGreatDoorQPAk37
import Derived.Test.YtpaefhceiliaiaaGreatDoorQPAk38
namespace Go.Proofs.YtpaefhceiliaiaaGreatDoor
open Go.RowKit Lx Pz bB
set_option linter.unusedVariables false
set_option maxRecDepth 100000
set_option maxHeartbeats 8000000
namespace Pz
def FQ:Nat->Value->Prop
 | 0,_=>True
 | m+1,t=>(gm t).length<=2048/\∀x ∈ dc t,FQ m x
theorem SR {f:Nat->Value->Nat} (hf:∀c t,c+1<=f c t):∀(l:List Value) (c:Nat),dB f c l<=2048->c+l.length<=dB f c l
 | [],c,_=>Nat.le_refl _
 | t :: l,c,h=>by
  unfold dB at h ⊢;by_cases hc:2048<c
  ·rw [if_pos hc] at h;omega
  ·rw [if_neg hc] at h ⊢;have h1:=hf c t;have h2:=SR hf l _ h;rw [List.length_cons];omega
theorem CE {f:Nat->Value->Nat} (hf:∀c t,c+1<=f c t) (l:List Value) (c:Nat):c<=dB f c l:=by
 induction l generalizing c with
 | nil=>exact Nat.le_refl _
 | cons t l ih =>
  unfold dB;split
  ·exact Nat.le_refl _
  ·have:=hf c t;have:=ih (f c t);omega
theorem FR:∀(d c:Nat) (t:Value),c+1<=fG d c t
 | 0,c,t=>Nat.le_refl _
 | d+1,c,t=>by unfold fG;exact CE (FR d) _ _
theorem Hw:∀(d c:Nat) (t:Value),c+1<=fS d c t
 | 0,c,t=>Nat.le_refl _
 | d+1,c,t=>by unfold fS;exact Nat.le_trans (CE (Hw d) _ _) (CE (FR d) _ _)
theorem SS {f:Nat->Value->Nat} (hf:∀c t,c+1<=f c t):∀(l:List Value) (c:Nat),dB f c l<=2048->∀x ∈ l,∃c',f c' x<=2048
 | [],c,_,x,hx=>by cases hx
 | t :: l,c,h,x,hx=>by
  unfold dB at h;by_cases hc:2048<c
  ·rw [if_pos hc] at h;omega
  ·rw [if_neg hc] at h;rcases List.mem_cons.1 hx with rfl|hx
   ·exact ⟨c,Nat.le_trans (CE hf l _) h⟩
   ·exact SS hf l _ h x hx
theorem SU:∀(m d c:Nat) (t:Value),fit d t->fS (d+1) c t<=2048->FQ m t
 | 0,d,c,t,hf,h=>trivial
 | m+1,d,c,t,hf,h=>by
  have h':dB (fG d) (dB (fS d) (c+1) (dc t)) (gm t)<=2048:=h;have h1:=SR (FR d) _ _ h';refine ⟨by omega,fun x hx=>?_⟩;have h2:dB (fS d) (c+1) (dc t)<=2048:=Nat.le_trans (CE (FR d) _ _) h';obtain ⟨c',hc'⟩:=SS (Hw d) _ _ h2 x hx;cases d with
  | zero=>rw [hf.2.1] at hx;cases hx
  | succ d=>exact SU m d c' x (hf.2.1 x hx) hc'
theorem acA {d:Nat} {ds:List Value} {t:Value} (hf:fit d t) (h:jb d ds t=false) (m:Nat):FQ m t:=by
 unfold jb at h;rw [Bool.or_eq_false_iff,Bool.or_eq_false_iff,decide_eq_false_iff_not,decide_eq_false_iff_not] at h;exact SU m d 0 t hf (by omega)
theorem acB {n:Nat} (h:n<=2048):wrap64 ((n:Int)+1)=(n:Int)+1:=by unfold wrap64;omega
end Pz
theorem acC (m:Nat) (t v:Value) (w:World) (hG:GW w) (h:gS 0 t v w) (hd:ow m t=false) (hs:Hu m t):Calls Tryz.prog 87 #[v] w fun e w'=>e=.returned (.bool (pI m t))/\Below w.heap.size w w':=by
 obtain ⟨x,ts,u,rfl,rfl,d,hr⟩:=h;obtain ⟨oR,cR,rfl,_⟩:=bP hr;have hb:=bO w (.cells #[.string x,.slice oR ts.length cR] 76);have HB:=ae hb;have HX:=ae (heap_alloc_new w (.cells #[.string x,.slice oR ts.length cR] 76));have HN:=ae (AA 2 x _ (hG.on hb) hs.1);have HT:=ae (fun (u:World) (hu:Below w.heap.size w u)=>Pq (lQ m) ts (.slice oR ts.length cR) u d (hr.imp (fun b o t _ ht=>dN.but (fun kk _ hl=>hu.block kk hl) _ b o t ht)) (fun t v w' hm ho hw'=>Pp m t v w' ((hG.on hu).on hw') ho (mI (f:=jd m) (l:=ts) hd hm) (hs.2 t hm)));have HR:Hid ((cA 2 x && ts.all (lQ m))=pI m (lX x ts)):=ae rfl;generalize pI m (lX x ts)=R at *;generalize cA 2 x=N at *;generalize ts.all (lQ m)=A at *;clear hr hb hG hd hs;go_enter Tryz.func87,Tryz.ntmps87;go_wp2_with fail;refine Calls.mono (show Calls _ _ _ _ _ from HN.out) ?_;rintro e w1 ⟨rfl,hb1⟩;have HB1:=ae (au HB.out hb1);have hx1:=(hb1.block _ (Array.getElem?_eq_some_iff.1 HX.out).1).trans HX.out;have y1:=af hx1 1 _ rfl;have yh:=ae (HT.out w1 HB1.out);clear hb1 hx1 HN HT HX HB;cases N with
 | false =>
  have HS:Hid (false=R):=ae (by rw [<- HR.out];rfl);clear HR yh;go_wp2;go_ret;exact ⟨aC HS.out,HB1.out⟩
 | true =>
  have HS:Hid (A=R):=ae (by rw [<- HR.out];rfl);clear HR;go_wp2_with fail;refine Calls.mono (show Calls _ _ _ _ _ from yh.out) ?_;rintro e w2 ⟨rfl,hb2⟩;have HB2:=ae (au HB1.out hb2);clear hb2 yh HB1 y1;go_wp2;go_ret;exact ⟨aC HS.out,HB2.out⟩
theorem acD (m:Nat) (t v:Value) (w:World) (hG:GW w) (h:il 0 t v w) (hd:rM m t=false) (hs:DN m t):Calls Tryz.prog 39 #[v] w fun e w'=>e=.returned (.bool (pJ m t))/\Below w.heap.size w w':=by
 obtain ⟨x,ps,cs,a,u,z,rfl,rfl,hps,hcs⟩:=h;obtain ⟨oP,cP,rfl,_⟩:=bP hps;obtain ⟨oC,cC,rfl,_⟩:=bP hcs;rw [List.length_map];have hb:=bO w (.cells #[.string x,.slice oP ps.length cP,.slice oC cs.length cC,.int .i64 a] 62);have HB:=ae hb;have HX:=ae (heap_alloc_new w (.cells #[.string x,.slice oP ps.length cP,.slice oC cs.length cC,.int .i64 a] 62));have HN:=ae (AA 1 x _ (hG.on hb) hs.1);have HP:=ae (fun (u:World) (hu:Below w.heap.size w u)=>acE (cA 3) ps (.slice oP ps.length cP) u (by have:=hps;rw [List.length_map] at this;exact kQ.on (C:=0) (B:=0) this (fun kk _ hl=>hu.block kk hl) (Nat.le_refl _)) (fun y w' hm hw'=>Vr y w' ((hG.on hu).on hw') (hs.2.1 _ (List.mem_map.2 ⟨y,hm,rfl⟩))));have HC:=ae (fun (u:World) (hu:Below w.heap.size w u)=>acF (pI m) cs (.slice oC cs.length cC) u (qI.on (C:=0) (B:=0) hcs (fun kk _ hl=>hu.block kk hl) (Nat.le_refl _)) (fun t v w' hm ho hw'=>acC m t v w' ((hG.on hu).on hw') ho (mI (f:=ow m) (l:=cs) hd hm) (hs.2.2 t hm)))
 have HR:Hid ((cA 1 x && (ps.all (cA 3) && (decide (0<cs.length) && cs.all (pI m))))=pJ m (lG x ps cs a)):=ae (by
  show _=(cA 1 x && ((ps.map Value.string).all (fun p=>cA 3 (sH p)) && _));rw [List.all_map];rfl)
 have e1:=oZ (n:=cs.length) (m:=0);rw [<- e1] at HR;generalize pJ m (lG x ps cs a)=R at *;generalize cA 1 x=N at *;generalize ps.all (cA 3)=A at *;generalize cs.all (pI m)=C at *;have hl0:((0:Nat):Int)=0:=rfl;rw [hl0] at HR;clear hps hcs hb hG hd hs e1 hl0;go_enter Tryz.func39,Tryz.ntmps39;go_wp2_with fail;refine Calls.mono (show Calls _ _ _ _ _ from HN.out) ?_;rintro e w1 ⟨rfl,hb1⟩;have HB1:=ae (au HB.out hb1);have hx1:=(hb1.block _ (Array.getElem?_eq_some_iff.1 HX.out).1).trans HX.out;have bz:=ae hx1;have y1:=af hx1 1 _ rfl;have jK:=ae (HP.out w1 HB1.out);clear hb1 hx1 HN HP HX HB;cases N with
 | false =>
  have HS:Hid (false=R):=ae (by rw [<- HR.out];rfl);clear HR jK HC;go_wp2;go_ret;exact ⟨aC HS.out,HB1.out⟩
 | true =>
  have hR:=HR.out;rw [Bool.true_and] at hR;have HR2:=ae hR;clear hR HR;go_wp2_with fail;refine Calls.mono (show Calls _ _ _ _ _ from jK.out) ?_;rintro e w2 ⟨rfl,hb2⟩;have HB2:=ae (au HB1.out hb2);have hx2:=(hb2.block _ (Array.getElem?_eq_some_iff.1 bz.out).1).trans bz.out;have y2:=af hx2 2 _ rfl;have uN:=ae (HC.out w2 HB2.out);clear hb2 hx2 jK HC bz HB1 y1;cases A with
  | false =>
   have HS:Hid (false=R):=ae (by rw [<- HR2.out];rfl);clear HR2 uN;go_wp2;go_ret;exact ⟨aC HS.out,HB2.out⟩
  | true =>
   cases q:decide ((cs.length:Int) > 0) with
   | false =>
    have hq:¬ 0<cs.length:=by have:=of_decide_eq_false q;omega
    have HS:Hid (false=R):=ae (by rw [<- HR2.out,q];rfl);clear HR2 uN;go_wp2;go_ret;exact ⟨aC HS.out,HB2.out⟩
   | true =>
    have hq:0<cs.length:=by have:=of_decide_eq_true q;omega
    have HS:Hid (C=R):=ae (by rw [<- HR2.out,q];rfl);clear HR2;go_wp2_with fail;refine Calls.mono (show Calls _ _ _ _ _ from uN.out) ?_;rintro e w3 ⟨rfl,hb3⟩;have aT:=ae (au HB2.out hb3);clear hb3 uN HB2 y2 q hq;go_wp2;go_ret;exact ⟨aC HS.out,aT.out⟩
namespace Pz
theorem FU:(Tryz.prog.info? 114).map (·.size)=some 4:=by kernel_rfl
abbrev zSh:Array Value:=#[.int .i64 0,.int .i64 0,.bool false,.int .i64 0]
theorem acG {k:Int} (hk:k=1\/k=2\/k=3\/k=4\/k=5\/k=6\/k=7\/k=8\/k=9\/k=10):(zb k == -2)=(k == 7):=by
 rcases hk with rfl|rfl|rfl|rfl|rfl|rfl|rfl|rfl|rfl|rfl<;>rfl
end Pz
theorem SV:∀(m:Nat) (t v:Value) (w:World),GW w->aU 0 t v w->kM m t=false->AY m t->FQ m t->Calls Tryz.prog 40 #[v] w fun e w'=>e=.returned (.bool (mr m t))/\Below w.heap.size w w'
 | 0,t,v,w,hG,h,hd,hs,hl=>by cases hd
 | m+1,t,v,w,hG,h,hdp,hs,hl=>by
  have ih:=SV m;obtain ⟨d,k,x,y,n,es,ps,a,u,z,rfl,rfl,hrow,CF⟩:=h;obtain ⟨oR,cR,rfl,hel⟩:=bP hrow;obtain ⟨oP,cP,rfl,yM⟩:=bP CF;have zD:(es.any (kM m) || gM m ps)=false:=hdp;rw [Bool.or_eq_false_iff] at zD;obtain ⟨hx,hy,hn,hsa,hsp⟩:=hs;rw [I1] at hx;rw [abO] at hy;rw [I2] at hn;rw [uq] at hsa;rw [Df] at hsp;obtain ⟨hlp,hla⟩:=hl;rw [Df] at hlp;rw [uq] at hla;have hb:=bO w (.cells #[.int .i64 k,.string x,.string y,.int .i64 n,.slice oR es.length cR,.slice oP ps.length cP,.int .i64 a] 27);have HB:=ae hb;have HX:=ae (heap_alloc_new w (.cells #[.int .i64 k,.string x,.string y,.int .i64 n,.slice oR es.length cR,.slice oP ps.length cP,.int .i64 a] 27));obtain ⟨R,hR⟩:∃R,R=mr (m+1) (nd k x y n es ps a):=⟨_,rfl⟩;rw [<- hR];have hR':R=((decide (1<=k/\k<11) && ((k == 7 || decide (ps.length=0)) && (kH (za k) (k == 2) (if ps.length=0 then zb k else (ps.length:Int)+1) x n es.length && cA (vG k) y))) && (es.all (mr m) && ps.all (lS m))):=hR;clear hR hdp;by_cases h1:k<1
  ·have q1:decide (k<1)=true:=decide_eq_true h1;have HS:Hid (false=R):=ae (by rw [hR',decide_eq_false (by omega)];rfl);clear hR' hrow hel CF yM zD hsa hsp hla hG ih;go_enter Tryz.func40,Tryz.ntmps40;go_wp2;go_ret;exact ⟨aC HS.out,HB.out⟩
  ·have q1:decide (k<1)=false:=decide_eq_false h1;by_cases h5:k>=11
   ·have q2:decide (k>=11)=true:=decide_eq_true h5;have HS:Hid (false=R):=ae (by rw [hR',decide_eq_false (by omega)];rfl);clear hR' hrow hel CF yM zD hsa hsp hla hG ih;go_enter Tryz.func40,Tryz.ntmps40;go_wp2;go_ret;exact ⟨aC HS.out,HB.out⟩
   ·have q2:decide (k>=11)=false:=decide_eq_false h5;rw [decide_eq_true (show 1<=k/\k<11 by omega),Bool.true_and] at hR';have hk4:=Yp h1 h5;have h7:=acG hk4;obtain ⟨t0,t1,t2,t3⟩:=Yt (hG.on hb) hk4;have hkn:0<=k/\k<11:=by omega
    obtain ⟨W1,hW,hth,hbk,hbw⟩:=fL (w.alloc (.cells #[.int .i64 k,.string x,.string y,.int .i64 n,.slice oR es.length cR,.slice oP ps.length cP,.int .i64 a] 27)) 114 zSh #[.int .i64 (za k),.int .i64 (vG k),.bool (k == 2),.int .i64 (zb k)] rfl;have hsz:(w.alloc (.cells #[.int .i64 k,.string x,.string y,.int .i64 n,.slice oR es.length cR,.slice oP ps.length cP,.int .i64 a] 27)).heap.size=w.heap.size+1:=by simp
    rw [hsz] at hW hth hbk;have HW:=ae hW;have ay:=ae hth;have kP:=ae hbk;have bf:=ae (au hb hbw);have ku:Hid (W1.heap[w.heap.size]?=_):=ae ((hbw.block _ (Array.getElem?_eq_some_iff.1 HX.out).1).trans HX.out);have jg:=ae (fun (ar:Int) (u:World) (hu:Below w.heap.size w u)=>G8 (za k) (vG k) (k == 2) ar x n es.length u (hG.on hu) hx hn);have yj:=ae (fun (u:World) (hu:Below w.heap.size w u)=>AA (vG k) y u (hG.on hu) hy);have rR:=ae (fun (u:World) (hu:Below w.heap.size w u)=>acH (mr m) es (.slice oR es.length cR) u d (hrow.imp (fun b o t _ ht=>dm.but (fun kk _ hl=>hu.block kk hl) _ b o t ht)) (fun t v w' hm ho hw'=>ih t v w' ((hG.on hu).on hw') ho (mI zD.1 hm) (hsa t hm) (hla t hm)));have nN:=ae (fun (u:World) (hu:Below w.heap.size w u)=>Pt (lS m) ps (.slice oP ps.length cP) u d (CF.imp (fun b o t _ ht=>cf.but (fun kk _ hl=>hu.block kk hl) _ b o t ht)) (fun t v w' hm ho hw'=>Ps m t v w' ((hG.on hu).on hw') ho (EG zD.2 hm) (hsp t hm)));generalize es.all (mr m)=A at *;generalize ps.all (lS m)=C at *;generalize hNb:cA (vG k) y=Nb at *;rw [<- h7] at hR';generalize hnk:za k=nk at *;generalize hpk:vG k=pk at *;generalize hnm:(k == 2)=nm at *;generalize har:zb k=ar at *;have FV:=oZ (n:=ps.length) (m:=0);have hl0:((0:Nat):Int)=0:=rfl;rw [hl0] at FV;have sU:=ae (acB hlp);have z0:=af kP.out 0 _ rfl;have z1:=af kP.out 1 _ rfl;have z2:=af kP.out 2 _ rfl;have z3:=af kP.out 3 _ rfl;have KR:=af ku.out 0 _ rfl;have e1:=af ku.out 1 _ rfl;have e2:=af ku.out 2 _ rfl;have e3:=af ku.out 3 _ rfl;have e4:=af ku.out 4 _ rfl;have e5:=af ku.out 5 _ rfl;have TT:True:=trivial;clear hnk hpk hnm har hNb h7 hrow hel CF yM zD hsa hsp hla hG ih hb hx hy hn hk4 hW hth hbk hbw hsz HX HB hl0 hlp;by_cases h0:ps.length=0
    ·have hq:¬ 0<ps.length:=by omega
     rw [decide_eq_true h0,Bool.or_true,Bool.true_and,if_pos h0,Bool.and_assoc] at hR';have HR:=ae hR'.symm;have lq:=ae (jg.out ar W1 bf.out);generalize kH nk nm ar x n es.length=Fb at *;clear hR' FV jg h0 sU;cases q7:(ar == -2) with
     | true =>
      go_enter Tryz.func40,Tryz.ntmps40;go_wp2_with (refine wpList_store_mid rfl 114 (.tmp 3) (.tmp 15) rfl (w.heap.size+1) 0 #[.int .i64 nk,.int .i64 pk,.bool nm,.int .i64 ar] rfl rfl ay.out FU (by simp [Value.oneCell']) ?_;rw [HW.out]);clear HW ay t0 t1 t2 t3 z0 z1 z2 z3 KR e1 e2 e3 e4 e5;refine Calls.mono (show Calls _ _ _ _ _ from lq.out) ?_;rintro e w2 ⟨rfl,hb2⟩;have HB2:=ae (au bf.out hb2);have hx2:=(hb2.block _ (Array.getElem?_eq_some_iff.1 ku.out).1).trans ku.out;have hs2:=(hb2.block _ (Array.getElem?_eq_some_iff.1 kP.out).1).trans kP.out;have ba:=ae hx2;have u2:=af hx2 2 _ rfl;have v1:=af hs2 1 _ rfl;have qA:=ae (yj.out w2 HB2.out);clear hb2 hx2 hs2 lq yj ku kP bf TT;cases Fb with
      | false =>
       have HS:Hid (false=R):=ae (by rw [<- HR.out];rfl);clear HR qA rR nN;go_wp2;go_ret;exact ⟨aC HS.out,HB2.out⟩
      | true =>
       have hR:=HR.out;rw [Bool.true_and] at hR;have HR2:=ae hR;clear hR HR;go_wp2_with fail;refine Calls.mono (show Calls _ _ _ _ _ from qA.out) ?_;rintro e w3 ⟨rfl,hb3⟩;have aT:=ae (au HB2.out hb3);have hx3:=(hb3.block _ (Array.getElem?_eq_some_iff.1 ba.out).1).trans ba.out;have bR:=ae hx3;have u4:=af hx3 4 _ rfl;have ig:=ae (rR.out w3 aT.out);clear hb3 hx3 qA rR ba HB2 u2 v1;cases Nb with
       | false =>
        have HS:Hid (false=R):=ae (by rw [<- HR2.out];rfl);clear HR2 ig nN;go_wp2;go_ret;exact ⟨aC HS.out,aT.out⟩
       | true =>
        have hR:=HR2.out;rw [Bool.true_and] at hR;have HR3:=ae hR;clear hR HR2;go_wp2_with fail;refine Calls.mono (show Calls _ _ _ _ _ from ig.out) ?_;rintro e w4 ⟨rfl,hb4⟩;have dR:=ae (au aT.out hb4);have wI:=(hb4.block _ (Array.getElem?_eq_some_iff.1 bR.out).1).trans bR.out;have u5:=af wI 5 _ rfl;have jK:=ae (nN.out w4 dR.out);clear hb4 wI ig nN bR aT u4;cases A with
        | false =>
         have HS:Hid (false=R):=ae (by rw [<- HR3.out];rfl);clear HR3 jK;go_wp2;go_ret;exact ⟨aC HS.out,dR.out⟩
        | true =>
         have HS:Hid (C=R):=ae (by rw [<- HR3.out];rfl);clear HR3;go_wp2_with fail;refine Calls.mono (show Calls _ _ _ _ _ from jK.out) ?_;rintro e w5 ⟨rfl,hb5⟩;have ed:=ae (au dR.out hb5);clear hb5 jK dR u5;go_wp2;go_ret;exact ⟨aC HS.out,ed.out⟩
     | false =>
      go_enter Tryz.func40,Tryz.ntmps40;go_wp2_with (refine wpList_store_mid rfl 114 (.tmp 3) (.tmp 15) rfl (w.heap.size+1) 0 #[.int .i64 nk,.int .i64 pk,.bool nm,.int .i64 ar] rfl rfl ay.out FU (by simp [Value.oneCell']) ?_;rw [HW.out]);clear HW ay t0 t1 t2 t3 z0 z1 z2 z3 KR e1 e2 e3 e4 e5;refine Calls.mono (show Calls _ _ _ _ _ from lq.out) ?_;rintro e w2 ⟨rfl,hb2⟩;have HB2:=ae (au bf.out hb2);have hx2:=(hb2.block _ (Array.getElem?_eq_some_iff.1 ku.out).1).trans ku.out;have hs2:=(hb2.block _ (Array.getElem?_eq_some_iff.1 kP.out).1).trans kP.out;have ba:=ae hx2;have u2:=af hx2 2 _ rfl;have v1:=af hs2 1 _ rfl;have qA:=ae (yj.out w2 HB2.out);clear hb2 hx2 hs2 lq yj ku kP bf TT;cases Fb with
      | false =>
       have HS:Hid (false=R):=ae (by rw [<- HR.out];rfl);clear HR qA rR nN;go_wp2;go_ret;exact ⟨aC HS.out,HB2.out⟩
      | true =>
       have hR:=HR.out;rw [Bool.true_and] at hR;have HR2:=ae hR;clear hR HR;go_wp2_with fail;refine Calls.mono (show Calls _ _ _ _ _ from qA.out) ?_;rintro e w3 ⟨rfl,hb3⟩;have aT:=ae (au HB2.out hb3);have hx3:=(hb3.block _ (Array.getElem?_eq_some_iff.1 ba.out).1).trans ba.out;have bR:=ae hx3;have u4:=af hx3 4 _ rfl;have ig:=ae (rR.out w3 aT.out);clear hb3 hx3 qA rR ba HB2 u2 v1;cases Nb with
       | false =>
        have HS:Hid (false=R):=ae (by rw [<- HR2.out];rfl);clear HR2 ig nN;go_wp2;go_ret;exact ⟨aC HS.out,aT.out⟩
       | true =>
        have hR:=HR2.out;rw [Bool.true_and] at hR;have HR3:=ae hR;clear hR HR2;go_wp2_with fail;refine Calls.mono (show Calls _ _ _ _ _ from ig.out) ?_;rintro e w4 ⟨rfl,hb4⟩;have dR:=ae (au aT.out hb4);have wI:=(hb4.block _ (Array.getElem?_eq_some_iff.1 bR.out).1).trans bR.out;have u5:=af wI 5 _ rfl;have jK:=ae (nN.out w4 dR.out);clear hb4 wI ig nN bR aT u4;cases A with
        | false =>
         have HS:Hid (false=R):=ae (by rw [<- HR3.out];rfl);clear HR3 jK;go_wp2;go_ret;exact ⟨aC HS.out,dR.out⟩
        | true =>
         have HS:Hid (C=R):=ae (by rw [<- HR3.out];rfl);clear HR3;go_wp2_with fail;refine Calls.mono (show Calls _ _ _ _ _ from jK.out) ?_;rintro e w5 ⟨rfl,hb5⟩;have ed:=ae (au dR.out hb5);clear hb5 jK dR u5;go_wp2;go_ret;exact ⟨aC HS.out,ed.out⟩
    ·have hq:0<ps.length:=by omega
     rw [decide_eq_false h0,Bool.or_false,if_neg h0] at hR';cases q7:(ar == -2) with
     | false =>
      have HS:Hid (false=R):=ae (by rw [hR',q7];rfl);clear hR' FV jg h0 sU rR nN yj;go_enter Tryz.func40,Tryz.ntmps40;go_wp2_with (refine wpList_store_mid rfl 114 (.tmp 3) (.tmp 15) rfl (w.heap.size+1) 0 #[.int .i64 nk,.int .i64 pk,.bool nm,.int .i64 ar] rfl rfl ay.out FU (by simp [Value.oneCell']) ?_;rw [HW.out]);go_wp2;go_ret;exact ⟨aC HS.out,bf.out⟩
     | true =>
      rw [q7,Bool.true_and,Bool.and_assoc] at hR';have HR:=ae hR'.symm;obtain ⟨PL,Fp⟩:∃PL:Int,PL=(ps.length:Int)+1:=⟨_,rfl⟩;have SW:Hid (wrap64 ((ps.length:Int)+1)=PL):=ae (sU.out.trans Fp.symm);rw [<- Fp] at HR;have hb3:Below w.heap.size w (W1.setCell ⟨w.heap.size+1,3,none⟩ (.int .i64 PL)):=bf.out.setCell (by show w.heap.size<=w.heap.size+1;omega) _;have SX:=ae hb3;have SY:Hid ((W1.setCell ⟨w.heap.size+1,3,none⟩ (.int .i64 PL)).heap[w.heap.size+1]?=some (.cells #[.int .i64 nk,.int .i64 pk,.bool nm,.int .i64 PL] 114 (0,0))):=ae (heap_setCell_same W1 (w.heap.size+1) 3 _ _ _ kP.out);have hne:(W1.setCell ⟨w.heap.size+1,3,none⟩ (.int .i64 PL)).heap[w.heap.size]?=W1.heap[w.heap.size]?:=Below.heap_setCell W1 ⟨w.heap.size+1,3,none⟩ _ _ (by show w.heap.size≠w.heap.size+1;omega);have lq:=ae (jg.out PL (W1.setCell ⟨w.heap.size+1,3,none⟩ (.int .i64 PL)) hb3);have fz:W1.frozen? ⟨w.heap.size+1,3,none⟩=false:=by unfold World.frozen?;rw [kP.out];simp
      have SZ:=ae (hne.trans ku.out);generalize kH nk nm PL x n es.length=Fb at *;clear hR' FV jg h0 Fp hb3 hne;go_enter Tryz.func40,Tryz.ntmps40;go_wp2_with (refine wpList_store_mid rfl 114 (.tmp 3) (.tmp 15) rfl (w.heap.size+1) 0 #[.int .i64 nk,.int .i64 pk,.bool nm,.int .i64 ar] rfl rfl ay.out FU (by simp [Value.oneCell']) ?_;rw [HW.out]);rw [SW.out];clear HW ay t0 t1 t2 t3 sU SW fz z0 z1 z2 z3 KR e1 e2 e3 e4 e5 ku kP bf;generalize W1.setCell ⟨w.heap.size+1,3,none⟩ (.int .i64 PL)=W9 at *;have ku:=SZ;have kP:=SY;have bf:=SX;clear SZ SY SX;refine Calls.mono (show Calls _ _ _ _ _ from lq.out) ?_;rintro e w2 ⟨rfl,hb2⟩;have HB2:=ae (au bf.out hb2);have hx2:=(hb2.block _ (Array.getElem?_eq_some_iff.1 ku.out).1).trans ku.out;have hs2:=(hb2.block _ (Array.getElem?_eq_some_iff.1 kP.out).1).trans kP.out;have ba:=ae hx2;have u2:=af hx2 2 _ rfl;have v1:=af hs2 1 _ rfl;have qA:=ae (yj.out w2 HB2.out);clear hb2 hx2 hs2 lq yj ku kP bf TT;cases Fb with
      | false =>
       have HS:Hid (false=R):=ae (by rw [<- HR.out];rfl);clear HR qA rR nN;go_wp2;go_ret;exact ⟨aC HS.out,HB2.out⟩
      | true =>
       have hR:=HR.out;rw [Bool.true_and] at hR;have HR2:=ae hR;clear hR HR;go_wp2_with fail;refine Calls.mono (show Calls _ _ _ _ _ from qA.out) ?_;rintro e w3 ⟨rfl,hb3⟩;have aT:=ae (au HB2.out hb3);have hx3:=(hb3.block _ (Array.getElem?_eq_some_iff.1 ba.out).1).trans ba.out;have bR:=ae hx3;have u4:=af hx3 4 _ rfl;have ig:=ae (rR.out w3 aT.out);clear hb3 hx3 qA rR ba HB2 u2 v1;cases Nb with
       | false =>
        have HS:Hid (false=R):=ae (by rw [<- HR2.out];rfl);clear HR2 ig nN;go_wp2;go_ret;exact ⟨aC HS.out,aT.out⟩
       | true =>
        have hR:=HR2.out;rw [Bool.true_and] at hR;have HR3:=ae hR;clear hR HR2;go_wp2_with fail;refine Calls.mono (show Calls _ _ _ _ _ from ig.out) ?_;rintro e w4 ⟨rfl,hb4⟩;have dR:=ae (au aT.out hb4);have wI:=(hb4.block _ (Array.getElem?_eq_some_iff.1 bR.out).1).trans bR.out;have u5:=af wI 5 _ rfl;have jK:=ae (nN.out w4 dR.out);clear hb4 wI ig nN bR aT u4;cases A with
        | false =>
         have HS:Hid (false=R):=ae (by rw [<- HR3.out];rfl);clear HR3 jK;go_wp2;go_ret;exact ⟨aC HS.out,dR.out⟩
        | true =>
         have HS:Hid (C=R):=ae (by rw [<- HR3.out];rfl);clear HR3;go_wp2_with fail;refine Calls.mono (show Calls _ _ _ _ _ from jK.out) ?_;rintro e w5 ⟨rfl,hb5⟩;have ed:=ae (au dR.out hb5);clear hb5 jK dR u5;go_wp2;go_ret;exact ⟨aC HS.out,ed.out⟩
namespace Pz
def yK (d:Nat) (ds:List Value) (e:Value):Bool:=!jb d ds e && (!kK 256 ds e && (ds.all (pJ 256) && mr 256 e))
end Pz
theorem aat (ds:List Value) (e v:Value) (w:World) (hG:GW w) (h:kY 0 (ds,e) v w) (hsd:∀c ∈ ds,DN 256 c) (uS:AY 256 e):Calls Tryz.prog 15 #[v] w fun r w'=>(∃d,fit d e/\r=.returned (.bool (yK d ds e)))/\Below w.heap.size w w':=by
 have hP:=h;obtain ⟨u,k,x,y,n,vu,vz,a,rfl,hD,d,hM⟩:=h;have hfit:=hM.fit;have hb:=bO w (.cells #[u,.int .i64 k,.string x,.string y,.int .i64 n,vu,vz,.int .i64 a] 29);have HB:=ae hb;have HX:=ae (heap_alloc_new w (.cells #[u,.int .i64 k,.string x,.string y,.int .i64 n,vu,vz,.int .i64 a] 29));have CB:=ae (Qg d ds e u vu vz k n a x y (w.alloc (.cells #[u,.int .i64 k,.string x,.string y,.int .i64 n,vu,vz,.int .i64 a] 29)) (lK.on (C:=0) (B:=0) hD (fun kk _ hl=>hb.block kk hl) (Nat.le_refl _)) (hM.but (fun kk _ hl=>hb.block kk hl)));have S0:=ae (fun (w1:World) (hb1:Below w.heap.size w w1)=>QG ds e _ w1 (hP.pE (fun kk _ hl=>hb1.block kk hl)));have HAD:=ae (fun (hd:kK 256 ds e=false) (w1:World) (hb1:Below w.heap.size w w1)=>acI (pJ 256) ds u w1 (lK.on (C:=0) (B:=0) hD (fun kk _ hl=>hb1.block kk hl) (Nat.le_refl _)) (fun t v w' hm ho hw'=>acD 256 t v w' ((hG.on hb1).on hw') ho (mI (f:=rM 256) (l:=ds) (by unfold kK at hd;rw [Bool.or_eq_false_iff] at hd;exact hd.1) hm) (hsd t hm)));have FW:=ae (fun (ht:jb d ds e=false) (hd:kK 256 ds e=false) (w1:World) (hb1:Below w.heap.size w w1)=>SV 256 e _ w1 (hG.on hb1) (aU.pE ⟨d,hM⟩ (fun kk _ hl=>hb1.block kk hl)) (by unfold kK at hd;rw [Bool.or_eq_false_iff] at hd;exact hd.2) uS (acA hfit ht 256));have HF:=ae hfit;have HR:Hid ((!jb d ds e && (!kK 256 ds e && (ds.all (pJ 256) && mr 256 e)))=yK d ds e):=ae rfl;generalize ds.all (pJ 256)=A at *;generalize mr 256 e=E at *;generalize hTM:jb d ds e=tm at *;generalize hTD:kK 256 ds e=td at *;obtain ⟨R,hR⟩:∃R,R=yK d ds e:=⟨_,rfl⟩;rw [<- hR] at HR;have HQ:Hid (∀b,b=R->∃d',fit d' e/\Ending.returned (.bool b)=.returned (.bool (yK d' ds e))):=ae (fun b hb=>⟨d,HF.out,by rw [hb,hR]⟩);clear hP hD hM hfit hb hG hsd uS HF hR hTM hTD;go_enter Tryz.func15,Tryz.ntmps15;have y0:=af HX.out 0 _ rfl;have y1:=af HX.out 1 _ rfl;have y2:=af HX.out 2 _ rfl;have y3:=af HX.out 3 _ rfl;have y4:=af HX.out 4 _ rfl;have y5:=af HX.out 5 _ rfl;have y6:=af HX.out 6 _ rfl;have y7:=af HX.out 7 _ rfl;go_wp2_with fail;refine Calls.mono (show Calls _ _ _ _ _ from CB.out) ?_;rintro r w1 ⟨rfl,hb1⟩;have HB1:=ae (au HB.out hb1);have bz:=ae ((hb1.block _ (Array.getElem?_eq_some_iff.1 HX.out).1).trans HX.out);have yh:=ae (S0.out w1 HB1.out);clear hb1 CB S0 HX HB y0 y1 y2 y3 y4 y5 y6 y7;have y0:=af bz.out 0 _ rfl;have y1:=af bz.out 1 _ rfl;have y2:=af bz.out 2 _ rfl;have y3:=af bz.out 3 _ rfl;have y4:=af bz.out 4 _ rfl;have y5:=af bz.out 5 _ rfl;have y6:=af bz.out 6 _ rfl;have y7:=af bz.out 7 _ rfl;cases tm with
 | true =>
  have HS:Hid (false=R):=ae (by rw [<- HR.out];rfl);clear HR yh HAD FW;go_wp2;go_ret;exact ⟨HQ.out _ HS.out,HB1.out⟩
 | false =>
  go_wp2_with fail;refine Calls.mono (show Calls _ _ _ _ _ from yh.out) ?_;rintro r w2 ⟨rfl,hb2⟩;have HB2:=ae (au HB1.out hb2);have ba:=ae ((hb2.block _ (Array.getElem?_eq_some_iff.1 bz.out).1).trans bz.out);clear hb2 yh bz HB1 y0 y1 y2 y3 y4 y5 y6 y7;have y0:=af ba.out 0 _ rfl;cases td with
  | true =>
   have HS:Hid (false=R):=ae (by rw [<- HR.out];rfl);clear HR HAD FW;go_wp2;go_ret;exact ⟨HQ.out _ HS.out,HB2.out⟩
  | false =>
   have ig:=ae (HAD.out (by trivial) w2 HB2.out);clear HAD;go_wp2_with fail;refine Calls.mono (show Calls _ _ _ _ _ from ig.out) ?_;rintro r w3 ⟨rfl,hb3⟩;have aT:=ae (au HB2.out hb3);have bR:=ae ((hb3.block _ (Array.getElem?_eq_some_iff.1 ba.out).1).trans ba.out);have KT:=ae (FW.out (by trivial) (by trivial) w3 aT.out);clear hb3 ig ba HB2 y0 FW;have y1:=af bR.out 1 _ rfl;have y2:=af bR.out 2 _ rfl;have y3:=af bR.out 3 _ rfl;have y4:=af bR.out 4 _ rfl;have y5:=af bR.out 5 _ rfl;have y6:=af bR.out 6 _ rfl;have y7:=af bR.out 7 _ rfl;cases A with
   | false =>
    have HS:Hid (false=R):=ae (by rw [<- HR.out];rfl);clear HR KT;go_wp2;go_ret;exact ⟨HQ.out _ HS.out,aT.out⟩
   | true =>
    have HS:Hid (E=R):=ae (by rw [<- HR.out];rfl);clear HR;go_wp2_with fail;refine Calls.mono (show Calls _ _ _ _ _ from KT.out) ?_;rintro r w4 ⟨rfl,hb4⟩;have dR:=ae (au aT.out hb4);clear hb4 KT aT bR y1 y2 y3 y4 y5 y6 y7;go_wp2;go_ret;exact ⟨HQ.out _ HS.out,dR.out⟩
end Go.Proofs.YtpaefhceiliaiaaGreatDoor
