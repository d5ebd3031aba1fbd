/- Texts that the claim needs. -/
import Derived.Test.YtkdbgopgjbfhbaaGreatDoorQPV31
import Derived.Test.YtkdbgopgjbfhbaaGreatDoorQPV34
import Derived.Test.YtkdbgopgjbfhbaaGreatDoorQPV35
import Derived.Test.YtkdbgopgjbfhbaaGreatDoorQPV3
import Derived.Test.YtkdbgopgjbfhbaaGreatDoorQPV29
namespace Go.Proofs.YtkdbgopgjbfhbaaGreatDoor
open Go.RowKit Lx Pz bw
set_option linter.unusedVariables false
set_option maxRecDepth 100000
set_option maxHeartbeats 32000000
namespace Pz
theorem J2:∀(d:Nat) (t:Value),few d t->few (d+1) t
 | 0,t,h=>⟨h.1,by rw [h.2.1];simp,by rw [h.2.2];simp,fun x hx=>(by rw [h.2.1] at hx;cases hx),fun x hx=>(by rw [h.2.2] at hx;cases hx)⟩
 | d+1,t,h=>⟨h.1,h.2.1,h.2.2.1,fun x hx=>J2 d x (h.2.2.2.1 x hx),fun x hx=>J2 d x (h.2.2.2.2 x hx)⟩
theorem YL {d:Nat} {l:List Value} (h:nD d l):nD (d+1) l:=⟨h.1,fun j x hj hx=>by
 obtain ⟨d0,rfl,hf⟩:=h.2 j x hj hx;exact ⟨d0+1,rfl,J2 _ _ hf⟩⟩
theorem Qj {d e:Nat} (h:d<=e) {l:List Value} (hf:nD d l):nD e l:=by
 induction h with
 | refl=>exact hf
 | step _ ih=>exact YL ih
theorem YM (w:World) (l:List Value) (vl:Value) (hr:iz 0 vl l w) (hf:y8 l):Calls Tryz.prog 81 #[vl] w fun e w'=>∃v',e=.returned v'/\Below w.heap.size w w'/\iz w.heap.size v' l w':=by
 obtain ⟨d,hr⟩:=hr;obtain ⟨d',hf⟩:=hf;exact Vi (d+d') w l vl (hr.imp fun b o t _ h=>qq (F:=dw 0 w) dw.up (Nat.le_add_right _ _) h) (Qj (Nat.le_add_left _ _) hf)
theorem YN {w:World} {B n:Nat} {v:Value} {ps:List ByteArray} (h:w.ownsRow B 9 1 v ps.length (ps.map Value.string)) (hn:ps.length<=9223372036854775807):kS B v ps w:=by
 rcases h.2 with ⟨rfl,h0⟩|⟨g,cap,cur,rfl,hB,hg,hcp,AK,hcs,htk⟩
 ·have:ps = []:=List.eq_nil_of_length_eq_zero h0
  subst this;exact ⟨by simp,.inl ⟨rfl,none,0,rfl⟩⟩
 ·refine ⟨by simpa using hn,.inr ⟨g,0,cap,by simp,fun i x hx=>⟨hB,?_⟩⟩⟩;rw [Nat.zero_add,Nat.mul_one];refine af hg i x ?_;have h1:=hx;rw [<- htk] at h1;have h2:=(List.getElem?_eq_some_iff.1 h1).1;rw [List.getElem?_take_of_lt (by rw [List.length_take] at h2;omega)] at h1;simpa using h1
theorem YO {b o:Nat} {w:World} {t:Value} (h:nV 0 w b o t):∃x ps cs a u z,t=lh x ps cs a/\w.cell? ⟨b,o,none⟩=some (.string x)/\w.cell? ⟨b,o+1,none⟩=some u/\w.cell? ⟨b,o+2,none⟩=some z/\w.cell? ⟨b,o+3,none⟩=some (.int .i64 a)/\kS 0 u ps w/\oK 0 z cs w:=by
 obtain ⟨hB,h⟩:=h;exact h
theorem YP {b o:Nat} {w:World} {t:Value} (h:lD 0 w b o t):∃x ts u,t=mr x ts/\w.cell? ⟨b,o,none⟩=some (.string x)/\w.cell? ⟨b,o+1,none⟩=some u/\iz 0 u ts w:=by
 obtain ⟨hB,h⟩:=h;exact h
theorem Qk {k:Nat} {l:List Value} (h:k<=l.length):(l.take k).length=k:=by rw [List.length_take];omega
theorem YQ {j:Nat} (h:j<16):j=0\/j=1\/j=2\/j=3\/j=4\/j=5\/j=6\/j=7\/j=8\/j=9\/j=10\/j=11\/j=12\/j=13\/j=14\/j=15:=by omega
def Dh (B p b2 o2 k:Nat) (vc z u2:Value) (x2:ByteArray) (ts:List Value):Nat->Value->World->Prop
 | 0,v,_=>v=vc
 | 1,v,_=>v=.pointer (some ⟨p,2,none⟩)
 | 2,v,_=>v=z
 | 3,v,_=>v=.int .i64 (k:Int)
 | 4,v,_=>v=.pointer (some ⟨b2,o2,none⟩)
 | 5,v,_=>v=.pointer (some ⟨b2,o2,none⟩)
 | 6,v,_=>v=.string x2
 | 7,v,_=>v=.pointer (some ⟨p,2,none⟩)
 | 8,v,_=>v=z
 | 9,v,_=>v=.int .i64 (k:Int)
 | 10,v,_=>v=.pointer (some ⟨b2,o2,none⟩)
 | 11,v,_=>v=.pointer (some ⟨b2,o2+1,none⟩)
 | 12,v,_=>v=u2
 | 13,v,u=>iz B v ts u
 | 14,v,u=>∃y,v=.agg #[.string x2,y]/\iz B y ts u
 | 15,v,u=>∃y g,v=.slice (some ⟨g,0,none⟩) 1 1/\u.heap[g]?=some (.cells #[.string x2,y] 76 (0,0))/\iz B y ts u
 | _,_,_=>False
theorem Dh.on {B p b2 o2 k:Nat} {vc z u2:Value} {x2:ByteArray} {ts:List Value} {i:Nat} {v:Value} {w w':World} (h:Dh B p b2 o2 k vc z u2 x2 ts i v w) (hb:Below w.heap.size w w'):Dh B p b2 o2 k vc z u2 x2 ts i v w':=by
 unfold Dh at h ⊢;split at h
 all_goals first|exact h|skip
 ·exact h.on (C:=B) (bF.of hb) (Nat.le_refl _)
 ·obtain ⟨y,h1,h2⟩:=h;exact ⟨y,h1,h2.on (C:=B) (bF.of hb) (Nat.le_refl _)⟩
 ·obtain ⟨y,g,h1,h2,h3⟩:=h;exact ⟨y,g,h1,(hb.block g (Array.getElem?_eq_some_iff.1 h2).1).trans h2,h3.on (C:=B) (bF.of hb) (Nat.le_refl _)⟩
theorem YR {l:List Value} (h:l.length=16):∃a0 a1 a2 a3 a4 a5 a6 a7 a8 a9 JO Df a12 Dg Ql Qm,l = [a0,a1,a2,a3,a4,a5,a6,a7,a8,a9,JO,Df,a12,Dg,Ql,Qm]:=by
 match l,h with
 | [a0,a1,a2,a3,a4,a5,a6,a7,a8,a9,JO,Df,a12,Dg,Ql,Qm],_=>exact ⟨_,_,_,_,_,_,_,_,_,_,_,_,_,_,_,_,rfl⟩
theorem iz.one {B:Nat} {v:Value} {l:List Value} {w:World} (h:iz B v l w):v.oneCell'=true:=by
 obtain ⟨d,h⟩:=h;obtain ⟨o,c,rfl,_⟩:=bz h;rfl
end Pz
theorem YS (w:World) (l:List Value) (vl:Value) (hr:iN 0 vl l w) (hll:l.length<=200) (hfw:∀c ∈ l,xc c):Calls Tryz.prog 36 #[vl] w fun e w'=>∃v',e=.returned v'/\Below w.heap.size w w'/\iN w.heap.size v' l w':=by
 obtain ⟨oR,cR,rfl,hel⟩:=bz hr;have HL:=ae hr.1;have dB:=ae hel;have lG:=ae hfw;clear hr hel hfw;go_enter Tryz.func36,Tryz.ntmps36;go_wp2_with fail;go_loopw [3,4] (fun oo aa wr=>∃(i:Nat) (vo:Value),aa=.int .i64 i/\oo=vo/\i<=l.length/\Hid (gB (iL w.heap.size) w.heap.size 62 4 wr vo (l.take i))/\Hid (Below w.heap.size w wr)) (fun _ aa _=>match aa with | .int _ i=>l.length-i.toNat|_=>0)
 case atStart=>exact ⟨0,_,rfl,rfl,Nat.zero_le _,ae (gB.nil _ _ _ _ _),ae (Below.refl _ _)⟩
 case round =>
  obtain ⟨i,vo,rfl,rfl,hi,HO,HP⟩:=hrel;obtain ⟨wq,OU⟩:∃wq,wq=wr:=⟨_,rfl⟩;subst OU;by_cases hp:i<l.length
  ·have q1:decide ((i:Int)<(l.length:Int))=true:=decide_eq_true (by omega);obtain ⟨t1,ht1⟩:∃t1,l[i]?=some t1:=⟨_,List.getElem?_eq_getElem hp⟩;obtain ⟨b,off,dh,hC⟩:=dB.out i t1 ht1;subst dh;obtain ⟨x1,ps,cs,a1,Ik,YT,ht0,g0,g1,g2,g3,hrs,hrc⟩:=YO hC
   obtain ⟨hfp,hfc,Qn⟩:ps.length<=200/\cs.length<=200/\∀k ∈ cs,za k:=by
    have h:=lG.out t1 (List.mem_of_getElem? ht1);rw [ht0] at h;exact ⟨by have:=h.1;simpa [p8,lh] using this,by have:=h.2.1;simpa [kH,lh] using this,by have:=h.2.2;simpa [kH,lh] using this⟩
   obtain ⟨oP,cP,rfl,wF⟩:=bz hrs;obtain ⟨oC,cC,rfl,Di⟩:=bz hrc;rw [List.length_map] at g1;have y0:=ag HP.out g0;have y1:=ag HP.out g1;have y2:=ag HP.out g2;have y3:=ag HP.out g3;have HW1:=ae (fO hp HL.out);have yd:=ae (show l.take (i+1)=l.take i++[t1] by rw [List.take_add_one,ht1];rfl);have yf:=ae ht0;have Dj:=ae Di;have qg:=ae wF;have rT:=ae hrc.1;have YU:=ae Qn;obtain ⟨p,kG⟩:∃p,p=wq.heap.size:=⟨_,rfl⟩;obtain ⟨u1,hu1⟩:∃u1,u1=wq.alloc (.cells #[.string x1,.slice oP ps.length cP,.slice oC cs.length cC,.int .i64 a1] 62):=⟨_,rfl⟩;have hb1:Below wq.heap.size wq u1:=by rw [hu1];exact bN _ _
   have hx1:u1.heap[p]?=some (.cells #[.string x1,.slice oP ps.length cP,.slice oC cs.length cC,.int .i64 a1] 62 (0,0)):=by rw [hu1,kG];exact heap_alloc_new wq _
   have hs1:u1.heap.size=p+1:=by rw [hu1,kG];simp
   obtain ⟨u2,hu2⟩:∃u2,u2=u1.alloc (.cells #[] 9):=⟨_,rfl⟩;have hb2:Below u1.heap.size u1 u2:=by rw [hu2];exact bN _ _
   have hx2:=(hb2.block p (by omega)).trans hx1;have aX:Hid (u2.heap.size=p+2):=ae (by rw [hu2];simp [hs1]);have bb:=ae hx2;have HB2:=ae (ax hb1 hb2);have yJ:Hid ((u1.alloc (.cells #[] 9)).ownsRow u1.heap.size 9 1 (.slice (some ⟨u1.heap.size,0,none⟩) 0 0) 0 []):=ae (by exact World.ownsRow_made (e:=9) (size:=1) u1 #[] 0 (Nat.le_refl _) (by unfold maxLen;omega) (by simp))
   have Dk:=ae (fun (ad:Addr) (h:oP=some ad) (j:Nat) (u:Value) (hj:(ps.map Value.string)[j]?=some u)=>(by
    obtain ⟨b',o',hb',hc'⟩:=qg.out j u hj;rw [h] at hb';injection hb' with hb';subst hb';have h1:=ag (ax HP.out HB2.out) hc'.2;rw [Nat.mul_one] at h1;by_cases hj0:j=0
    ·subst hj0;simpa [Addr.add] using h1
    ·simpa [Addr.add,hj0] using h1:u2.cell? (ad.add j)=some u))
   rw [hu2] at Dk
   have Qo:Hid (oP=none->ps.length=0):=ae (fun h=>by
    cases hps:ps with
    | nil=>rfl
    | cons s r =>
     obtain ⟨b',o',hb',_⟩:=qg.out 0 (.string s) (by rw [hps];rfl);rw [h] at hb';cases hb')
   have fP:=ae kG;obtain ⟨oV,cV,iE⟩:=HO.out.sl;have hti:(l.take i).length=i:=Qk hi;rw [hti] at iE;have z1:=af hx1 1 _ rfl;have z1':=af hx2 1 _ rfl;rw [hu2] at z1';have qX:=ae hu1;have Qp:=ae hu2;have aA:=ae hs1;have pF:Hid (u1.heap.size<=(u1.alloc (.cells #[] 9)).heap.size):=ae (by simp);obtain ⟨i0,hi0,hz0,hz1,hz2⟩:=info_parts Mj;clear hC g0 g1 g2 g3 hrs hrc hb1 hb2 hu1 hu2 ht1 ht0 Di wF hx1 hx2 Qn kG hs1;subst iE;go_upto_region 6 with fail;rw [<- fP.out,<- qX.out];clear y0 y1 y2 y3;go_wp2_with (first|(at_builtin;refine uh rfl _ _ 59 rfl u1.heap.size 9 i0 _ 1 16 Tryz.underlying59 hi0 hz0 hz1 hz2 rfl (by decide) _ _ _ rfl yJ.out oP ps.length cP (ps.map Value.string) rfl Qo.out ?c0 Dk.out ?c2 ?c3 ?c4 ?c5 ?_))
   case c0=>simp
   case c2=>intro c hc;obtain ⟨s,_,rfl⟩:=List.mem_map.1 hc;rfl
   case c3=>unfold maxLen;omega
   case c4=>omega
   case c5=>exact pF.out
   intro v4 u3 hown hg hv;rw [aA.out] at hown;rw [<- Qp.out] at hg;have Qq:kS (p+1) v4 ps u3:=YN (n:=0) hown (by omega);obtain ⟨o4,c4,rfl⟩:=qY hown;have F6:Hid (Below (p+1) u2 u3):=ae ((Below.refl _ _).grown hg (by have:=aX.out;omega) fun k hk=>by have:=(yJ.out.lt k hk).1;rw [aA.out] at this;exact this);have hx3:=(F6.out.block p (by omega)).trans bb.out;have f3:u3.frozen? ⟨p,1,none⟩=false:=by unfold World.frozen?;rw [hx3];simp
   have YV:=af hx3 1 _ rfl;obtain ⟨u4,AL⟩:∃u4,u4=u3.setCell ⟨p,1,none⟩ (.slice o4 ps.length c4):=⟨_,rfl⟩;have qo:Hid (u4.heap[p]?=some (.cells #[.string x1,.slice o4 ps.length c4,.slice oC cs.length cC,.int .i64 a1] 62 (0,0))):=ae (by rw [AL];exact heap_setCell_same u3 p 1 _ _ _ hx3);have sJ:Hid (∀k,k≠p->u4.heap[k]?=u3.heap[k]?):=ae (fun k hk=>by rw [AL];exact Below.heap_setCell _ _ _ _ hk);have Qr:Hid (u4.heap.size=u3.heap.size):=ae (by rw [AL];simp);have Qs:=ae Qq;have YW:p+2<=u3.heap.size:=by have:=F6.out.size;have:=aX.out;omega
   have dF:Hid (Below wq.heap.size wq u4):=ae (by
    have h1:Below wq.heap.size wq u3:=HB2.out.trans (F6.out.mono (by rw [<- fP.out];omega));rw [AL];exact h1.setCell (by rw [<- fP.out];exact Nat.le_refl _) _)
   have Qt:=ae AL;clear hown hg hv Qq hx3 AL bb yJ Dk Qo HB2 F6 qg;go_upto_region 7 with fail;rw [<- Qt.out];clear Qt qX Qp f3 z1 z1' YV i0 hi0 hz0 hz1 hz2 pF;obtain ⟨B3,qw⟩:∃B3,B3=u4.heap.size:=⟨_,rfl⟩;have YX:p+2<=B3:=by rw [qw,Qr.out];exact YW
   have Dl:=ae qw;clear qw;go_wp2_with fail;go_loopw [6,7] (fun oo aa wr=>∃(k:Nat) (vc:Value),aa=.int .i64 k/\oo=vc/\k<=cs.length/\Hid (gB (iw B3) B3 76 2 wr vc (cs.take k))/\Hid (Below B3 u4 wr)) (fun _ aa _=>match aa with | .int _ i=>cs.length-i.toNat|_=>0)
   case atStart=>exact ⟨0,_,rfl,rfl,Nat.zero_le _,ae (gB.nil _ _ _ _ _),ae (Below.refl _ _)⟩
   case round =>
    obtain ⟨k,vc,rfl,rfl,hk,zb,qA⟩:=hrel;have hxp:=(qA.out.block p (by omega)).trans qo.out;have w2:=af hxp 2 _ rfl;by_cases hpk:k<cs.length
    ·have q2:decide ((k:Int)<(cs.length:Int))=true:=decide_eq_true (by omega);obtain ⟨t2,ht2⟩:∃t2,cs[k]?=some t2:=⟨_,List.getElem?_eq_getElem hpk⟩;obtain ⟨b2,bL,uW,pJ⟩:=Dj.out k t2 ht2;subst uW;obtain ⟨x2,ts,YY,J3,k0,k1,rU⟩:=YP pJ
     have hfo:y8 ts:=by
      have h:=YU.out t2 (List.mem_of_getElem? ht2);rw [J3] at h;have h':y8 (oJ (mr x2 ts)):=h;simpa [oJ,mr] using h'
     obtain ⟨oF,cF,YZ⟩:∃oF cF,YY=.slice oF ts.length cF:=by obtain ⟨d,hd⟩:=rU;obtain ⟨oF,cF,h,_⟩:=bz hd;exact ⟨oF,cF,h⟩
     subst YZ;have aT:Hid (Below wq.heap.size wq wr):=ae (dF.out.trans (qA.out.mono (by rw [Dl.out];exact dF.out.size)));have F7:=ax HP.out aT.out;have c0:=ag F7 k0;have c1:=ag F7 k1;have Y0:=ae (fun (u:World) (hu:Below wr.heap.size wr u)=>YM u ts (.slice oF ts.length cF) (rU.on (C:=0) (bF.of (ax F7 hu)) (Nat.le_refl _)) hfo);have HW2:=ae (fO hpk rT.out);have Y1:=ae (show cs.take (k+1)=cs.take k++[t2] by rw [List.take_add_one,ht2];rfl);have Y2:=ae J3;obtain ⟨oW,cW,Dm⟩:=zb.out.sl;have htk:(cs.take k).length=k:=Qk (Nat.le_of_lt hpk);rw [htk] at Dm;subst Dm;have HB2:Hid (Below B3 u4 wr):=qA;have F8:B3<=wr.heap.size:=by rw [Dl.out];exact qA.out.size
     have HXP:=ae hxp;clear pJ k0 k1 rU hfo ht2 J3 F7 hxp;go_upto_region 11 with fail;refine ah.mQ 16 (fun i=>30+i) (Dh wr.heap.size p b2 (bL+k*2) k (.slice oW k cW) (.slice (some ⟨b2,bL,none⟩) cs.length cC) (.slice oF ts.length cF) x2 ts) (by kernel_rfl) (by kernel_rfl) (fun i j h1 h2 h=>by have h':30+i=30+j:=h;omega) (ah.mR (size:=54) (by kernel_rfl)) (fun i v w w' _ h hb=>h.on hb) ?hstep ?ze
     case hstep =>
      intro j o a u hj ho hF hB hd;have f5:a.tmps[5]?.getD undef=.pointer (some ⟨p,0,none⟩):=ah.ak (hF.eval 5 (fun i hi=>by show 30+i≠5;omega));have f6:a.tmps[6]?.getD undef=.slice oW k cW:=ah.ak (hF.eval 6 (fun i hi=>by show 30+i≠6;omega));have f7:a.tmps[7]?.getD undef=.int .i64 (k:Int):=ah.ak (hF.eval 7 (fun i hi=>by show 30+i≠7;omega));have w2:=ag hB w2;have c0:=ag hB c0;have c1:=ag hB c1;have hcase:j=0\/j=1\/j=2\/j=3\/j=4\/j=5\/j=6\/j=7\/j=8\/j=9\/j=10\/j=11\/j=12\/j=13\/j=14\/j=15:=YQ hj;clear hj;rcases hcase with rfl|rfl|rfl|rfl|rfl|rfl|rfl|rfl|rfl|rfl|rfl|rfl|rfl|rfl|rfl|rfl
      all_goals (simp only [List.getElem?_toArray,List.getElem?_cons_succ,List.getElem?_cons_zero,Option.some.injEq] at ho;subst ho;refine ah.bh fun K hK=>?_)
      ·go_simp;exact hK _ _ ⟨_,rfl,Below.refl _ _,rfl⟩
      ·go_simp;exact hK _ _ ⟨_,rfl,Below.refl _ _,rfl⟩
      ·have g0:a.tmps[31]?.getD undef=.pointer (some ⟨p,2,none⟩):=ah.ak (hd 1 (by decide));go_simp;exact hK _ _ ⟨_,rfl,Below.refl _ _,rfl⟩
      ·go_simp;exact hK _ _ ⟨_,rfl,Below.refl _ _,rfl⟩
      ·have g0:a.tmps[32]?.getD undef=.slice (some ⟨b2,bL,none⟩) cs.length cC:=ah.ak (hd 2 (by decide));have g1:a.tmps[33]?.getD undef=.int .i64 (k:Int):=ah.ak (hd 3 (by decide));go_simp;exact hK _ _ ⟨_,rfl,Below.refl _ _,rfl⟩
      ·have g0:a.tmps[34]?.getD undef=.pointer (some ⟨b2,bL+k*2,none⟩):=ah.ak (hd 4 (by decide));go_simp;exact hK _ _ ⟨_,rfl,Below.refl _ _,rfl⟩
      ·have g0:a.tmps[35]?.getD undef=.pointer (some ⟨b2,bL+k*2,none⟩):=ah.ak (hd 5 (by decide));go_simp;exact hK _ _ ⟨_,rfl,Below.refl _ _,rfl⟩
      ·go_simp;exact hK _ _ ⟨_,rfl,Below.refl _ _,rfl⟩
      ·have g0:a.tmps[37]?.getD undef=.pointer (some ⟨p,2,none⟩):=ah.ak (hd 7 (by decide));go_simp;exact hK _ _ ⟨_,rfl,Below.refl _ _,rfl⟩
      ·go_simp;exact hK _ _ ⟨_,rfl,Below.refl _ _,rfl⟩
      ·have g0:a.tmps[38]?.getD undef=.slice (some ⟨b2,bL,none⟩) cs.length cC:=ah.ak (hd 8 (by decide));have g1:a.tmps[39]?.getD undef=.int .i64 (k:Int):=ah.ak (hd 9 (by decide));go_simp;exact hK _ _ ⟨_,rfl,Below.refl _ _,rfl⟩
      ·have g0:a.tmps[40]?.getD undef=.pointer (some ⟨b2,bL+k*2,none⟩):=ah.ak (hd 10 (by decide));go_simp;exact hK _ _ ⟨_,rfl,Below.refl _ _,rfl⟩
      ·have g0:a.tmps[41]?.getD undef=.pointer (some ⟨b2,bL+k*2+1,none⟩):=ah.ak (hd 11 (by decide));go_simp;exact hK _ _ ⟨_,rfl,Below.refl _ _,rfl⟩
      ·have g0:a.tmps[42]?.getD undef=.slice oF ts.length cF:=ah.ak (hd 12 (by decide));have bO:=ae hK;clear hK;go_simp;refine (Y0.out _ hB).mono ?_;rintro e w3 ⟨v4,rfl,hb3,hr3⟩;exact bO.out _ _ ⟨_,rfl,hb3,hr3.on (C:=u.heap.size) (fun _ _ _=>rfl) hB.size⟩
      ·have g1:a.tmps[36]?.getD undef=.string x2:=ah.ak (hd 6 (by decide));have xd:iz wr.heap.size (a.eval (.tmp 43)) ts u:=hd 13 (by decide);have g2:a.tmps[43]?.getD undef=a.eval (.tmp 43):=ah.ak rfl;generalize a.eval (.tmp 43)=y at xd g2;obtain ⟨oy,cy,rfl⟩:=xd.sl;have hone:=xd.one;go_simp;exact hK _ _ ⟨_,rfl,Below.refl _ _,_,rfl,xd⟩
      ·obtain ⟨y,hy,xd⟩:=hd 14 (by decide);obtain ⟨oy,cy,rfl⟩:=xd.sl;have g1:a.tmps[44]?.getD undef=.agg #[.string x2,.slice oy ts.length cy]:=ah.ak hy;have hone:=xd.one;go_simp;exact hK _ _ ⟨_,rfl,bN _ _,_,_,rfl,heap_alloc_new _ _,xd.on (C:=wr.heap.size) (bF.of (bN _ _)) (Nat.le_refl _)⟩
     case ze =>
      intro a u hF hB hG;obtain ⟨xl,hxl,rfl,hev⟩:=hF.lit (by simp);obtain ⟨v0,v1,v2,v3,v4,v5,v6,v7,v8,v9,v10,v11,v12,v13,v14,v15,rfl⟩:=YR hxl;have mS:v0=.slice oW k cW:=(hev 0 (by decide)).symm.trans (hG 0 (by decide));obtain ⟨y,g,hy1,hy2,hy3⟩:=hG 15 (by decide);have Y3:v15=.slice (some ⟨g,0,none⟩) 1 1:=(hev 15 (by decide)).symm.trans hy1;subst mS Y3;have iD:=ae (HB2.out.trans (hB.mono F8));have Qu:=ae (zb.out.on hB);have hzu:B3<=u.heap.size:=Nat.le_trans F8 hB.size
      have HST:Hid (lU B3 (Value.slice oW k cW).ownBlock (iw B3 t2 (.agg #[.string x2,y])) u):=ae (fun w' hw'=>by
       have ho:∀q,(Value.slice oW k cW).ownBlock=some q->q<wr.heap.size:=fun q hq=>by obtain ⟨xs,ho,_⟩:=zb.out;exact (ho.lt q hq).2
       rw [Y2.out];exact ⟨x2,ts,y,rfl,rfl,hy3.on (C:=wr.heap.size) (fun q hq hl=>hw' q (by omega) hl (fun e=>by have:=ho q e;omega)) F8⟩)
      have Qv:=ae hy2;have zf:=hy3.one;obtain ⟨i0,hi0,hz0,hz1,hz2⟩:=info_parts H7;obtain ⟨xs,hown,hxe⟩:=Qu.out;rw [htk] at hown;have nH:=ae hxe;have HOW:=ae hown;clear hev hxl hF hG hB hy1 hy2 hy3 hxe hown zb qA HB2;simp only [List.take_succ_cons,List.take_zero,List.drop_succ_cons,List.drop_zero,List.cons_append,List.nil_append];refine uh rfl _ _ 60 rfl B3 76 i0 _ 2 40 Tryz.underlying60 hi0 hz0 hz1 hz2 rfl (by decide) _ _ _ rfl HOW.out (some ⟨g,0,none⟩) 1 1 [.string x2,y] rfl ?c6 ?c0 ?c1 ?c2 ?c3 ?c4 ?c5 ?_
      case c6=>intro h;cases h
      case c0=>rfl
      case c1 =>
       intro ad h j v hj;injection h with h;subst h;have hpc:=af Qv.out j v (by simpa using hj);by_cases hj0:j=0
       ·subst hj0;simpa [Addr.add] using hpc
       ·simpa [Addr.add,hj0] using hpc
      case c2 =>
       intro c hc;simp only [List.mem_cons,List.not_mem_nil,or_false] at hc;rcases hc with rfl|rfl
       ·rfl
       ·exact zf
      case c3=>unfold maxLen;omega
      case c4=>omega
      case c5=>exact hzu
      intro Y4 w9 dR dI bG
      have jg:Hid (gB (iw B3) B3 76 2 w9 Y4 (cs.take (k+1))):=ae (by
       rw [Y1.out];exact gB.app (cs:=#[.string x2,y]) (by rw [htk];exact HOW.out) nH.out (by rw [htk];exact dR) dI bG rfl HST.out)
      have mF:Hid (Below B3 u4 w9):=ae (iD.out.grown dI hzu fun k hk=>by exact (HOW.out.lt k hk).1);obtain ⟨oN,cN,gT⟩:=qY dR;subst gT;clear dR dI bG HOW nH Qu iD HST Qv c0 c1;have hw2:=HW2.out;go_wp2;go_roundw
      case rel=>exact ⟨k+1,_,by first|rfl|(congr 1),rfl,hpk,jg,mF⟩
      case measure=>simp;exact Nat.sub_lt_sub_left hpk (Dn hpk rT.out)
    ·have q2:decide ((k:Int)<(cs.length:Int))=false:=decide_eq_false (by omega)
     have tu:Hid (oK B3 _ cs wr):=ae (by
      have h:=zb.out;rw [List.take_of_length_le (by omega)] at h;obtain ⟨d,hd⟩:=h.row (F:=fun w' _ b o t=>lD B3 w' b o t) (fun w' _ b o t h=>h) rT.out (fun w' t cs b o hv hB hc=>⟨0,MP hv hB hc⟩);exact hd)
     obtain ⟨o5,c5,Dm⟩:=zb.out.sl;rw [show (cs.take k).length=cs.length by rw [List.length_take];omega] at Dm;subst Dm;have f4:wr.frozen? ⟨p,2,none⟩=false:=by unfold World.frozen?;rw [hxp];simp
     obtain ⟨u5,AO⟩:∃u5,u5=wr.setCell ⟨p,2,none⟩ (.slice o5 cs.length c5):=⟨_,rfl⟩;have Dp:u5.heap[p]?=some (.cells #[.string x1,.slice o4 ps.length c4,.slice o5 cs.length c5,.int .i64 a1] 62 (0,0)):=by rw [AO];exact heap_setCell_same wr p 2 _ _ _ hxp
     have Qw:∀k,k≠p->u5.heap[k]?=wr.heap[k]?:=fun k hk=>by rw [AO];exact Below.heap_setCell _ _ _ _ hk
     have hs5:u5.heap.size=wr.heap.size:=by rw [AO];simp
     have F8:B3<=wr.heap.size:=by rw [Dl.out];exact qA.out.size
     have fD:Hid (Below wq.heap.size wq u5):=ae (by
      have h1:Below wq.heap.size wq wr:=dF.out.trans (qA.out.mono (by rw [Dl.out];exact dF.out.size));rw [AO];exact h1.setCell (by rw [<- fP.out];exact Nat.le_refl _) _)
     have BX:w.heap.size<=p:=by rw [fP.out];exact HP.out.size
     have F9:=bN u5 (.cells #[.string x1,.slice o4 ps.length c4,.slice o5 cs.length c5,.int .i64 a1] 62)
     have HST:Hid (lU w.heap.size (Value.slice oV i cV).ownBlock (iL w.heap.size t1 (.agg #[.string x1,.slice o4 ps.length c4,.slice o5 cs.length c5,.int .i64 a1])) (u5.alloc (.cells #[.string x1,.slice o4 ps.length c4,.slice o5 cs.length c5,.int .i64 a1] 62))):=ae (fun w' hw'=>by
      have ho:∀k,(Value.slice oV i cV).ownBlock=some k->k<p:=fun k hk=>by obtain ⟨xs,ho,_⟩:=HO.out;rw [fP.out];exact (ho.lt k hk).2
      have hag:∀k,p+1<=k->k<wr.heap.size->w'.heap[k]?=wr.heap[k]?:=fun k hk hl=>by
       rw [hw' k (by omega) (by simp;omega) (fun e=>by have:=ho k e;omega),F9.block k (by omega),Qw k (by omega)]
      rw [yf.out];refine ⟨x1,ps,cs,a1,_,_,rfl,rfl,Qs.out.on (C:=p+1) (fun k hk hl=>?_) (by omega),tu.out.on (C:=B3) (fun k hk hl=>hag k (by omega) hl) (by omega)⟩;have hk4:k<B3:=by rw [Dl.out,Qr.out];exact hl
      rw [hag k hk (by omega),qA.out.block k hk4,sJ.out k (by omega)])
     have Qx:=ae ((HO.out.on fD.out).on F9);have qB:=ae (ax fD.out F9);have Qy:=ae (qQ u5 #[.string x1,.slice o4 ps.length c4,.slice o5 cs.length c5,.int .i64 a1] 62);have Qz:w.heap.size<=(u5.alloc (.cells #[.string x1,.slice o4 ps.length c4,.slice o5 cs.length c5,.int .i64 a1] 62)).heap.size:=by have:=qB.out.size;rw [<- fP.out] at this;omega
     have m0:=af Dp 0 _ rfl;have m1:=af Dp 1 _ rfl;have m2:=af Dp 2 _ rfl;have m3:=af Dp 3 _ rfl;have QA:=ae AO;obtain ⟨i0,hi0,hz0,hz1,hz2⟩:=info_parts QB;obtain ⟨xs,hown,hxe⟩:=Qx.out;rw [hti] at hown;have nH:=ae hxe;have HOW:=ae hown;clear F9 hxe hown AO Dp Qw hs5 hxp zb qA tu Qs;go_upto_region 13 with fail;rw [<- QA.out];clear QA w2 f4;go_wp2_with (first|(at_builtin;refine uh rfl _ _ 23 rfl w.heap.size 62 i0 _ 4 72 Tryz.underlying23 hi0 hz0 hz1 hz2 rfl (by decide) _ _ _ rfl HOW.out (some ⟨u5.heap.size,0,none⟩) 1 1 [.string x1,.slice o4 ps.length c4,.slice o5 cs.length c5,.int .i64 a1] rfl (by intro h;cases h) rfl (fun ad h=>by injection h with h;subst h;exact Qy.out) ?c2 ?c3 ?c4 ?c5 ?_))
     case c2=>exact ⟨rfl,rfl,rfl,rfl⟩
     case c3=>unfold maxLen;omega
     case c4=>omega
     case c5=>simpa using Qz
     intro v9 w9 dR dI bG
     have jg:Hid (gB (iL w.heap.size) w.heap.size 62 4 w9 v9 (l.take (i+1))):=ae (by
      rw [yd.out];exact gB.app (cs:=#[.string x1,.slice o4 ps.length c4,.slice o5 cs.length c5,.int .i64 a1]) (by rw [hti];exact HOW.out) nH.out (by rw [hti];exact dR) dI (by simpa using bG) rfl HST.out)
     have mF:Hid (Below w.heap.size w w9):=ae ((ax HP.out qB.out).grown dI Qz fun k hk=>by exact (HOW.out.lt k hk).1);obtain ⟨oN,cN,gT⟩:=qY dR;subst gT;clear dR dI bG HOW nH Qx qB Qy HST m0 m1 m2 m3 HO HP;have hw1:=HW1.out;go_wp2;go_roundw
     case rel=>exact ⟨i+1,_,by first|rfl|(congr 1),rfl,hp,jg,mF⟩
     case measure=>simp;exact Nat.sub_lt_sub_left hp (Dn hp HL.out)
  ·have q1:decide ((i:Int)<(l.length:Int))=false:=decide_eq_false (by omega)
   have HR:Hid (iN w.heap.size _ l wq):=ae (by
    have h:=HO.out;rw [List.take_of_length_le (by omega)] at h;obtain ⟨d,hd⟩:=h.row (F:=fun w' _ b o t=>nV w.heap.size w' b o t) (fun w' _ b o t h=>h) HL.out (fun w' t cs b o hv hB hc=>⟨0,QC hv hB hc⟩);exact hd)
   clear HO;go_wp2;go_ret;exact ⟨_,rfl,HP.out,HR.out⟩
namespace Pz
theorem VM {s:ByteArray} {i:Nat} {k:Int} {x:ByteArray} {n:Int} {e:Nat} (h:one s i=.ok (k,x,n,e)) (a:Int):Ag ⟨k,x,n,a⟩:=by
 unfold one at h;split at h
 ·split at h
  ·cases h
  ·injection h with h;injection h with hk h;injection h with hx h;subst hx;refine ⟨fun h5=>?_,fun h6=>?_⟩
   ·change k=5 at h5
    rw [h5] at hk;split at hk
    ·cases hk
    ·split at hk
     ·assumption
     ·cases hk
   ·change k=6 at h6
    rw [h6] at hk;split at hk
    ·cases hk
    ·split at hk<;>cases hk
 ·split at h
  ·split at h
   ·cases h
   ·split at h
    ·cases h
    ·injection h with h;injection h with hk h;subst hk;exact ⟨fun h=>absurd h (by simp),fun h=>absurd h (by simp)⟩
  ·split at h
   ·split at h
    ·injection h with h;injection h with hk h;subst hk;exact ⟨fun h=>absurd h (by simp),fun h=>absurd h (by simp)⟩
    ·cases h
   ·split at h
    ·rename_i hc;injection h with h;injection h with hk h;injection h with hx h;subst hk hx;exact ⟨fun h=>absurd h (by simp),fun _=>hc.2⟩
    ·split at h
     ·rename_i hc;injection h with h;injection h with hk h;injection h with hx h;subst hk hx;exact ⟨fun h=>absurd h (by simp),fun _=>hc.2⟩
     ·cases h
theorem NQ (s:ByteArray):∀(f i:Nat) (acc:List Tk),Gd acc->Gd (lI s f i acc).1
 | 0,i,acc,h=>h
 | f+1,i,acc,h=>by
  unfold lI;split
  ·split
   ·exact fun t ht=>by cases ht
   ·rename_i k x n e ho;split
    ·exact fun t ht=>by cases ht
    ·refine NQ s f _ _ (fun t ht=>?_);rcases List.mem_append.1 ht with ht|ht
     ·exact h t ht
     ·rw [List.mem_singleton.1 ht];exact VM ho _
  ·exact h
theorem NR (s:ByteArray):Gd (lx s).1:=by
 unfold lx;split
 ·exact fun t ht=>by cases ht
 ·exact NQ s _ _ _ (fun t ht=>by cases ht)
theorem Cq (w:World) {p:Nat} (T:TypeId) (z vs:Array Value) (hz:w.heap[p]?=some (.cells z T (0,0))) (hs:z.size=vs.size) :
  ∃W,w.setCells p 0 vs.toList=W/\w.there p 0 vs.size/\W.heap[p]?=some (.cells vs T (0,0))/\∀m,m≠p->W.heap[m]?=w.heap[m]? :=
 ⟨_,rfl,by have:=Ah hz;rw [hs] at this;exact this,Ai hz hs,fun m hm=>uw p m hm vs.toList 0 w⟩
theorem VN {w:World} {a:Addr} {b j:Nat} {v:Value} (h:a.block≠b):(w.setCell ⟨b,j,none⟩ v).cell? a=w.cell? a:=World.cell?_of_block (Below.heap_setCell _ _ _ _ h)
theorem VO (k:Int) (w:World):(Instr.typeAssert (.iface 48 (.int .i64 k)) 20 48 true).run Tryz.prog w=.ok (.tuple #[.int .i64 k,.bool true]) w:=by
 kernel_rfl
theorem VP (w:World):(Instr.typeAssert .nilIface 20 48 true).run Tryz.prog w=.ok (.tuple #[.int .i64 0,.bool false]) w:=by
 kernel_rfl
end Pz
theorem EX (p q r:Nat) (w:World) :
  CallsD Tryz.prog 22 #[.pointer (some ⟨p,0,none⟩),.pointer (some ⟨q,0,none⟩),.pointer (some ⟨r,0,none⟩)] .returning w fun e u' w'=>e=.returned (.tuple #[])/\u'=.returning/\w'=w:=by
 refine callsD_of_wpS Tryz.func22 rfl fun c₀ cs hu=>?_;apply wpS_seq;apply wpS_region;simp [wpOpsS,go_sem,recoverD,hu,Tryz.ntmps22,Exit.thenS,VP];apply wpS_seq;apply wpS_region;simp [wpOpsS,go_sem,Exit.thenS];refine wpS_cond (t:=false) (by simp [Act.eval,Array.replicate]) ?_;simp only [Bool.false_eq_true,if_false];refine wpS_of_wp (wp_skip ?_);cases c₀;simp_all [bodyPostS,results,Tryz.results22]
theorem Y5 (P Q R I Tp K T:Value):#[P,Q,R]++((((((((Array.replicate 10 undef).setIfInBounds 3 I).setIfInBounds 4 Tp).setIfInBounds 2 Tp).setIfInBounds 5 K).setIfInBounds 6 T).setIfInBounds 0 K).setIfInBounds 1 T).setIfInBounds 7 T=#[P,Q,R,K,T,Tp,I,Tp,K,T,T,undef,undef]:=by first|kernel_rfl|(apply Array.toList_inj.1;simp [List.replicate,List.set])
theorem XY (p q r:Nat) (J4:Array Value) (y x:Value) (k:Int) (older:List PanicEntry) (w:World) (hp:w.heap[p]?=some (.cells J4 29 (0,0))) (h8:J4.size=8) (hq:w.heap[q]?=some (.cells #[y] 3 (0,0))) (hr:w.heap[r]?=some (.cells #[x] 30 (0,0))) (hpq:q≠p) (hpr:r≠p) (Y6:r≠q) :
  CallsD Tryz.prog 22 #[.pointer (some ⟨p,0,none⟩),.pointer (some ⟨q,0,none⟩),.pointer (some ⟨r,0,none⟩)] (.panicking ({ v:=.iface 48 (.int .i64 k),recovered:=false } :: older)) w fun e u' w' =>
   e=.returned (.tuple #[])/\u'=.panicking ({ v:=.iface 48 (.int .i64 k),recovered:=true } :: older)/\w'=((w.setCells p 0 eQ.toList).setCell ⟨q,0,none⟩ (.int .i64 k)).setCell ⟨r,0,none⟩ (.int .i64 120):=by
 refine callsD_of_wpS Tryz.func22 rfl fun c₀ cs hu=>?_;apply wpS_seq;apply wpS_region;simp [wpOpsS,go_sem,recoverD,hu,Tryz.ntmps22,Exit.thenS,VO];apply wpS_seq;apply wpS_region;simp [wpOpsS,go_sem,Exit.thenS];refine wpS_cond (t:=true) (by simp [Act.eval,Array.replicate]) ?_;simp only [if_true];refine wpS_of_wp ?_;obtain ⟨W,hW,hth,hbk,hoth⟩:=Cq w 29 J4 eQ hp h8;have J5:W.heap[q]?=some (.cells #[y] 3 (0,0)):=(hoth q hpq).trans hq;have J6:W.heap[r]?=some (.cells #[x] 30 (0,0)):=(hoth r hpr).trans hr;have d1:=af J5 0 _ rfl;have d2:=af J6 0 _ rfl;have f1:W.frozen? ⟨q,0,none⟩=false:=by unfold World.frozen?;rw [J5];simp
 have f2:W.frozen? ⟨r,0,none⟩=false:=by unfold World.frozen?;rw [J6];simp
 have d3:(W.setCell ⟨q,0,none⟩ (.int .i64 k)).cell? ⟨r,0,none⟩=some x:=by rw [VN Y6];exact d2
 have HQ:=ae hu;rw [show w.setCells p 0 eQ.toList=W from hW];clear hp hq hr hbk hoth J5 J6 hu;rw [Y5];go_wp2_with (refine wpList_store_mid rfl 29 (.tmp 0) (.tmp 11) rfl p 0 eQ rfl rfl hth sW (by simp [Value.oneCell']) ?_;rw [hW]);simp [bodyPostS,results,Tryz.results22]
namespace Pz
structure PE (w:World) (cs:Array Value) (y x:Int) (u:World):Prop where
 below:Below w.heap.size w u
 b0:u.heap[w.heap.size]?=some (.cells cs 29 (0,0))
 sz:cs.size=8
 b1:u.heap[w.heap.size+1]?=some (.cells #[.int .i64 y] 3 (0,0))
 b2:u.heap[w.heap.size+2]?=some (.cells #[.int .i64 x] 30 (0,0))
def qm (w:World):World:=((w.alloc (.cells eQ 29)).alloc (.cells #[.int .i64 0] 3)).alloc (.cells #[.int .i64 0] 30)
theorem qc (w:World) (o:Obj) {g:Nat} (h:w.heap.size=g):(w.alloc o).heap[g]?=some o:=by rw [<- h];exact heap_alloc_new w o
theorem PE.on {w u u':World} {cs:Array Value} {y x:Int} (h:PE w cs y x u) (hb:Below u.heap.size u u'):PE w cs y x u' :=
 ⟨ax h.below hb,by rw [hb.block _ (Array.getElem?_eq_some_iff.1 h.b0).1];exact h.b0,h.sz,by rw [hb.block _ (Array.getElem?_eq_some_iff.1 h.b1).1];exact h.b1,by rw [hb.block _ (Array.getElem?_eq_some_iff.1 h.b2).1];exact h.b2⟩
theorem PE.start (w:World):PE w eQ 0 0 (qm w):=by
 have k1:=bN w (.cells eQ 29);have k2:=bN (w.alloc (.cells eQ 29)) (.cells #[.int .i64 0] 3);have k3:=bN ((w.alloc (.cells eQ 29)).alloc (.cells #[.int .i64 0] 3)) (.cells #[.int .i64 0] 30);refine ⟨ax (ax k1 k2) k3,?_,rfl,?_,qc _ _ (by simp)⟩
 ·unfold qm;rw [k3.block _ (by simp;omega),k2.block _ (by simp)];exact heap_alloc_new w _
 ·unfold qm;rw [k3.block _ (by simp)];exact qc _ _ (by simp)
theorem PE.set1 {w u:World} {cs:Array Value} {y x:Int} (h:PE w cs y x u) (y':Int):PE w cs y' x (u.setCell ⟨w.heap.size+1,0,none⟩ (.int .i64 y')) :=
 ⟨h.below.setCell (by show w.heap.size<=w.heap.size+1;omega) _,by rw [Below.heap_setCell _ _ _ _ (by show w.heap.size≠w.heap.size+1;omega)];exact h.b0,h.sz,heap_setCell_same u _ 0 _ _ _ h.b1,by rw [Below.heap_setCell _ _ _ _ (by show w.heap.size+2≠w.heap.size+1;omega)];exact h.b2⟩
theorem PE.set2 {w u:World} {cs:Array Value} {y x:Int} (h:PE w cs y x u) (x':Int):PE w cs y x' (u.setCell ⟨w.heap.size+2,0,none⟩ (.int .i64 x')) :=
 ⟨h.below.setCell (by show w.heap.size<=w.heap.size+2;omega) _,by rw [Below.heap_setCell _ _ _ _ (by show w.heap.size≠w.heap.size+2;omega)];exact h.b0,h.sz,by rw [Below.heap_setCell _ _ _ _ (by show w.heap.size+1≠w.heap.size+2;omega)];exact h.b1,heap_setCell_same u _ 0 _ _ _ h.b2⟩
theorem PE.put {w u:World} {cs:Array Value} {y x:Int} (h:PE w cs y x u) (vs:Array Value) (hv:vs.size=8):∃W,u.setCells w.heap.size 0 vs.toList=W/\u.there w.heap.size 0 vs.size/\PE w vs y x W:=by
 obtain ⟨W,hW,hth,hbk,hoth⟩:=Cq u 29 cs vs h.b0 (h.sz.trans hv.symm);refine ⟨W,hW,hth,?_,hbk,hv,(hoth _ (by omega)).trans h.b1,(hoth _ (by omega)).trans h.b2⟩;rw [<- hW];exact lZ w.heap.size w.heap.size (Nat.le_refl _) vs.toList 0 w u h.below
theorem PE.catch {w u : World} {cs : Array Value} {y x : Int} (h : PE w cs y x u) (k : Int) : CallsD Tryz.prog 22 #[.pointer (some ⟨w.heap.size, 0, none⟩), .pointer (some ⟨w.heap.size + 1, 0, none⟩), .pointer (some ⟨w.heap.size + 2, 0, none⟩)] (.panicking (Av k)) u fun e u' w' =>
      e = .returned (.tuple #[]) ∧ u' = .panicking ({ v := .iface 48 (.int .i64 k), recovered := true } :: []) ∧ PE w eQ k 120 w' := by
  refine (XY w.heap.size (w.heap.size + 1) (w.heap.size + 2) cs _ _ k [] u h.b0 h.sz h.b1 h.b2 (by omega) (by omega) (by omega)).mono ?_;rintro e u' w' ⟨he, hu, hw⟩;refine ⟨he, hu, ?_⟩;obtain ⟨W, hW, _, hP⟩ := h.put eQ rfl;rw [hw, hW];exact (hP.set1 k).set2 120
end Pz
end Go.Proofs.YtkdbgopgjbfhbaaGreatDoor
