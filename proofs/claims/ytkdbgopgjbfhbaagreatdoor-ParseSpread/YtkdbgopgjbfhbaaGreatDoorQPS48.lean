/- Texts that the claim needs. -/
import Derived.Test.YtkdbgopgjbfhbaaGreatDoorQPS43
import Derived.Test.YtkdbgopgjbfhbaaGreatDoorQPS45
import Derived.Test.YtkdbgopgjbfhbaaGreatDoorQPS47
import Derived.Test.YtkdbgopgjbfhbaaGreatDoorQPS35
import Derived.Lib.LaidTab
import Derived.ProofKit
namespace Go.Proofs.YtkdbgopgjbfhbaaGreatDoor
open Go.RowKit Lx Pz bb
set_option linter.unusedVariables false
set_option maxRecDepth 100000
set_option maxHeartbeats 8000000
namespace Pz
theorem FP (s:ByteArray):∀(f i:Nat) (acc:List Tk),acc.length<=4096->(dP s f i acc).1.length<=4096
 | 0,i,acc,h=>h
 | f+1,i,acc,h=>by
  rw [dP];split
  ·split
   ·exact Nat.zero_le _
   ·split
    ·exact Nat.zero_le _
    ·rename_i h4;exact FP s f _ _ (by rw [List.length_append];simp only [List.length_cons,List.length_nil];omega)
  ·exact h
theorem ZT (s:ByteArray):(lx s).1.length<=4096:=by
 unfold lx;split
 ·exact Nat.zero_le _
 ·exact FP s _ _ _ (Nat.zero_le _)
theorem ZU {w:World} {v:Value} {l:List Tk} (h:lq w v l) (hl:l.length<=4096):sO w v l:=by
 refine ⟨by omega,?_⟩;rcases h with ⟨rfl,rfl⟩|⟨g,c,rfl,hc⟩
 ·exact .inl ⟨rfl,none,0,rfl⟩
 ·refine .inr ⟨g,0,c,rfl,fun i t hi=>?_⟩;have hc':=hc i t hi;rw [Nat.zero_add];exact ⟨hc' 0 _ rfl,hc' 1 _ rfl,hc' 2 _ rfl,hc' 3 _ rfl⟩
theorem ZV {w:World} {t:Tk} {b:Nat} {T:TypeId} (h:w.heap[b]?=some (.cells #[.int .i64 t.k,.string t.x,.int .i64 t.n,.int .i64 t.a] T (0,0))):sO w (.slice (some ⟨b,0,none⟩) 1 1) [t]:=by
 refine ⟨by simp,.inr ⟨b,0,1,rfl,fun i u hu=>?_⟩⟩
 match i,hu with
 | 0,hu =>
  injection hu with hu;subst hu;exact ⟨af h 0 _ rfl,af h 1 _ rfl,af h 2 _ rfl,af h 3 _ rfl⟩
theorem ZW {t:Tk} (h:lU t=true):txt [t]=(fT t,0):=by
 have hz:=vZ h;have hz':(fT t).size<=33:=hz;have hj:gu [t]=(fT t).data.toList:=by unfold gu;simp
 have hl:(fT t).data.toList.length=(fT t).size:=by simp
 rw [Pj (by simp) (fun u hu=>by rw [List.mem_singleton.1 hu];exact h),hj,hl,if_neg (by omega)]
theorem ZX {l:List Tk} {i:Nat} {t:Tk} (h:l[i]?=some t):spread (l.take i)++(fT t++ky)=spread (l.take (i+1)):=by
 rw [List.take_add_one,h];exact (Py t _).symm
theorem QK:∀(l:List Tk),(∀t ∈ l,lU t=true)->(spread l).size<=l.length*40
 | [],_=>Nat.zero_le _
 | t :: l,h=>by
  have h1:(fT t).size<=33:=vZ (h t (List.mem_cons_self ..));have h2:=QK l (fun x hx=>h x (List.mem_cons_of_mem _ hx));rw [spread,ByteArray.size_append,ByteArray.size_append,List.length_cons]
  have:ky.size=4:=rfl
  omega
end Pz
theorem ZY (s:ByteArray) (w:World) (hG:WL w):Calls Tryz.prog 8 #[.string s] w fun e w'=>e=.returned (.bool true)/\Below w.heap.size w w':=by
 by_cases hbig:1500<s.size
 ·have q0:decide ((s.size:Int) > 1500)=true:=decide_eq_true (by omega);have HW:=ae (FJ w hG);clear hG hbig;go_enter Tryz.func8,Tryz.ntmps8;go_wp2_with fail;refine Calls.mono (show Calls _ _ _ _ _ from HW.out) ?_;rintro e u ⟨rfl,hb⟩;have HB:=ae hb;clear hb;go_wp2;go_ret;exact ⟨rfl,HB.out⟩
 ·have q0:decide ((s.size:Int) > 1500)=false:=decide_eq_false (by omega);have HP:=ae (FK s w hG);have wh:=ae (fun (u:World) (hb:Below w.heap.size w u)=>hG.on hb);clear hG hbig;go_enter Tryz.func8,Tryz.ntmps8;go_wp2_with fail;refine Calls.mono (show Calls _ _ _ _ _ from HP.out) ?_;rintro e u ⟨R,hS,hb,hR⟩;cases R with
  | error r =>
   obtain ⟨a,z⟩:=r;have hR':e=.returned (.tuple #[.agg dB,.int .i64 a,.int .i64 z]):=hR;subst hR';obtain ⟨hz,ha0,ha1⟩:=hS.bad;have p1:(z != 0)=true:=bne_iff_ne.2 hz;obtain ⟨W,hW,hth,hbk,hbw⟩:=l4 u 29 dB dB rfl;have HW:=ae hW;have ax:=ae hth;have aj:=ae hbk;have cf:=ae (az hb hbw);have iV:=ae (ZZ W);have Dy:=ae (fun (u2:World) (hb2:Below w.heap.size w u2)=>FJ u2 (wh.out u2 hb2));have z0:=af aj.out 0 _ rfl;have z1:=af aj.out 1 _ rfl;have z2:=af aj.out 2 _ rfl;have z3:=af aj.out 3 _ rfl;have z4:=af aj.out 4 _ rfl;have z5:=af aj.out 5 _ rfl;have z6:=af aj.out 6 _ rfl;have z7:=af aj.out 7 _ rfl;clear hW hth hbk hbw hb hS hR hz ha0 ha1 HP wh;go_wp2_with (refine wpList_store_mid rfl 29 (.tmp 3) (.tmp 23) rfl u.heap.size 0 dB rfl rfl ax.out qm (by simp [Value.oneCell']) ?_;rw [HW.out]);refine Calls.mono (show Calls _ _ _ _ _ from iV.out) ?_;rintro e w2 ⟨rfl,hb2⟩;have HB2:=ae (az cf.out hb2);have QL:=ae (Dy.out w2 HB2.out);clear hb2 iV Dy cf HW ax aj z0 z1 z2 z3 z4 z5 z6 z7;go_wp2_with fail;refine Calls.mono (show Calls _ _ _ _ _ from QL.out) ?_;rintro e w3 ⟨rfl,hb3⟩;have aW:=ae (az HB2.out hb3);clear hb3 QL HB2;go_wp2;go_ret;exact ⟨rfl,aW.out⟩
  | ok r =>
   obtain ⟨ds,t⟩:=r;obtain ⟨v,rfl,hpr⟩:=hR;obtain ⟨uD,k0,x0,y0,n0,vu,vz,a0,rfl,hone,hpr,⟨dt,QM⟩,d,hM⟩:=QN hpr;obtain ⟨o0,o1,o2⟩:=hone;have hf:=hM.fit
   have hx0:(lx s).2.2=0:=by
    have h:=hS;unfold Says at h;split at h
    ·cases h
    ·rename_i hc;simpa using hc
   obtain ⟨W,hW,hth,hbk,hbw⟩:=l4 u 29 dB #[uD,.int .i64 k0,.string x0,.string y0,.int .i64 n0,vu,vz,.int .i64 a0] rfl;have HW:=ae hW;have ax:=ae hth;have aj:=ae hbk;have cf:=ae (az hb hbw);have QO:=hpr.low (Nat.zero_le _);have wK:=ae (fun (u2:World) (hb2:Below u.heap.size u u2)=>QO.tq (fun kk _ hl=>hb2.block kk hl));have jw:=ae (XE s W);have Az:=Qa s;have hlm:=ZT s;have aA:=ae (fun (q:ByteArray) (hq:Lk (lx s).1 (lx q).1) (h0:(lx q).2.2=0)=>Says.alike hS hq h0);have HF:=ae hf;have QP:=ae QM;generalize hlx:lx s=LR at *;obtain ⟨l,lp,le⟩:=LR;simp only at hx0 Az hlm aA;subst hx0;have FQ:=ae Az;have QQ:=ae hlm;have QR:=ae hbw;have qh:=ae hb;clear hW hth hbk hbw hb hS HP hpr QO hM hf QM hlx Az hlm;go_wp2_with (refine wpList_store_mid rfl 29 (.tmp 3) (.tmp 23) rfl u.heap.size 0 #[uD,.int .i64 k0,.string x0,.string y0,.int .i64 n0,vu,vz,.int .i64 a0] rfl rfl ax.out qm (by simp [Value.oneCell'] at o0 o1 o2 ⊢;exact ⟨o0,o1,o2⟩) ?_;rw [HW.out]);refine Calls.mono (show Calls _ _ _ _ _ from jw.out) ?_;rintro e w2 ⟨vl,rfl,jy,hb2⟩;have HB2:=ae (az QR.out hb2);have HX:=ae ((hb2.block _ (Array.getElem?_eq_some_iff.1 aj.out).1).trans aj.out);have J5:=ZU jy QQ.out;obtain ⟨ol,cl,rfl⟩:=J5.len;have QS:=ae J5;have hlm:=QQ.out;clear jy hb2 J5 jw cf QR HW ax aj;go_wp2_with fail;have BB:Hid (Below w2.heap.size w2 w2):=ae (Below.refl _ _);go_loopw [9,10] (fun tv av wr=>∃i:Nat,tv=.string (spread (l.take i))/\av=.int .i64 i/\i<=l.length/\Hid (Below w2.heap.size w2 wr)) (fun _ av _=>match av with | .int _ i=>l.length-i.toNat|_=>0)
   case atStart=>exact ⟨0,rfl,rfl,Nat.zero_le _,BB⟩
   case round =>
    obtain ⟨i,rfl,rfl,hi,aW⟩:=hrel;clear BB;by_cases hp:i<l.length
    ·obtain ⟨tt,ht⟩:∃t,l[i]?=some t:=⟨_,List.getElem?_eq_getElem hp⟩;obtain ⟨g,go,cg,yC,hcl⟩:=QS.out.some (by omega);injection yC with h1 h2 h3;subst h1;have hc:=hcl i tt ht;have y0:=ah aW.out hc.c0;have y1:=ah aW.out hc.c1;have y2:=ah aW.out hc.c2;have y3:=ah aW.out hc.c3;have q1:decide ((i:Int)<(l.length:Int))=true:=decide_eq_true (by omega);have hw1:=uk hp (by omega);have hn:=dh wr (.cells #[.int .i64 tt.k,.string tt.x,.int .i64 tt.n,.int .i64 tt.a] 47);have htx:=XM (.slice (some ⟨wr.heap.size,0,none⟩) 1 1) [tt] (wr.alloc (.cells #[.int .i64 tt.k,.string tt.x,.int .i64 tt.n,.int .i64 tt.a] 47)) (ZV (heap_alloc_new wr _));rw [ZW (FQ.out tt (List.mem_of_getElem? ht))] at htx;have QT:=ae htx;have hst:=ZX ht;obtain ⟨S1,hS1⟩:∃S,S=spread (l.take (i+1)):=⟨_,rfl⟩;rw [<- hS1] at hst;have aD:=ae hS1;have HN:=ae hn
     have hz0:(spread (l.take i)).size<=163840:=by
      have h1:=QK (l.take i) (fun x hx=>FQ.out x (List.mem_of_mem_take hx));have h2:(l.take i).length<=4096:=by rw [List.length_take];omega
      omega
     have hz1:(fT tt).size<=33:=vZ (FQ.out tt (List.mem_of_getElem? ht));have hz2:¬ 9223372036854775807<(fT tt).size+4:=by omega
     have hz3:¬ 9223372036854775807<(spread (l.take i)).size+((fT tt).size+4):=by omega
     generalize spread (l.take i)=S0 at *;generalize fT tt=sp at *;have hst':S0++(sp++⟨#[32,35,120,10]⟩)=S1:=hst;generalize tt.k=k9 at *;generalize tt.x=x9 at *;generalize tt.n=n9 at *;generalize tt.a=a9 at *;clear hcl hc ht htx hst hS1 hn h2 h3 hz0 hz1;go_wp2_with fail;refine Calls.mono (show Calls _ _ _ _ _ from QT.out) ?_;rintro e w5 ⟨rfl,hb5⟩;have eT:=ae (az (az aW.out HN.out) hb5);clear hb5 QT HN y0 y1 y2 y3;go_wp2;go_roundw
     case rel=>exact ⟨i+1,by rw [aD.out],by first|rfl|(congr 1),hp,eT⟩
     case measure=>first|exact Nat.sub_lt_sub_left hp (Nat.lt_succ_self _)|(simp;exact Nat.sub_lt_sub_left hp (Nat.lt_succ_self _))
    ·have q1:decide ((i:Int)<(l.length:Int))=false:=decide_eq_false (by omega);have hil:l.take i=l:=List.take_of_length_le (by omega);rw [hil];have iI:=ae (az HB2.out aW.out);have cf:=ae (az qh.out iI.out);have HW1:=ae (FJ wr (wh.out wr cf.out));by_cases h8:8192<(spread l).size
     ·obtain ⟨S,hS⟩:∃S,S=spread l:=⟨_,rfl⟩;rw [<- hS] at h8 ⊢;have q2:decide ((S.size:Int) > 8192)=true:=decide_eq_true (by omega);clear hS h8 aA;go_wp2_with fail;refine Calls.mono (show Calls _ _ _ _ _ from HW1.out) ?_;rintro e w5 ⟨rfl,hb5⟩;have eT:=ae (az cf.out hb5);clear hb5 HW1;go_wp2;go_ret;exact ⟨rfl,eT.out⟩
     ·obtain ⟨QU,hlk⟩:=Yz FQ.out hlm (by omega);obtain ⟨ds',t',iJ,QV,QW⟩:=aA.out _ hlk QU;obtain ⟨S,hS⟩:∃S,S=spread l:=⟨_,rfl⟩;rw [<- hS] at h8 iJ ⊢;have q2:decide ((S.size:Int) > 8192)=false:=decide_eq_false (by omega);have sN:=ae (FK S wr (wh.out wr cf.out));have aU:=ae iJ;have Z0:=ae QV;have Z1:=ae QW;clear hS h8 aA iJ QV QW hlk QU HW1;go_wp2_with fail;refine Calls.mono (show Calls _ _ _ _ _ from sN.out) ?_;rintro e u3 ⟨R2,hSS,hb3,jh⟩;obtain rfl:=hSS.one aU.out;obtain ⟨v2,rfl,FR⟩:=jh;obtain ⟨zi,k2,x2,y2,n2,QX,QY,a2,rfl,Z2,FR,_,_⟩:=QN FR;obtain ⟨o3,o4,o5⟩:=Z2;obtain ⟨W3,hW3,wL,QZ,FU⟩:=l4 u3 29 dB #[zi,.int .i64 k2,.string x2,.string y2,.int .i64 n2,QX,QY,.int .i64 a2] rfl;have hu3:=az (az iI.out hb3) FU;have HW3:=ae hW3;have zk:=ae wL;have wM:=ae QZ;have mb:=ae (az qh.out hu3);have Q0:=FR.low (Nat.zero_le _);have hsm:=Z3 false d dt ds ds' t t' _ _ W3 HF.out QP.out (wK.out W3 hu3) (Q0.tq (fun kk _ hl=>FU.block kk hl));rw [Z4 Z0.out Z1.out HF.out QP.out] at hsm;have iY:=ae hsm;have Dy:=ae (fun (u2:World) (hb2:Below w.heap.size w u2)=>FJ u2 (wh.out u2 hb2));have Q3:=(az (az aW.out hb3) FU).block _ (Array.getElem?_eq_some_iff.1 HX.out).1;have dZ:=ae (Q3.trans HX.out);have z0:=af dZ.out 0 _ rfl;have z1:=af dZ.out 1 _ rfl;have z2:=af dZ.out 2 _ rfl;have z3:=af dZ.out 3 _ rfl;have z4:=af dZ.out 4 _ rfl;have z5:=af dZ.out 5 _ rfl;have z6:=af dZ.out 6 _ rfl;have z7:=af dZ.out 7 _ rfl;have v0:=af wM.out 0 _ rfl;have v1:=af wM.out 1 _ rfl;have v2:=af wM.out 2 _ rfl;have v3:=af wM.out 3 _ rfl;have v4:=af wM.out 4 _ rfl;have v5:=af wM.out 5 _ rfl;have v6:=af wM.out 6 _ rfl;have v7:=af wM.out 7 _ rfl;clear Q3 hsm FR Q0 hu3 hW3 wL QZ FU hb3 hSS sN aU wK wh QS HX;go_wp2_with (refine wpList_store_mid rfl 29 (.tmp 13) (.tmp 68) rfl u3.heap.size 0 #[zi,.int .i64 k2,.string x2,.string y2,.int .i64 n2,QX,QY,.int .i64 a2] rfl rfl zk.out qm (by simp [Value.oneCell'] at o3 o4 o5 ⊢;exact ⟨o3,o4,o5⟩) ?_;rw [HW3.out]);refine Calls.mono (show Calls _ _ _ _ _ from iY.out) ?_;rintro e w5 ⟨rfl,hb5⟩;have eT:=ae (az mb.out hb5);have Q4:=ae (Dy.out w5 eT.out);clear hb5 iY Dy mb z0 z1 z2 z3 z4 z5 z6 z7 v0 v1 v2 v3 v4 v5 v6 v7;go_wp2_with fail;refine Calls.mono (show Calls _ _ _ _ _ from Q4.out) ?_;rintro e w6 ⟨rfl,ik⟩;have tu:=ae (az eT.out ik);clear ik Q4 eT;go_wp2;go_ret;exact ⟨rfl,tu.out⟩
end Go.Proofs.YtkdbgopgjbfhbaaGreatDoor
namespace Go.Proofs.YtkdbgopgjbfhbaaGreatDoor
open Go.RowKit Lx
set_option linter.unusedVariables false
theorem own:ownKnob Tryz.prog.godebug=none:=by kernel_rfl
theorem Vb : Tryz.prog.globalNamed "athanor/lex.keyWords" = some 1 := by kernel_rfl
theorem Vd : Tryz.prog.globalNamed "athanor/lex.signs" = some 2 := by kernel_rfl
theorem adU:(Tryz.prog.globals[1]?).map (·.type)=some 134:=by kernel_rfl
theorem adV:(Tryz.prog.globals[2]?).map (·.type)=some 135:=by kernel_rfl
theorem adW:Tryz.prog.cellsOf 134=12:=by kernel_rfl
theorem adX:Tryz.prog.cellsOf 135=14:=by kernel_rfl
theorem Ve:Tryz.prog.cellsOf 9=1:=by kernel_rfl
theorem Vf {H:Type} {enc:TypeId × Value->H} {P:Program} {w:World} {base:Nat} {sp:Nat->Bool} {held:Bool} {fuel:Nat} {t e:TypeId} {n:Nat} {cs:List Value} {zs:List ByteArray} {p:List MemPlace}
  (ht:P.underlying t=some (.array n e)) (he:P.underlying e=some .string) (hce:P.cellsOf e=1) (hct:P.cellsOf t=n)
  (h:DataW.trod enc P w base sp held fuel t cs=some (.agg (zs.map fun z=>.lit (.string z.data.toList)),p)):cs=zs.map fun z=>Value.string z:=by
 cases fuel with
 | zero=>simp [DataW.trod] at h
 | succ fuel =>
  simp only [DataW.trod,ht,hce,hct,Nat.mul_one] at h;split at h
  ·rename_i hl;obtain ⟨xs,hm,hx⟩:=Option.map_eq_some_iff.1 h
   have hxs:xs.map (·.1)=zs.map fun z=>(DataW.lit (.string z.data.toList):DataW H):=by
    have:=congrArg Prod.fst hx
    simpa using this
   have hxl:xs.length=n:=by simpa using Lib.mapM_length hm
   have hzl:zs.length=n:=by
    have:=congrArg List.length hxs
    simp at this;omega
   apply List.ext_getElem?;intro i;by_cases hi:i<n
   ·obtain ⟨b,hb,hf⟩:=Lib.mapM_at hm i i (by simp [hi]);obtain ⟨z,hc,rfl,_⟩:=DataW.trod_string he hf
    have h1:cs[i]?=some (.string z):=by
     have:=congrArg (·[0]?) hc
     simpa [List.getElem?_take,List.getElem?_drop] using this
    have h2:(xs.map (·.1))[i]?=some (DataW.lit (.string z.data.toList):DataW H):=by simp [hb]
    rw [hxs] at h2;simp only [List.getElem?_map,Option.map_eq_some_iff,DataW.lit.injEq,Lit.string.injEq] at h2;obtain ⟨z',hz',h3⟩:=h2;obtain rfl:z'=z:=ByteArray.ext (Array.toList_inj.1 h3);simp [h1,hz']
   ·rw [List.getElem?_eq_none (by omega),List.getElem?_eq_none (by simp;omega)]
  ·cases h
theorem adY:(Rows.laid_athanor_lex_keyWords:DataW Unit)=.agg (keys.map fun z=>.lit (.string z.data.toList)):=by kernel_rfl
theorem adZ:(Rows.laid_athanor_lex_signs:DataW Unit)=.agg (signs.map fun z=>.lit (.string z.data.toList)):=by kernel_rfl
theorem Vg {W:World} {g:Nat} {cs:Array Value} {l:List ByteArray} (h:∀k,W.cell? ⟨g,k,none⟩=cs[k]?) (hc:cs.toList=l.map fun z=>Value.string z):W.rangeAt g 0 (l.map Value.string):=fun j v hv=>by
 rw [Nat.zero_add,h j,<- Array.getElem?_toList,hc];exact hv
theorem abU {W : World} (hL : laidMetH Tryz.prog [("athanor/lex.keyWords", Rows.laid_athanor_lex_keyWords), ("athanor/lex.signs", Rows.laid_athanor_lex_signs)] W) : WL W := by
 rw [adY,adZ] at hL;have hM : laidMet Tryz.prog [("athanor/lex.keyWords", .agg (keys.map fun z => .lit (.string z.data.toList))), ("athanor/lex.signs", .agg (signs.map fun z => .lit (.string z.data.toList)))] W := hL
 obtain ⟨ps,⟨g',t',cs,fuel,p,q,hg',ht',hvar,hd,hrest,_⟩,hend⟩:=hM;obtain rfl:=Option.some.inj (Vb.symm.trans hg');obtain rfl:=Option.some.inj (adU.symm.trans ht');have hcs:=Vf Tryz.underlying134 Tryz.underlying9 Ve adW hd;have h0:=Vg (fun k=>World.var?_cell Vb hvar k) hcs;obtain ⟨g2,t2,jL,afi,p2,q2,hg2,ht2,ad0,hd2,_⟩:=hrest;obtain rfl:=Option.some.inj (Vd.symm.trans hg2);obtain rfl:=Option.some.inj (adV.symm.trans ht2);have hcs2:=Vf Tryz.underlying135 Tryz.underlying9 Ve adX hd2;exact ⟨h0,Vg (fun k=>World.var?_cell Vd ad0 k) hcs2⟩
noncomputable def KW (os:Os):World :=
 { World.holding Tryz.prog os ⟨#[],#[],[]⟩ with heap:=((World.holding Tryz.prog os ⟨#[],#[],[]⟩).heap.modify 1 fun | .cells _ t frozen=>.cells #[.string ⟨#[116,121,112,101]⟩,.string ⟨#[102,117,110]⟩,.string ⟨#[108,101,116]⟩,.string ⟨#[114,101,99]⟩,.string ⟨#[105,110]⟩,.string ⟨#[99,97,115,101]⟩,.string ⟨#[111,102]⟩,.string ⟨#[101,110,100]⟩,.string ⟨#[105,102]⟩,.string ⟨#[116,104,101,110]⟩,.string ⟨#[101,108,115,101]⟩,.string ⟨#[112,114,105,110,116]⟩] t frozen|o=>o).modify 2 fun | .cells _ t frozen=>.cells #[.string ⟨#[45,62]⟩,.string ⟨#[61,61]⟩,.string ⟨#[124]⟩,.string ⟨#[61]⟩,.string ⟨#[40]⟩,.string ⟨#[41]⟩,.string ⟨#[59]⟩,.string ⟨#[43]⟩,.string ⟨#[45]⟩,.string ⟨#[42]⟩,.string ⟨#[47]⟩,.string ⟨#[37]⟩,.string ⟨#[60]⟩,.string ⟨#[95]⟩] t frozen|o=>o }
end Go.Proofs.YtkdbgopgjbfhbaaGreatDoor
