/- Texts that the claim needs. -/
import Derived.Test.YtkdbgopgjbfhbaaGreatDoorQPW36
import Derived.Test.YtkdbgopgjbfhbaaGreatDoorQPW33
import Derived.Test.YtkdbgopgjbfhbaaGreatDoorQPW1
import Derived.Laws.Strings
import Derived.Test.YtkdbgopgjbfhbaaGreatDoorQPW28
namespace Go.Proofs.YtkdbgopgjbfhbaaGreatDoor
open Go.RowKit Lx Pz bq
set_option linter.unusedVariables false
set_option maxRecDepth 100000
set_option maxHeartbeats 16000000
namespace Pz
theorem wo {i n:Nat} (h:i<n) (hn:n<=9223372036854775807):wrap64 ((i:Int)+1)=((i+1:Nat):Int):=by unfold wrap64;omega
end Pz
theorem acb:∀(m:Nat) (pl:Bool) (l k:List Value) (vl vk:Value) (w:World),mI m l->kz 0 vl l w->kz 0 vk k w->Calls Tryz.prog 78 #[vl,vk,.bool pl] w fun e w'=>e=.returned (.bool (fQ pl m l k))/\Below w.heap.size w w':=by
 intro m
 induction m with
 | zero =>
  intro pl l k vl vk w hf h hk;have hl:l = []:=hf;subst hl;obtain ⟨d,h⟩:=h;obtain ⟨d2,hk⟩:=hk;obtain ⟨oR,cR,rfl,_⟩:=cF h;obtain ⟨oS,cS,rfl,_⟩:=cF hk;obtain ⟨R,hR⟩:∃R,R=fQ pl 0 [] k:=⟨_,rfl⟩;rw [<- hR];rw [List.length_nil];clear h hk;cases k with
  | nil =>
   have HS:Hid (true=R):=ae (by rw [hR];rfl);clear hR;rw [List.length_nil];go_enter Tryz.func78,Tryz.ntmps78;go_wp2_with fail;go_loopw [7] (fun a wr=>a=.int .i64 0/\Hid (Below w.heap.size w wr)) (fun _ _=>0)
   case atStart=>exact ⟨rfl,ae (Below.refl _ _)⟩
   case round =>
    obtain ⟨rfl,HB⟩:=hrel;go_wp2;go_ret;exact ⟨bf HS.out,HB.out⟩
  | cons x k =>
   have HS:Hid (false=R):=ae (by rw [hR];rfl);obtain ⟨n,hn⟩:∃n,n=(x :: k).length:=⟨_,rfl⟩;have hne:¬ 0=n:=by rw [hn];simp
   rw [<- hn];clear hR hn;go_enter Tryz.func78,Tryz.ntmps78;go_wp2;go_ret;exact ⟨bf HS.out,Below.refl _ _⟩
 | succ m ih =>
  intro pl l k vl vk w hf h hk;obtain ⟨d,h⟩:=h;obtain ⟨d2,hk⟩:=hk;obtain ⟨oR,cR,rfl,hel⟩:=cF h;obtain ⟨oS,cS,rfl,hes⟩:=cF hk;obtain ⟨R,hR⟩:∃R,R=fQ pl (m+1) l k:=⟨_,rfl⟩;rw [<- hR];rw [AO] at hR;by_cases hlen:l.length=k.length
  ·have st0:Hid (dL (sm pl m) (l.drop 0) (k.drop 0)=R):=ae (by rw [hR];rfl);have HL:=ae h.1;have iT:=ae hel;have uF:=ae hes;have rU:=ae hlen;have yM:=ae hf;have nG:=ae ih;rw [<- hlen];clear hR h hk hel hes hlen hf ih;go_enter Tryz.func78,Tryz.ntmps78;go_wp2_with fail;go_loopw [7] (fun a wr=>∃i:Nat,a=.int .i64 i/\i<=l.length/\Hid (dL (sm pl m) (l.drop i) (k.drop i)=R)/\Hid (Below w.heap.size w wr)) (fun a _=>match a with | .int _ i=>l.length-i.toNat|_=>0)
   case atStart=>exact ⟨0,rfl,Nat.zero_le _,st0,ae (Below.refl _ _)⟩
   case round =>
    obtain ⟨i,rfl,hi,HN,HB2⟩:=hrel;clear st0;by_cases hp:i<l.length
    ·obtain ⟨t1,ht1⟩:∃t1,l[i]?=some t1:=⟨_,List.getElem?_eq_getElem hp⟩;obtain ⟨t2,ht2⟩:∃t2,k[i]?=some t2:=⟨_,List.getElem?_eq_getElem (by have:=rU.out;omega)⟩;obtain ⟨b,off,gH,hC⟩:=iT.out i t1 ht1;obtain ⟨b2,bU,yN,hD⟩:=uF.out i t2 ht2;subst gH;subst yN;obtain ⟨pk,px,pn,pu,pa,p1,p2,p3,p4,p5,OT,pT⟩:=TM hC;obtain ⟨qk,qx,qn,qu,qa,q1,q2,q3,q4,q5,OV,qT⟩:=TM hD;have y0:=ai HB2.out p1;have x0:=ai HB2.out q1;have y1:=ai HB2.out p2;have x1:=ai HB2.out q2;have y2:=ai HB2.out p3;have x2:=ai HB2.out q3;have y3:=ai HB2.out p4;have x3:=ai HB2.out q4;have y4:=ai HB2.out p5;have x4:=ai HB2.out q5;obtain ⟨dd,k1,x1,n1,es1,a1,u1,h0,hv1,hr1⟩:=pT;obtain ⟨AQ,k2,x2,n2,es2,a2,u2,h02,hv2,hr2⟩:=qT;injection hv1 with hv1;injection hv2 with hv2;simp only [Array.mk.injEq,List.cons.injEq,Value.int.injEq,Value.string.injEq,true_and,and_true] at hv1 hv2;obtain ⟨rfl,rfl,rfl,rfl,rfl⟩:=hv1;obtain ⟨rfl,rfl,rfl,rfl,rfl⟩:=hv2;have hfit:=yM.out t1 (List.mem_of_getElem? ht1);have hd:=wm (f:=sm pl m) ht1 ht2;rw [HN.out] at hd;have hfa:mI m es1:=by have:=(CK hfit).1;rw [h0] at this;exact this
     have hsm:sm pl m t1 t2=(tL pl (nd pk px e0 pn es1 [] pa) (nd qk qx e0 qn es2 [] qa) && fQ pl m es1 es2):=by
      rw [h0,h02];show (tL pl _ _ && (fQ pl m es1 es2 && fQ pl m [] []))=_;rw [show fQ pl m [] []=true by cases m<;>rfl,Bool.and_true]
     have hhd:tL pl (nd pk px e0 pn es1 [] pa) (nd qk qx e0 qn es2 [] qa)=((pk == qk) && (decide (px=qx) && ((pn == qn) && (!pl || (pa == qa))))):=by
      show ((pk == qk) && (decide (px=qx) && (true && ((pn == qn) && (!pl || (pa == qa))))))=_;rw [Bool.true_and]
     rw [hsm,hhd] at hd;obtain ⟨oA,cA,rfl,_⟩:=cF hr1;obtain ⟨oB,cB,rfl,_⟩:=cF hr2;have gu:=ae (fun (u:World) (hu:Below w.heap.size w u)=>nG.out pl es1 es2 (.slice oA es1.length cA) (.slice oB es2.length cB) u hfa ⟨dd,hr1.imp (fun b o t _ ht=>di.but (fun kk _ hl=>hu.block kk hl) _ b o t ht)⟩ ⟨AQ,hr2.imp (fun b o t _ ht=>di.but (fun kk _ hl=>hu.block kk hl) _ b o t ht)⟩);generalize fQ pl m es1 es2=A at *;have HD:=ae hd;have w1:decide ((i:Int)<(l.length:Int))=true:=decide_eq_true (by omega);have hw1:=wo hp HL.out;have hik:i<l.length:=hp;clear hC hD p1 q1 p2 q2 p3 q3 p4 q4 p5 q5 ht1 ht2 HN hd hsm hhd hfit hfa h0 h02 hr1 hr2;go_upto_region 6 with fail;refine aj.CX (Z:=Zt) (none,none) 12 67 (fun i=>if i<8 then 21+i else if i=8 then 8 else if i=9 then 9 else 21+i) [10,11] [8,9,10,11] (dY wr.heap.size 101 #[.int .i64 pk,.string px,.int .i64 pn,.slice oA es1.length cA,.int .i64 pa] #[.int .i64 qk,.string qx,.int .i64 qn,.slice oB es2.length cB,.int .i64 qa]) (yX wr.heap.size wr) (fun _ _ _=>True) (dN 101 iz #[.int .i64 pk,.string px,.int .i64 pn,.slice oA es1.length cA,.int .i64 pa] #[.int .i64 qk,.string qx,.int .i64 qn,.slice oB es2.length cB,.int .i64 qa] [.slice (some ⟨b,off,none⟩) l.length cR,.int .i64 (i:Int),.pointer (some ⟨b,off+i*5,none⟩),.agg #[.int .i64 pk,.string px,.int .i64 pn,.slice oA es1.length cA,.int .i64 pa],.slice (some ⟨b2,bU,none⟩) l.length cS,.int .i64 (i:Int),.pointer (some ⟨b2,bU+i*5,none⟩),.agg #[.int .i64 qk,.string qx,.int .i64 qn,.slice oB es2.length cB,.int .i64 qa]]) (by kernel_rfl) (by kernel_rfl) (by kernel_rfl) (by kernel_rfl) rfl ?hN ?mg (fun _ _ _ _ _ _ _ _ _ _ _ _ _=>trivial) (fun k z z' u u' hk hK hT=>hK.step hk hT) ?hstep ?hend ⟨iF _,fun _ h=>(by cases h),fun _ h=>(by cases h),fun _ _ h=>(by cases h),Nat.le_refl _⟩ (fun _ _=>trivial)
     case hN=>exact fun i hi z v v' u h=>h.st (by simpa using hi)
     case mg =>
      intro i k v z z' u u' hi hk hne hcl _ hK hG hT;refine hG.Jt hk hne (fun e e2=>?_) (fun e e2=>?_) hK hT
      ·subst e;subst e2;exact absurd hcl (by decide)
      ·subst e;subst e2;exact absurd hcl (by decide)
     case hstep =>
      intro j o a z u hj ho hF hK hR hd;have f0:a.tmps[0]?.getD undef=.slice (some ⟨b,off,none⟩) l.length cR:=aj.ay (hF.eval 0 (fun i hi=>qX 21 i 0 (by decide) (by decide) hi));have f1:a.tmps[1]?.getD undef=.slice (some ⟨b2,bU,none⟩) l.length cS:=aj.ay (hF.eval 1 (fun i hi=>qX 21 i 1 (by decide) (by decide) hi));have f7:a.tmps[7]?.getD undef=.int .i64 (i:Int):=aj.ay (hF.eval 7 (fun i hi=>qX 21 i 7 (by decide) (by decide) hi));have HK:=ae hK;have y0:=ai hK.eG y0;have x0:=ai hK.eG x0;have y1:=ai hK.eG y1;have x1:=ai hK.eG x1;have y2:=ai hK.eG y2;have x2:=ai hK.eG x2;have y3:=ai hK.eG y3;have x3:=ai hK.eG x3;have y4:=ai hK.eG y4;have x4:=ai hK.eG x4;have hcase:j=0\/j=1\/j=2\/j=3\/j=4\/j=5\/j=6\/j=7\/j=8\/j=9\/j=10\/j=11:=by omega
      clear hj hR hK;rcases hcase with rfl|rfl|rfl|rfl|rfl|rfl|rfl|rfl|rfl|rfl|rfl|rfl
      all_goals (simp only [List.getElem?_toArray,List.getElem?_cons_succ,List.getElem?_cons_zero,Option.some.injEq] at ho;subst ho;refine aj.bB fun K ax=>?_)
      ·skip
       go_simp;exact ax _ _ ⟨_,z,rfl,dY.rd (by decide),dN.rd (by decide) rfl⟩
      ·skip
       go_simp;exact ax _ _ ⟨_,z,rfl,dY.rd (by decide),dN.rd (by decide) rfl⟩
      ·have q0:a.tmps[21]?.getD undef=_:=aj.ay ((hd 0 (by decide)).1 (by decide));have q1:a.tmps[22]?.getD undef=_:=aj.ay ((hd 1 (by decide)).1 (by decide));simp only [List.getD_cons_succ,List.getD_cons_zero] at q0 q1;go_simp;exact ax _ _ ⟨_,z,rfl,dY.rd (by decide),dN.rd (by decide) rfl⟩
      ·have q2:a.tmps[23]?.getD undef=_:=aj.ay ((hd 2 (by decide)).1 (by decide));simp only [List.getD_cons_succ,List.getD_cons_zero] at q2;go_simp;exact ax _ _ ⟨_,z,rfl,dY.rd (by decide),dN.rd (by decide) rfl⟩
      ·skip
       go_simp;exact ax _ _ ⟨_,z,rfl,dY.rd (by decide),dN.rd (by decide) rfl⟩
      ·skip
       go_simp;exact ax _ _ ⟨_,z,rfl,dY.rd (by decide),dN.rd (by decide) rfl⟩
      ·have q4:a.tmps[25]?.getD undef=_:=aj.ay ((hd 4 (by decide)).1 (by decide));have q5:a.tmps[26]?.getD undef=_:=aj.ay ((hd 5 (by decide)).1 (by decide));simp only [List.getD_cons_succ,List.getD_cons_zero] at q4 q5;go_simp;exact ax _ _ ⟨_,z,rfl,dY.rd (by decide),dN.rd (by decide) rfl⟩
      ·have q6:a.tmps[27]?.getD undef=_:=aj.ay ((hd 6 (by decide)).1 (by decide));simp only [List.getD_cons_succ,List.getD_cons_zero] at q6;go_simp;exact ax _ _ ⟨_,z,rfl,dY.rd (by decide),dN.rd (by decide) rfl⟩
      ·go_simp;exact ax _ _ ⟨_,(some u.heap.size,z.2),rfl,dY.yY HK.out.sz _,dN.yY _ rfl⟩
      ·go_simp;exact ax _ _ ⟨_,(z.1,some u.heap.size),rfl,dY.yZ HK.out.sz _,dN.yZ _ rfl⟩
      ·obtain ⟨b9,k1,k2,k3⟩:=(hd 8 (by decide)).2.1 rfl;have q:a.eval (.tmp 24)=.agg #[.int .i64 pk,.string px,.int .i64 pn,.slice oA es1.length cA,.int .i64 pa]:=(hd 3 (by decide)).1 (by decide);obtain ⟨W,hW,hth,hbw,hb1,hb2⟩:=A7 (zc:=iz) (C:=#[.int .i64 pk,.string px,.int .i64 pn,.slice oA es1.length cA,.int .i64 pa]) (TY:=101) (HK.out.a b9 k1).1 rfl k3;refine wp_store_mid 101 (.tmp 8) (.tmp 24) rfl b9 0 #[.int .i64 pk,.string px,.int .i64 pn,.slice oA es1.length cA,.int .i64 pa] k2 q hth jk (by simp [Value.oneCell']) ?_;rw [hW];exact ax _ _ ⟨undef,z,rfl,dY.y8 k1 hbw hb1 hb2,dN.y8 k1 hb1⟩
      ·obtain ⟨b9,k1,k2,k3⟩:=(hd 9 (by decide)).2.2.1 rfl;have q:a.eval (.tmp 28)=.agg #[.int .i64 qk,.string qx,.int .i64 qn,.slice oB es2.length cB,.int .i64 qa]:=(hd 7 (by decide)).1 (by decide);obtain ⟨W,hW,hth,hbw,hb1,hb2⟩:=A7 (zc:=iz) (C:=#[.int .i64 qk,.string qx,.int .i64 qn,.slice oB es2.length cB,.int .i64 qa]) (TY:=101) (HK.out.b b9 k1).1 rfl k3;refine wp_store_mid 101 (.tmp 9) (.tmp 28) rfl b9 0 #[.int .i64 qk,.string qx,.int .i64 qn,.slice oB es2.length cB,.int .i64 qa] k2 q hth jk (by simp [Value.oneCell']) ?_;rw [hW];exact ax _ _ ⟨undef,z,rfl,dY.za k1 hbw hb1 hb2,dN.za k1 hb1⟩
     case hend =>
      intro a z u hF hK hn;obtain ⟨c1,e1,h1,_⟩:=(hn 8 (by simp) (by decide)).2.1 rfl;obtain ⟨c2,e2,h1',_⟩:=(hn 9 (by simp) (by decide)).2.2.1 rfl;obtain ⟨c1',sQ,h3⟩:=(hn 10 (by simp) (by decide)).2.2.2.1 rfl;obtain ⟨c2',e2',h3'⟩:=(hn 11 (by simp) (by decide)).2.2.2.2 rfl;obtain rfl:c1'=c1:=by rw [e1] at sQ;exact (Option.some.inj sQ).symm
      obtain rfl:c2'=c2:=by rw [e2] at e2';exact (Option.some.inj e2').symm
      have fH:=ae (aB HB2.out hK.eG);have H3:=ae h3;have gJ:=ae h3'
      obtain ⟨xl,hxl,rfl,hev⟩:=(aj.Fr.two (s1:=8) (s2:=9) (lo:=21) (n:=12) hF h1 h1' (by simp) (fun k e1 e2 e3 i hi=>qX 21 i k (by decide) ⟨e1,e2,by
       rcases Nat.lt_or_ge k 21 with h|h
       ·exact .inl h
       ·refine .inr (Nat.le_of_not_lt fun hl=>e3 (k-21) (by omega) (by omega))⟩ hi)).lit (by simp)
      obtain ⟨x0,x1,x2,x3,x4,x5,x6,x7,x8,x9,gD,iD,rfl⟩:∃x0 x1 x2 x3 x4 x5 x6 x7 x8 x9 gD iD,xl = [x0,x1,x2,x3,x4,x5,x6,x7,x8,x9,gD,iD]:=by
       match xl,hxl with
       | [x0,x1,x2,x3,x4,x5,x6,x7,x8,x9,gD,iD],_=>exact ⟨x0,x1,x2,x3,x4,x5,x6,x7,x8,x9,gD,iD,rfl⟩
      clear hev hxl hF hn hK h1 h1' h3 h3' e1 e2 sQ e2';simp only [List.set_cons_succ,List.set_cons_zero,List.take_succ_cons,List.take_zero,List.drop_succ_cons,List.drop_zero,List.cons_append,List.nil_append];have c0:=ak H3.out 0 _ rfl;have d0:=ak gJ.out 0 _ rfl;have c1:=ak H3.out 1 _ rfl;have d1:=ak gJ.out 1 _ rfl;have c2:=ak H3.out 2 _ rfl;have d2:=ak gJ.out 2 _ rfl;have c3:=ak H3.out 3 _ rfl;have d3:=ak gJ.out 3 _ rfl;have c4:=ak H3.out 4 _ rfl;have d4:=ak gJ.out 4 _ rfl
      skip
      cases q0:(pk == qk) with
      | false =>
       have r0:(pk != qk)=true:=by rw [bne,q0];rfl
       have HS:Hid (R=false):=ae (by rw [HD.out,q0];simp);clear HD gu;go_wp2;go_ret;exact ⟨bf HS.out.symm,fH.out⟩
      | true =>
       have r0:(pk != qk)=false:=by rw [bne,q0];rfl
       cases q1:decide (px=qx) with
       | false =>
        have s1:(px.toList == qx.toList)=false:=by rw [str_eq,q1]
        have r1:(px.toList != qx.toList)=true:=by rw [bne,s1];rfl
        have HS:Hid (R=false):=ae (by rw [HD.out,q0,q1];simp);clear HD gu;go_wp2;go_ret;exact ⟨bf HS.out.symm,fH.out⟩
       | true =>
        have s1:(px.toList == qx.toList)=true:=by rw [str_eq,q1]
        have r1:(px.toList != qx.toList)=false:=by rw [bne,s1];rfl
        cases q2:(pn == qn) with
        | false =>
         have r2:(pn != qn)=true:=by rw [bne,q2];rfl
         have HS:Hid (R=false):=ae (by rw [HD.out,q0,q1,q2];simp);clear HD gu;go_wp2;go_ret;exact ⟨bf HS.out.symm,fH.out⟩
        | true =>
         have r2:(pn != qn)=false:=by rw [bne,q2];rfl
         cases pl with
         | false =>
          have hD:=HD.out;rw [q0,q1,q2] at hD;simp only [Bool.true_and,Bool.not_false,Bool.true_or] at hD;have ik:=ae hD;clear hD HD;have HC:=ae (gu.out u fH.out);go_wp2_with fail;refine Calls.mono (show Calls _ _ _ _ _ from HC.out) ?_;rintro e w2 ⟨rfl,hb2⟩;have bb:=ae (aB fH.out hb2);clear hb2 HC gu c0 c1 c2 c3 c4 d0 d1 d2 d3 d4;cases A with
          | false =>
           have HS:Hid (R=false):=ae (by rw [ik.out];rfl);clear ik;go_wp2;go_ret;exact ⟨bf HS.out.symm,bb.out⟩
          | true =>
           have HS:Hid (dL (sm false m) (l.drop (i+1)) (k.drop (i+1))=R):=ae (by rw [ik.out];rfl);clear ik;go_wp2;go_roundw
           case rel=>exact ⟨i+1,by first|rfl|(congr 1),hik,HS,bb⟩
           case measure=>simp;omega
         | true =>
          cases q9:(pa == qa) with
          | false =>
           have r9:(pa != qa)=true:=by rw [bne,q9];rfl
           have HS:Hid (R=false):=ae (by rw [HD.out,q0,q1,q2,q9];simp);clear HD gu;go_wp2;go_ret;exact ⟨bf HS.out.symm,fH.out⟩
          | true =>
           have r9:(pa != qa)=false:=by rw [bne,q9];rfl
           have hD:=HD.out;rw [q0,q1,q2,q9] at hD;simp only [Bool.true_and,Bool.not_true,Bool.false_or] at hD;have ik:=ae hD;clear hD HD;have HC:=ae (gu.out u fH.out);go_wp2_with fail;refine Calls.mono (show Calls _ _ _ _ _ from HC.out) ?_;rintro e w2 ⟨rfl,hb2⟩;have bb:=ae (aB fH.out hb2);clear hb2 HC gu c0 c1 c2 c3 c4 d0 d1 d2 d3 d4;cases A with
           | false =>
            have HS:Hid (R=false):=ae (by rw [ik.out];rfl);clear ik;go_wp2;go_ret;exact ⟨bf HS.out.symm,bb.out⟩
           | true =>
            have HS:Hid (dL (sm true m) (l.drop (i+1)) (k.drop (i+1))=R):=ae (by rw [ik.out];rfl);clear ik;go_wp2;go_roundw
            case rel=>exact ⟨i+1,by first|rfl|(congr 1),hik,HS,bb⟩
            case measure=>simp;omega
    ·have q1:decide ((i:Int)<(l.length:Int))=false:=decide_eq_false (by omega);have HS:Hid (R=true):=ae (by rw [<- HN.out];exact wu (by omega) (by have:=rU.out;omega));clear HN;go_wp2;go_ret;exact ⟨bf HS.out.symm,HB2.out⟩
  ·have HS:Hid (R=false):=ae (by rw [hR,uH hlen]);clear hR h hk hel hes hf ih;go_enter Tryz.func78,Tryz.ntmps78;go_wp2;go_ret;exact ⟨bf HS.out.symm,Below.refl _ _⟩
theorem abY:∀(m:Nat) (pl:Bool) (l k:List Value) (vl vk:Value) (w:World),mI m l->mf 0 vl l w->mf 0 vk k w->Calls Tryz.prog 33 #[vl,vk,.bool pl] w fun e w'=>e=.returned (.bool (fQ pl m l k))/\Below w.heap.size w w':=by
 intro m
 induction m with
 | zero =>
  intro pl l k vl vk w hf h hk;have hl:l = []:=hf;subst hl;obtain ⟨d,h⟩:=h;obtain ⟨d2,hk⟩:=hk;obtain ⟨oR,cR,rfl,_⟩:=cF h;obtain ⟨oS,cS,rfl,_⟩:=cF hk;obtain ⟨R,hR⟩:∃R,R=fQ pl 0 [] k:=⟨_,rfl⟩;rw [<- hR];rw [List.length_nil];clear h hk;cases k with
  | nil =>
   have HS:Hid (true=R):=ae (by rw [hR];rfl);clear hR;rw [List.length_nil];go_enter Tryz.func33,Tryz.ntmps33;go_wp2_with fail;go_loopw [7] (fun a wr=>a=.int .i64 0/\Hid (Below w.heap.size w wr)) (fun _ _=>0)
   case atStart=>exact ⟨rfl,ae (Below.refl _ _)⟩
   case round =>
    obtain ⟨rfl,HB⟩:=hrel;go_wp2;go_ret;exact ⟨bf HS.out,HB.out⟩
  | cons x k =>
   have HS:Hid (false=R):=ae (by rw [hR];rfl);obtain ⟨n,hn⟩:∃n,n=(x :: k).length:=⟨_,rfl⟩;have hne:¬ 0=n:=by rw [hn];simp
   rw [<- hn];clear hR hn;go_enter Tryz.func33,Tryz.ntmps33;go_wp2;go_ret;exact ⟨bf HS.out,Below.refl _ _⟩
 | succ m ih =>
  intro pl l k vl vk w hf h hk;obtain ⟨d,h⟩:=h;obtain ⟨d2,hk⟩:=hk;obtain ⟨oR,cR,rfl,hel⟩:=cF h;obtain ⟨oS,cS,rfl,hes⟩:=cF hk;obtain ⟨R,hR⟩:∃R,R=fQ pl (m+1) l k:=⟨_,rfl⟩;rw [<- hR];rw [AO] at hR;by_cases hlen:l.length=k.length
  ·have st0:Hid (dL (sm pl m) (l.drop 0) (k.drop 0)=R):=ae (by rw [hR];rfl);have HL:=ae h.1;have iT:=ae hel;have uF:=ae hes;have rU:=ae hlen;have yM:=ae hf;have nG:=ae ih;rw [<- hlen];clear hR h hk hel hes hlen hf ih;go_enter Tryz.func33,Tryz.ntmps33;go_wp2_with fail;go_loopw [7] (fun a wr=>∃i:Nat,a=.int .i64 i/\i<=l.length/\Hid (dL (sm pl m) (l.drop i) (k.drop i)=R)/\Hid (Below w.heap.size w wr)) (fun a _=>match a with | .int _ i=>l.length-i.toNat|_=>0)
   case atStart=>exact ⟨0,rfl,Nat.zero_le _,st0,ae (Below.refl _ _)⟩
   case round =>
    obtain ⟨i,rfl,hi,HN,HB2⟩:=hrel;clear st0;by_cases hp:i<l.length
    ·obtain ⟨t1,ht1⟩:∃t1,l[i]?=some t1:=⟨_,List.getElem?_eq_getElem hp⟩;obtain ⟨t2,ht2⟩:∃t2,k[i]?=some t2:=⟨_,List.getElem?_eq_getElem (by have:=rU.out;omega)⟩;obtain ⟨b,off,gH,hC⟩:=iT.out i t1 ht1;obtain ⟨b2,bU,yN,hD⟩:=uF.out i t2 ht2;subst gH;subst yN;obtain ⟨pk,px,py,pn,pu,pz,pa,p1,p2,p3,p4,p5,p6,p7,OT,pT⟩:=TN hC;obtain ⟨qk,qx,qy,qn,qu,qz,qa,q1,q2,q3,q4,q5,q6,q7,OV,qT⟩:=TN hD;have y0:=ai HB2.out p1;have x0:=ai HB2.out q1;have y1:=ai HB2.out p2;have x1:=ai HB2.out q2;have y2:=ai HB2.out p3;have x2:=ai HB2.out q3;have y3:=ai HB2.out p4;have x3:=ai HB2.out q4;have y4:=ai HB2.out p5;have x4:=ai HB2.out q5;have y5:=ai HB2.out p6;have x5:=ai HB2.out q6;have y6:=ai HB2.out p7;have x6:=ai HB2.out q7;obtain ⟨dd,k1,x1,y1,n1,es1,pE,a1,u1,uz1,h0,hv1,hr1,hq1⟩:=pT;obtain ⟨AQ,k2,x2,y2,n2,es2,gA,a2,u2,Ai,h02,hv2,hr2,hq2⟩:=qT;injection hv1 with hv1;injection hv2 with hv2;simp only [Array.mk.injEq,List.cons.injEq,Value.int.injEq,Value.string.injEq,true_and,and_true] at hv1 hv2;obtain ⟨rfl,rfl,rfl,rfl,rfl,rfl,rfl⟩:=hv1;obtain ⟨rfl,rfl,rfl,rfl,rfl,rfl,rfl⟩:=hv2;have hfit:=yM.out t1 (List.mem_of_getElem? ht1);have hd:=wm (f:=sm pl m) ht1 ht2;rw [HN.out] at hd;have hfa:mI m es1:=by have:=(CK hfit).1;rw [h0] at this;exact this
     have hfp:mI m pE:=by have:=(CK hfit).2;rw [h0] at this;exact this
     have hsm:sm pl m t1 t2=(tL pl (nd pk px py pn es1 pE pa) (nd qk qx qy qn es2 gA qa) && (fQ pl m es1 es2 && fQ pl m pE gA)):=by
      rw [h0,h02];rfl
     have hhd:tL pl (nd pk px py pn es1 pE pa) (nd qk qx qy qn es2 gA qa)=((pk == qk) && (decide (px=qx) && (decide (py=qy) && ((pn == qn) && (!pl || (pa == qa)))))):=rfl;rw [hsm,hhd,Bool.and_comm (fQ pl m es1 es2)] at hd;obtain ⟨oA,cA,rfl,_⟩:=cF hr1;obtain ⟨oB,cB,rfl,_⟩:=cF hr2;obtain ⟨oP,cP,rfl,_⟩:=cF hq1;obtain ⟨oQ,cQ,rfl,_⟩:=cF hq2;have gu:=ae (fun (u:World) (hu:Below w.heap.size w u)=>nG.out pl es1 es2 (.slice oA es1.length cA) (.slice oB es2.length cB) u hfa ⟨dd,hr1.imp (fun b o t _ ht=>dW.but (fun kk _ hl=>hu.block kk hl) _ b o t ht)⟩ ⟨AQ,hr2.imp (fun b o t _ ht=>dW.but (fun kk _ hl=>hu.block kk hl) _ b o t ht)⟩);have vJ:=ae (fun (u:World) (hu:Below w.heap.size w u)=>acb m pl pE gA (.slice oP pE.length cP) (.slice oQ gA.length cQ) u hfp ⟨dd,hq1.imp (fun b o t _ ht=>di.but (fun kk _ hl=>hu.block kk hl) _ b o t ht)⟩ ⟨AQ,hq2.imp (fun b o t _ ht=>di.but (fun kk _ hl=>hu.block kk hl) _ b o t ht)⟩);generalize fQ pl m es1 es2=A at *;generalize fQ pl m pE gA=Pb at *;have HD:=ae hd;have w1:decide ((i:Int)<(l.length:Int))=true:=decide_eq_true (by omega);have hw1:=wo hp HL.out;have hik:i<l.length:=hp;clear hC hD p1 q1 p2 q2 p3 q3 p4 q4 p5 q5 p6 q6 p7 q7 ht1 ht2 HN hd hsm hhd hfit hfa hfp h0 h02 hr1 hr2 hq1 hq2;go_upto_region 6 with fail;refine aj.CX (Z:=Zt) (none,none) 12 83 (fun i=>if i<8 then 21+i else if i=8 then 8 else if i=9 then 9 else 21+i) [10,11] [8,9,10,11] (dY wr.heap.size 27 #[.int .i64 pk,.string px,.string py,.int .i64 pn,.slice oA es1.length cA,.slice oP pE.length cP,.int .i64 pa] #[.int .i64 qk,.string qx,.string qy,.int .i64 qn,.slice oB es2.length cB,.slice oQ gA.length cQ,.int .i64 qa]) (yX wr.heap.size wr) (fun _ _ _=>True) (dN 27 bO #[.int .i64 pk,.string px,.string py,.int .i64 pn,.slice oA es1.length cA,.slice oP pE.length cP,.int .i64 pa] #[.int .i64 qk,.string qx,.string qy,.int .i64 qn,.slice oB es2.length cB,.slice oQ gA.length cQ,.int .i64 qa] [.slice (some ⟨b,off,none⟩) l.length cR,.int .i64 (i:Int),.pointer (some ⟨b,off+i*7,none⟩),.agg #[.int .i64 pk,.string px,.string py,.int .i64 pn,.slice oA es1.length cA,.slice oP pE.length cP,.int .i64 pa],.slice (some ⟨b2,bU,none⟩) l.length cS,.int .i64 (i:Int),.pointer (some ⟨b2,bU+i*7,none⟩),.agg #[.int .i64 qk,.string qx,.string qy,.int .i64 qn,.slice oB es2.length cB,.slice oQ gA.length cQ,.int .i64 qa]]) (by kernel_rfl) (by kernel_rfl) (by kernel_rfl) (by kernel_rfl) rfl ?hN ?mg (fun _ _ _ _ _ _ _ _ _ _ _ _ _=>trivial) (fun k z z' u u' hk hK hT=>hK.step hk hT) ?hstep ?hend ⟨iF _,fun _ h=>(by cases h),fun _ h=>(by cases h),fun _ _ h=>(by cases h),Nat.le_refl _⟩ (fun _ _=>trivial)
     case hN=>exact fun i hi z v v' u h=>h.st (by simpa using hi)
     case mg =>
      intro i k v z z' u u' hi hk hne hcl _ hK hG hT;refine hG.Jt hk hne (fun e e2=>?_) (fun e e2=>?_) hK hT
      ·subst e;subst e2;exact absurd hcl (by decide)
      ·subst e;subst e2;exact absurd hcl (by decide)
     case hstep =>
      intro j o a z u hj ho hF hK hR hd;have f0:a.tmps[0]?.getD undef=.slice (some ⟨b,off,none⟩) l.length cR:=aj.ay (hF.eval 0 (fun i hi=>qX 21 i 0 (by decide) (by decide) hi));have f1:a.tmps[1]?.getD undef=.slice (some ⟨b2,bU,none⟩) l.length cS:=aj.ay (hF.eval 1 (fun i hi=>qX 21 i 1 (by decide) (by decide) hi));have f7:a.tmps[7]?.getD undef=.int .i64 (i:Int):=aj.ay (hF.eval 7 (fun i hi=>qX 21 i 7 (by decide) (by decide) hi));have HK:=ae hK;have y0:=ai hK.eG y0;have x0:=ai hK.eG x0;have y1:=ai hK.eG y1;have x1:=ai hK.eG x1;have y2:=ai hK.eG y2;have x2:=ai hK.eG x2;have y3:=ai hK.eG y3;have x3:=ai hK.eG x3;have y4:=ai hK.eG y4;have x4:=ai hK.eG x4;have y5:=ai hK.eG y5;have x5:=ai hK.eG x5;have y6:=ai hK.eG y6;have x6:=ai hK.eG x6;have hcase:j=0\/j=1\/j=2\/j=3\/j=4\/j=5\/j=6\/j=7\/j=8\/j=9\/j=10\/j=11:=by omega
      clear hj hR hK;rcases hcase with rfl|rfl|rfl|rfl|rfl|rfl|rfl|rfl|rfl|rfl|rfl|rfl
      all_goals (simp only [List.getElem?_toArray,List.getElem?_cons_succ,List.getElem?_cons_zero,Option.some.injEq] at ho;subst ho;refine aj.bB fun K ax=>?_)
      ·skip
       go_simp;exact ax _ _ ⟨_,z,rfl,dY.rd (by decide),dN.rd (by decide) rfl⟩
      ·skip
       go_simp;exact ax _ _ ⟨_,z,rfl,dY.rd (by decide),dN.rd (by decide) rfl⟩
      ·have q0:a.tmps[21]?.getD undef=_:=aj.ay ((hd 0 (by decide)).1 (by decide));have q1:a.tmps[22]?.getD undef=_:=aj.ay ((hd 1 (by decide)).1 (by decide));simp only [List.getD_cons_succ,List.getD_cons_zero] at q0 q1;go_simp;exact ax _ _ ⟨_,z,rfl,dY.rd (by decide),dN.rd (by decide) rfl⟩
      ·have q2:a.tmps[23]?.getD undef=_:=aj.ay ((hd 2 (by decide)).1 (by decide));simp only [List.getD_cons_succ,List.getD_cons_zero] at q2;go_simp;exact ax _ _ ⟨_,z,rfl,dY.rd (by decide),dN.rd (by decide) rfl⟩
      ·skip
       go_simp;exact ax _ _ ⟨_,z,rfl,dY.rd (by decide),dN.rd (by decide) rfl⟩
      ·skip
       go_simp;exact ax _ _ ⟨_,z,rfl,dY.rd (by decide),dN.rd (by decide) rfl⟩
      ·have q4:a.tmps[25]?.getD undef=_:=aj.ay ((hd 4 (by decide)).1 (by decide));have q5:a.tmps[26]?.getD undef=_:=aj.ay ((hd 5 (by decide)).1 (by decide));simp only [List.getD_cons_succ,List.getD_cons_zero] at q4 q5;go_simp;exact ax _ _ ⟨_,z,rfl,dY.rd (by decide),dN.rd (by decide) rfl⟩
      ·have q6:a.tmps[27]?.getD undef=_:=aj.ay ((hd 6 (by decide)).1 (by decide));simp only [List.getD_cons_succ,List.getD_cons_zero] at q6;go_simp;exact ax _ _ ⟨_,z,rfl,dY.rd (by decide),dN.rd (by decide) rfl⟩
      ·go_simp;exact ax _ _ ⟨_,(some u.heap.size,z.2),rfl,dY.yY HK.out.sz _,dN.yY _ rfl⟩
      ·go_simp;exact ax _ _ ⟨_,(z.1,some u.heap.size),rfl,dY.yZ HK.out.sz _,dN.yZ _ rfl⟩
      ·obtain ⟨b9,k1,k2,k3⟩:=(hd 8 (by decide)).2.1 rfl;have q:a.eval (.tmp 24)=.agg #[.int .i64 pk,.string px,.string py,.int .i64 pn,.slice oA es1.length cA,.slice oP pE.length cP,.int .i64 pa]:=(hd 3 (by decide)).1 (by decide);obtain ⟨W,hW,hth,hbw,hb1,hb2⟩:=A7 (zc:=bO) (C:=#[.int .i64 pk,.string px,.string py,.int .i64 pn,.slice oA es1.length cA,.slice oP pE.length cP,.int .i64 pa]) (TY:=27) (HK.out.a b9 k1).1 rfl k3;refine wp_store_mid 27 (.tmp 8) (.tmp 24) rfl b9 0 #[.int .i64 pk,.string px,.string py,.int .i64 pn,.slice oA es1.length cA,.slice oP pE.length cP,.int .i64 pa] k2 q hth cO (by simp [Value.oneCell']) ?_;rw [hW];exact ax _ _ ⟨undef,z,rfl,dY.y8 k1 hbw hb1 hb2,dN.y8 k1 hb1⟩
      ·obtain ⟨b9,k1,k2,k3⟩:=(hd 9 (by decide)).2.2.1 rfl;have q:a.eval (.tmp 28)=.agg #[.int .i64 qk,.string qx,.string qy,.int .i64 qn,.slice oB es2.length cB,.slice oQ gA.length cQ,.int .i64 qa]:=(hd 7 (by decide)).1 (by decide);obtain ⟨W,hW,hth,hbw,hb1,hb2⟩:=A7 (zc:=bO) (C:=#[.int .i64 qk,.string qx,.string qy,.int .i64 qn,.slice oB es2.length cB,.slice oQ gA.length cQ,.int .i64 qa]) (TY:=27) (HK.out.b b9 k1).1 rfl k3;refine wp_store_mid 27 (.tmp 9) (.tmp 28) rfl b9 0 #[.int .i64 qk,.string qx,.string qy,.int .i64 qn,.slice oB es2.length cB,.slice oQ gA.length cQ,.int .i64 qa] k2 q hth cO (by simp [Value.oneCell']) ?_;rw [hW];exact ax _ _ ⟨undef,z,rfl,dY.za k1 hbw hb1 hb2,dN.za k1 hb1⟩
     case hend =>
      intro a z u hF hK hn;obtain ⟨c1,e1,h1,_⟩:=(hn 8 (by simp) (by decide)).2.1 rfl;obtain ⟨c2,e2,h1',_⟩:=(hn 9 (by simp) (by decide)).2.2.1 rfl;obtain ⟨c1',sQ,h3⟩:=(hn 10 (by simp) (by decide)).2.2.2.1 rfl;obtain ⟨c2',e2',h3'⟩:=(hn 11 (by simp) (by decide)).2.2.2.2 rfl;obtain rfl:c1'=c1:=by rw [e1] at sQ;exact (Option.some.inj sQ).symm
      obtain rfl:c2'=c2:=by rw [e2] at e2';exact (Option.some.inj e2').symm
      have fH:=ae (aB HB2.out hK.eG);have H3:=ae h3;have gJ:=ae h3'
      obtain ⟨xl,hxl,rfl,hev⟩:=(aj.Fr.two (s1:=8) (s2:=9) (lo:=21) (n:=12) hF h1 h1' (by simp) (fun k e1 e2 e3 i hi=>qX 21 i k (by decide) ⟨e1,e2,by
       rcases Nat.lt_or_ge k 21 with h|h
       ·exact .inl h
       ·refine .inr (Nat.le_of_not_lt fun hl=>e3 (k-21) (by omega) (by omega))⟩ hi)).lit (by simp)
      obtain ⟨x0,x1,x2,x3,x4,x5,x6,x7,x8,x9,gD,iD,rfl⟩:∃x0 x1 x2 x3 x4 x5 x6 x7 x8 x9 gD iD,xl = [x0,x1,x2,x3,x4,x5,x6,x7,x8,x9,gD,iD]:=by
       match xl,hxl with
       | [x0,x1,x2,x3,x4,x5,x6,x7,x8,x9,gD,iD],_=>exact ⟨x0,x1,x2,x3,x4,x5,x6,x7,x8,x9,gD,iD,rfl⟩
      clear hev hxl hF hn hK h1 h1' h3 h3' e1 e2 sQ e2';simp only [List.set_cons_succ,List.set_cons_zero,List.take_succ_cons,List.take_zero,List.drop_succ_cons,List.drop_zero,List.cons_append,List.nil_append];have c0:=ak H3.out 0 _ rfl;have d0:=ak gJ.out 0 _ rfl;have c1:=ak H3.out 1 _ rfl;have d1:=ak gJ.out 1 _ rfl;have c2:=ak H3.out 2 _ rfl;have d2:=ak gJ.out 2 _ rfl;have c3:=ak H3.out 3 _ rfl;have d3:=ak gJ.out 3 _ rfl;have c4:=ak H3.out 4 _ rfl;have d4:=ak gJ.out 4 _ rfl;have c5:=ak H3.out 5 _ rfl;have d5:=ak gJ.out 5 _ rfl;have c6:=ak H3.out 6 _ rfl;have d6:=ak gJ.out 6 _ rfl
      skip
      cases q0:(pk == qk) with
      | false =>
       have r0:(pk != qk)=true:=by rw [bne,q0];rfl
       have HS:Hid (R=false):=ae (by rw [HD.out,q0];simp);clear HD gu vJ;go_wp2;go_ret;exact ⟨bf HS.out.symm,fH.out⟩
      | true =>
       have r0:(pk != qk)=false:=by rw [bne,q0];rfl
       cases q1:decide (px=qx) with
       | false =>
        have s1:(px.toList == qx.toList)=false:=by rw [str_eq,q1]
        have r1:(px.toList != qx.toList)=true:=by rw [bne,s1];rfl
        have HS:Hid (R=false):=ae (by rw [HD.out,q0,q1];simp);clear HD gu vJ;go_wp2;go_ret;exact ⟨bf HS.out.symm,fH.out⟩
       | true =>
        have s1:(px.toList == qx.toList)=true:=by rw [str_eq,q1]
        have r1:(px.toList != qx.toList)=false:=by rw [bne,s1];rfl
        cases q2:decide (py=qy) with
        | false =>
         have s2:(py.toList == qy.toList)=false:=by rw [str_eq,q2]
         have r2:(py.toList != qy.toList)=true:=by rw [bne,s2];rfl
         have HS:Hid (R=false):=ae (by rw [HD.out,q0,q1,q2];simp);clear HD gu vJ;go_wp2;go_ret;exact ⟨bf HS.out.symm,fH.out⟩
        | true =>
         have s2:(py.toList == qy.toList)=true:=by rw [str_eq,q2]
         have r2:(py.toList != qy.toList)=false:=by rw [bne,s2];rfl
         cases q3:(pn == qn) with
         | false =>
          have r3:(pn != qn)=true:=by rw [bne,q3];rfl
          have HS:Hid (R=false):=ae (by rw [HD.out,q0,q1,q2,q3];simp);clear HD gu vJ;go_wp2;go_ret;exact ⟨bf HS.out.symm,fH.out⟩
         | true =>
          have r3:(pn != qn)=false:=by rw [bne,q3];rfl
          cases pl with
          | false =>
           have hD:=HD.out;rw [q0,q1,q2,q3] at hD;simp only [Bool.true_and,Bool.not_false,Bool.true_or] at hD;have ik:=ae hD;clear hD HD;have HC:=ae (vJ.out u fH.out);go_wp2_with fail;refine Calls.mono (show Calls _ _ _ _ _ from HC.out) ?_;rintro e w2 ⟨rfl,hb2⟩;have bb:=ae (aB fH.out hb2);have k3:=(hb2.block _ (Array.getElem?_eq_some_iff.1 H3.out).1).trans H3.out;have jo:=(hb2.block _ (Array.getElem?_eq_some_iff.1 gJ.out).1).trans gJ.out;have m4:=ak k3 4 _ rfl;have n4:=ak jo 4 _ rfl;have dM:=ae (gu.out w2 bb.out);clear hb2 HC vJ gu k3 jo c0 c1 c2 c3 c4 c5 c6 d0 d1 d2 d3 d4 d5 d6;cases Pb with
           | false =>
            have HS:Hid (R=false):=ae (by rw [ik.out];rfl);clear ik dM;go_wp2;go_ret;exact ⟨bf HS.out.symm,bb.out⟩
           | true =>
            rw [Bool.true_and] at ik;go_wp2_with fail;refine Calls.mono (show Calls _ _ _ _ _ from dM.out) ?_;rintro e w3 ⟨rfl,hb3⟩;have fF:=ae (aB bb.out hb3);clear hb3 dM m4 n4;cases A with
            | false =>
             have HS:Hid (R=false):=ae (by rw [ik.out];rfl);clear ik;go_wp2;go_ret;exact ⟨bf HS.out.symm,fF.out⟩
            | true =>
             have HS:Hid (dL (sm false m) (l.drop (i+1)) (k.drop (i+1))=R):=ae (by rw [ik.out];rfl);clear ik;go_wp2;go_roundw
             case rel=>exact ⟨i+1,by first|rfl|(congr 1),hik,HS,fF⟩
             case measure=>simp;omega
          | true =>
           cases q9:(pa == qa) with
           | false =>
            have r9:(pa != qa)=true:=by rw [bne,q9];rfl
            have HS:Hid (R=false):=ae (by rw [HD.out,q0,q1,q2,q3,q9];simp);clear HD gu vJ;go_wp2;go_ret;exact ⟨bf HS.out.symm,fH.out⟩
           | true =>
            have r9:(pa != qa)=false:=by rw [bne,q9];rfl
            have hD:=HD.out;rw [q0,q1,q2,q3,q9] at hD;simp only [Bool.true_and,Bool.not_true,Bool.false_or] at hD;have ik:=ae hD;clear hD HD;have HC:=ae (vJ.out u fH.out);go_wp2_with fail;refine Calls.mono (show Calls _ _ _ _ _ from HC.out) ?_;rintro e w2 ⟨rfl,hb2⟩;have bb:=ae (aB fH.out hb2);have k3:=(hb2.block _ (Array.getElem?_eq_some_iff.1 H3.out).1).trans H3.out;have jo:=(hb2.block _ (Array.getElem?_eq_some_iff.1 gJ.out).1).trans gJ.out;have m4:=ak k3 4 _ rfl;have n4:=ak jo 4 _ rfl;have dM:=ae (gu.out w2 bb.out);clear hb2 HC vJ gu k3 jo c0 c1 c2 c3 c4 c5 c6 d0 d1 d2 d3 d4 d5 d6;cases Pb with
            | false =>
             have HS:Hid (R=false):=ae (by rw [ik.out];rfl);clear ik dM;go_wp2;go_ret;exact ⟨bf HS.out.symm,bb.out⟩
            | true =>
             rw [Bool.true_and] at ik;go_wp2_with fail;refine Calls.mono (show Calls _ _ _ _ _ from dM.out) ?_;rintro e w3 ⟨rfl,hb3⟩;have fF:=ae (aB bb.out hb3);clear hb3 dM m4 n4;cases A with
             | false =>
              have HS:Hid (R=false):=ae (by rw [ik.out];rfl);clear ik;go_wp2;go_ret;exact ⟨bf HS.out.symm,fF.out⟩
             | true =>
              have HS:Hid (dL (sm true m) (l.drop (i+1)) (k.drop (i+1))=R):=ae (by rw [ik.out];rfl);clear ik;go_wp2;go_roundw
              case rel=>exact ⟨i+1,by first|rfl|(congr 1),hik,HS,fF⟩
              case measure=>simp;omega
    ·have q1:decide ((i:Int)<(l.length:Int))=false:=decide_eq_false (by omega);have HS:Hid (R=true):=ae (by rw [<- HN.out];exact wu (by omega) (by have:=rU.out;omega));clear HN;go_wp2;go_ret;exact ⟨bf HS.out.symm,HB2.out⟩
  ·have HS:Hid (R=false):=ae (by rw [hR,uH hlen]);clear hR h hk hel hes hf ih;go_enter Tryz.func33,Tryz.ntmps33;go_wp2;go_ret;exact ⟨bf HS.out.symm,Below.refl _ _⟩
end Go.Proofs.YtkdbgopgjbfhbaaGreatDoor
namespace Go.Proofs.YtkdbgopgjbfhbaaGreatDoor
open Go.RowKit Lx
set_option linter.unusedVariables false
namespace Lx
end Lx
end Go.Proofs.YtkdbgopgjbfhbaaGreatDoor
namespace Go.Proofs.YtkdbgopgjbfhbaaGreatDoor
open Go.RowKit Ints
set_option linter.unusedVariables false
set_option linter.unusedVariables false
set_option linter.unusedVariables false
end Go.Proofs.YtkdbgopgjbfhbaaGreatDoor
namespace Go.Proofs.YtkdbgopgjbfhbaaGreatDoor
open Go.RowKit Lx Pz bq
set_option linter.unusedVariables false
namespace Pz
theorem XM {w w':World} (h:Ints.WI w) (hb:Below w.heap.size w w'):Ints.WI w':=fun k hk=>ai hb (h k hk)
def jN (nk pk:Int) (nm:Bool) (ar:Int):List Value:=[.int .i64 nk,.int .i64 pk,.bool nm,.int .i64 ar]
def XN:List Value:=jN 0 0 false 0++jN 0 0 false 0++jN 3 0 false 0++jN 0 0 false 2++jN 1 0 false (-1)
def XO:List Value:=jN 0 0 false 0++jN 0 0 false 0++jN 1 0 false 0++jN 0 0 true 0++jN 2 0 false (-1)
def XP:List Value:=jN 0 0 false 0++jN 1 0 false 0++jN 0 0 true 0++jN 1 0 false 1++jN 0 0 false 2++jN 1 0 false 2++jN 1 1 false 2++jN 0 0 false (-2)++jN 2 0 false (-1)++jN 6 0 false 2++jN 0 0 false 1
structure GW (w:World):Prop where
 wl:WL w
 tp:TP w
 wi:Ints.WI w
 ty:∀j v,XN[j]?=some v->w.cell? ⟨5,j,none⟩=some v
 pa:∀j v,XO[j]?=some v->w.cell? ⟨3,j,none⟩=some v
 ex:∀j v,XP[j]?=some v->w.cell? ⟨0,j,none⟩=some v
theorem GW.on {w w':World} (h:GW w) (hb:Below w.heap.size w w'):GW w' :=
 ⟨h.wl.on hb,h.tp.on hb,XM h.wi hb,fun j v hv=>ai hb (h.ty j v hv),fun j v hv=>ai hb (h.pa j v hv),fun j v hv=>ai hb (h.ex j v hv)⟩
theorem O4 (n:Int):(Ints.wr n == n)=ez n:=by
 unfold ez;by_cases h:-1073741824<=n/\n<=1073741823
 ·rw [decide_eq_true h.1,decide_eq_true h.2,beq_iff_eq.2 ((Ints.O5 n).2 h)];rfl
 ·rw [beq_eq_false_iff_ne.2 (fun e=>h ((Ints.O5 n).1 e))];rw [<- Bool.decide_and,decide_eq_false h]
end Pz
end Go.Proofs.YtkdbgopgjbfhbaaGreatDoor
