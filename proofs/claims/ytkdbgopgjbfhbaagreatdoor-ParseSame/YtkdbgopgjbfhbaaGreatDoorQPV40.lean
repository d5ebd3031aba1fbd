/- Texts that the claim needs. -/
import Derived.Test.YtkdbgopgjbfhbaaGreatDoorQPV39
namespace Go.Proofs.YtkdbgopgjbfhbaaGreatDoor
open Go.RowKit Lx Pz bw
set_option linter.unusedVariables false
set_option maxRecDepth 100000
set_option maxHeartbeats 16000000
namespace Pz
theorem vW {i n:Nat} (h:i<n) (hn:n<=9223372036854775807):wrap64 ((i:Int)+1)=((i+1:Nat):Int):=by unfold wrap64;omega
end Pz
theorem aaV:∀(m:Nat) (pl:Bool) (l k:List Value) (vl vk:Value) (w:World),kW m l->iM 0 vl l w->iM 0 vk k w->Calls Tryz.prog 78 #[vl,vk,.bool pl] w fun e w'=>e=.returned (.bool (dY pl m l k))/\Below w.heap.size w w':=by
 intro m
 induction m with
 | zero =>
  intro pl l k vl vk w hf h hk;have hl:l = []:=hf;subst hl;obtain ⟨d,h⟩:=h;obtain ⟨d2,hk⟩:=hk;obtain ⟨oR,cR,rfl,_⟩:=bz h;obtain ⟨oS,cS,rfl,_⟩:=bz hk;obtain ⟨R,hR⟩:∃R,R=dY pl 0 [] k:=⟨_,rfl⟩;rw [<- hR];rw [List.length_nil];clear h hk;cases k with
  | nil =>
   have HS:Hid (true=R):=ae (by rw [hR];rfl);clear hR;rw [List.length_nil];go_enter Tryz.func78,Tryz.ntmps78;go_wp2_with fail;go_loopw [7] (fun a wr=>a=.int .i64 0/\Hid (Below w.heap.size w wr)) (fun _ _=>0)
   case atStart=>exact ⟨rfl,ae (Below.refl _ _)⟩
   case round =>
    obtain ⟨rfl,HB⟩:=hrel;go_wp2;go_ret;exact ⟨aO HS.out,HB.out⟩
  | cons x k =>
   have HS:Hid (false=R):=ae (by rw [hR];rfl);obtain ⟨n,hn⟩:∃n,n=(x :: k).length:=⟨_,rfl⟩;have hne:¬ 0=n:=by rw [hn];simp
   rw [<- hn];clear hR hn;go_enter Tryz.func78,Tryz.ntmps78;go_wp2;go_ret;exact ⟨aO HS.out,Below.refl _ _⟩
 | succ m ih =>
  intro pl l k vl vk w hf h hk;obtain ⟨d,h⟩:=h;obtain ⟨d2,hk⟩:=hk;obtain ⟨oR,cR,rfl,hel⟩:=bz h;obtain ⟨oS,cS,rfl,hes⟩:=bz hk;obtain ⟨R,hR⟩:∃R,R=dY pl (m+1) l k:=⟨_,rfl⟩;rw [<- hR];rw [EL] at hR;by_cases hlen:l.length=k.length
  ·have st0:Hid (bD (sm pl m) (l.drop 0) (k.drop 0)=R):=ae (by rw [hR];rfl);have HL:=ae h.1;have dB:=ae hel;have jN:=ae hes;have gW:=ae hlen;have ym:=ae hf;have fT:=ae ih;rw [<- hlen];clear hR h hk hel hes hlen hf ih;go_enter Tryz.func78,Tryz.ntmps78;go_wp2_with fail;go_loopw [7] (fun a wr=>∃i:Nat,a=.int .i64 i/\i<=l.length/\Hid (bD (sm pl m) (l.drop i) (k.drop i)=R)/\Hid (Below w.heap.size w wr)) (fun a _=>match a with | .int _ i=>l.length-i.toNat|_=>0)
   case atStart=>exact ⟨0,rfl,Nat.zero_le _,st0,ae (Below.refl _ _)⟩
   case round =>
    obtain ⟨i,rfl,hi,HN,HB2⟩:=hrel;clear st0;by_cases hp:i<l.length
    ·obtain ⟨t1,ht1⟩:∃t1,l[i]?=some t1:=⟨_,List.getElem?_eq_getElem hp⟩;obtain ⟨t2,ht2⟩:∃t2,k[i]?=some t2:=⟨_,List.getElem?_eq_getElem (by have:=gW.out;omega)⟩;obtain ⟨b,off,dh,hC⟩:=dB.out i t1 ht1;obtain ⟨b2,bL,kK,hD⟩:=jN.out i t2 ht2;subst dh;subst kK;obtain ⟨pk,px,pn,pu,pa,p1,p2,p3,p4,p5,gF,pT⟩:=GF hC;obtain ⟨qk,qx,qn,qu,qa,q1,q2,q3,q4,q5,gG,qT⟩:=GF hD;have y0:=ag HB2.out p1;have x0:=ag HB2.out q1;have y1:=ag HB2.out p2;have x1:=ag HB2.out q2;have y2:=ag HB2.out p3;have x2:=ag HB2.out q3;have y3:=ag HB2.out p4;have x3:=ag HB2.out q4;have y4:=ag HB2.out p5;have x4:=ag HB2.out q5;obtain ⟨dd,k1,x1,n1,es1,a1,u1,h0,hv1,hr1⟩:=pT;obtain ⟨Af,k2,x2,n2,es2,a2,u2,h02,hv2,hr2⟩:=qT;injection hv1 with hv1;injection hv2 with hv2;simp only [Array.mk.injEq,List.cons.injEq,Value.int.injEq,Value.string.injEq,true_and,and_true] at hv1 hv2;obtain ⟨rfl,rfl,rfl,rfl,rfl⟩:=hv1;obtain ⟨rfl,rfl,rfl,rfl,rfl⟩:=hv2;have hfit:=ym.out t1 (List.mem_of_getElem? ht1);have hd:=nL (f:=sm pl m) ht1 ht2;rw [HN.out] at hd;have hfa:kW m es1:=by have:=(nM hfit).1;rw [h0] at this;exact this
     have hsm:sm pl m t1 t2=(uA pl (nd pk px e0 pn es1 [] pa) (nd qk qx e0 qn es2 [] qa) && dY pl m es1 es2):=by
      rw [h0,h02];show (uA pl _ _ && (dY pl m es1 es2 && dY pl m [] []))=_;rw [show dY pl m [] []=true by cases m<;>rfl,Bool.and_true]
     have hhd:uA pl (nd pk px e0 pn es1 [] pa) (nd qk qx e0 qn es2 [] qa)=((pk == qk) && (decide (px=qx) && ((pn == qn) && (!pl || (pa == qa))))):=by
      show ((pk == qk) && (decide (px=qx) && (true && ((pn == qn) && (!pl || (pa == qa))))))=_;rw [Bool.true_and]
     rw [hsm,hhd] at hd;obtain ⟨oA,cA,rfl,_⟩:=bz hr1;obtain ⟨oB,cB,rfl,_⟩:=bz hr2;have fU:=ae (fun (u:World) (hu:Below w.heap.size w u)=>fT.out pl es1 es2 (.slice oA es1.length cA) (.slice oB es2.length cB) u hfa ⟨dd,hr1.imp (fun b o t _ ht=>bR.but (fun kk _ hl=>hu.block kk hl) _ b o t ht)⟩ ⟨Af,hr2.imp (fun b o t _ ht=>bR.but (fun kk _ hl=>hu.block kk hl) _ b o t ht)⟩);generalize dY pl m es1 es2=A at *;have HD:=ae hd;have w1:decide ((i:Int)<(l.length:Int))=true:=decide_eq_true (by omega);have hw1:=vW hp HL.out;have hik:i<l.length:=hp;clear hC hD p1 q1 p2 q2 p3 q3 p4 q4 p5 q5 ht1 ht2 HN hd hsm hhd hfit hfa h0 h02 hr1 hr2;go_upto_region 6 with fail;refine ah.Cv (Z:=Zt) (none,none) 12 67 (fun i=>if i<8 then 21+i else if i=8 then 8 else if i=9 then 9 else 21+i) [10,11] [8,9,10,11] (dV wr.heap.size 101 #[.int .i64 pk,.string px,.int .i64 pn,.slice oA es1.length cA,.int .i64 pa] #[.int .i64 qk,.string qx,.int .i64 qn,.slice oB es2.length cB,.int .i64 qa]) (yA wr.heap.size wr) (fun _ _ _=>True) (dL 101 gH #[.int .i64 pk,.string px,.int .i64 pn,.slice oA es1.length cA,.int .i64 pa] #[.int .i64 qk,.string qx,.int .i64 qn,.slice oB es2.length cB,.int .i64 qa] [.slice (some ⟨b,off,none⟩) l.length cR,.int .i64 (i:Int),.pointer (some ⟨b,off+i*5,none⟩),.agg #[.int .i64 pk,.string px,.int .i64 pn,.slice oA es1.length cA,.int .i64 pa],.slice (some ⟨b2,bL,none⟩) l.length cS,.int .i64 (i:Int),.pointer (some ⟨b2,bL+i*5,none⟩),.agg #[.int .i64 qk,.string qx,.int .i64 qn,.slice oB es2.length cB,.int .i64 qa]]) (by kernel_rfl) (by kernel_rfl) (by kernel_rfl) (by kernel_rfl) rfl ?hN ?mN (fun _ _ _ _ _ _ _ _ _ _ _ _ _=>trivial) (fun k z z' u u' hk hK hT=>hK.step hk hT) ?hstep ?hend ⟨gZ _,fun _ h=>(by cases h),fun _ h=>(by cases h),fun _ _ h=>(by cases h),Nat.le_refl _⟩ (fun _ _=>trivial)
     case hN=>exact fun i hi z v v' u h=>h.st (by simpa using hi)
     case mN =>
      intro i k v z z' u u' hi hk hne hcl _ hK hG hT;refine hG.Jl hk hne (fun e e2=>?_) (fun e e2=>?_) hK hT
      ·subst e;subst e2;exact absurd hcl (by decide)
      ·subst e;subst e2;exact absurd hcl (by decide)
     case hstep =>
      intro j o a z u hj ho hF hK hR hd;have f0:a.tmps[0]?.getD undef=.slice (some ⟨b,off,none⟩) l.length cR:=ah.ak (hF.eval 0 (fun i hi=>qi 21 i 0 (by decide) (by decide) hi));have f1:a.tmps[1]?.getD undef=.slice (some ⟨b2,bL,none⟩) l.length cS:=ah.ak (hF.eval 1 (fun i hi=>qi 21 i 1 (by decide) (by decide) hi));have f7:a.tmps[7]?.getD undef=.int .i64 (i:Int):=ah.ak (hF.eval 7 (fun i hi=>qi 21 i 7 (by decide) (by decide) hi));have HK:=ae hK;have y0:=ag hK.ed y0;have x0:=ag hK.ed x0;have y1:=ag hK.ed y1;have x1:=ag hK.ed x1;have y2:=ag hK.ed y2;have x2:=ag hK.ed x2;have y3:=ag hK.ed y3;have x3:=ag hK.ed x3;have y4:=ag hK.ed y4;have x4:=ag hK.ed x4;have hcase:j=0\/j=1\/j=2\/j=3\/j=4\/j=5\/j=6\/j=7\/j=8\/j=9\/j=10\/j=11:=by omega
      clear hj hR hK;rcases hcase with rfl|rfl|rfl|rfl|rfl|rfl|rfl|rfl|rfl|rfl|rfl|rfl
      all_goals (simp only [List.getElem?_toArray,List.getElem?_cons_succ,List.getElem?_cons_zero,Option.some.injEq] at ho;subst ho;refine ah.bh fun K aj=>?_)
      ·skip
       go_simp;exact aj _ _ ⟨_,z,rfl,dV.rd (by decide),dL.rd (by decide) rfl⟩
      ·skip
       go_simp;exact aj _ _ ⟨_,z,rfl,dV.rd (by decide),dL.rd (by decide) rfl⟩
      ·have q0:a.tmps[21]?.getD undef=_:=ah.ak ((hd 0 (by decide)).1 (by decide));have q1:a.tmps[22]?.getD undef=_:=ah.ak ((hd 1 (by decide)).1 (by decide));simp only [List.getD_cons_succ,List.getD_cons_zero] at q0 q1;go_simp;exact aj _ _ ⟨_,z,rfl,dV.rd (by decide),dL.rd (by decide) rfl⟩
      ·have q2:a.tmps[23]?.getD undef=_:=ah.ak ((hd 2 (by decide)).1 (by decide));simp only [List.getD_cons_succ,List.getD_cons_zero] at q2;go_simp;exact aj _ _ ⟨_,z,rfl,dV.rd (by decide),dL.rd (by decide) rfl⟩
      ·skip
       go_simp;exact aj _ _ ⟨_,z,rfl,dV.rd (by decide),dL.rd (by decide) rfl⟩
      ·skip
       go_simp;exact aj _ _ ⟨_,z,rfl,dV.rd (by decide),dL.rd (by decide) rfl⟩
      ·have q4:a.tmps[25]?.getD undef=_:=ah.ak ((hd 4 (by decide)).1 (by decide));have q5:a.tmps[26]?.getD undef=_:=ah.ak ((hd 5 (by decide)).1 (by decide));simp only [List.getD_cons_succ,List.getD_cons_zero] at q4 q5;go_simp;exact aj _ _ ⟨_,z,rfl,dV.rd (by decide),dL.rd (by decide) rfl⟩
      ·have q6:a.tmps[27]?.getD undef=_:=ah.ak ((hd 6 (by decide)).1 (by decide));simp only [List.getD_cons_succ,List.getD_cons_zero] at q6;go_simp;exact aj _ _ ⟨_,z,rfl,dV.rd (by decide),dL.rd (by decide) rfl⟩
      ·go_simp;exact aj _ _ ⟨_,(some u.heap.size,z.2),rfl,dV.yB HK.out.sz _,dL.yB _ rfl⟩
      ·go_simp;exact aj _ _ ⟨_,(z.1,some u.heap.size),rfl,dV.yC HK.out.sz _,dL.yC _ rfl⟩
      ·obtain ⟨b9,k1,k2,k3⟩:=(hd 8 (by decide)).2.1 rfl;have q:a.eval (.tmp 24)=.agg #[.int .i64 pk,.string px,.int .i64 pn,.slice oA es1.length cA,.int .i64 pa]:=(hd 3 (by decide)).1 (by decide);obtain ⟨W,hW,hth,hbw,hb1,hb2⟩:=Ap (zc:=gH) (C:=#[.int .i64 pk,.string px,.int .i64 pn,.slice oA es1.length cA,.int .i64 pa]) (TY:=101) (HK.out.a b9 k1).1 rfl k3;refine wp_store_mid 101 (.tmp 8) (.tmp 24) rfl b9 0 #[.int .i64 pk,.string px,.int .i64 pn,.slice oA es1.length cA,.int .i64 pa] k2 q hth iC (by simp [Value.oneCell']) ?_;rw [hW];exact aj _ _ ⟨undef,z,rfl,dV.yD k1 hbw hb1 hb2,dL.yD k1 hb1⟩
      ·obtain ⟨b9,k1,k2,k3⟩:=(hd 9 (by decide)).2.2.1 rfl;have q:a.eval (.tmp 28)=.agg #[.int .i64 qk,.string qx,.int .i64 qn,.slice oB es2.length cB,.int .i64 qa]:=(hd 7 (by decide)).1 (by decide);obtain ⟨W,hW,hth,hbw,hb1,hb2⟩:=Ap (zc:=gH) (C:=#[.int .i64 qk,.string qx,.int .i64 qn,.slice oB es2.length cB,.int .i64 qa]) (TY:=101) (HK.out.b b9 k1).1 rfl k3;refine wp_store_mid 101 (.tmp 9) (.tmp 28) rfl b9 0 #[.int .i64 qk,.string qx,.int .i64 qn,.slice oB es2.length cB,.int .i64 qa] k2 q hth iC (by simp [Value.oneCell']) ?_;rw [hW];exact aj _ _ ⟨undef,z,rfl,dV.yE k1 hbw hb1 hb2,dL.yE k1 hb1⟩
     case hend =>
      intro a z u hF hK hn;obtain ⟨c1,e1,h1,_⟩:=(hn 8 (by simp) (by decide)).2.1 rfl;obtain ⟨c2,e2,h1',_⟩:=(hn 9 (by simp) (by decide)).2.2.1 rfl;obtain ⟨c1',si,h3⟩:=(hn 10 (by simp) (by decide)).2.2.2.1 rfl;obtain ⟨c2',e2',h3'⟩:=(hn 11 (by simp) (by decide)).2.2.2.2 rfl;obtain rfl:c1'=c1:=by rw [e1] at si;exact (Option.some.inj si).symm
      obtain rfl:c2'=c2:=by rw [e2] at e2';exact (Option.some.inj e2').symm
      have fA:=ae (ax HB2.out hK.ed);have H3:=ae h3;have gY:=ae h3'
      obtain ⟨xl,hxl,rfl,hev⟩:=(ah.Fr.two (s1:=8) (s2:=9) (lo:=21) (n:=12) hF h1 h1' (by simp) (fun k e1 e2 e3 i hi=>qi 21 i k (by decide) ⟨e1,e2,by
       rcases Nat.lt_or_ge k 21 with h|h
       ·exact .inl h
       ·refine .inr (Nat.le_of_not_lt fun hl=>e3 (k-21) (by omega) (by omega))⟩ hi)).lit (by simp)
      obtain ⟨x0,x1,x2,x3,x4,x5,x6,x7,x8,x9,il,jm,rfl⟩:∃x0 x1 x2 x3 x4 x5 x6 x7 x8 x9 il jm,xl = [x0,x1,x2,x3,x4,x5,x6,x7,x8,x9,il,jm]:=by
       match xl,hxl with
       | [x0,x1,x2,x3,x4,x5,x6,x7,x8,x9,il,jm],_=>exact ⟨x0,x1,x2,x3,x4,x5,x6,x7,x8,x9,il,jm,rfl⟩
      clear hev hxl hF hn hK h1 h1' h3 h3' e1 e2 si e2';simp only [List.set_cons_succ,List.set_cons_zero,List.take_succ_cons,List.take_zero,List.drop_succ_cons,List.drop_zero,List.cons_append,List.nil_append];have c0:=af H3.out 0 _ rfl;have d0:=af gY.out 0 _ rfl;have c1:=af H3.out 1 _ rfl;have d1:=af gY.out 1 _ rfl;have c2:=af H3.out 2 _ rfl;have d2:=af gY.out 2 _ rfl;have c3:=af H3.out 3 _ rfl;have d3:=af gY.out 3 _ rfl;have c4:=af H3.out 4 _ rfl;have d4:=af gY.out 4 _ rfl
      skip
      cases q0:(pk == qk) with
      | false =>
       have r0:(pk != qk)=true:=by rw [bne,q0];rfl
       have HS:Hid (R=false):=ae (by rw [HD.out,q0];simp);clear HD fU;go_wp2;go_ret;exact ⟨aO HS.out.symm,fA.out⟩
      | true =>
       have r0:(pk != qk)=false:=by rw [bne,q0];rfl
       cases q1:decide (px=qx) with
       | false =>
        have s1:(px.toList == qx.toList)=false:=by rw [str_eq,q1]
        have r1:(px.toList != qx.toList)=true:=by rw [bne,s1];rfl
        have HS:Hid (R=false):=ae (by rw [HD.out,q0,q1];simp);clear HD fU;go_wp2;go_ret;exact ⟨aO HS.out.symm,fA.out⟩
       | true =>
        have s1:(px.toList == qx.toList)=true:=by rw [str_eq,q1]
        have r1:(px.toList != qx.toList)=false:=by rw [bne,s1];rfl
        cases q2:(pn == qn) with
        | false =>
         have r2:(pn != qn)=true:=by rw [bne,q2];rfl
         have HS:Hid (R=false):=ae (by rw [HD.out,q0,q1,q2];simp);clear HD fU;go_wp2;go_ret;exact ⟨aO HS.out.symm,fA.out⟩
        | true =>
         have r2:(pn != qn)=false:=by rw [bne,q2];rfl
         cases pl with
         | false =>
          have hD:=HD.out;rw [q0,q1,q2] at hD;simp only [Bool.true_and,Bool.not_false,Bool.true_or] at hD;have fV:=ae hD;clear hD HD;have HC:=ae (fU.out u fA.out);go_wp2_with fail;refine Calls.mono (show Calls _ _ _ _ _ from HC.out) ?_;rintro e w2 ⟨rfl,hb2⟩;have aD:=ae (ax fA.out hb2);clear hb2 HC fU c0 c1 c2 c3 c4 d0 d1 d2 d3 d4;cases A with
          | false =>
           have HS:Hid (R=false):=ae (by rw [fV.out];rfl);clear fV;go_wp2;go_ret;exact ⟨aO HS.out.symm,aD.out⟩
          | true =>
           have HS:Hid (bD (sm false m) (l.drop (i+1)) (k.drop (i+1))=R):=ae (by rw [fV.out];rfl);clear fV;go_wp2;go_roundw
           case rel=>exact ⟨i+1,by first|rfl|(congr 1),hik,HS,aD⟩
           case measure=>simp;omega
         | true =>
          cases q9:(pa == qa) with
          | false =>
           have r9:(pa != qa)=true:=by rw [bne,q9];rfl
           have HS:Hid (R=false):=ae (by rw [HD.out,q0,q1,q2,q9];simp);clear HD fU;go_wp2;go_ret;exact ⟨aO HS.out.symm,fA.out⟩
          | true =>
           have r9:(pa != qa)=false:=by rw [bne,q9];rfl
           have hD:=HD.out;rw [q0,q1,q2,q9] at hD;simp only [Bool.true_and,Bool.not_true,Bool.false_or] at hD;have fV:=ae hD;clear hD HD;have HC:=ae (fU.out u fA.out);go_wp2_with fail;refine Calls.mono (show Calls _ _ _ _ _ from HC.out) ?_;rintro e w2 ⟨rfl,hb2⟩;have aD:=ae (ax fA.out hb2);clear hb2 HC fU c0 c1 c2 c3 c4 d0 d1 d2 d3 d4;cases A with
           | false =>
            have HS:Hid (R=false):=ae (by rw [fV.out];rfl);clear fV;go_wp2;go_ret;exact ⟨aO HS.out.symm,aD.out⟩
           | true =>
            have HS:Hid (bD (sm true m) (l.drop (i+1)) (k.drop (i+1))=R):=ae (by rw [fV.out];rfl);clear fV;go_wp2;go_roundw
            case rel=>exact ⟨i+1,by first|rfl|(congr 1),hik,HS,aD⟩
            case measure=>simp;omega
    ·have q1:decide ((i:Int)<(l.length:Int))=false:=decide_eq_false (by omega);have HS:Hid (R=true):=ae (by rw [<- HN.out];exact nN (by omega) (by have:=gW.out;omega));clear HN;go_wp2;go_ret;exact ⟨aO HS.out.symm,HB2.out⟩
  ·have HS:Hid (R=false):=ae (by rw [hR,mH hlen]);clear hR h hk hel hes hf ih;go_enter Tryz.func78,Tryz.ntmps78;go_wp2;go_ret;exact ⟨aO HS.out.symm,Below.refl _ _⟩
theorem aaK:∀(m:Nat) (pl:Bool) (l k:List Value) (vl vk:Value) (w:World),kW m l->iZ 0 vl l w->iZ 0 vk k w->Calls Tryz.prog 33 #[vl,vk,.bool pl] w fun e w'=>e=.returned (.bool (dY pl m l k))/\Below w.heap.size w w':=by
 intro m
 induction m with
 | zero =>
  intro pl l k vl vk w hf h hk;have hl:l = []:=hf;subst hl;obtain ⟨d,h⟩:=h;obtain ⟨d2,hk⟩:=hk;obtain ⟨oR,cR,rfl,_⟩:=bz h;obtain ⟨oS,cS,rfl,_⟩:=bz hk;obtain ⟨R,hR⟩:∃R,R=dY pl 0 [] k:=⟨_,rfl⟩;rw [<- hR];rw [List.length_nil];clear h hk;cases k with
  | nil =>
   have HS:Hid (true=R):=ae (by rw [hR];rfl);clear hR;rw [List.length_nil];go_enter Tryz.func33,Tryz.ntmps33;go_wp2_with fail;go_loopw [7] (fun a wr=>a=.int .i64 0/\Hid (Below w.heap.size w wr)) (fun _ _=>0)
   case atStart=>exact ⟨rfl,ae (Below.refl _ _)⟩
   case round =>
    obtain ⟨rfl,HB⟩:=hrel;go_wp2;go_ret;exact ⟨aO HS.out,HB.out⟩
  | cons x k =>
   have HS:Hid (false=R):=ae (by rw [hR];rfl);obtain ⟨n,hn⟩:∃n,n=(x :: k).length:=⟨_,rfl⟩;have hne:¬ 0=n:=by rw [hn];simp
   rw [<- hn];clear hR hn;go_enter Tryz.func33,Tryz.ntmps33;go_wp2;go_ret;exact ⟨aO HS.out,Below.refl _ _⟩
 | succ m ih =>
  intro pl l k vl vk w hf h hk;obtain ⟨d,h⟩:=h;obtain ⟨d2,hk⟩:=hk;obtain ⟨oR,cR,rfl,hel⟩:=bz h;obtain ⟨oS,cS,rfl,hes⟩:=bz hk;obtain ⟨R,hR⟩:∃R,R=dY pl (m+1) l k:=⟨_,rfl⟩;rw [<- hR];rw [EL] at hR;by_cases hlen:l.length=k.length
  ·have st0:Hid (bD (sm pl m) (l.drop 0) (k.drop 0)=R):=ae (by rw [hR];rfl);have HL:=ae h.1;have dB:=ae hel;have jN:=ae hes;have gW:=ae hlen;have ym:=ae hf;have fT:=ae ih;rw [<- hlen];clear hR h hk hel hes hlen hf ih;go_enter Tryz.func33,Tryz.ntmps33;go_wp2_with fail;go_loopw [7] (fun a wr=>∃i:Nat,a=.int .i64 i/\i<=l.length/\Hid (bD (sm pl m) (l.drop i) (k.drop i)=R)/\Hid (Below w.heap.size w wr)) (fun a _=>match a with | .int _ i=>l.length-i.toNat|_=>0)
   case atStart=>exact ⟨0,rfl,Nat.zero_le _,st0,ae (Below.refl _ _)⟩
   case round =>
    obtain ⟨i,rfl,hi,HN,HB2⟩:=hrel;clear st0;by_cases hp:i<l.length
    ·obtain ⟨t1,ht1⟩:∃t1,l[i]?=some t1:=⟨_,List.getElem?_eq_getElem hp⟩;obtain ⟨t2,ht2⟩:∃t2,k[i]?=some t2:=⟨_,List.getElem?_eq_getElem (by have:=gW.out;omega)⟩;obtain ⟨b,off,dh,hC⟩:=dB.out i t1 ht1;obtain ⟨b2,bL,kK,hD⟩:=jN.out i t2 ht2;subst dh;subst kK;obtain ⟨pk,px,py,pn,pu,pz,pa,p1,p2,p3,p4,p5,p6,p7,gF,pT⟩:=GG hC;obtain ⟨qk,qx,qy,qn,qu,qz,qa,q1,q2,q3,q4,q5,q6,q7,gG,qT⟩:=GG hD;have y0:=ag HB2.out p1;have x0:=ag HB2.out q1;have y1:=ag HB2.out p2;have x1:=ag HB2.out q2;have y2:=ag HB2.out p3;have x2:=ag HB2.out q3;have y3:=ag HB2.out p4;have x3:=ag HB2.out q4;have y4:=ag HB2.out p5;have x4:=ag HB2.out q5;have y5:=ag HB2.out p6;have x5:=ag HB2.out q6;have y6:=ag HB2.out p7;have x6:=ag HB2.out q7;obtain ⟨dd,k1,x1,y1,n1,es1,fu,a1,u1,uz1,h0,hv1,hr1,hq1⟩:=pT;obtain ⟨Af,k2,x2,y2,n2,es2,dK,a2,u2,jv,h02,hv2,hr2,hq2⟩:=qT;injection hv1 with hv1;injection hv2 with hv2;simp only [Array.mk.injEq,List.cons.injEq,Value.int.injEq,Value.string.injEq,true_and,and_true] at hv1 hv2;obtain ⟨rfl,rfl,rfl,rfl,rfl,rfl,rfl⟩:=hv1;obtain ⟨rfl,rfl,rfl,rfl,rfl,rfl,rfl⟩:=hv2;have hfit:=ym.out t1 (List.mem_of_getElem? ht1);have hd:=nL (f:=sm pl m) ht1 ht2;rw [HN.out] at hd;have hfa:kW m es1:=by have:=(nM hfit).1;rw [h0] at this;exact this
     have hfp:kW m fu:=by have:=(nM hfit).2;rw [h0] at this;exact this
     have hsm:sm pl m t1 t2=(uA pl (nd pk px py pn es1 fu pa) (nd qk qx qy qn es2 dK qa) && (dY pl m es1 es2 && dY pl m fu dK)):=by
      rw [h0,h02];rfl
     have hhd:uA pl (nd pk px py pn es1 fu pa) (nd qk qx qy qn es2 dK qa)=((pk == qk) && (decide (px=qx) && (decide (py=qy) && ((pn == qn) && (!pl || (pa == qa)))))):=rfl;rw [hsm,hhd,Bool.and_comm (dY pl m es1 es2)] at hd;obtain ⟨oA,cA,rfl,_⟩:=bz hr1;obtain ⟨oB,cB,rfl,_⟩:=bz hr2;obtain ⟨oP,cP,rfl,_⟩:=bz hq1;obtain ⟨oQ,cQ,rfl,_⟩:=bz hq2;have fU:=ae (fun (u:World) (hu:Below w.heap.size w u)=>fT.out pl es1 es2 (.slice oA es1.length cA) (.slice oB es2.length cB) u hfa ⟨dd,hr1.imp (fun b o t _ ht=>cf.but (fun kk _ hl=>hu.block kk hl) _ b o t ht)⟩ ⟨Af,hr2.imp (fun b o t _ ht=>cf.but (fun kk _ hl=>hu.block kk hl) _ b o t ht)⟩);have vv:=ae (fun (u:World) (hu:Below w.heap.size w u)=>aaV m pl fu dK (.slice oP fu.length cP) (.slice oQ dK.length cQ) u hfp ⟨dd,hq1.imp (fun b o t _ ht=>bR.but (fun kk _ hl=>hu.block kk hl) _ b o t ht)⟩ ⟨Af,hq2.imp (fun b o t _ ht=>bR.but (fun kk _ hl=>hu.block kk hl) _ b o t ht)⟩);generalize dY pl m es1 es2=A at *;generalize dY pl m fu dK=Pb at *;have HD:=ae hd;have w1:decide ((i:Int)<(l.length:Int))=true:=decide_eq_true (by omega);have hw1:=vW hp HL.out;have hik:i<l.length:=hp;clear hC hD p1 q1 p2 q2 p3 q3 p4 q4 p5 q5 p6 q6 p7 q7 ht1 ht2 HN hd hsm hhd hfit hfa hfp h0 h02 hr1 hr2 hq1 hq2;go_upto_region 6 with fail;refine ah.Cv (Z:=Zt) (none,none) 12 83 (fun i=>if i<8 then 21+i else if i=8 then 8 else if i=9 then 9 else 21+i) [10,11] [8,9,10,11] (dV wr.heap.size 27 #[.int .i64 pk,.string px,.string py,.int .i64 pn,.slice oA es1.length cA,.slice oP fu.length cP,.int .i64 pa] #[.int .i64 qk,.string qx,.string qy,.int .i64 qn,.slice oB es2.length cB,.slice oQ dK.length cQ,.int .i64 qa]) (yA wr.heap.size wr) (fun _ _ _=>True) (dL 27 bS #[.int .i64 pk,.string px,.string py,.int .i64 pn,.slice oA es1.length cA,.slice oP fu.length cP,.int .i64 pa] #[.int .i64 qk,.string qx,.string qy,.int .i64 qn,.slice oB es2.length cB,.slice oQ dK.length cQ,.int .i64 qa] [.slice (some ⟨b,off,none⟩) l.length cR,.int .i64 (i:Int),.pointer (some ⟨b,off+i*7,none⟩),.agg #[.int .i64 pk,.string px,.string py,.int .i64 pn,.slice oA es1.length cA,.slice oP fu.length cP,.int .i64 pa],.slice (some ⟨b2,bL,none⟩) l.length cS,.int .i64 (i:Int),.pointer (some ⟨b2,bL+i*7,none⟩),.agg #[.int .i64 qk,.string qx,.string qy,.int .i64 qn,.slice oB es2.length cB,.slice oQ dK.length cQ,.int .i64 qa]]) (by kernel_rfl) (by kernel_rfl) (by kernel_rfl) (by kernel_rfl) rfl ?hN ?mN (fun _ _ _ _ _ _ _ _ _ _ _ _ _=>trivial) (fun k z z' u u' hk hK hT=>hK.step hk hT) ?hstep ?hend ⟨gZ _,fun _ h=>(by cases h),fun _ h=>(by cases h),fun _ _ h=>(by cases h),Nat.le_refl _⟩ (fun _ _=>trivial)
     case hN=>exact fun i hi z v v' u h=>h.st (by simpa using hi)
     case mN =>
      intro i k v z z' u u' hi hk hne hcl _ hK hG hT;refine hG.Jl hk hne (fun e e2=>?_) (fun e e2=>?_) hK hT
      ·subst e;subst e2;exact absurd hcl (by decide)
      ·subst e;subst e2;exact absurd hcl (by decide)
     case hstep =>
      intro j o a z u hj ho hF hK hR hd;have f0:a.tmps[0]?.getD undef=.slice (some ⟨b,off,none⟩) l.length cR:=ah.ak (hF.eval 0 (fun i hi=>qi 21 i 0 (by decide) (by decide) hi));have f1:a.tmps[1]?.getD undef=.slice (some ⟨b2,bL,none⟩) l.length cS:=ah.ak (hF.eval 1 (fun i hi=>qi 21 i 1 (by decide) (by decide) hi));have f7:a.tmps[7]?.getD undef=.int .i64 (i:Int):=ah.ak (hF.eval 7 (fun i hi=>qi 21 i 7 (by decide) (by decide) hi));have HK:=ae hK;have y0:=ag hK.ed y0;have x0:=ag hK.ed x0;have y1:=ag hK.ed y1;have x1:=ag hK.ed x1;have y2:=ag hK.ed y2;have x2:=ag hK.ed x2;have y3:=ag hK.ed y3;have x3:=ag hK.ed x3;have y4:=ag hK.ed y4;have x4:=ag hK.ed x4;have y5:=ag hK.ed y5;have x5:=ag hK.ed x5;have y6:=ag hK.ed y6;have x6:=ag hK.ed x6;have hcase:j=0\/j=1\/j=2\/j=3\/j=4\/j=5\/j=6\/j=7\/j=8\/j=9\/j=10\/j=11:=by omega
      clear hj hR hK;rcases hcase with rfl|rfl|rfl|rfl|rfl|rfl|rfl|rfl|rfl|rfl|rfl|rfl
      all_goals (simp only [List.getElem?_toArray,List.getElem?_cons_succ,List.getElem?_cons_zero,Option.some.injEq] at ho;subst ho;refine ah.bh fun K aj=>?_)
      ·skip
       go_simp;exact aj _ _ ⟨_,z,rfl,dV.rd (by decide),dL.rd (by decide) rfl⟩
      ·skip
       go_simp;exact aj _ _ ⟨_,z,rfl,dV.rd (by decide),dL.rd (by decide) rfl⟩
      ·have q0:a.tmps[21]?.getD undef=_:=ah.ak ((hd 0 (by decide)).1 (by decide));have q1:a.tmps[22]?.getD undef=_:=ah.ak ((hd 1 (by decide)).1 (by decide));simp only [List.getD_cons_succ,List.getD_cons_zero] at q0 q1;go_simp;exact aj _ _ ⟨_,z,rfl,dV.rd (by decide),dL.rd (by decide) rfl⟩
      ·have q2:a.tmps[23]?.getD undef=_:=ah.ak ((hd 2 (by decide)).1 (by decide));simp only [List.getD_cons_succ,List.getD_cons_zero] at q2;go_simp;exact aj _ _ ⟨_,z,rfl,dV.rd (by decide),dL.rd (by decide) rfl⟩
      ·skip
       go_simp;exact aj _ _ ⟨_,z,rfl,dV.rd (by decide),dL.rd (by decide) rfl⟩
      ·skip
       go_simp;exact aj _ _ ⟨_,z,rfl,dV.rd (by decide),dL.rd (by decide) rfl⟩
      ·have q4:a.tmps[25]?.getD undef=_:=ah.ak ((hd 4 (by decide)).1 (by decide));have q5:a.tmps[26]?.getD undef=_:=ah.ak ((hd 5 (by decide)).1 (by decide));simp only [List.getD_cons_succ,List.getD_cons_zero] at q4 q5;go_simp;exact aj _ _ ⟨_,z,rfl,dV.rd (by decide),dL.rd (by decide) rfl⟩
      ·have q6:a.tmps[27]?.getD undef=_:=ah.ak ((hd 6 (by decide)).1 (by decide));simp only [List.getD_cons_succ,List.getD_cons_zero] at q6;go_simp;exact aj _ _ ⟨_,z,rfl,dV.rd (by decide),dL.rd (by decide) rfl⟩
      ·go_simp;exact aj _ _ ⟨_,(some u.heap.size,z.2),rfl,dV.yB HK.out.sz _,dL.yB _ rfl⟩
      ·go_simp;exact aj _ _ ⟨_,(z.1,some u.heap.size),rfl,dV.yC HK.out.sz _,dL.yC _ rfl⟩
      ·obtain ⟨b9,k1,k2,k3⟩:=(hd 8 (by decide)).2.1 rfl;have q:a.eval (.tmp 24)=.agg #[.int .i64 pk,.string px,.string py,.int .i64 pn,.slice oA es1.length cA,.slice oP fu.length cP,.int .i64 pa]:=(hd 3 (by decide)).1 (by decide);obtain ⟨W,hW,hth,hbw,hb1,hb2⟩:=Ap (zc:=bS) (C:=#[.int .i64 pk,.string px,.string py,.int .i64 pn,.slice oA es1.length cA,.slice oP fu.length cP,.int .i64 pa]) (TY:=27) (HK.out.a b9 k1).1 rfl k3;refine wp_store_mid 27 (.tmp 8) (.tmp 24) rfl b9 0 #[.int .i64 pk,.string px,.string py,.int .i64 pn,.slice oA es1.length cA,.slice oP fu.length cP,.int .i64 pa] k2 q hth cK (by simp [Value.oneCell']) ?_;rw [hW];exact aj _ _ ⟨undef,z,rfl,dV.yD k1 hbw hb1 hb2,dL.yD k1 hb1⟩
      ·obtain ⟨b9,k1,k2,k3⟩:=(hd 9 (by decide)).2.2.1 rfl;have q:a.eval (.tmp 28)=.agg #[.int .i64 qk,.string qx,.string qy,.int .i64 qn,.slice oB es2.length cB,.slice oQ dK.length cQ,.int .i64 qa]:=(hd 7 (by decide)).1 (by decide);obtain ⟨W,hW,hth,hbw,hb1,hb2⟩:=Ap (zc:=bS) (C:=#[.int .i64 qk,.string qx,.string qy,.int .i64 qn,.slice oB es2.length cB,.slice oQ dK.length cQ,.int .i64 qa]) (TY:=27) (HK.out.b b9 k1).1 rfl k3;refine wp_store_mid 27 (.tmp 9) (.tmp 28) rfl b9 0 #[.int .i64 qk,.string qx,.string qy,.int .i64 qn,.slice oB es2.length cB,.slice oQ dK.length cQ,.int .i64 qa] k2 q hth cK (by simp [Value.oneCell']) ?_;rw [hW];exact aj _ _ ⟨undef,z,rfl,dV.yE k1 hbw hb1 hb2,dL.yE k1 hb1⟩
     case hend =>
      intro a z u hF hK hn;obtain ⟨c1,e1,h1,_⟩:=(hn 8 (by simp) (by decide)).2.1 rfl;obtain ⟨c2,e2,h1',_⟩:=(hn 9 (by simp) (by decide)).2.2.1 rfl;obtain ⟨c1',si,h3⟩:=(hn 10 (by simp) (by decide)).2.2.2.1 rfl;obtain ⟨c2',e2',h3'⟩:=(hn 11 (by simp) (by decide)).2.2.2.2 rfl;obtain rfl:c1'=c1:=by rw [e1] at si;exact (Option.some.inj si).symm
      obtain rfl:c2'=c2:=by rw [e2] at e2';exact (Option.some.inj e2').symm
      have fA:=ae (ax HB2.out hK.ed);have H3:=ae h3;have gY:=ae h3'
      obtain ⟨xl,hxl,rfl,hev⟩:=(ah.Fr.two (s1:=8) (s2:=9) (lo:=21) (n:=12) hF h1 h1' (by simp) (fun k e1 e2 e3 i hi=>qi 21 i k (by decide) ⟨e1,e2,by
       rcases Nat.lt_or_ge k 21 with h|h
       ·exact .inl h
       ·refine .inr (Nat.le_of_not_lt fun hl=>e3 (k-21) (by omega) (by omega))⟩ hi)).lit (by simp)
      obtain ⟨x0,x1,x2,x3,x4,x5,x6,x7,x8,x9,il,jm,rfl⟩:∃x0 x1 x2 x3 x4 x5 x6 x7 x8 x9 il jm,xl = [x0,x1,x2,x3,x4,x5,x6,x7,x8,x9,il,jm]:=by
       match xl,hxl with
       | [x0,x1,x2,x3,x4,x5,x6,x7,x8,x9,il,jm],_=>exact ⟨x0,x1,x2,x3,x4,x5,x6,x7,x8,x9,il,jm,rfl⟩
      clear hev hxl hF hn hK h1 h1' h3 h3' e1 e2 si e2';simp only [List.set_cons_succ,List.set_cons_zero,List.take_succ_cons,List.take_zero,List.drop_succ_cons,List.drop_zero,List.cons_append,List.nil_append];have c0:=af H3.out 0 _ rfl;have d0:=af gY.out 0 _ rfl;have c1:=af H3.out 1 _ rfl;have d1:=af gY.out 1 _ rfl;have c2:=af H3.out 2 _ rfl;have d2:=af gY.out 2 _ rfl;have c3:=af H3.out 3 _ rfl;have d3:=af gY.out 3 _ rfl;have c4:=af H3.out 4 _ rfl;have d4:=af gY.out 4 _ rfl;have c5:=af H3.out 5 _ rfl;have d5:=af gY.out 5 _ rfl;have c6:=af H3.out 6 _ rfl;have d6:=af gY.out 6 _ rfl
      skip
      cases q0:(pk == qk) with
      | false =>
       have r0:(pk != qk)=true:=by rw [bne,q0];rfl
       have HS:Hid (R=false):=ae (by rw [HD.out,q0];simp);clear HD fU vv;go_wp2;go_ret;exact ⟨aO HS.out.symm,fA.out⟩
      | true =>
       have r0:(pk != qk)=false:=by rw [bne,q0];rfl
       cases q1:decide (px=qx) with
       | false =>
        have s1:(px.toList == qx.toList)=false:=by rw [str_eq,q1]
        have r1:(px.toList != qx.toList)=true:=by rw [bne,s1];rfl
        have HS:Hid (R=false):=ae (by rw [HD.out,q0,q1];simp);clear HD fU vv;go_wp2;go_ret;exact ⟨aO HS.out.symm,fA.out⟩
       | true =>
        have s1:(px.toList == qx.toList)=true:=by rw [str_eq,q1]
        have r1:(px.toList != qx.toList)=false:=by rw [bne,s1];rfl
        cases q2:decide (py=qy) with
        | false =>
         have s2:(py.toList == qy.toList)=false:=by rw [str_eq,q2]
         have r2:(py.toList != qy.toList)=true:=by rw [bne,s2];rfl
         have HS:Hid (R=false):=ae (by rw [HD.out,q0,q1,q2];simp);clear HD fU vv;go_wp2;go_ret;exact ⟨aO HS.out.symm,fA.out⟩
        | true =>
         have s2:(py.toList == qy.toList)=true:=by rw [str_eq,q2]
         have r2:(py.toList != qy.toList)=false:=by rw [bne,s2];rfl
         cases q3:(pn == qn) with
         | false =>
          have r3:(pn != qn)=true:=by rw [bne,q3];rfl
          have HS:Hid (R=false):=ae (by rw [HD.out,q0,q1,q2,q3];simp);clear HD fU vv;go_wp2;go_ret;exact ⟨aO HS.out.symm,fA.out⟩
         | true =>
          have r3:(pn != qn)=false:=by rw [bne,q3];rfl
          cases pl with
          | false =>
           have hD:=HD.out;rw [q0,q1,q2,q3] at hD;simp only [Bool.true_and,Bool.not_false,Bool.true_or] at hD;have fV:=ae hD;clear hD HD;have HC:=ae (vv.out u fA.out);go_wp2_with fail;refine Calls.mono (show Calls _ _ _ _ _ from HC.out) ?_;rintro e w2 ⟨rfl,hb2⟩;have aD:=ae (ax fA.out hb2);have k3:=(hb2.block _ (Array.getElem?_eq_some_iff.1 H3.out).1).trans H3.out;have jU:=(hb2.block _ (Array.getElem?_eq_some_iff.1 gY.out).1).trans gY.out;have m4:=af k3 4 _ rfl;have n4:=af jU 4 _ rfl;have cG:=ae (fU.out w2 aD.out);clear hb2 HC vv fU k3 jU c0 c1 c2 c3 c4 c5 c6 d0 d1 d2 d3 d4 d5 d6;cases Pb with
           | false =>
            have HS:Hid (R=false):=ae (by rw [fV.out];rfl);clear fV cG;go_wp2;go_ret;exact ⟨aO HS.out.symm,aD.out⟩
           | true =>
            rw [Bool.true_and] at fV;go_wp2_with fail;refine Calls.mono (show Calls _ _ _ _ _ from cG.out) ?_;rintro e w3 ⟨rfl,hb3⟩;have dF:=ae (ax aD.out hb3);clear hb3 cG m4 n4;cases A with
            | false =>
             have HS:Hid (R=false):=ae (by rw [fV.out];rfl);clear fV;go_wp2;go_ret;exact ⟨aO HS.out.symm,dF.out⟩
            | true =>
             have HS:Hid (bD (sm false m) (l.drop (i+1)) (k.drop (i+1))=R):=ae (by rw [fV.out];rfl);clear fV;go_wp2;go_roundw
             case rel=>exact ⟨i+1,by first|rfl|(congr 1),hik,HS,dF⟩
             case measure=>simp;omega
          | true =>
           cases q9:(pa == qa) with
           | false =>
            have r9:(pa != qa)=true:=by rw [bne,q9];rfl
            have HS:Hid (R=false):=ae (by rw [HD.out,q0,q1,q2,q3,q9];simp);clear HD fU vv;go_wp2;go_ret;exact ⟨aO HS.out.symm,fA.out⟩
           | true =>
            have r9:(pa != qa)=false:=by rw [bne,q9];rfl
            have hD:=HD.out;rw [q0,q1,q2,q3,q9] at hD;simp only [Bool.true_and,Bool.not_true,Bool.false_or] at hD;have fV:=ae hD;clear hD HD;have HC:=ae (vv.out u fA.out);go_wp2_with fail;refine Calls.mono (show Calls _ _ _ _ _ from HC.out) ?_;rintro e w2 ⟨rfl,hb2⟩;have aD:=ae (ax fA.out hb2);have k3:=(hb2.block _ (Array.getElem?_eq_some_iff.1 H3.out).1).trans H3.out;have jU:=(hb2.block _ (Array.getElem?_eq_some_iff.1 gY.out).1).trans gY.out;have m4:=af k3 4 _ rfl;have n4:=af jU 4 _ rfl;have cG:=ae (fU.out w2 aD.out);clear hb2 HC vv fU k3 jU c0 c1 c2 c3 c4 c5 c6 d0 d1 d2 d3 d4 d5 d6;cases Pb with
            | false =>
             have HS:Hid (R=false):=ae (by rw [fV.out];rfl);clear fV cG;go_wp2;go_ret;exact ⟨aO HS.out.symm,aD.out⟩
            | true =>
             rw [Bool.true_and] at fV;go_wp2_with fail;refine Calls.mono (show Calls _ _ _ _ _ from cG.out) ?_;rintro e w3 ⟨rfl,hb3⟩;have dF:=ae (ax aD.out hb3);clear hb3 cG m4 n4;cases A with
             | false =>
              have HS:Hid (R=false):=ae (by rw [fV.out];rfl);clear fV;go_wp2;go_ret;exact ⟨aO HS.out.symm,dF.out⟩
             | true =>
              have HS:Hid (bD (sm true m) (l.drop (i+1)) (k.drop (i+1))=R):=ae (by rw [fV.out];rfl);clear fV;go_wp2;go_roundw
              case rel=>exact ⟨i+1,by first|rfl|(congr 1),hik,HS,dF⟩
              case measure=>simp;omega
    ·have q1:decide ((i:Int)<(l.length:Int))=false:=decide_eq_false (by omega);have HS:Hid (R=true):=ae (by rw [<- HN.out];exact nN (by omega) (by have:=gW.out;omega));clear HN;go_wp2;go_ret;exact ⟨aO HS.out.symm,HB2.out⟩
  ·have HS:Hid (R=false):=ae (by rw [hR,mH hlen]);clear hR h hk hel hes hf ih;go_enter Tryz.func33,Tryz.ntmps33;go_wp2;go_ret;exact ⟨aO HS.out.symm,Below.refl _ _⟩
end Go.Proofs.YtkdbgopgjbfhbaaGreatDoor
