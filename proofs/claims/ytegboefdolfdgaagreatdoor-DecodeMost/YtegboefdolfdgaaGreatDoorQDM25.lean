/- Texts that the claim needs. -/
import Derived.Test.YtegboefdolfdgaaGreatDoorQDM24
import Derived.Test.YtegboefdolfdgaaGreatDoorQDM21
import Derived.Test.YtegboefdolfdgaaGreatDoorQDM17
import Derived.Laws.IdiomCopy
import Derived.Laws.NewBlocks
import Derived.Shelf.Lays
import Derived.Shelf.Lay
import Derived.Shelf.Bits.Mul64
namespace Go.Proofs.YtegboefdolfdgaaGreatDoor
open Go.RowKit aA ai
set_option linter.unusedVariables false
set_option maxRecDepth 100000
set_option maxHeartbeats 32000000
theorem Td (d:Nat) (IH:wJ d):wJ (d+1):=by
 intro w0 p s en i n z w dep bR h hn hd mi;by_cases hz:z=0
 case neg=>rw [gH hz];exact wy w0 p s en i n z w dep bR (d+1) h hz
 subst hz;rw [bJ]
 replace hn:=hn rfl
 have hpw:=h.lt;have hlen:=h.len;obtain ⟨sub,hsub⟩:∃sub,sub=dG s en d (dep+1):=⟨_,rfl⟩;have hfw:xe en sub:=by rw [hsub];exact Ey hlen d (dep+1)
 have hnb:Nb sub:=by rw [hsub];exact wE s en d (dep+1)
 have e:dG s en (d+1) dep i n=fG sub s en dep (en-i+1) i n:=by rw [hsub];rfl
 rw [e];obtain ⟨R,hR⟩:∃R:R2 (IL (d+1) × Int),R=yq (α:=IL (d+1)) bR (fG sub s en dep (en-i+1) i n):=⟨_,rfl⟩;have HR:=aa hR;have H:=aa h
 have HI:Hid (∀(j n:Nat) (u0 u:World) (q:Nat) (op:Int),YI w0 u0 p s en j (n+1) 0 q op 0 0 0 (.slice none 0 0) (.slice none 0 0) (.slice none 0 0) u->gZ dep op n=none->Calls Tryz.prog 82 #[.pointer (some ⟨p,0,none⟩),.pointer (some ⟨q,0,none⟩),.int .i64 dep] u (lI w0 u0 p s en q d op (iC sub s en dep op j n))):=aa (fun j n u0 u q op hu hk=>by
  rw [hsub];exact Pu IH w0 u0 p s en j n q op u hu dep (by omega) hk)
 have BR:=aa hfw;have xf:=aa hnb;show Calls _ _ _ _ (vk w0 p s en (d+1) w (yq (α:=IL (d+1)) bR (fG sub s en dep (en-i+1) i n)));rw [<- hR];clear e hR h hsub hfw hnb IH;go_enter Tryz.func58,Tryz.ntmps58;go_wp2_with fail;go_loopw [8] (fun t wr=>Hid (YL sub w0 p s en dep bR w R t wr)/\Hid (But p w wr)) (fun _ wr=>if RowKit.intOf ((wr.cell? ⟨p,4,none⟩).getD (.int .i64 0))=0 then en+1-(RowKit.intOf ((wr.cell? ⟨p,1,none⟩).getD (.int .i64 0))).toNat else 0)
 case atStart=>exact ⟨aa (.inl ⟨[],[],i,n,en-i+1,⟨none,0,rfl⟩,hn,Nat.le_refl _,by simp,by rw [HR.out,Kr];rfl,H.out,rfl,World.ownsRow_nil _ _ _ _,fun q hq=>by cases hq⟩),aa (But.refl p w)⟩
 case round =>
  obtain ⟨lS,HB⟩:=hrel;rcases lS.out with ⟨l,ps,iq,nq,f,⟨oT,cT,rfl⟩,hnq,hf,hll,hP,hS,hM,hO,hK⟩|⟨y,i',n',hy,jm,⟨oT,kT,cT,rfl⟩,hS⟩
  ·obtain ⟨f',rfl⟩:∃f',f=f'+1:=⟨f-1,by omega⟩;have HP:=aa hP;have HS:=aa hS;have HM:=aa hM;have HO:=aa hO;have HK:=aa hK;have hbig:=hS.big;have hle:=hS.le;have c4:=hS.cell 4 _ rfl;have hN:=wK w0 p s en iq nq 0 wr HS.out;rw [bJ] at hN;clear hP hS hM hO hK lS H HR hn;obtain ⟨N1,Dp⟩:∃N1,N1=nq+1:=⟨_,rfl⟩;cases hx:nx s en iq with
   | error y =>
    rw [hx] at hN;have HN:=aa hN;have HZ:Hid (R=.error y):=aa (by rw [HP.out,Ks hx];rfl);clear hN hx HP HO HK HM;generalize l.length=nl at *;go_wp2_with fail;refine HN.out.mono ?_;rintro e w1 ⟨hy,v,i2,n2,rfl,hv,h1,h2⟩;have hv:v=.int .i64 0:=hv;subst hv;have c4:=h1.cell 4 _ rfl;have b1:(y != 0)=true:=by simp [hy]
    have HF:=aa (⟨hy,h1,HB.out.trans h2⟩:_/\_/\_);clear h1 h2 HN hy;go_wp2;go_ret2;rw [HZ.out];exact ⟨none_ (d+1),0,_,_,_,i2,n2,y,rfl,HF.out.2.1,HF.out.2.2,⟨rfl,HF.out.1⟩,fun h=>absurd h HF.out.1,fun _=>rfl⟩
   | ok v =>
    obtain ⟨op,j⟩:=v;have hnx:=xg hx;rw [hx] at hN;have HN:=aa hN;clear hN;by_cases hend:op=11\/(op=5/\bR=true)
    ·have HZ:Hid (R=.ok ((l,op),j,nq)):=aa (by
      rw [HP.out,Ez hx (by rcases hend with h|h;exact .inl h;exact .inr h.1)];show (if bR=true\/op=11 then (.ok ((l,op),j,nq):R2 (List (Ins (IL d)) × Int)) else .error 50)=_;rw [if_pos (by rcases hend with h|h;exact .inr h;exact .inl h.2)];rfl)
     have HV:Hid (ah wr (Since w.heap.size wr none) (d+1) (.slice oT l.length cT) l):=aa (JA l ps HM.out (by omega) (by rw [show ps.length=l.length by rw [<- HM.out,List.length_map]];exact HO.out) HK.out)
     have hq:(op == 11)=true\/((op == 11)=false/\(op == 5)=true/\bR=true):=by
      rcases hend with rfl|⟨rfl,h⟩
      ·exact .inl rfl
      ·exact .inr ⟨rfl,rfl,h⟩
     clear hend hx HP HO HK HM hnx hf;generalize l.length=nl at *;rcases hq with q1|⟨q1,q2,rfl⟩
     all_goals
      go_wp2_with fail;refine HN.out.mono ?_;rintro e w1 ⟨v,rfl,hv,h1,h2⟩;have hv:v=.int .i64 op:=hv;subst hv;have c4:=h1.cell 4 _ rfl;have HF:=aa (⟨h1,HB.out.trans h2⟩:_/\_);have EB:=aa (ah.keep (mf hpw h2) (d+1) _ _ HV.out);clear h1 h2 HN HV;go_wp2;go_ret2;rw [HZ.out];exact ⟨l,op,_,_,_,j,nq,0,rfl,HF.out.1,HF.out.2,⟨rfl,rfl,rfl,rfl⟩,fun _=>EB.out,fun h=>absurd rfl h⟩
    ·have hne:op≠11:=fun h=>hend (.inl h);have q1:(op == 11)=false:=by rw [beq_eq_false_iff_ne];exact hne
     obtain ⟨F,rF⟩:∃F,F=form op:=⟨_,rfl⟩;have HF:=fun u=>aa (mh op u);rw [<- rF] at HF;cases hk:gZ dep op nq with
     | some z1 =>
      have HZ:Hid (R=.error z1):=aa (by
       rw [HP.out];by_cases h5:op=5
       ·rw [Ez hx (.inr h5)];show (if bR=true\/op=11 then (.ok ((l,op),j,nq):R2 (List (Ins (IL d)) × Int)) else .error 50)=_;rw [if_neg (fun h=>h.elim (fun h=>hend (.inr ⟨h5,h⟩)) hne)];rw [h5,Dj] at hk;injection hk with hk;rw [hk]
        try rfl
       ·rw [EC (z:=z1) hx (by omega) (by unfold iC;rw [hk])];rfl)
      have yl:bR=false\/(bR=true/\(op == 5)=false):=by
       cases bR with
       | false=>exact .inl rfl
       | true=>exact .inr ⟨rfl,by rw [beq_eq_false_iff_ne];exact fun h=>hend (.inr ⟨h,rfl⟩)⟩
      clear hend hx HP HK HM hnx hf HI BR xf hne;generalize hnl:l.length=nl at *;rcases yl with rfl|⟨rfl,q2⟩
      all_goals
       have hsw:(F == 0)=true/\z1=50\/(F == 0)=false/\((F == 10)=true/\z1=51\/(F == 10)=false/\(((nq:Int) == 65536)=true/\z1=3\/((nq:Int) == 65536)=false/\decide ((dep:Int) > 64)=true/\z1=4)):=by
        rw [rF];exact GJ hnq hk
       have hz1:z1≠0:=by rcases hsw with ⟨_,h⟩|⟨_,⟨_,h⟩|⟨_,⟨_,h⟩|⟨_,_,h⟩⟩⟩<;>omega
       have tK:=aa hz1;have b1:(z1 == 0)=false:=by rw [beq_eq_false_iff_ne];exact hz1
       have HW:Hid ((nq:Int)+1=(N1:Int)):=aa (by omega);clear hz1 hk rF;rcases hsw with ⟨g1,rfl⟩|⟨g1,⟨g2,rfl⟩|⟨g2,⟨g3,rfl⟩|⟨g3,g4,rfl⟩⟩⟩
       all_goals
        go_wp2_with fail;refine HN.out.mono ?_;rintro e w1 ⟨v,rfl,hv,h1,h2⟩;have hv:v=.int .i64 op:=hv;subst hv;have H1:=aa h1;have H2:=aa h2;have c4:=h1.cell 4 _ rfl;have c3:=h1.cell 3 _ rfl;clear h1 h2 HN;go_wp2_with fail;refine (HF _).out.mono ?_;rintro e w1 ⟨rfl,rfl⟩;go_wp2_with fail;refine (fD w0 p s en j nq 0 _ H1.out _).mono ?_;rintro e w2 ⟨rfl,h3,h4⟩;rw [if_pos rfl] at h3;have H3:=aa h3;have bQ:=aa (H2.out.trans h4);clear c3 c4 h3 h4 H1 H2;have c3:=H3.out.cell 3 _ rfl;have f3:=H3.out.ag 3;have c4:=H3.out.cell 4 _ rfl;go_upto_region 17 with fail;rw [HW.out];obtain ⟨u3,hu3⟩:∃u3,u3=w2.setCell ⟨p,3,none⟩ (.int .i64 N1):=⟨_,rfl⟩;rw [<- hu3];have pI:=aa (H3.out.num N1);have kK:=aa (bQ.out.trans (But.set p 3 w2 (.int .i64 N1)));rw [<- hu3] at pI kK;have hsz:w2.heap.size=u3.heap.size:=by rw [hu3];simp
        clear hu3 c3 f3 c4 H3 bQ;have cL:=aa (CN (w:=w) op pI.out);have kL:=aa (kK.out.trans (But.of p (aD u3 (.cells #[.int .i64 op,.int .i64 0,.int .i64 0,.int .i64 0,.slice none 0 0,.slice none 0 0,.slice none 0 0] 73))));obtain ⟨u4,jF⟩:∃u4,u4=u3.alloc (.cells #[.int .i64 op,.int .i64 0,.int .i64 0,.int .i64 0,.slice none 0 0,.slice none 0 0,.slice none 0 0] 73):=⟨_,rfl⟩;rw [<- jF] at cL kL ⊢
        try rw [hsz]
        clear hsz jF pI kK;have c4:=cL.out.ds.cell 4 _ rfl;have aU:=aa ((fA HO.out hpw kL.out).alloc (.cells #[.int .i64 op,.int .i64 0,.int .i64 0,.int .i64 0,.slice none 0 0,.slice none 0 0,.slice none 0 0] 73));have cJ:Hid (∀j u,(iS (jV (d:=d) { op:=op,a:=0,b:=0,n:=0,labels:=[],body:=none_ d,els:=none_ d } (.slice none 0 0) (.slice none 0 0) (.slice none 0 0)))[j]?=some u->(u4.alloc (.cells #[.int .i64 op,.int .i64 0,.int .i64 0,.int .i64 0,.slice none 0 0,.slice none 0 0,.slice none 0 0] 73)).cell? ((⟨u4.heap.size,0,none⟩:Addr).add j)=some u):=aa (ym u4 (d:=d) { op:=op,a:=0,b:=0,n:=0,labels:=[],body:=none_ d,els:=none_ d } (.slice none 0 0) (.slice none 0 0) (.slice none 0 0));have HB2:=aa ((HB.out.trans kL.out).trans (But.of p (aD u4 (.cells #[.int .i64 op,.int .i64 0,.int .i64 0,.int .i64 0,.slice none 0 0,.slice none 0 0,.slice none 0 0] 73))));have az:=aa (cL.out.ds.on (aD u4 (.cells #[.int .i64 op,.int .i64 0,.int .i64 0,.int .i64 0,.slice none 0 0,.slice none 0 0,.slice none 0 0] 73)));have bh:=aa (aD u4 (.cells #[.int .i64 op,.int .i64 0,.int .i64 0,.int .i64 0,.slice none 0 0,.slice none 0 0,.slice none 0 0] 73));have bY:Hid (w.heap.size<=u4.heap.size):=aa (Nat.le_trans HB.out.size kL.out.size);have x0:=cL.out.x.cell 0 _ rfl;have x1:=cL.out.x.cell 1 _ rfl;have x2:=cL.out.x.cell 2 _ rfl;have x3:=cL.out.x.cell 3 _ rfl;have x4:=cL.out.x.cell 4 _ rfl;have x5:=cL.out.x.cell 5 _ rfl;have x6:=cL.out.x.cell 6 _ rfl;obtain ⟨i1,hi1,hy0,hy1,hy2⟩:=info_parts yo;go_wp2_with (first|(at_builtin;refine iN rfl _ _ 66 rfl w.heap.size 73 i1 _ 7 104 Tryz.underlying66 hi1 hy0 hy1 hy2 rfl (by decide) _ _ _ rfl aU.out (some ⟨u4.heap.size,0,none⟩) 1 1 (iS (jV (d:=d) { op:=op,a:=0,b:=0,n:=0,labels:=[],body:=none_ d,els:=none_ d } (.slice none 0 0) (.slice none 0 0) (.slice none 0 0))) rfl ?c6 ?c0 ?c1 ?c2 ?c3 ?c4 ?c5 ?_))
        case c6=>intro h;cases h
        case c0=>rfl
        case c1=>exact fun ad h=>by injection h with h;subst h;exact cJ.out
        case c2=>exact yp _ rfl rfl rfl
        case c3=>unfold maxLen;omega
        case c4=>omega
        case c5=>have:=bY.out;simp;omega
        intro v9 w9 aW aP aN;have aS:∀q',(Value.slice oT nl cT).ownBlock=some q'->w.heap.size<=q':=fun q' hq'=>(aU.out.lt q' hq').1;have bP:=aa (az.out.grown aP (fun q' hq'=>Nat.lt_of_lt_of_le hpw (aS q' hq')));have cG:=aa (But.grown (p:=p) HB2.out aP aS);have hsl:=fU aW;have vE:=bP.out.cell 4 _ rfl;have vF:=HS.out.cell 4 _ rfl;have vG:=HS.out.cell 1 _ rfl;clear aW aP aN aS aU cJ HB2 az bh;obtain ⟨oN,cN,rfl⟩:=hsl;go_wp2;go_roundw
        case rel=>exact ⟨aa (.inr ⟨_,_,_,tK.out,HZ.out,⟨_,_,_,rfl⟩,bP.out⟩),cG⟩
        case measure=>rw [vE,vF,vG];simp [RowKit.intOf];omega
     | none =>
      have h5:op≠5:=fun h5=>by rw [h5,Dj] at hk;cases hk
      have ho:¬ (op=11\/op=5):=by omega
      obtain ⟨g1,g2,g3,g4⟩:=Ps hk;rw [<- rF] at g1 g2;have q2:(op == 5)=false:=by rw [beq_eq_false_iff_ne];exact h5
      have HW:Hid ((nq:Int)+1=(N1:Int)):=aa (by omega);have aL:=aa hk;have yl:bR=false\/bR=true:=by cases bR;exact .inl rfl;exact .inr rfl
      have HX:=aa hx;have BS:=aa ho;have tT:=aa Dp;have ED:=aa hlen;have pz:=aa hnx;clear hend hx hk rF h5 ho Dp hnx hne;generalize hnl:l.length=nl at *;rcases yl with rfl|rfl
      all_goals
       go_wp2_with fail;refine HN.out.mono ?_;rintro e w1 ⟨v,rfl,hv,h1,h2⟩;have hv:v=.int .i64 op:=hv;subst hv;have H1:=aa h1;have bQ:=aa h2;have c4:=h1.cell 4 _ rfl;have c3:=h1.cell 3 _ rfl;have f3:=h1.ag 3;clear h1 h2 HN;go_wp2_with fail;refine (HF _).out.mono ?_;rintro e w1 ⟨rfl,rfl⟩;go_upto_region 17 with fail;rw [HW.out];obtain ⟨u3,hu3⟩:∃u3,u3=w1.setCell ⟨p,3,none⟩ (.int .i64 N1):=⟨_,rfl⟩;rw [<- hu3];have pI:=aa (H1.out.num N1);have kK:=aa (bQ.out.trans (But.set p 3 w1 (.int .i64 N1)));rw [<- hu3] at pI kK;have hsz:w1.heap.size=u3.heap.size:=by rw [hu3];simp
       clear hu3 c3 f3 c4 H1 bQ;have pV:=aa (CN (w:=w) op pI.out);have Kt:=aa (kK.out.trans (But.of p (aD u3 (.cells #[.int .i64 op,.int .i64 0,.int .i64 0,.int .i64 0,.slice none 0 0,.slice none 0 0,.slice none 0 0] 73))));obtain ⟨u4,jF⟩:∃u4,u4=u3.alloc (.cells #[.int .i64 op,.int .i64 0,.int .i64 0,.int .i64 0,.slice none 0 0,.slice none 0 0,.slice none 0 0] 73):=⟨_,rfl⟩;rw [<- jF] at pV Kt ⊢
       try rw [hsz]
       have hC:=HI.out j nq u3 u4 u3.heap.size op (by have:=pV.out;rw [tT.out] at this;exact this) aL.out;have HC:=aa hC;have c4:=pV.out.ds.cell 4 _ rfl;have bM:Hid (w.heap.size<=u3.heap.size):=aa (Nat.le_trans HB.out.size kK.out.size);have eY:Hid (∀q',(Value.slice oT nl cT).ownBlock=some q'->w.heap.size<=q'/\q'<u3.heap.size):=aa (fun q' hq'=>(fA HO.out hpw kK.out).lt q' hq');clear hsz jF pI hC Kt;go_wp2_with fail;refine HC.out.mono ?_;rintro e u5 ⟨rfl,a,b,m,o4,n4,k4,o5,n5,k5,o6,n6,k6,i5,rU,z5,hyi,hfit⟩;have cL:=aa hyi;have kL:=aa (kK.out.trans hyi.but);have lG:=aa hfit;clear hyi hfit HC c4 pV;have c4:=cL.out.ds.cell 4 _ rfl;by_cases mJ:z5=0
       ·subst mJ;cases hr:iC sub s en dep op j nq with
        | error z=>rw [hr] at lG;exact absurd rfl lG.out.2
        | ok v =>
         obtain ⟨x,m',n2⟩:=v;rw [hr] at lG;obtain ⟨⟨rfl,rfl,rfl,rfl,gK,bK,cW⟩,rfl,rfl,_⟩:=lG.out;have hro:=EE ED.out BR.out (by have:=pz.out;omega) hr;have jP:n2<=65536:=EF xf.out _ _ _ _ _ hnq hr;have hmm:iq<m'/\m'<=en:=by have:=pz.out;omega
         have HZ:∀bR,R=yq bR (lv l (fG sub s en dep (f'+1) iq nq))->Hid (R=yq bR (lv (l++[x]) (fG sub s en dep f' m' n2))):=fun bR h=>aa (by rw [h];rw [Ku HX.out BS.out hr]);have HZ:=HZ _ HP.out;have hup:=kG (B:=w.heap.size) (B2:=u3.heap.size) (u:=u5) (row:=(Value.slice oT nl cT).ownBlock) bM.out (fun q' hq'=>(eY.out q' hq').2);have dJ:Hid (nk u5 (Since w.heap.size u5 (Value.slice oT nl cT).ownBlock) (jV x (.slice o4 n4 k4) (.slice o5 n5 k5) (.slice o6 n6 k6))):=aa ⟨gK.keep hup,ah.keep hup _ _ _ bK,ah.keep hup _ _ _ cW⟩;have dh:=aa (fun q hq=>(HK.out q hq).keep (jQ hpw kL.out));clear gK bK cW hup lG hr hro HX BS HP pz ED;have aU:=aa ((fA HO.out hpw kL.out).alloc (.cells #[.int .i64 x.op,.int .i64 x.a,.int .i64 x.b,.int .i64 x.n,.slice o4 n4 k4,.slice o5 n5 k5,.slice o6 n6 k6] 73));have cJ:Hid (∀j u,(iS (jV x (.slice o4 n4 k4) (.slice o5 n5 k5) (.slice o6 n6 k6)))[j]?=some u->(u5.alloc (.cells #[.int .i64 x.op,.int .i64 x.a,.int .i64 x.b,.int .i64 x.n,.slice o4 n4 k4,.slice o5 n5 k5,.slice o6 n6 k6] 73)).cell? ((⟨u5.heap.size,0,none⟩:Addr).add j)=some u):=aa (ym u5 x (.slice o4 n4 k4) (.slice o5 n5 k5) (.slice o6 n6 k6));have HB2:=aa ((HB.out.trans kL.out).trans (But.of p (aD u5 (.cells #[.int .i64 x.op,.int .i64 x.a,.int .i64 x.b,.int .i64 x.n,.slice o4 n4 k4,.slice o5 n5 k5,.slice o6 n6 k6] 73))));have az:=aa (cL.out.ds.on (aD u5 (.cells #[.int .i64 x.op,.int .i64 x.a,.int .i64 x.b,.int .i64 x.n,.slice o4 n4 k4,.slice o5 n5 k5,.slice o6 n6 k6] 73)));have bh:=aa (aD u5 (.cells #[.int .i64 x.op,.int .i64 x.a,.int .i64 x.b,.int .i64 x.n,.slice o4 n4 k4,.slice o5 n5 k5,.slice o6 n6 k6] 73));have bY:Hid (w.heap.size<=u5.heap.size):=aa (Nat.le_trans HB.out.size kL.out.size);have x0:=cL.out.x.cell 0 _ rfl;have x1:=cL.out.x.cell 1 _ rfl;have x2:=cL.out.x.cell 2 _ rfl;have x3:=cL.out.x.cell 3 _ rfl;have x4:=cL.out.x.cell 4 _ rfl;have x5:=cL.out.x.cell 5 _ rfl;have x6:=cL.out.x.cell 6 _ rfl;obtain ⟨i1,hi1,hy0,hy1,hy2⟩:=info_parts yo;go_wp2_with (first|(at_builtin;refine iN rfl _ _ 66 rfl w.heap.size 73 i1 _ 7 104 Tryz.underlying66 hi1 hy0 hy1 hy2 rfl (by decide) _ _ _ rfl aU.out (some ⟨u5.heap.size,0,none⟩) 1 1 (iS (jV x (.slice o4 n4 k4) (.slice o5 n5 k5) (.slice o6 n6 k6))) rfl ?c6 ?c0 ?c1 ?c2 ?c3 ?c4 ?c5 ?_))
         case c6=>intro h;cases h
         case c0=>rfl
         case c1=>exact fun ad h=>by injection h with h;subst h;exact cJ.out
         case c2=>exact yp _ rfl rfl rfl
         case c3=>unfold maxLen;omega
         case c4=>omega
         case c5=>have:=bY.out;simp;omega
         intro v9 w9 aW aP aN;have aS:∀q',(Value.slice oT nl cT).ownBlock=some q'->w.heap.size<=q':=fun q' hq'=>(aU.out.lt q' hq').1;have bP:=aa (az.out.grown aP (fun q' hq'=>Nat.lt_of_lt_of_le hpw (aS q' hq')));have cG:=aa (But.grown (p:=p) HB2.out aP aS);have dF:Hid (w9.ownsRow w.heap.size 73 7 v9 (nl+1) (nT (ps++[jV x (.slice o4 n4 k4) (.slice o5 n5 k5) (.slice o6 n6 k6)]))):=aa (by rw [JB];exact aW)
         have jf:Hid (∀q ∈ ps++[jV x (.slice o4 n4 k4) (.slice o5 n5 k5) (.slice o6 n6 k6)],nk w9 (Since w.heap.size w9 v9.ownBlock) q):=aa (fun q hq=>by
          have key:∀q:Pc d,nk u5 (Since w.heap.size u5 (Value.slice oT nl cT).ownBlock) q->nk w9 (Since w.heap.size w9 v9.ownBlock) q:=fun q h=>(h.keep (fw bh.out)).keep (oC aP (by simpa using aN));rcases List.mem_append.1 hq with hq|hq
          ·exact key q (dh.out q hq)
          ·rw [List.mem_singleton.1 hq];exact key _ dJ.out)
         have EG:Hid ((ps++[jV x (.slice o4 n4 k4) (.slice o5 n5 k5) (.slice o6 n6 k6)]).map (·.1)=l++[x]):=aa (by rw [List.map_append,HM.out];rfl);have hsl:=fU aW;have vQ:Hid ((l++[x]).length=nl+1):=aa (by rw [List.length_append,hnl];rfl);have vE:=bP.out.cell 4 _ rfl;have hc1:=bP.out.cell 1 _ rfl;have vF:=HS.out.cell 4 _ rfl;have vG:=HS.out.cell 1 _ rfl;clear aW aP aN aS aU cJ HB2 az dh dJ bh;obtain ⟨oN,cN,rfl⟩:=hsl;go_wp2;go_roundw
         case rel=>exact ⟨aa (.inl ⟨l++[x],_,m',n2,f',⟨oN,cN,by rw [vQ.out]⟩,jP,by omega,by rw [vQ.out];omega,HZ.out,bP.out,EG.out,by rw [vQ.out];exact dF.out,jf.out⟩),cG⟩
         case measure=>rw [vE,hc1,vF,vG];simp [RowKit.intOf];omega
       ·have b1:(z5 == 0)=false:=by rw [beq_eq_false_iff_ne];exact mJ
        have xh:=aa mJ
        have HZ:Hid (R=.error z5):=aa (by
         rw [HP.out];cases hr:iC sub s en dep op j nq with
         | error z =>
          rw [EC HX.out BS.out hr];rw [hr] at lG;rw [lG.out.1];rfl
         | ok v =>
          obtain ⟨x,m',n2⟩:=v;rw [hr] at lG;exact absurd lG.out.2.2.2 mJ)
        clear mJ lG HX BS HP pz ED;have aU:=aa ((fA HO.out hpw kL.out).alloc (.cells #[.int .i64 op,.int .i64 a,.int .i64 b,.int .i64 m,.slice o4 n4 k4,.slice o5 n5 k5,.slice o6 n6 k6] 73));have cJ:Hid (∀j u,(iS (jV (d:=d) { op:=op,a:=a,b:=b,n:=m,labels:=[],body:=none_ d,els:=none_ d } (.slice o4 n4 k4) (.slice o5 n5 k5) (.slice o6 n6 k6)))[j]?=some u->(u5.alloc (.cells #[.int .i64 op,.int .i64 a,.int .i64 b,.int .i64 m,.slice o4 n4 k4,.slice o5 n5 k5,.slice o6 n6 k6] 73)).cell? ((⟨u5.heap.size,0,none⟩:Addr).add j)=some u):=aa (ym u5 (d:=d) { op:=op,a:=a,b:=b,n:=m,labels:=[],body:=none_ d,els:=none_ d } (.slice o4 n4 k4) (.slice o5 n5 k5) (.slice o6 n6 k6));have HB2:=aa ((HB.out.trans kL.out).trans (But.of p (aD u5 (.cells #[.int .i64 op,.int .i64 a,.int .i64 b,.int .i64 m,.slice o4 n4 k4,.slice o5 n5 k5,.slice o6 n6 k6] 73))));have az:=aa (cL.out.ds.on (aD u5 (.cells #[.int .i64 op,.int .i64 a,.int .i64 b,.int .i64 m,.slice o4 n4 k4,.slice o5 n5 k5,.slice o6 n6 k6] 73)));have bh:=aa (aD u5 (.cells #[.int .i64 op,.int .i64 a,.int .i64 b,.int .i64 m,.slice o4 n4 k4,.slice o5 n5 k5,.slice o6 n6 k6] 73));have bY:Hid (w.heap.size<=u5.heap.size):=aa (Nat.le_trans HB.out.size kL.out.size);have x0:=cL.out.x.cell 0 _ rfl;have x1:=cL.out.x.cell 1 _ rfl;have x2:=cL.out.x.cell 2 _ rfl;have x3:=cL.out.x.cell 3 _ rfl;have x4:=cL.out.x.cell 4 _ rfl;have x5:=cL.out.x.cell 5 _ rfl;have x6:=cL.out.x.cell 6 _ rfl;obtain ⟨i1,hi1,hy0,hy1,hy2⟩:=info_parts yo;go_wp2_with (first|(at_builtin;refine iN rfl _ _ 66 rfl w.heap.size 73 i1 _ 7 104 Tryz.underlying66 hi1 hy0 hy1 hy2 rfl (by decide) _ _ _ rfl aU.out (some ⟨u5.heap.size,0,none⟩) 1 1 (iS (jV (d:=d) { op:=op,a:=a,b:=b,n:=m,labels:=[],body:=none_ d,els:=none_ d } (.slice o4 n4 k4) (.slice o5 n5 k5) (.slice o6 n6 k6))) rfl ?c6 ?c0 ?c1 ?c2 ?c3 ?c4 ?c5 ?_))
        case c6=>intro h;cases h
        case c0=>rfl
        case c1=>exact fun ad h=>by injection h with h;subst h;exact cJ.out
        case c2=>exact yp _ rfl rfl rfl
        case c3=>unfold maxLen;omega
        case c4=>omega
        case c5=>have:=bY.out;simp;omega
        intro v9 w9 aW aP aN;have aS:∀q',(Value.slice oT nl cT).ownBlock=some q'->w.heap.size<=q':=fun q' hq'=>(aU.out.lt q' hq').1;have bP:=aa (az.out.grown aP (fun q' hq'=>Nat.lt_of_lt_of_le hpw (aS q' hq')));have cG:=aa (But.grown (p:=p) HB2.out aP aS);have hsl:=fU aW;have vE:=bP.out.cell 4 _ rfl;have vF:=HS.out.cell 4 _ rfl;have vG:=HS.out.cell 1 _ rfl;clear aW aP aN aS aU cJ HB2 az bh;obtain ⟨oN,cN,rfl⟩:=hsl;go_wp2;go_roundw
        case rel=>exact ⟨aa (.inr ⟨_,_,_,xh.out,HZ.out,⟨_,_,_,rfl⟩,bP.out⟩),cG⟩
        case measure=>rw [vE,vF,vG];simp [RowKit.intOf,xh.out];omega
  ·have c4:=hS.cell 4 _ rfl;have az:=aa hS;have pG:=aa jm;have HY:=aa hy;have b1:(y == 0)=false:=by rw [beq_eq_false_iff_ne];exact hy
   clear hS jm lS hy;go_wp2;go_ret2;rw [pG.out];exact ⟨none_ (d+1),0,_,_,_,i',n',y,rfl,az.out,HB.out,⟨rfl,HY.out⟩,fun h=>absurd h HY.out,fun _=>rfl⟩
theorem JS:∀d,wJ d
 | 0=>PY
 | d+1=>Td d (JS d)
namespace ai
end ai
end Go.Proofs.YtegboefdolfdgaaGreatDoor
namespace Go.Proofs.YtegboefdolfdgaaGreatDoor
open Go.RowKit Go.Shelf aA Go.Lib ai
set_option linter.unusedVariables false
set_option maxRecDepth 100000
set_option maxHeartbeats 4000000
shelf_lay Lays.n212 Nm 212 at Tryz as Tryz.Ot
theorem Ou (c:Nat) (hc:c<=256) (w:World):Calls Tryz.prog 104 #[.int .u64 1,.int .u64 c] w fun e w'=>e=.returned (.tuple #[.int .u64 0,.int .u64 c])/\w'=w:=by
 have h:=Any.bits_Mul Tryz.Ot 1 c (by omega) (by omega) w;rw [Nat.one_mul,Nat.div_eq_of_lt (by omega),Nat.mod_eq_of_lt (by omega)] at h;exact h
namespace ai
theorem FZ (g:Nat) (t:TypeId):∀(vs:List Value) (o:Nat) (w:World) (cur:Array Value),w.heap[g]?=some (.cells cur t (0,0))->o+vs.length<=cur.size ->
  ∃cur',(w.setCells g o vs).heap[g]?=some (.cells cur' t (0,0))/\cur'.toList=cur.toList.take o++vs++cur.toList.drop (o+vs.length)
 | [],o,w,cur,h,_=>⟨cur,h,by simp⟩
 | v :: r,o,w,cur,h,hl=>by
  simp only [List.length_cons] at hl;obtain ⟨cur',h1,h2⟩:=FZ g t r (o+1) (w.setCell ⟨g,o,none⟩ v) (cur.setIfInBounds o v) (heap_setCell_same w g o cur t v h) (by rw [Array.size_setIfInBounds];omega);refine ⟨cur',h1,?_⟩;rw [h2,Array.toList_setIfInBounds];have hs:o<cur.toList.length:=by rw [Array.length_toList];omega
  have e1:(cur.toList.set o v).take (o+1)=cur.toList.take o++[v]:=by
   rw [List.take_add_one,List.take_set_of_le (Nat.le_refl o),List.getElem?_set_self hs];rfl
  have e2:(cur.toList.set o v).drop (o+1+r.length)=cur.toList.drop (o+1+r.length):=List.drop_set_of_lt (by omega);rw [e1,e2];simp only [List.length_cons,List.append_assoc,List.cons_append,List.nil_append];rw [show o+1+r.length=o+(r.length+1) by omega]
theorem F3 (g:Nat):∀(vs:List Value) (o:Nat) (w0 w:World),Below w0.heap.size w0 w->w0.heap.size<=g->Below w0.heap.size w0 (w.setCells g o vs)
 | [],_,_,_,h,_=>h
 | v :: r,o,w0,w,h,hg=>F3 g r (o+1) w0 _ (h.setCell (p:=⟨g,o,none⟩) hg v) hg
structure Rp (w0:World) (c n:Nat) (v:Int) (w:World):Prop where
 below:Below w0.heap.size w0 w
 le:n<=c
 blk:∃cur,w.heap[w0.heap.size]?=some (.cells cur 3 (0,0))/\cur.toList=List.replicate n (Value.int .i64 v)++List.replicate (c-n) (Value.int .i64 0)
theorem Rp.cell {w0 w:World} {c n:Nat} {v:Int} (h:Rp w0 c n v w) {j:Nat} (hj:j<n):w.cell? ⟨w0.heap.size,j,none⟩=some (.int .i64 v):=by
 obtain ⟨cur,h1,h2⟩:=h.blk;unfold World.cell?;rw [h1];show cur[j]?=_;rw [<- Array.getElem?_toList,h2,List.getElem?_append_left (by simpa using hj),List.getElem?_replicate,if_pos hj]
theorem Rp.isSome {w0 w:World} {c n:Nat} {v:Int} (h:Rp w0 c n v w) {j:Nat} (hj:j<c):(w.cell? ⟨w0.heap.size,j,none⟩).isSome=true:=by
 obtain ⟨cur,h1,h2⟩:=h.blk;unfold World.cell?;rw [h1];show (cur[j]?).isSome=true;have hl:cur.toList.length=c:=by rw [h2];simp;have:=h.le;omega
 rw [<- Array.getElem?_toList,List.getElem?_eq_getElem (by omega)];rfl
theorem Rp.ag {w0 w:World} {c n:Nat} {v:Int} (h:Rp w0 c n v w) (j:Nat):w.frozen? ⟨w0.heap.size,j,none⟩=false:=by
 obtain ⟨cur,h1,h2⟩:=h.blk;unfold World.frozen?;rw [h1];simp
theorem Rp.set {w0 w:World} {c n:Nat} {v:Int} (h:Rp w0 c n v w) (m:Nat) (hm:n+m<=c):Rp w0 c (n+m) v (w.setCells w0.heap.size n (List.replicate m (.int .i64 v))):=by
 obtain ⟨cur,h1,h2⟩:=h.blk;have hl:cur.toList.length=c:=by rw [h2];simp;have:=h.le;omega
 obtain ⟨cur',g1,g2⟩:=FZ w0.heap.size 3 (List.replicate m (.int .i64 v)) n w cur h1 (by rw [<- Array.length_toList,List.length_replicate];omega);refine ⟨F3 _ _ _ _ _ h.below (Nat.le_refl _),hm,cur',g1,?_⟩;rw [g2,h2,List.take_append_of_le_length (by simp),List.take_replicate,Nat.min_self,List.drop_append,List.length_replicate,List.length_replicate,List.drop_replicate,List.drop_replicate,show n-(n+m)=0 by omega,show c-n-(n+m-n)=c-(n+m) by omega,List.replicate_zero,List.nil_append,List.replicate_append_replicate]
theorem Rp.drew {w0 w:World} {c n:Nat} {v:Int} (h:Rp w0 c n v w):Rp w0 c n v w.drew:=⟨⟨h.below.os,h.below.tape,h.below.output,h.below.size,h.below.block⟩,h.le,h.blk⟩
end ai
theorem Ov (v : Int) (c b k : Nat) (w : World) (hc : c ≤ 256) (hb : w.cell? ⟨b, 0, none⟩ = some (.int .i64 v)) :
    Calls Tryz.prog 91 #[.slice (some ⟨b, 0, none⟩) 1 k, .int .i64 c] w fun e w' => e = .returned (.slice (some ⟨w.heap.size, 0, none⟩) c c) ∧ Rp w c c v w' := by
  have HM := aa (Ou c hc w);obtain ⟨i0, hi, hz0, hz1, hz2⟩ := info_parts qV;have hsz : (Tryz.prog.info? 3).map (·.size) = some 1 := by rw [hi]; simp [hz1]
  have hmk := run_makeSlice (P := Tryz.prog) w 29 3 i0 _ Tryz.underlying29 hi hz0 .i64 .i64 (c : Int) (c : Int) (by omega) (by omega) (by rw [hz1]; omega) (by rw [hz2]; omega) (by omega);rw [Int.toNat_natCast, hz1, Nat.mul_one] at hmk;clear hi hz0 hz1 hz2;go_enter Tryz.func91, Tryz.ntmps91;go_wp2_with fail;refine HM.out.mono ?_;rintro e w' ⟨rfl, hw⟩;subst hw;clear HM;obtain ⟨W1, hW1⟩ : ∃ W1, W1 = w'.alloc (.cells (madeCells (Value.int IntKind.i64 0).cells c) 3) := ⟨_, rfl⟩;rw [← hW1] at hmk
  have h0 : Rp w' c 0 v W1 := by
    rw [hW1];refine ⟨aD w' _, Nat.zero_le _, _, fB _ _ rfl, ?_⟩;rw [show (Value.int IntKind.i64 0).cells = #[Value.int .i64 0] from rfl, toList_madeCells_one];rfl
  have hbw : b < w'.heap.size := block_lt_of_cell hb;have hb1 : W1.cell? ⟨b, 0, none⟩ = some (.int .i64 v) := aF h0.below hb;obtain ⟨m, hm⟩ : ∃ m, m = Nat.min 1 c := ⟨_, rfl⟩;have Ow : m ≤ c := by rw [hm]; exact Nat.min_le_right _ _
  have hm0 : m = 0 → c = 0 := by rw [hm]; simp only [Nat.min_def]; split <;> omega
  have hcp : ∀ ty, (Builtin.copy_ #[29, 29] ty #[.slice (some ⟨w'.heap.size, 0, none⟩) c c, .slice (some ⟨b, 0, none⟩) 1 k]).run Tryz.prog W1 = .ok (goInt m) (W1.setCells w'.heap.size 0 (List.replicate m (.int .i64 v))) := fun ty => by
    have := run_copy_cells (P := Tryz.prog) W1 29 29 ty 3 w'.heap.size 0 c c ⟨b, 0, none⟩ 1 k (List.replicate m (.int .i64 v)) Tryz.underlying29 hsz (by rw [List.length_replicate, hm])
      (fun j u hj => by
        rw [List.getElem?_replicate] at hj;split at hj
        · rename_i h
          have : j = 0 := by have : m ≤ 1 := by rw [hm]; exact Nat.min_le_left _ _
                             omega
          subst this;cases hj;exact hb1
        · cases hj)
      (fun j hj => h0.isSome (by rw [List.length_replicate] at hj; omega)) (fun j hj => h0.ag _) (fun u hu => by rw [List.eq_of_mem_replicate hu]; rfl)
    rw [List.length_replicate] at this;exact this
  have h1 : Rp w' c m v (W1.setCells w'.heap.size 0 (List.replicate m (.int .i64 v))) := by
    have := h0.set m (by omega);rwa [Nat.zero_add] at this
  obtain ⟨W2, aX⟩ : ∃ W2, W2 = W1.setCells w'.heap.size 0 (List.replicate m (.int .i64 v)) := ⟨_, rfl⟩;rw [← aX] at hcp h1;have H1 := aa h1;have Ox := aa hcp;clear hW1 aX h0 hb1 hm hbw hcp h1;generalize hB : w'.heap.size = B at *;have hcp := Ox.out 3;go_wp2_with fail;clear hcp;go_loopw [8] (fun u wr => ∃ q : Nat, u = .int .i64 q ∧ q ≤ c ∧ (q = 0 → c = 0) ∧ Hid (Rp w' c q v wr)) (fun u _ => c - (RowKit.intOf u).toNat)
  case atStart => exact ⟨m, rfl, Ow, hm0, H1⟩
  case round =>
    obtain ⟨q, rfl, hq, hq0, HR⟩ := hrel;by_cases hgo : q < c
    · have hne : ¬ c = q := by omega
      have hne2 : ¬ q = c := by omega
      obtain ⟨r, hr⟩ : ∃ r, r = Nat.min q (c - q) := ⟨_, rfl⟩;have hr1 : q + r ≤ c := by rw [hr]; simp only [Nat.min_def]; split <;> omega
      have hr2 : 0 < r := by rw [hr]; simp only [Nat.min_def]; split <;> omega
      have hr3 : r ≤ q := by rw [hr]; exact Nat.min_le_left _ _
      have hw1 : IntKind.i64.wrap ((q : Int) + (r : Int)) = (q : Int) + (r : Int) := by rw [IntKind.wrap_i64]; omega
      have hcp : ∀ ty dc sc, (Builtin.copy_ #[29, 29] ty #[.slice (some ⟨B, q, none⟩) (c - q) dc, .slice (some ⟨B, 0, none⟩) q sc]).run Tryz.prog wr.drew = .ok (goInt r) (wr.drew.setCells B q (List.replicate r (.int .i64 v))) := fun ty dc sc => by
        have := run_copy_cells (P := Tryz.prog) wr.drew 29 29 ty 3 B q (c - q) dc ⟨B, 0, none⟩ q sc (List.replicate r (.int .i64 v)) Tryz.underlying29 hsz (by rw [List.length_replicate, hr])
          (fun j u hj => by
            rw [List.getElem?_replicate] at hj;split at hj
            · rename_i h
              cases hj;rw [ry, Nat.zero_add, ← hB];exact HR.out.drew.cell (by omega)
            · cases hj)
          (fun j hj => by rw [← hB]; exact HR.out.drew.isSome (by rw [List.length_replicate] at hj; omega)) (fun j hj => by rw [← hB]; exact HR.out.drew.ag _) (fun u hu => by rw [List.eq_of_mem_replicate hu]; rfl)
        rw [List.length_replicate] at this;exact this
      have HR2 : Hid (Rp w' c (q + r) v (wr.drew.setCells B q (List.replicate r (.int .i64 v)))) := aa (by rw [← hB]; exact HR.out.drew.set r hr1);obtain ⟨W3, hW3⟩ : ∃ W3, W3 = wr.drew.setCells B q (List.replicate r (.int .i64 v)) := ⟨_, rfl⟩;rw [← hW3] at hcp HR2;have Oy := aa hcp;clear hcp hW3 hr HR;go_wp2_with fail;have Oz := Oy.out 3 (c - q) c;go_region_law fail;clear Oz;go_wp2;go_simp;go_roundw
      case rel => first | exact ⟨q + r, by go_num, hr1, by omega, HR2⟩ | ((repeat apply Exists.intro); exact ⟨⟨q + r, by go_num, hr1, by omega, HR2⟩, rfl⟩)
      case measure => simp [RowKit.intOf]; omega
    · obtain rfl : q = c := by omega
      go_wp2;go_ret;rw [hB];exact ⟨rfl, HR.out⟩
end Go.Proofs.YtegboefdolfdgaaGreatDoor
