/- Texts that the claim needs. -/
import Derived.Test.YthfapccopngfhaaDoorQDex19
namespace Go.Proofs.YthfapccopngfhaaDoor
open Go.RowKit Rep Dec
set_option linter.unusedVariables false
set_option maxRecDepth 100000 in
set_option maxHeartbeats 32000000 in
theorem ySeqS (d:Nat) (IH:YSeqC d):YSeqC (d+1):=by
 intro w0 p s en i n z w dep oth h hn hd hdep
 by_cases hz:z=0
 case neg=>rw [stkE hz];exact yStk w0 p s en i n z w dep oth (d+1) h hz
 subst hz
 rw [stk0]
 replace hn:=hn rfl
 have hpw:=h.lt
 have hlen:=h.len
 obtain ⟨sub,hsub⟩:∃sub,sub=rseq s en d (dep+1):=⟨_,rfl⟩
 have hfw:Fwd en sub:=by rw [hsub];exact rseq_fwd hlen d (dep+1)
 have hnb:Nb sub:=by rw [hsub];exact rseq_nb s en d (dep+1)
 have e:rseq s en (d+1) dep i n=rloop sub s en dep (en-i+1) i n:=by rw [hsub];rfl
 rw [e]
 obtain ⟨R,hR⟩:∃R:R2 (IL (d+1) × Int),R=yq (α:=IL (d+1)) oth (rloop sub s en dep (en-i+1) i n):=⟨_,rfl⟩
 have HR:=hideR hR
 have H:=hideR h
 have HI:Hid (∀(j n:Nat) (u0 u:World) (q:Nat) (op:Int),YI w0 u0 p s en j (n+1) 0 q op 0 0 0 (.slice none 0 0) (.slice none 0 0) (.slice none 0 0) u->rask dep op n=none->Calls Tryd.prog 21 #[.pointer (some ⟨p,0,none⟩),.pointer (some ⟨q,0,none⟩),.int .i64 dep] u (OSays w0 u0 p s en q d op (rins sub s en dep op j n))):=hideR (fun j n u0 u q op hu hk=>by
  rw [hsub];exact yOper IH w0 u0 p s en j n q op u hu dep (by omega) hk)
 have HFW:=hideR hfw
 have HNB:=hideR hnb
 show Calls _ _ _ _ (YSeq w0 p s en (d+1) w (yq (α:=IL (d+1)) oth (rloop sub s en dep (en-i+1) i n)))
 rw [<- hR]
 clear e hR h hsub hfw hnb IH
 go_enter Tryd.func12,Tryd.ntmps12
 go_wp2_with fail
 go_loopw [8] (fun t wr=>Hid (YL sub w0 p s en dep oth w R t wr)/\Hid (But p w wr)) (fun _ wr=>if intOf ((wr.cell? ⟨p,4,none⟩).getD (.int .i64 0))=0 then en+1-(intOf ((wr.cell? ⟨p,1,none⟩).getD (.int .i64 0))).toNat else 0)
 case atStart=>exact ⟨hideR (.inl ⟨[],[],i,n,en-i+1,⟨none,0,rfl⟩,hn,Nat.le_refl _,by simp,by rw [HR.out,prq_nil];rfl,H.out,rfl,World.ownsRow_nil _ _ _ _,fun q hq=>by cases hq⟩),hideR (But.refl p w)⟩
 case round =>
  obtain ⟨HLL,HB⟩:=hrel
  rcases HLL.out with ⟨l,ps,iq,nq,f,⟨oT,cT,rfl⟩,hnq,hf,hll,hP,hS,hM,hO,hK⟩|⟨y,i',n',hy,hRy,⟨oT,kT,cT,rfl⟩,hS⟩
  ·obtain ⟨f',rfl⟩:∃f',f=f'+1:=⟨f-1,by omega⟩
   have HP:=hideR hP
   have HS:=hideR hS
   have HM:=hideR hM
   have HO:=hideR hO
   have HK:=hideR hK
   have hbig:=hS.big
   have hle:=hS.le
   have c4:=hS.cell 4 _ rfl
   have hN:=yByte w0 p s en iq nq 0 wr HS.out
   rw [stk0] at hN
   clear hP hS hM hO hK HLL H HR hn
   obtain ⟨N1,hN1⟩:∃N1,N1=nq+1:=⟨_,rfl⟩
   cases hx:nx s en iq with
   | error y =>
    rw [hx] at hN
    have HN:=hideR hN
    have HZ:Hid (R=.error y):=hideR (by rw [HP.out,prq_err hx];rfl)
    clear hN hx HP HO HK HM
    generalize l.length=nl at *
    go_wp2_with fail
    refine HN.out.mono ?_
    rintro e w1 ⟨hy,v,i2,n2,rfl,hv,h1,h2⟩
    have hv:v=.int .i64 0:=hv
    subst hv
    have c4:=h1.cell 4 _ rfl
    have b1:(y != 0)=true:=by simp [hy]
    have HF:=hideR (⟨hy,h1,HB.out.trans h2⟩:_/\_/\_)
    clear h1 h2 HN hy
    go_wp2
    go_ret2
    rw [HZ.out]
    exact ⟨none_ (d+1),0,_,_,_,i2,n2,y,rfl,HF.out.2.1,HF.out.2.2,⟨rfl,HF.out.1⟩,fun h=>absurd h HF.out.1,fun _=>rfl⟩
   | ok v =>
    obtain ⟨op,j⟩:=v
    have hnx:=nx_ok hx
    rw [hx] at hN
    have HN:=hideR hN
    clear hN
    by_cases hend:op=11\/(op=5/\oth=true)
    ·have HZ:Hid (R=.ok ((l,op),j,nq)):=hideR (by
      rw [HP.out,prq_end hx (by rcases hend with h|h;exact .inl h;exact .inr h.1)]
      show (if oth=true\/op=11 then (.ok ((l,op),j,nq):R2 (List (Ins (IL d)) × Int)) else .error 50)=_
      rw [if_pos (by rcases hend with h|h;exact .inr h;exact .inl h.2)]
      rfl)
     have HV:Hid (AtS wr (Since w.heap.size wr none) (d+1) (.slice oT l.length cT) l):=hideR (at_of_row l ps HM.out (by omega) (by rw [show ps.length=l.length by rw [<- HM.out,List.length_map]];exact HO.out) HK.out)
     have hq:(op == 11)=true\/((op == 11)=false/\(op == 5)=true/\oth=true):=by
      rcases hend with rfl|⟨rfl,h⟩
      ·exact .inl rfl
      ·exact .inr ⟨rfl,rfl,h⟩
     clear hend hx HP HO HK HM hnx hf
     generalize l.length=nl at *
     rcases hq with q1|⟨q1,q2,rfl⟩
     all_goals
      go_wp2_with fail
      refine HN.out.mono ?_
      rintro e w1 ⟨v,rfl,hv,h1,h2⟩
      have hv:v=.int .i64 op:=hv
      subst hv
      have c4:=h1.cell 4 _ rfl
      have HF:=hideR (⟨h1,HB.out.trans h2⟩:_/\_)
      have HV2:=hideR (AtS.keep (since_but hpw h2) (d+1) _ _ HV.out)
      clear h1 h2 HN HV
      go_wp2
      go_ret2
      rw [HZ.out]
      exact ⟨l,op,_,_,_,j,nq,0,rfl,HF.out.1,HF.out.2,⟨rfl,rfl,rfl,rfl⟩,fun _=>HV2.out,fun h=>absurd rfl h⟩
    ·have hne:op≠11:=fun h=>hend (.inl h)
     have q1:(op == 11)=false:=by rw [beq_eq_false_iff_ne];exact hne
     obtain ⟨F,hFO⟩:∃F,F=form op:=⟨_,rfl⟩
     have HF:=fun u=>hideR (refForm op u)
     rw [<- hFO] at HF
     cases hk:rask dep op nq with
     | some z1 =>
      have HZ:Hid (R=.error z1):=hideR (by
       rw [HP.out]
       by_cases h5:op=5
       ·rw [prq_end hx (.inr h5)]
        show (if oth=true\/op=11 then (.ok ((l,op),j,nq):R2 (List (Ins (IL d)) × Int)) else .error 50)=_
        rw [if_neg (fun h=>h.elim (fun h=>hend (.inr ⟨h5,h⟩)) hne)]
        rw [h5,rask_5] at hk
        injection hk with hk
        rw [hk]
        try rfl
       ·rw [prq_bad (z:=z1) hx (by omega) (by unfold rins;rw [hk])];rfl)
      have hoo:oth=false\/(oth=true/\(op == 5)=false):=by
       cases oth with
       | false=>exact .inl rfl
       | true=>exact .inr ⟨rfl,by rw [beq_eq_false_iff_ne];exact fun h=>hend (.inr ⟨h,rfl⟩)⟩
      clear hend hx HP HK HM hnx hf HI HFW HNB hne
      generalize hnl:l.length=nl at *
      rcases hoo with rfl|⟨rfl,q2⟩
      all_goals
       have hsw:(F == 0)=true/\z1=50\/(F == 0)=false/\((F == 10)=true/\z1=51\/(F == 10)=false/\(((nq:Int) == 65536)=true/\z1=3\/((nq:Int) == 65536)=false/\decide ((dep:Int) > 64)=true/\z1=4)):=by
        rw [hFO]
        exact rask_sw hnq hk
       have hz1:z1≠0:=by rcases hsw with ⟨_,h⟩|⟨_,⟨_,h⟩|⟨_,⟨_,h⟩|⟨_,_,h⟩⟩⟩<;>omega
       have HZ1:=hideR hz1
       have b1:(z1 == 0)=false:=by rw [beq_eq_false_iff_ne];exact hz1
       have HW:Hid ((nq:Int)+1=(N1:Int)):=hideR (by omega)
       clear hz1 hk hFO
       rcases hsw with ⟨g1,rfl⟩|⟨g1,⟨g2,rfl⟩|⟨g2,⟨g3,rfl⟩|⟨g3,g4,rfl⟩⟩⟩
       all_goals
        go_wp2_with fail
        refine HN.out.mono ?_
        rintro e w1 ⟨v,rfl,hv,h1,h2⟩
        have hv:v=.int .i64 op:=hv
        subst hv
        have H1:=hideR h1
        have H2:=hideR h2
        have c4:=h1.cell 4 _ rfl
        have c3:=h1.cell 3 _ rfl
        clear h1 h2 HN
        go_wp2_with fail
        refine (HF _).out.mono ?_
        rintro e w1 ⟨rfl,rfl⟩
        go_wp2_with fail
        refine (yBad w0 p s en j nq 0 _ H1.out _).mono ?_
        rintro e w2 ⟨rfl,h3,h4⟩
        rw [if_pos rfl] at h3
        have H3:=hideR h3
        have HB3:=hideR (H2.out.trans h4)
        clear c3 c4 h3 h4 H1 H2
        have c3:=H3.out.cell 3 _ rfl
        have f3:=H3.out.frz 3
        have c4:=H3.out.cell 4 _ rfl
        go_upto_region 17 with fail
        rw [HW.out]
        obtain ⟨u3,hu3⟩:∃u3,u3=w2.setCell ⟨p,3,none⟩ (.int .i64 N1):=⟨_,rfl⟩
        rw [<- hu3]
        have HD3:=hideR (H3.out.num N1)
        have HB4:=hideR (HB3.out.trans (But.set p 3 w2 (.int .i64 N1)))
        rw [<- hu3] at HD3 HB4
        have hsz:w2.heap.size=u3.heap.size:=by rw [hu3];simp
        clear hu3 c3 f3 c4 H3 HB3
        have HYI:=hideR (yi_new (w:=w) op HD3.out)
        have HBU:=hideR (HB4.out.trans (But.of p (new_on' u3 (.cells #[.int .i64 op,.int .i64 0,.int .i64 0,.int .i64 0,.slice none 0 0,.slice none 0 0,.slice none 0 0] 56))))
        obtain ⟨u4,hu4⟩:∃u4,u4=u3.alloc (.cells #[.int .i64 op,.int .i64 0,.int .i64 0,.int .i64 0,.slice none 0 0,.slice none 0 0,.slice none 0 0] 56):=⟨_,rfl⟩
        rw [<- hu4] at HYI HBU ⊢
        try rw [hsz]
        clear hsz hu4 HD3 HB4
        have c4:=HYI.out.ds.cell 4 _ rfl
        have HO2:=hideR ((own_but HO.out hpw HBU.out).alloc (.cells #[.int .i64 op,.int .i64 0,.int .i64 0,.int .i64 0,.slice none 0 0,.slice none 0 0,.slice none 0 0] 56))
        have HN2:Hid (∀j u,(pc7 (mkPc (d:=d) { op:=op,a:=0,b:=0,n:=0,labels:=[],body:=none_ d,els:=none_ d } (.slice none 0 0) (.slice none 0 0) (.slice none 0 0)))[j]?=some u->(u4.alloc (.cells #[.int .i64 op,.int .i64 0,.int .i64 0,.int .i64 0,.slice none 0 0,.slice none 0 0,.slice none 0 0] 56)).cell? ((⟨u4.heap.size,0,none⟩:Addr).add j)=some u):=hideR (pc_cells u4 (d:=d) { op:=op,a:=0,b:=0,n:=0,labels:=[],body:=none_ d,els:=none_ d } (.slice none 0 0) (.slice none 0 0) (.slice none 0 0))
        have HB2:=hideR ((HB.out.trans HBU.out).trans (But.of p (new_on' u4 (.cells #[.int .i64 op,.int .i64 0,.int .i64 0,.int .i64 0,.slice none 0 0,.slice none 0 0,.slice none 0 0] 56))))
        have HS2:=hideR (HYI.out.ds.on (new_on' u4 (.cells #[.int .i64 op,.int .i64 0,.int .i64 0,.int .i64 0,.slice none 0 0,.slice none 0 0,.slice none 0 0] 56)))
        have HBL:=hideR (new_on' u4 (.cells #[.int .i64 op,.int .i64 0,.int .i64 0,.int .i64 0,.slice none 0 0,.slice none 0 0,.slice none 0 0] 56))
        have HSZ:Hid (w.heap.size<=u4.heap.size):=hideR (Nat.le_trans HB.out.size HBU.out.size)
        have x0:=HYI.out.x.cell 0 _ rfl
        have x1:=HYI.out.x.cell 1 _ rfl
        have x2:=HYI.out.x.cell 2 _ rfl
        have x3:=HYI.out.x.cell 3 _ rfl
        have x4:=HYI.out.x.cell 4 _ rfl
        have x5:=HYI.out.x.cell 5 _ rfl
        have x6:=HYI.out.x.cell 6 _ rfl
        obtain ⟨i1,hi1,hy0,hy1,hy2⟩:=info_parts insInfo
        go_wp2_with (first|(at_builtin;refine wpList_appS rfl _ _ 23 rfl w.heap.size 56 i1 _ 7 104 Tryd.underlying23 hi1 hy0 hy1 hy2 rfl (by decide) _ _ _ rfl HO2.out (some ⟨u4.heap.size,0,none⟩) 1 1 (pc7 (mkPc (d:=d) { op:=op,a:=0,b:=0,n:=0,labels:=[],body:=none_ d,els:=none_ d } (.slice none 0 0) (.slice none 0 0) (.slice none 0 0))) rfl ?c6 ?c0 ?c1 ?c2 ?c3 ?c4 ?c5 ?_))
        case c6=>intro h;cases h
        case c0=>rfl
        case c1=>exact fun ad h=>by injection h with h;subst h;exact HN2.out
        case c2=>exact pc7_one _ rfl rfl rfl
        case c3=>unfold maxLen;omega
        case c4=>omega
        case c5=>have:=HSZ.out;simp;omega
        intro v9 w9 hown9 hg9 hv9
        have ho9:∀q',(Value.slice oT nl cT).ownBlock=some q'->w.heap.size<=q':=fun q' hq'=>(HO2.out.lt q' hq').1
        have HS9:=hideR (HS2.out.grown hg9 (fun q' hq'=>Nat.lt_of_lt_of_le hpw (ho9 q' hq')))
        have HB9:=hideR (But.grown (p:=p) HB2.out hg9 ho9)
        have hsl:=own_slice hown9
        have hc4:=HS9.out.cell 4 _ rfl
        have hcr4:=HS.out.cell 4 _ rfl
        have hcr1:=HS.out.cell 1 _ rfl
        clear hown9 hg9 hv9 ho9 HO2 HN2 HB2 HS2 HBL
        obtain ⟨oN,cN,rfl⟩:=hsl
        go_wp2
        go_roundw
        case rel=>exact ⟨hideR (.inr ⟨_,_,_,HZ1.out,HZ.out,⟨_,_,_,rfl⟩,HS9.out⟩),HB9⟩
        case measure=>rw [hc4,hcr4,hcr1];simp [intOf];omega
     | none =>
      have h5:op≠5:=fun h5=>by rw [h5,rask_5] at hk;cases hk
      have ho:¬ (op=11\/op=5):=by omega
      obtain ⟨g1,g2,g3,g4⟩:=rask_no hk
      rw [<- hFO] at g1 g2
      have q2:(op == 5)=false:=by rw [beq_eq_false_iff_ne];exact h5
      have HW:Hid ((nq:Int)+1=(N1:Int)):=hideR (by omega)
      have HKK:=hideR hk
      have hoo:oth=false\/oth=true:=by cases oth;exact .inl rfl;exact .inr rfl
      have HX:=hideR hx
      have HHO:=hideR ho
      have HN1:=hideR hN1
      have HEN:=hideR hlen
      have HNX:=hideR hnx
      clear hend hx hk hFO h5 ho hN1 hnx hne
      generalize hnl:l.length=nl at *
      rcases hoo with rfl|rfl
      all_goals
       go_wp2_with fail
       refine HN.out.mono ?_
       rintro e w1 ⟨v,rfl,hv,h1,h2⟩
       have hv:v=.int .i64 op:=hv
       subst hv
       have H1:=hideR h1
       have HB3:=hideR h2
       have c4:=h1.cell 4 _ rfl
       have c3:=h1.cell 3 _ rfl
       have f3:=h1.frz 3
       clear h1 h2 HN
       go_wp2_with fail
       refine (HF _).out.mono ?_
       rintro e w1 ⟨rfl,rfl⟩
       go_upto_region 17 with fail
       rw [HW.out]
       obtain ⟨u3,hu3⟩:∃u3,u3=w1.setCell ⟨p,3,none⟩ (.int .i64 N1):=⟨_,rfl⟩
       rw [<- hu3]
       have HD3:=hideR (H1.out.num N1)
       have HB4:=hideR (HB3.out.trans (But.set p 3 w1 (.int .i64 N1)))
       rw [<- hu3] at HD3 HB4
       have hsz:w1.heap.size=u3.heap.size:=by rw [hu3];simp
       clear hu3 c3 f3 c4 H1 HB3
       have HYJ:=hideR (yi_new (w:=w) op HD3.out)
       have HBJ:=hideR (HB4.out.trans (But.of p (new_on' u3 (.cells #[.int .i64 op,.int .i64 0,.int .i64 0,.int .i64 0,.slice none 0 0,.slice none 0 0,.slice none 0 0] 56))))
       obtain ⟨u4,hu4⟩:∃u4,u4=u3.alloc (.cells #[.int .i64 op,.int .i64 0,.int .i64 0,.int .i64 0,.slice none 0 0,.slice none 0 0,.slice none 0 0] 56):=⟨_,rfl⟩
       rw [<- hu4] at HYJ HBJ ⊢
       try rw [hsz]
       have hC:=HI.out j nq u3 u4 u3.heap.size op (by have:=HYJ.out;rw [HN1.out] at this;exact this) HKK.out
       have HC:=hideR hC
       have c4:=HYJ.out.ds.cell 4 _ rfl
       have HWS:Hid (w.heap.size<=u3.heap.size):=hideR (Nat.le_trans HB.out.size HB4.out.size)
       have HSZ1:Hid (∀q',(Value.slice oT nl cT).ownBlock=some q'->w.heap.size<=q'/\q'<u3.heap.size):=hideR (fun q' hq'=>(own_but HO.out hpw HB4.out).lt q' hq')
       clear hsz hu4 HD3 hC HBJ
       go_wp2_with fail
       refine HC.out.mono ?_
       rintro e u5 ⟨rfl,a,b,m,o4,n4,k4,o5,n5,k5,o6,n6,k6,i5,n5',z5,hyi,hfit⟩
       have HYI:=hideR hyi
       have HBU:=hideR (HB4.out.trans hyi.but)
       have HFI:=hideR hfit
       clear hyi hfit HC c4 HYJ
       have c4:=HYI.out.ds.cell 4 _ rfl
       by_cases hz5:z5=0
       ·subst hz5
        cases hr:rins sub s en dep op j nq with
        | error z=>rw [hr] at HFI;exact absurd rfl HFI.out.2
        | ok v =>
         obtain ⟨x,m',n2⟩:=v
         rw [hr] at HFI
         obtain ⟨⟨rfl,rfl,rfl,rfl,hI4,hA5,hA6⟩,rfl,rfl,_⟩:=HFI.out
         have hro:=rins_ok HEN.out HFW.out (by have:=HNX.out;omega) hr
         have hn2:n2<=65536:=rins_nb HNB.out _ _ _ _ _ hnq hr
         have hmm:iq<m'/\m'<=en:=by have:=HNX.out;omega
         have HZ:∀oth,R=yq oth (prq l (rloop sub s en dep (f'+1) iq nq))->Hid (R=yq oth (prq (l++[x]) (rloop sub s en dep f' m' n2))):=fun oth h=>hideR (by rw [h];rw [prq_on HX.out HHO.out hr])
         have HZ:=HZ _ HP.out
         have hup:=since_new (B:=w.heap.size) (B2:=u3.heap.size) (u:=u5) (row:=(Value.slice oT nl cT).ownBlock) HWS.out (fun q' hq'=>(HSZ1.out q' hq').2)
         have HNEW:Hid (PcOk u5 (Since w.heap.size u5 (Value.slice oT nl cT).ownBlock) (mkPc x (.slice o4 n4 k4) (.slice o5 n5 k5) (.slice o6 n6 k6))):=hideR ⟨hI4.keep hup,AtS.keep hup _ _ _ hA5,AtS.keep hup _ _ _ hA6⟩
         have HK2:=hideR (fun q hq=>(HK.out q hq).keep (since_butO hpw HBU.out))
         clear hI4 hA5 hA6 hup HFI hr hro HX HHO HP HNX HEN
         have HO2:=hideR ((own_but HO.out hpw HBU.out).alloc (.cells #[.int .i64 x.op,.int .i64 x.a,.int .i64 x.b,.int .i64 x.n,.slice o4 n4 k4,.slice o5 n5 k5,.slice o6 n6 k6] 56))
         have HN2:Hid (∀j u,(pc7 (mkPc x (.slice o4 n4 k4) (.slice o5 n5 k5) (.slice o6 n6 k6)))[j]?=some u->(u5.alloc (.cells #[.int .i64 x.op,.int .i64 x.a,.int .i64 x.b,.int .i64 x.n,.slice o4 n4 k4,.slice o5 n5 k5,.slice o6 n6 k6] 56)).cell? ((⟨u5.heap.size,0,none⟩:Addr).add j)=some u):=hideR (pc_cells u5 x (.slice o4 n4 k4) (.slice o5 n5 k5) (.slice o6 n6 k6))
         have HB2:=hideR ((HB.out.trans HBU.out).trans (But.of p (new_on' u5 (.cells #[.int .i64 x.op,.int .i64 x.a,.int .i64 x.b,.int .i64 x.n,.slice o4 n4 k4,.slice o5 n5 k5,.slice o6 n6 k6] 56))))
         have HS2:=hideR (HYI.out.ds.on (new_on' u5 (.cells #[.int .i64 x.op,.int .i64 x.a,.int .i64 x.b,.int .i64 x.n,.slice o4 n4 k4,.slice o5 n5 k5,.slice o6 n6 k6] 56)))
         have HBL:=hideR (new_on' u5 (.cells #[.int .i64 x.op,.int .i64 x.a,.int .i64 x.b,.int .i64 x.n,.slice o4 n4 k4,.slice o5 n5 k5,.slice o6 n6 k6] 56))
         have HSZ:Hid (w.heap.size<=u5.heap.size):=hideR (Nat.le_trans HB.out.size HBU.out.size)
         have x0:=HYI.out.x.cell 0 _ rfl
         have x1:=HYI.out.x.cell 1 _ rfl
         have x2:=HYI.out.x.cell 2 _ rfl
         have x3:=HYI.out.x.cell 3 _ rfl
         have x4:=HYI.out.x.cell 4 _ rfl
         have x5:=HYI.out.x.cell 5 _ rfl
         have x6:=HYI.out.x.cell 6 _ rfl
         obtain ⟨i1,hi1,hy0,hy1,hy2⟩:=info_parts insInfo
         go_wp2_with (first|(at_builtin;refine wpList_appS rfl _ _ 23 rfl w.heap.size 56 i1 _ 7 104 Tryd.underlying23 hi1 hy0 hy1 hy2 rfl (by decide) _ _ _ rfl HO2.out (some ⟨u5.heap.size,0,none⟩) 1 1 (pc7 (mkPc x (.slice o4 n4 k4) (.slice o5 n5 k5) (.slice o6 n6 k6))) rfl ?c6 ?c0 ?c1 ?c2 ?c3 ?c4 ?c5 ?_))
         case c6=>intro h;cases h
         case c0=>rfl
         case c1=>exact fun ad h=>by injection h with h;subst h;exact HN2.out
         case c2=>exact pc7_one _ rfl rfl rfl
         case c3=>unfold maxLen;omega
         case c4=>omega
         case c5=>have:=HSZ.out;simp;omega
         intro v9 w9 hown9 hg9 hv9
         have ho9:∀q',(Value.slice oT nl cT).ownBlock=some q'->w.heap.size<=q':=fun q' hq'=>(HO2.out.lt q' hq').1
         have HS9:=hideR (HS2.out.grown hg9 (fun q' hq'=>Nat.lt_of_lt_of_le hpw (ho9 q' hq')))
         have HB9:=hideR (But.grown (p:=p) HB2.out hg9 ho9)
         have HO9:Hid (w9.ownsRow w.heap.size 56 7 v9 (nl+1) (flat7 (ps++[mkPc x (.slice o4 n4 k4) (.slice o5 n5 k5) (.slice o6 n6 k6)]))):=hideR (by rw [flat7_snoc];exact hown9)
         have HK9:Hid (∀q ∈ ps++[mkPc x (.slice o4 n4 k4) (.slice o5 n5 k5) (.slice o6 n6 k6)],PcOk w9 (Since w.heap.size w9 v9.ownBlock) q):=hideR (fun q hq=>by
          have key:∀q:Pc d,PcOk u5 (Since w.heap.size u5 (Value.slice oT nl cT).ownBlock) q->PcOk w9 (Since w.heap.size w9 v9.ownBlock) q:=fun q h=>(h.keep (since_below HBL.out)).keep (since_grown hg9 (by simpa using hv9))
          rcases List.mem_append.1 hq with hq|hq
          ·exact key q (HK2.out q hq)
          ·rw [List.mem_singleton.1 hq];exact key _ HNEW.out)
         have HM9:Hid ((ps++[mkPc x (.slice o4 n4 k4) (.slice o5 n5 k5) (.slice o6 n6 k6)]).map (·.1)=l++[x]):=hideR (by rw [List.map_append,HM.out];rfl)
         have hsl:=own_slice hown9
         have HLN:Hid ((l++[x]).length=nl+1):=hideR (by rw [List.length_append,hnl];rfl)
         have hc4:=HS9.out.cell 4 _ rfl
         have hc1:=HS9.out.cell 1 _ rfl
         have hcr4:=HS.out.cell 4 _ rfl
         have hcr1:=HS.out.cell 1 _ rfl
         clear hown9 hg9 hv9 ho9 HO2 HN2 HB2 HS2 HK2 HNEW HBL
         obtain ⟨oN,cN,rfl⟩:=hsl
         go_wp2
         go_roundw
         case rel=>exact ⟨hideR (.inl ⟨l++[x],_,m',n2,f',⟨oN,cN,by rw [HLN.out]⟩,hn2,by omega,by rw [HLN.out];omega,HZ.out,HS9.out,HM9.out,by rw [HLN.out];exact HO9.out,HK9.out⟩),HB9⟩
         case measure=>rw [hc4,hc1,hcr4,hcr1];simp [intOf];omega
       ·have b1:(z5 == 0)=false:=by rw [beq_eq_false_iff_ne];exact hz5
        have HZ5:=hideR hz5
        have HZ:Hid (R=.error z5):=hideR (by
         rw [HP.out]
         cases hr:rins sub s en dep op j nq with
         | error z =>
          rw [prq_bad HX.out HHO.out hr]
          rw [hr] at HFI
          rw [HFI.out.1];rfl
         | ok v =>
          obtain ⟨x,m',n2⟩:=v
          rw [hr] at HFI
          exact absurd HFI.out.2.2.2 hz5)
        clear hz5 HFI HX HHO HP HNX HEN
        have HO2:=hideR ((own_but HO.out hpw HBU.out).alloc (.cells #[.int .i64 op,.int .i64 a,.int .i64 b,.int .i64 m,.slice o4 n4 k4,.slice o5 n5 k5,.slice o6 n6 k6] 56))
        have HN2:Hid (∀j u,(pc7 (mkPc (d:=d) { op:=op,a:=a,b:=b,n:=m,labels:=[],body:=none_ d,els:=none_ d } (.slice o4 n4 k4) (.slice o5 n5 k5) (.slice o6 n6 k6)))[j]?=some u->(u5.alloc (.cells #[.int .i64 op,.int .i64 a,.int .i64 b,.int .i64 m,.slice o4 n4 k4,.slice o5 n5 k5,.slice o6 n6 k6] 56)).cell? ((⟨u5.heap.size,0,none⟩:Addr).add j)=some u):=hideR (pc_cells u5 (d:=d) { op:=op,a:=a,b:=b,n:=m,labels:=[],body:=none_ d,els:=none_ d } (.slice o4 n4 k4) (.slice o5 n5 k5) (.slice o6 n6 k6))
        have HB2:=hideR ((HB.out.trans HBU.out).trans (But.of p (new_on' u5 (.cells #[.int .i64 op,.int .i64 a,.int .i64 b,.int .i64 m,.slice o4 n4 k4,.slice o5 n5 k5,.slice o6 n6 k6] 56))))
        have HS2:=hideR (HYI.out.ds.on (new_on' u5 (.cells #[.int .i64 op,.int .i64 a,.int .i64 b,.int .i64 m,.slice o4 n4 k4,.slice o5 n5 k5,.slice o6 n6 k6] 56)))
        have HBL:=hideR (new_on' u5 (.cells #[.int .i64 op,.int .i64 a,.int .i64 b,.int .i64 m,.slice o4 n4 k4,.slice o5 n5 k5,.slice o6 n6 k6] 56))
        have HSZ:Hid (w.heap.size<=u5.heap.size):=hideR (Nat.le_trans HB.out.size HBU.out.size)
        have x0:=HYI.out.x.cell 0 _ rfl
        have x1:=HYI.out.x.cell 1 _ rfl
        have x2:=HYI.out.x.cell 2 _ rfl
        have x3:=HYI.out.x.cell 3 _ rfl
        have x4:=HYI.out.x.cell 4 _ rfl
        have x5:=HYI.out.x.cell 5 _ rfl
        have x6:=HYI.out.x.cell 6 _ rfl
        obtain ⟨i1,hi1,hy0,hy1,hy2⟩:=info_parts insInfo
        go_wp2_with (first|(at_builtin;refine wpList_appS rfl _ _ 23 rfl w.heap.size 56 i1 _ 7 104 Tryd.underlying23 hi1 hy0 hy1 hy2 rfl (by decide) _ _ _ rfl HO2.out (some ⟨u5.heap.size,0,none⟩) 1 1 (pc7 (mkPc (d:=d) { op:=op,a:=a,b:=b,n:=m,labels:=[],body:=none_ d,els:=none_ d } (.slice o4 n4 k4) (.slice o5 n5 k5) (.slice o6 n6 k6))) rfl ?c6 ?c0 ?c1 ?c2 ?c3 ?c4 ?c5 ?_))
        case c6=>intro h;cases h
        case c0=>rfl
        case c1=>exact fun ad h=>by injection h with h;subst h;exact HN2.out
        case c2=>exact pc7_one _ rfl rfl rfl
        case c3=>unfold maxLen;omega
        case c4=>omega
        case c5=>have:=HSZ.out;simp;omega
        intro v9 w9 hown9 hg9 hv9
        have ho9:∀q',(Value.slice oT nl cT).ownBlock=some q'->w.heap.size<=q':=fun q' hq'=>(HO2.out.lt q' hq').1
        have HS9:=hideR (HS2.out.grown hg9 (fun q' hq'=>Nat.lt_of_lt_of_le hpw (ho9 q' hq')))
        have HB9:=hideR (But.grown (p:=p) HB2.out hg9 ho9)
        have hsl:=own_slice hown9
        have hc4:=HS9.out.cell 4 _ rfl
        have hcr4:=HS.out.cell 4 _ rfl
        have hcr1:=HS.out.cell 1 _ rfl
        clear hown9 hg9 hv9 ho9 HO2 HN2 HB2 HS2 HBL
        obtain ⟨oN,cN,rfl⟩:=hsl
        go_wp2
        go_roundw
        case rel=>exact ⟨hideR (.inr ⟨_,_,_,HZ5.out,HZ.out,⟨_,_,_,rfl⟩,HS9.out⟩),HB9⟩
        case measure=>rw [hc4,hcr4,hcr1];simp [intOf,HZ5.out];omega
  ·have c4:=hS.cell 4 _ rfl
   have HS2:=hideR hS
   have HZ2:=hideR hRy
   have HY:=hideR hy
   have b1:(y == 0)=false:=by rw [beq_eq_false_iff_ne];exact hy
   clear hS hRy HLL hy
   go_wp2
   go_ret2
   rw [HZ2.out]
   exact ⟨none_ (d+1),0,_,_,_,i',n',y,rfl,HS2.out,HB.out,⟨rfl,HY.out⟩,fun h=>absurd h HY.out,fun _=>rfl⟩
end Go.Proofs.YthfapccopngfhaaDoor

