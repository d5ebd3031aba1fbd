/- Texts that the claim needs. -/
import Derived.Test.YthfapccopngfhaaDoorQDex19
namespace Go.Proofs.YthfapccopngfhaaDoor
open Go.RowKit Rep Dec
set_option linter.unusedVariables false
set_option maxRecDepth 100000 in
set_option maxHeartbeats 16000000 in
theorem ySeq0:YSeqC 0:=by
 intro w0 p s en i n z w dep oth h hn hd hdep
 by_cases hz:z=0
 case neg=>rw [stkE hz];exact yStk w0 p s en i n z w dep oth 0 h hz
 subst hz
 rw [stk0]
 have hnq:=hn rfl
 have hpw:=h.lt
 obtain ⟨d,hd0⟩:∃d,d=0:=⟨_,rfl⟩
 obtain ⟨nq,hnn⟩:∃nq,nq=n:=⟨_,rfl⟩
 rw [<- hnn] at h hnq ⊢
 clear hnn hn
 obtain ⟨N1,hN1⟩:∃N1,N1=nq+1:=⟨_,rfl⟩
 have HS:=hideR h
 have hle:=h.le
 have c4:=h.cell 4 _ rfl
 have hN:=yByte w0 p s en i nq 0 w h
 rw [stk0] at hN
 have e:rseq s en 0 dep i nq=bd2 (lift (nx s en i) nq) fun op j n1=>if op=11\/op=5 then .ok (((),op),j,n1) else .error ((rask dep op n1).getD 4):=rfl
 rw [e]
 clear e
 cases hx:nx s en i with
 | error y =>
  rw [hx] at hN
  have HN:=hideR hN
  show Calls _ _ _ _ (YSeq w0 p s en 0 w (.error y))
  clear hN hx
  go_enter Tryd.func12,Tryd.ntmps12
  go_wp2_with fail
  go_loopw [8] (fun t wr=>t=.slice none 0 0/\wr=w) (fun _ _=>0)
  case atStart=>exact ⟨rfl,rfl⟩
  case round =>
   obtain ⟨rfl,rfl⟩:=hrel
   go_wp2_with fail
   refine HN.out.mono ?_
   rintro e w1 ⟨hy,v,i2,n2,rfl,hv,h1,h2⟩
   have hv:v=.int .i64 0:=hv
   subst hv
   have c4:=h1.cell 4 _ rfl
   have b1:(y != 0)=true:=by simp [hy]
   have HF:=hideR (⟨hy,h1,h2⟩:_/\_/\_)
   clear h1 h2 HN hy
   go_wp2
   go_ret2
   exact ⟨(),0,_,_,_,i2,n2,y,rfl,HF.out.2.1,HF.out.2.2,⟨rfl,HF.out.1⟩,fun h=>absurd h HF.out.1,fun _=>rfl⟩
 | ok v =>
  obtain ⟨op,j⟩:=v
  rw [hx] at hN
  have HN:=hideR hN
  show Calls _ _ _ _ (YSeq w0 p s en 0 w (yq oth (if op=11\/op=5 then .ok (((),op),j,nq) else .error ((rask dep op nq).getD 4))))
  clear hN hx
  by_cases hend:op=11\/(op=5/\oth=true)
  ·have e:yq oth (if op=11\/op=5 then (.ok (((),op),j,nq):R2 (IL 0 × Int)) else .error ((rask dep op nq).getD 4))=.ok (((),op),j,nq):=by
    rw [if_pos (by rcases hend with h|h;exact .inl h;exact .inr h.1)]
    show (if oth=true\/op=11 then (.ok (((),op),j,nq):R2 (IL 0 × Int)) else .error 50)=_
    rw [if_pos (by rcases hend with h|h;exact .inr h;exact .inl h.2)]
   rw [e]
   clear e
   have hq:(op == 11)=true\/((op == 11)=false/\(op == 5)=true/\oth=true):=by
    rcases hend with rfl|⟨rfl,h⟩
    ·exact .inl rfl
    ·exact .inr ⟨rfl,rfl,h⟩
   clear hend
   rcases hq with q1|⟨q1,q2,rfl⟩
   all_goals
    go_enter Tryd.func12,Tryd.ntmps12
    go_wp2_with fail
    go_loopw [8] (fun t wr=>t=.slice none 0 0/\wr=w) (fun _ _=>0)
    case atStart=>exact ⟨rfl,rfl⟩
    case round =>
     obtain ⟨rfl,rfl⟩:=hrel
     go_wp2_with fail
     refine HN.out.mono ?_
     rintro e w1 ⟨v,rfl,hv,h1,h2⟩
     have hv:v=.int .i64 op:=hv
     subst hv
     have c4:=h1.cell 4 _ rfl
     have HF:=hideR (⟨h1,h2⟩:_/\_)
     clear h1 h2 HN
     go_wp2
     go_ret2
     exact ⟨(),op,_,_,_,j,nq,0,rfl,HF.out.1,HF.out.2,⟨rfl,rfl,rfl,rfl⟩,fun _=>⟨none,0,rfl⟩,fun h=>absurd rfl h⟩
  ·have hne:op≠11:=fun h=>hend (.inl h)
   have q1:(op == 11)=false:=by rw [beq_eq_false_iff_ne];exact hne
   obtain ⟨z1,hk⟩:∃z1,rask dep op nq=some z1:=by
    cases hk:rask dep op nq with
    | some z=>exact ⟨z,rfl⟩
    | none=>have:=rask_n hk;omega
   have e:yq oth (if op=11\/op=5 then (.ok (((),op),j,nq):R2 (IL 0 × Int)) else .error ((rask dep op nq).getD 4))=.error z1:=by
    by_cases h5:op=5
    ·rw [if_pos (.inr h5)]
     show (if oth=true\/op=11 then (.ok (((),op),j,nq):R2 (IL 0 × Int)) else .error 50)=_
     rw [if_neg (fun h=>h.elim (fun h=>hend (.inr ⟨h5,h⟩)) hne)]
     rw [h5,rask_5] at hk
     injection hk with hk
     rw [hk]
    ·rw [if_neg (by omega),hk];rfl
   rw [e]
   clear e
   obtain ⟨R,hR⟩:∃R:R2 (IL 0 × Int),R=.error z1:=⟨_,rfl⟩
   rw [<- hR]
   have HZ:=hideR hR
   obtain ⟨F,hFO⟩:∃F,F=form op:=⟨_,rfl⟩
   have HF:=fun u=>hideR (refForm op u)
   rw [<- hFO] at HF
   have hoo:oth=false\/(oth=true/\(op == 5)=false):=by
    cases oth with
    | false=>exact .inl rfl
    | true=>exact .inr ⟨rfl,by rw [beq_eq_false_iff_ne];exact fun h=>hend (.inr ⟨h,rfl⟩)⟩
   clear hR hend h hne
   rcases hoo with rfl|⟨rfl,q2⟩
   all_goals
    go_enter Tryd.func12,Tryd.ntmps12
    go_wp2_with fail
    go_loopw [8] (fun t wr=>Hid (YL0 w0 p s en i nq w R t wr)/\Hid (But p w wr)) (fun _ wr=>if intOf ((wr.cell? ⟨p,4,none⟩).getD (.int .i64 0))=0 then en+1-(intOf ((wr.cell? ⟨p,1,none⟩).getD (.int .i64 0))).toNat else 0)
    case atStart=>exact ⟨hideR (.inl ⟨rfl,rfl,HS.out⟩),hideR (But.refl p w)⟩
    case round =>
     obtain ⟨HLL,HB⟩:=hrel
     rcases HLL.out with ⟨rfl,rfl,hDS⟩|⟨y,i',n',hy,hRy,⟨oT,kT,cT,rfl⟩,hS⟩
     ·clear HLL hDS
      have HO:Hid (wr.ownsRow wr.heap.size 56 7 (.slice none 0 0) 0 (flat7 ([]:List (Pc d)))):=hideR (World.ownsRow_nil _ _ _ _)
      have hsw:(F == 0)=true/\z1=50\/(F == 0)=false/\((F == 10)=true/\z1=51\/(F == 10)=false/\(((nq:Int) == 65536)=true/\z1=3\/((nq:Int) == 65536)=false/\decide ((dep:Int) > 64)=true/\z1=4)):=by
       rw [hFO]
       exact rask_sw hnq hk
      have hz1:z1≠0:=by rcases hsw with ⟨_,h⟩|⟨_,⟨_,h⟩|⟨_,⟨_,h⟩|⟨_,_,h⟩⟩⟩<;>omega
      have HZ1:=hideR hz1
      have b1:(z1 == 0)=false:=by rw [beq_eq_false_iff_ne];exact hz1
      have HW:Hid ((nq:Int)+1=(N1:Int)):=hideR (by omega)
      clear hz1 hk hFO
      rcases hsw with ⟨g1,rfl⟩|⟨g1,⟨g2,rfl⟩|⟨g2,⟨g3,rfl⟩|⟨g3,g4,rfl⟩⟩⟩
      all_goals
       go_wp2_with fail
       refine HN.out.mono ?_
       rintro e w1 ⟨v,rfl,hv,h1,h2⟩
       have hv:v=.int .i64 op:=hv
       subst hv
       have H1:=hideR h1
       have H2:=hideR h2
       have c4:=h1.cell 4 _ rfl
       have c3:=h1.cell 3 _ rfl
       clear h1 h2 HN
       go_wp2_with fail
       refine (HF _).out.mono ?_
       rintro e w1 ⟨rfl,rfl⟩
       go_wp2_with fail
       refine (yBad w0 p s en j nq 0 _ H1.out _).mono ?_
       rintro e w2 ⟨rfl,h3,h4⟩
       rw [if_pos rfl] at h3
       have H3:=hideR h3
       have HB3:=hideR (H2.out.trans h4)
       clear c3 c4 h3 h4 H1 H2
       have c3:=H3.out.cell 3 _ rfl
       have f3:=H3.out.frz 3
       have c4:=H3.out.cell 4 _ rfl
       go_upto_region 17 with fail
       rw [HW.out]
       obtain ⟨u3,hu3⟩:∃u3,u3=w2.setCell ⟨p,3,none⟩ (.int .i64 N1):=⟨_,rfl⟩
       rw [<- hu3]
       have HD3:=hideR (H3.out.num N1)
       have HB4:=hideR (HB3.out.trans (But.set p 3 w2 (.int .i64 N1)))
       rw [<- hu3] at HD3 HB4
       have hsz:w2.heap.size=u3.heap.size:=by rw [hu3];simp
       clear hu3 c3 f3 c4 H3 HB3
       have HYI:=hideR (yi_new (w:=wr) op HD3.out)
       have HBU:=hideR (HB4.out.trans (But.of p (new_on' u3 (.cells #[.int .i64 op,.int .i64 0,.int .i64 0,.int .i64 0,.slice none 0 0,.slice none 0 0,.slice none 0 0] 56))))
       obtain ⟨u4,hu4⟩:∃u4,u4=u3.alloc (.cells #[.int .i64 op,.int .i64 0,.int .i64 0,.int .i64 0,.slice none 0 0,.slice none 0 0,.slice none 0 0] 56):=⟨_,rfl⟩
       rw [<- hu4] at HYI HBU ⊢
       try rw [hsz]
       clear hsz hu4 HD3 HB4
       have c4:=HYI.out.ds.cell 4 _ rfl
       have HO2:=hideR ((own_but HO.out hpw HBU.out).alloc (.cells #[.int .i64 op,.int .i64 0,.int .i64 0,.int .i64 0,.slice none 0 0,.slice none 0 0,.slice none 0 0] 56))
       have HN2:Hid (∀j u,(pc7 (mkPc (d:=d) { op:=op,a:=0,b:=0,n:=0,labels:=[],body:=none_ d,els:=none_ d } (.slice none 0 0) (.slice none 0 0) (.slice none 0 0)))[j]?=some u->(u4.alloc (.cells #[.int .i64 op,.int .i64 0,.int .i64 0,.int .i64 0,.slice none 0 0,.slice none 0 0,.slice none 0 0] 56)).cell? ((⟨u4.heap.size,0,none⟩:Addr).add j)=some u):=hideR (pc_cells u4 (d:=d) { op:=op,a:=0,b:=0,n:=0,labels:=[],body:=none_ d,els:=none_ d } (.slice none 0 0) (.slice none 0 0) (.slice none 0 0))
       have HB2:=hideR ((HB.out.trans HBU.out).trans (But.of p (new_on' u4 (.cells #[.int .i64 op,.int .i64 0,.int .i64 0,.int .i64 0,.slice none 0 0,.slice none 0 0,.slice none 0 0] 56))))
       have HS2:=hideR (HYI.out.ds.on (new_on' u4 (.cells #[.int .i64 op,.int .i64 0,.int .i64 0,.int .i64 0,.slice none 0 0,.slice none 0 0,.slice none 0 0] 56)))
       have HBL:=hideR (new_on' u4 (.cells #[.int .i64 op,.int .i64 0,.int .i64 0,.int .i64 0,.slice none 0 0,.slice none 0 0,.slice none 0 0] 56))
       have HSZ:Hid (wr.heap.size<=u4.heap.size):=hideR (Nat.le_trans HB.out.size HBU.out.size)
       have x0:=HYI.out.x.cell 0 _ rfl
       have x1:=HYI.out.x.cell 1 _ rfl
       have x2:=HYI.out.x.cell 2 _ rfl
       have x3:=HYI.out.x.cell 3 _ rfl
       have x4:=HYI.out.x.cell 4 _ rfl
       have x5:=HYI.out.x.cell 5 _ rfl
       have x6:=HYI.out.x.cell 6 _ rfl
       obtain ⟨i1,hi1,hy0,hy1,hy2⟩:=info_parts insInfo
       go_wp2_with (first|(at_builtin;refine wpList_appS rfl _ _ 23 rfl wr.heap.size 56 i1 _ 7 104 Tryd.underlying23 hi1 hy0 hy1 hy2 rfl (by decide) _ _ _ rfl HO2.out (some ⟨u4.heap.size,0,none⟩) 1 1 (pc7 (mkPc (d:=d) { op:=op,a:=0,b:=0,n:=0,labels:=[],body:=none_ d,els:=none_ d } (.slice none 0 0) (.slice none 0 0) (.slice none 0 0))) rfl ?c6 ?c0 ?c1 ?c2 ?c3 ?c4 ?c5 ?_))
       case c6=>intro h;cases h
       case c0=>rfl
       case c1=>exact fun ad h=>by injection h with h;subst h;exact HN2.out
       case c2=>exact pc7_one _ rfl rfl rfl
       case c3=>unfold maxLen;omega
       case c4=>omega
       case c5=>have:=HSZ.out;simp;omega
       intro v9 w9 hown9 hg9 hv9
       have ho9:∀q',(Value.slice none 0 0).ownBlock=some q'->wr.heap.size<=q':=fun q' hq'=>(HO2.out.lt q' hq').1
       have HS9:=hideR (HS2.out.grown hg9 (fun q' hq'=>Nat.lt_of_lt_of_le hpw (ho9 q' hq')))
       have HB9:=hideR (But.grown (p:=p) HB2.out hg9 ho9)
       have hsl:=own_slice hown9
       have hc4:=HS9.out.cell 4 _ rfl
       have hcr4:=HS.out.cell 4 _ rfl
       have hcr1:=HS.out.cell 1 _ rfl
       clear hown9 hg9 hv9 ho9 HO2 HN2 HB2 HS2 HBL
       obtain ⟨oN,cN,rfl⟩:=hsl
       go_wp2
       go_roundw
       case rel=>exact ⟨hideR (.inr ⟨_,_,_,HZ1.out,HZ.out,⟨_,_,_,rfl⟩,HS9.out⟩),HB9⟩
       case measure=>rw [hc4,hcr4,hcr1];simp [intOf];omega
     ·have c4:=hS.cell 4 _ rfl
      have HS2:=hideR hS
      have HZ2:=hideR hRy
      have HY:=hideR hy
      have b1:(y == 0)=false:=by rw [beq_eq_false_iff_ne];exact hy
      clear hS hRy HLL hy
      go_wp2
      go_ret2
      rw [HZ2.out]
      exact ⟨(),0,_,_,_,i',n',y,rfl,HS2.out,HB.out,⟨rfl,HY.out⟩,fun h=>absurd h HY.out,fun _=>rfl⟩
end Go.Proofs.YthfapccopngfhaaDoor

