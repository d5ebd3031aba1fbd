/- Texts that the claim needs. -/
import Derived.Test.YtgbbmdknbflilaaDoorQDcu14
namespace Go.Proofs.YtgbbmdknbflilaaDoor
open Go.RowKit Rep Dec
set_option linter.unusedVariables false
namespace Dec
structure AI (w0 w:World) (p:Nat) (s:ByteArray) (c:Nat->Value) (en k i n:Nat) (u:World):Prop where
 rs:RS w0 p s c en k i n u
 but:But p w u
 res:Blk u w.heap.size 0 0 0 0 (.slice none 0 0) (.slice none 0 0) (.slice none 0 0)
 pw:p<w.heap.size
section
variable {w0 w u:World} {p:Nat} {s:ByteArray} {c:Nat->Value} {en k i n:Nat}
theorem AI.start (h:RS w0 p s c en k i n w) (hb:Below (w.alloc (.cells #[.int .i64 0,.int .i64 0,.int .i64 0,.int .i64 0,.slice none 0 0,.slice none 0 0,.slice none 0 0] 75)).heap.size (w.alloc (.cells #[.int .i64 0,.int .i64 0,.int .i64 0,.int .i64 0,.slice none 0 0,.slice none 0 0,.slice none 0 0] 75)) u):AI w0 w p s c en k i n u :=
 ⟨h.on (below_go' (new_on' _ _) hb),But.of p (below_go' (new_on' _ _) hb),(Blk.new w w.heap.size 0 0 0 0 (.slice none 0 0) (.slice none 0 0) (.slice none 0 0) rfl).keep (hb.block _ (by simp)),h.lt⟩
theorem AI.num (h:AI w0 w p s c en k i n u) (m:Nat):AI w0 w p s c en k i m (u.setCell ⟨p,14,none⟩ (.int .i64 m)) :=
 ⟨h.rs.num m,h.but.trans (But.set p 14 u _),set_blk h.res (by have:=h.pw;omega),h.pw⟩
theorem AI.call {i2 n2:Nat} {u2:World} (h:AI w0 w p s c en k i n u) (h1:RS w0 p s c en k i2 n2 u2) (h2:But p u u2):AI w0 w p s c en k i2 n2 u2 :=
 ⟨h1,h.but.trans h2,h.res.keep (h2.block _ h.res.lt (fun e=>by injection e with e;have:=h.pw;omega)),h.pw⟩
theorem AI.fin (h:AI w0 w p s c en k i n u) (y0 y1 y2 y3 y4 y5 y6:Value):RS w0 p s c en k i n (out7 u w.heap.size y0 y1 y2 y3 y4 y5 y6)/\But p w (out7 u w.heap.size y0 y1 y2 y3 y4 y5 y6):=by
 have hp:p≠w.heap.size:=by have:=h.pw;omega
 have hb:w0.heap.size<=w.heap.size:=by have:=h.rs.base;have:=h.pw;omega
 have hr:=Nat.le_refl w.heap.size
 exact ⟨((((((h.rs.set hp hb _ _).set hp hb _ _).set hp hb _ _).set hp hb _ _).set hp hb _ _).set hp hb _ _).set hp hb _ _,but_set (but_set (but_set (but_set (but_set (but_set (but_set h.but hr _ _) hr _ _) hr _ _) hr _ _) hr _ _) hr _ _) hr _ _⟩
end
theorem form_rg (op:Int) (h0:form op≠0) (h10:form op≠10):1<=form op/\form op<=9:=by
 unfold form at *
 repeat' split
 all_goals first|omega|(exfalso;simp_all;done)|(exfalso;simp_all;omega)
end Dec
section
variable (w0:World) (p:Nat) (s:ByteArray) (c:Nat->Value) (en k i n:Nat) (w:World) (h:RS w0 p s c en k i n w) (hn:n<=65536) (op:Int) (dep:Nat) (hdep:dep<=65)
include h hn hdep
set_option maxRecDepth 100000 in
set_option maxHeartbeats 4000000 in
theorem dAsk (z:Int) (hz:rask dep op n=some z):Calls Tryd.prog 70 #[.pointer (some ⟨p,0,none⟩),.int .i64 op,.int .i64 dep] w fun e w'=>e=.panicked (gave z)/\Below w0.heap.size w0 w':=by
 have H:=hideR h
 have HF:=fun u=>hideR (formT op u)
 have hlim:n<=65536:=hn
 clear h hn
 unfold rask at hz
 by_cases f0:form op=0
 ·rw [if_pos f0] at hz
  injection hz with hz
  subst hz
  rw [f0] at HF
  clear f0
  go_enter Tryd.func70,Tryd.ntmps70
  go_wp2_with fail
  refine (HF _).out.mono ?_
  rintro e u ⟨rfl,hb⟩
  have HS:=hideR (AI.start H.out hb)
  have c14:=HS.out.rs.cell 14 _ rfl
  have f14:=HS.out.rs.frz 14
  clear hb HF
  go_wp2_with fail
  refine (needN _ _).mono ?_
  rintro e u ⟨rfl,rfl⟩
  exact ⟨rfl,rfl,HS.out.rs.below⟩
 rw [if_neg f0] at hz
 by_cases f10:form op=10
 ·rw [if_pos f10] at hz
  injection hz with hz
  subst hz
  rw [f10] at HF
  clear f0 f10
  go_enter Tryd.func70,Tryd.ntmps70
  go_wp2_with fail
  refine (HF _).out.mono ?_
  rintro e u ⟨rfl,hb⟩
  have HS:=hideR (AI.start H.out hb)
  have c14:=HS.out.rs.cell 14 _ rfl
  have f14:=HS.out.rs.frz 14
  clear hb HF
  go_wp2_with fail
  refine (needY _ _).mono ?_
  rintro e u ⟨rfl,rfl⟩
  go_wp2_with fail
  refine (needN _ _).mono ?_
  rintro e u ⟨rfl,rfl⟩
  exact ⟨rfl,rfl,HS.out.rs.below⟩
 rw [if_neg f10] at hz
 have b0:(form op != 0)=true:=by simp [f0]
 have b10:(form op != 10)=true:=by simp [f10]
 generalize form op=F at *
 by_cases hm:65536<n+1
 ·rw [if_pos hm] at hz
  injection hz with hz
  subst hz
  have q:decide ((n:Int)+1<=65536)=false:=decide_eq_false (by omega)
  clear f0 f10
  go_enter Tryd.func70,Tryd.ntmps70
  go_wp2_with fail
  refine (HF _).out.mono ?_
  rintro e u ⟨rfl,hb⟩
  have HS:=hideR (AI.start H.out hb)
  have c14:=HS.out.rs.cell 14 _ rfl
  have f14:=HS.out.rs.frz 14
  clear hb HF
  go_wp2_with fail
  refine (needY _ _).mono ?_
  rintro e u ⟨rfl,rfl⟩
  go_wp2_with fail
  refine (needY _ _).mono ?_
  rintro e u ⟨rfl,rfl⟩
  go_wp2_with fail
  refine (needN _ _).mono ?_
  rintro e u ⟨rfl,rfl⟩
  exact ⟨rfl,rfl,by have:=(HS.out.num (n+1)).rs.below;rw [show ((n+1:Nat):Int)=(n:Int)+1 by omega] at this;exact this⟩
 rw [if_neg hm] at hz
 by_cases hq:64<dep
 ·rw [if_pos hq] at hz
  injection hz with hz
  subst hz
  have q:decide ((n:Int)+1<=65536)=true:=decide_eq_true (by omega)
  have q2:decide ((dep:Int)<=64)=false:=decide_eq_false (by omega)
  clear f0 f10
  go_enter Tryd.func70,Tryd.ntmps70
  go_wp2_with fail
  refine (HF _).out.mono ?_
  rintro e u ⟨rfl,hb⟩
  have HS:=hideR (AI.start H.out hb)
  have c14:=HS.out.rs.cell 14 _ rfl
  have f14:=HS.out.rs.frz 14
  clear hb HF
  go_wp2_with fail
  refine (needY _ _).mono ?_
  rintro e u ⟨rfl,rfl⟩
  go_wp2_with fail
  refine (needY _ _).mono ?_
  rintro e u ⟨rfl,rfl⟩
  go_wp2_with fail
  refine (needY _ _).mono ?_
  rintro e u ⟨rfl,rfl⟩
  go_wp2_with fail
  refine (needN _ _).mono ?_
  rintro e u ⟨rfl,rfl⟩
  exact ⟨rfl,rfl,by have:=(HS.out.num (n+1)).rs.below;rw [show ((n+1:Nat):Int)=(n:Int)+1 by omega] at this;exact this⟩
 ·rw [if_neg hq] at hz
  cases hz
set_option maxRecDepth 100000 in
set_option maxHeartbeats 8000000 in
theorem dIns {d:Nat} (IH:SeqC d) (hd:65<=d+(dep+1)):Calls Tryd.prog 70 #[.pointer (some ⟨p,0,none⟩),.int .i64 op,.int .i64 dep] w (Rds2 w0 p s c en k (vIns w.heap.size d) w (rins (rseq s en d (dep+1)) s en dep op i n)):=by
 cases hk:rask dep op n with
 | some z =>
  have e:rins (rseq s en d (dep+1)) s en dep op i n=.error z:=by unfold rins;rw [hk]
  rw [e]
  exact dAsk w0 p s c en k i n w h hn op dep hdep z hk
 | none =>
  obtain ⟨hn1,hd1,f0,f10⟩:=rask_n hk
  have H:=hideR h
  have HF:=fun u=>hideR (formT op u)
  have HIH:=hideR IH
  have en1:((n+1:Nat):Int)=(n:Int)+1:=by omega
  have q:decide ((n:Int)+1<=65536)=true:=decide_eq_true (by omega)
  have q2:decide ((dep:Int)<=64)=true:=decide_eq_true (by omega)
  have b0:(form op != 0)=true:=by simp [f0]
  have b10:(form op != 10)=true:=by simp [f10]
  by_cases f2:form op=2\/form op=3
  ·have e:rins (rseq s en d (dep+1)) s en dep op i n=rblk (none_ d) s en (rseq s en d (dep+1)) op i (n+1):=by
    unfold rins;rw [hk];show (if form op=2\/form op=3 then _ else _)=_;rw [if_pos f2]
   rw [e]
   have HK:=fun u hu=>hideR (dBlk IH w0 p s c en k i (n+1) u hu (by omega) op dep hd hd1 f2)
   clear e h IH hk
   have hF:(form op=2/\(form op == 2)=true)\/(form op=3/\(form op == 2)=false/\(form op == 3)=true):=by rcases f2 with f2|f2<;>rw [f2]<;>decide
   clear f0 f10 f2
   cases hx:rblk (none_ d) s en (rseq s en d (dep+1)) op i (n+1) with
   | error z =>
    rw [hx] at HK
    clear hx
    rcases hF with ⟨hF,g2⟩|⟨hF,g2,g3⟩
    all_goals
     rw [hF] at HF
     clear b0 b10 hF
     go_enter Tryd.func70,Tryd.ntmps70
     go_wp2_with fail
     refine (HF _).out.mono ?_
     rintro e u ⟨rfl,hb⟩
     have HS:=hideR (AI.start H.out hb)
     have c14:=HS.out.rs.cell 14 _ rfl
     have f14:=HS.out.rs.frz 14
     clear hb HF
     go_wp2_with fail
     refine (needY _ _).mono ?_
     rintro e u ⟨rfl,rfl⟩
     go_wp2_with fail
     refine (needY _ _).mono ?_
     rintro e u ⟨rfl,rfl⟩
     obtain ⟨t1,ht1⟩:∃t1,t1=u.setCell ⟨p,14,none⟩ (.int .i64 ((n:Int)+1)):=⟨_,rfl⟩
     have HT:=hideR (HS.out.num (n+1))
     rw [en1,<- ht1] at HT
     have HE:=hideR ht1
     clear ht1
     go_upto_region 5 with fail
     rw [<- HE.out]
     clear HE c14 f14 HS
     have c14:=HT.out.rs.cell 14 _ rfl
     rw [en1] at c14
     go_wp2_with fail
     refine (needY _ _).mono ?_
     rintro e t1 ⟨rfl,rfl⟩
     go_wp2_with fail
     refine (needY _ _).mono ?_
     rintro e t1 ⟨rfl,rfl⟩
     have HC:=HK t1 HT.out.rs
     clear HK
     go_wp2_with fail
     refine HC.out.mono ?_
     rintro e w1 ⟨rfl,hb⟩
     exact ⟨rfl,rfl,hb⟩
   | ok v =>
    obtain ⟨x,j,m⟩:=v
    rw [hx] at HK
    clear hx
    rcases hF with ⟨hF,g2⟩|⟨hF,g2,g3⟩
    all_goals
     rw [hF] at HF
     clear b0 b10 hF
     go_enter Tryd.func70,Tryd.ntmps70
     go_wp2_with fail
     refine (HF _).out.mono ?_
     rintro e u ⟨rfl,hb⟩
     have HS:=hideR (AI.start H.out hb)
     have c14:=HS.out.rs.cell 14 _ rfl
     have f14:=HS.out.rs.frz 14
     clear hb HF
     go_wp2_with fail
     refine (needY _ _).mono ?_
     rintro e u ⟨rfl,rfl⟩
     go_wp2_with fail
     refine (needY _ _).mono ?_
     rintro e u ⟨rfl,rfl⟩
     obtain ⟨t1,ht1⟩:∃t1,t1=u.setCell ⟨p,14,none⟩ (.int .i64 ((n:Int)+1)):=⟨_,rfl⟩
     have HT:=hideR (HS.out.num (n+1))
     rw [en1,<- ht1] at HT
     have HE:=hideR ht1
     clear ht1
     go_upto_region 5 with fail
     rw [<- HE.out]
     clear HE c14 f14 HS
     have c14:=HT.out.rs.cell 14 _ rfl
     rw [en1] at c14
     go_wp2_with fail
     refine (needY _ _).mono ?_
     rintro e t1 ⟨rfl,rfl⟩
     go_wp2_with fail
     refine (needY _ _).mono ?_
     rintro e t1 ⟨rfl,rfl⟩
     have HC:=HK t1 HT.out.rs
     clear HK
     go_wp2_with fail
     refine HC.out.mono ?_
     rintro e u2 ⟨⟨v2,rfl,hv2⟩,h1,h2⟩
     obtain ⟨o4,n4,k4,o5,n5,k5,o6,n6,k6,rfl,hI4,hA5,hA6⟩:=hv2
     have HS2:=hideR (HT.out.call h1 h2)
     obtain ⟨B,hB,hB2⟩:∃B,B=t1.heap.size/\w.heap.size<B:=⟨_,rfl,HT.out.res.lt⟩
     rw [<- hB] at hI4 hA5 hA6
     have HI:=hideR hI4
     have HA5:=hideR hA5
     have HA6:=hideR hA6
     clear h1 h2 hI4 hA5 hA6 hB HT HC
     have r0:=HS2.out.res.cell 0 _ rfl
     have g0:=HS2.out.res.frz 0
     have r1:=HS2.out.res.cell 1 _ rfl
     have g1:=HS2.out.res.frz 1
     have r2:=HS2.out.res.cell 2 _ rfl
     have g2:=HS2.out.res.frz 2
     have r3:=HS2.out.res.cell 3 _ rfl
     have g3:=HS2.out.res.frz 3
     have r4:=HS2.out.res.cell 4 _ rfl
     have g4:=HS2.out.res.frz 4
     have r5:=HS2.out.res.cell 5 _ rfl
     have g5:=HS2.out.res.frz 5
     have r6:=HS2.out.res.cell 6 _ rfl
     have g6:=HS2.out.res.frz 6
     go_wp2
     have z:=out7_blk (v0:=.int .i64 x.op) (v1:=.int .i64 x.a) (v2:=.int .i64 x.b) (v3:=.int .i64 x.n) (v4:=.slice o4 n4 k4) (v5:=.slice o5 n5 k5) (v6:=.slice o6 n6 k6) HS2.out.res
     have hz:∀j v,#[Value.int .i64 x.op,.int .i64 x.a,.int .i64 x.b,.int .i64 x.n,.slice o4 n4 k4,.slice o5 n5 k5,.slice o6 n6 k6][j]?=some v->(out7 _ w.heap.size (.int .i64 x.op) (.int .i64 x.a) (.int .i64 x.b) (.int .i64 x.n) (.slice o4 n4 k4) (.slice o5 n5 k5) (.slice o6 n6 k6)).cell? ⟨w.heap.size,j,none⟩=some v:=fun j v hv=>by unfold World.cell?;rw [z];exact hv
     have z0:=hz 0 _ rfl
     have z1:=hz 1 _ rfl
     have z2:=hz 2 _ rfl
     have z3:=hz 3 _ rfl
     have z4:=hz 4 _ rfl
     have z5:=hz 5 _ rfl
     have z6:=hz 6 _ rfl
     unfold out7 at z0 z1 z2 z3 z4 z5 z6
     exact bodyPost_ret (v:=.agg #[.int .i64 x.op,.int .i64 x.a,.int .i64 x.b,.int .i64 x.n,.slice o4 n4 k4,.slice o5 n5 k5,.slice o6 n6 k6]) (by simp [results,Tryd.results70,go_sem,z0,z1,z2,z3,z4,z5,z6]) rfl
      ⟨⟨_,rfl,_,_,_,_,_,_,_,_,_,rfl,HI.out.keep (since_out hB2 (by omega)),AtS.keep (since_out hB2 (by omega)) d _ _ HA5.out,AtS.keep (since_out hB2 (by omega)) d _ _ HA6.out⟩,(HS2.out.fin _ _ _ _ _ _ _).1,(HS2.out.fin _ _ _ _ _ _ _).2⟩
  ·have hfm:1<=form op/\form op<=9:=form_rg op f0 f10
   have e:rins (rseq s en d (dep+1)) s en dep op i n=lift (rsim (none_ d) s en op i) (n+1):=by
    unfold rins;rw [hk];show (if form op=2\/form op=3 then _ else _)=_;rw [if_neg f2]
   rw [e]
   have HK:=fun u hu=>hideR (dSim w0 p s c en k i (n+1) u hu d op hfm (by omega) (by omega))
   have g2:(form op == 2)=false:=by rw [beq_eq_false_iff_ne];omega
   have g3:(form op == 3)=false:=by rw [beq_eq_false_iff_ne];omega
   clear e h IH hk hfm f0 f10 f2
   cases hx:rsim (none_ d) s en op i with
   | error z =>
    rw [hx] at HK
    clear hx
    show Calls _ _ _ _ (Rds2 w0 p s c en k (vIns w.heap.size d) w (.error z))
    generalize form op=F at *
    go_enter Tryd.func70,Tryd.ntmps70
    go_wp2_with fail
    refine (HF _).out.mono ?_
    rintro e u ⟨rfl,hb⟩
    have HS:=hideR (AI.start H.out hb)
    have c14:=HS.out.rs.cell 14 _ rfl
    have f14:=HS.out.rs.frz 14
    clear hb HF
    go_wp2_with fail
    refine (needY _ _).mono ?_
    rintro e u ⟨rfl,rfl⟩
    go_wp2_with fail
    refine (needY _ _).mono ?_
    rintro e u ⟨rfl,rfl⟩
    obtain ⟨t1,ht1⟩:∃t1,t1=u.setCell ⟨p,14,none⟩ (.int .i64 ((n:Int)+1)):=⟨_,rfl⟩
    have HT:=hideR (HS.out.num (n+1))
    rw [en1,<- ht1] at HT
    have HE:=hideR ht1
    clear ht1
    go_upto_region 5 with fail
    rw [<- HE.out]
    clear HE c14 f14 HS
    have c14:=HT.out.rs.cell 14 _ rfl
    rw [en1] at c14
    go_wp2_with fail
    refine (needY _ _).mono ?_
    rintro e t1 ⟨rfl,rfl⟩
    go_wp2_with fail
    refine (needY _ _).mono ?_
    rintro e t1 ⟨rfl,rfl⟩
    have HC:=HK t1 HT.out.rs
    clear HK
    go_wp2_with fail
    refine HC.out.mono ?_
    rintro e w1 ⟨rfl,hb⟩
    exact ⟨rfl,rfl,hb⟩
   | ok v =>
    obtain ⟨x,j⟩:=v
    rw [hx] at HK
    clear hx
    show Calls _ _ _ _ (Rds2 w0 p s c en k (vIns w.heap.size d) w (.ok (x,j,n+1)))
    generalize form op=F at *
    go_enter Tryd.func70,Tryd.ntmps70
    go_wp2_with fail
    refine (HF _).out.mono ?_
    rintro e u ⟨rfl,hb⟩
    have HS:=hideR (AI.start H.out hb)
    have c14:=HS.out.rs.cell 14 _ rfl
    have f14:=HS.out.rs.frz 14
    clear hb HF
    go_wp2_with fail
    refine (needY _ _).mono ?_
    rintro e u ⟨rfl,rfl⟩
    go_wp2_with fail
    refine (needY _ _).mono ?_
    rintro e u ⟨rfl,rfl⟩
    obtain ⟨t1,ht1⟩:∃t1,t1=u.setCell ⟨p,14,none⟩ (.int .i64 ((n:Int)+1)):=⟨_,rfl⟩
    have HT:=hideR (HS.out.num (n+1))
    rw [en1,<- ht1] at HT
    have HE:=hideR ht1
    clear ht1
    go_upto_region 5 with fail
    rw [<- HE.out]
    clear HE c14 f14 HS
    have c14:=HT.out.rs.cell 14 _ rfl
    rw [en1] at c14
    go_wp2_with fail
    refine (needY _ _).mono ?_
    rintro e t1 ⟨rfl,rfl⟩
    go_wp2_with fail
    refine (needY _ _).mono ?_
    rintro e t1 ⟨rfl,rfl⟩
    have HC:=HK t1 HT.out.rs
    clear HK
    go_wp2_with fail
    refine HC.out.mono ?_
    rintro e u2 ⟨⟨v2,rfl,hv2⟩,h1,h2⟩
    obtain ⟨o4,n4,k4,o5,n5,k5,o6,n6,k6,rfl,hI4,hA5,hA6⟩:=hv2
    have HS2:=hideR (HT.out.call h1 h2)
    obtain ⟨B,hB,hB2⟩:∃B,B=t1.heap.size/\w.heap.size<B:=⟨_,rfl,HT.out.res.lt⟩
    rw [<- hB] at hI4 hA5 hA6
    have HI:=hideR hI4
    have HA5:=hideR hA5
    have HA6:=hideR hA6
    clear h1 h2 hI4 hA5 hA6 hB HT HC
    have r0:=HS2.out.res.cell 0 _ rfl
    have g0:=HS2.out.res.frz 0
    have r1:=HS2.out.res.cell 1 _ rfl
    have g1:=HS2.out.res.frz 1
    have r2:=HS2.out.res.cell 2 _ rfl
    have g2:=HS2.out.res.frz 2
    have r3:=HS2.out.res.cell 3 _ rfl
    have g3:=HS2.out.res.frz 3
    have r4:=HS2.out.res.cell 4 _ rfl
    have g4:=HS2.out.res.frz 4
    have r5:=HS2.out.res.cell 5 _ rfl
    have g5:=HS2.out.res.frz 5
    have r6:=HS2.out.res.cell 6 _ rfl
    have g6:=HS2.out.res.frz 6
    go_wp2
    have z:=out7_blk (v0:=.int .i64 x.op) (v1:=.int .i64 x.a) (v2:=.int .i64 x.b) (v3:=.int .i64 x.n) (v4:=.slice o4 n4 k4) (v5:=.slice o5 n5 k5) (v6:=.slice o6 n6 k6) HS2.out.res
    have hz:∀j v,#[Value.int .i64 x.op,.int .i64 x.a,.int .i64 x.b,.int .i64 x.n,.slice o4 n4 k4,.slice o5 n5 k5,.slice o6 n6 k6][j]?=some v->(out7 _ w.heap.size (.int .i64 x.op) (.int .i64 x.a) (.int .i64 x.b) (.int .i64 x.n) (.slice o4 n4 k4) (.slice o5 n5 k5) (.slice o6 n6 k6)).cell? ⟨w.heap.size,j,none⟩=some v:=fun j v hv=>by unfold World.cell?;rw [z];exact hv
    have z0:=hz 0 _ rfl
    have z1:=hz 1 _ rfl
    have z2:=hz 2 _ rfl
    have z3:=hz 3 _ rfl
    have z4:=hz 4 _ rfl
    have z5:=hz 5 _ rfl
    have z6:=hz 6 _ rfl
    unfold out7 at z0 z1 z2 z3 z4 z5 z6
    exact bodyPost_ret (v:=.agg #[.int .i64 x.op,.int .i64 x.a,.int .i64 x.b,.int .i64 x.n,.slice o4 n4 k4,.slice o5 n5 k5,.slice o6 n6 k6]) (by simp [results,Tryd.results70,go_sem,z0,z1,z2,z3,z4,z5,z6]) rfl
     ⟨⟨_,rfl,_,_,_,_,_,_,_,_,_,rfl,HI.out.keep (since_out hB2 (by omega)),AtS.keep (since_out hB2 (by omega)) d _ _ HA5.out,AtS.keep (since_out hB2 (by omega)) d _ _ HA6.out⟩,(HS2.out.fin _ _ _ _ _ _ _).1,(HS2.out.fin _ _ _ _ _ _ _).2⟩
end
end Go.Proofs.YtgbbmdknbflilaaDoor

namespace Go.Proofs.YtgbbmdknbflilaaDoor
open Go.RowKit Rep Dec
set_option linter.unusedVariables false
namespace Dec
def prq {α:Type} (l:List α) (x:R2 (List α × Int)):R2 (List α × Int):=bd2 x fun r j m=>.ok ((l++r.1,r.2),j,m)
theorem prq_nil {α:Type} (x:R2 (List α × Int)):prq [] x=x:=by
 unfold prq bd2
 cases x with
 | error e=>rfl
 | ok v=>rfl
section
variable {d:Nat} {sub:Nat->Nat->R2 (IL d × Int)} {s:ByteArray} {en dep f i n:Nat} {l:List (Ins (IL d))}
theorem prq_err {z:Int} (h:nx s en i=.error z):prq l (rloop sub s en dep (f+1) i n)=.error z:=by
 unfold prq rloop;rw [h];rfl
theorem prq_end {op:Int} {j:Nat} (h:nx s en i=.ok (op,j)) (ho:op=11\/op=5):prq l (rloop sub s en dep (f+1) i n)=.ok ((l,op),j,n):=by
 unfold prq rloop;rw [h]
 show bd2 (if op=11\/op=5 then _ else _) _=_
 rw [if_pos ho]
 show (Except.ok ((l++[],op),j,n):R2 (List (Ins (IL d)) × Int))=_
 rw [List.append_nil]
theorem prq_bad {op:Int} {j:Nat} {z:Int} (h:nx s en i=.ok (op,j)) (ho:¬ (op=11\/op=5)) (hr:rins sub s en dep op j n=.error z):prq l (rloop sub s en dep (f+1) i n)=.error z:=by
 unfold prq rloop;rw [h]
 show bd2 (if op=11\/op=5 then _ else _) _=_
 rw [if_neg ho,hr];rfl
theorem prq_on {op:Int} {j m n2:Nat} {x:Ins (IL d)} (h:nx s en i=.ok (op,j)) (ho:¬ (op=11\/op=5)) (hr:rins sub s en dep op j n=.ok (x,m,n2)):prq l (rloop sub s en dep (f+1) i n)=prq (l++[x]) (rloop sub s en dep f m n2):=by
 unfold prq
 rw [rloop,h]
 show bd2 (if op=11\/op=5 then _ else _) _=_
 rw [if_neg ho,hr]
 show bd2 (bd2 (rloop sub s en dep f m n2) _) _=_
 cases rloop sub s en dep f m n2 with
 | error e=>rfl
 | ok v=>obtain ⟨a,b,e⟩:=v;show (Except.ok ((l++x :: a.1,a.2),b,e):R2 (List (Ins (IL d)) × Int))=.ok ((l++[x]++a.1,a.2),b,e);simp
end
theorem since_butO {B p:Nat} {row:Option Nat} {u u2:World} (hp:p<B) (h:But p u u2):∀k,Since B u row k->Since B u2 row k/\u2.heap[k]?=u.heap[k]?:=fun k hk =>
 ⟨⟨hk.1,Nat.lt_of_lt_of_le hk.2.1 h.size,hk.2.2⟩,h.block k hk.2.1 (fun e=>by injection e with e;have:=hk.1;omega)⟩
theorem since_new {B B2:Nat} {row:Option Nat} {u:World} (hB:B<=B2) (hr:∀k,row=some k->k<B2):∀k,Since B2 u none k->Since B u row k/\u.heap[k]?=u.heap[k]?:=fun k hk =>
 ⟨⟨Nat.le_trans hB hk.1,hk.2.1,fun e=>by have:=hr k e.symm;have:=hk.1;omega⟩,rfl⟩
theorem pc_cells {d:Nat} (w:World) (x:Ins (IL d)) (v4 v5 v6:Value):∀j u,(pc7 (mkPc x v4 v5 v6))[j]?=some u->(w.alloc (.cells #[.int .i64 x.op,.int .i64 x.a,.int .i64 x.b,.int .i64 x.n,v4,v5,v6] 75)).cell? ((⟨w.heap.size,0,none⟩:Addr).add j)=some u :=
 pc7_cells (Blk.new w w.heap.size x.op x.a x.b x.n v4 v5 v6 rfl)
end Dec
set_option maxRecDepth 100000 in
set_option maxHeartbeats 4000000 in
theorem seqC0:SeqC 0:=by
 intro w0 p s c en k i n w dep h hn hd hdep
 have hN:=dNext w0 p s c en k i n w h
 have e:rseq s en 0 dep i n=bd2 (lift (nx s en i) n) fun op j n1=>if op=11\/op=5 then .ok (((),op),j,n1) else .error ((rask dep op n1).getD 4):=rfl
 rw [e]
 clear e
 cases hx:nx s en i with
 | error z =>
  rw [hx] at hN
  have HN:=hideR hN
  show Calls _ _ _ _ (Rds2 w0 p s c en k (vSeq w.heap.size 0) w (.error z))
  clear hN hx
  go_enter Tryd.func61,Tryd.ntmps61
  go_wp2_with fail
  go_loopw [4] (fun t wr=>t=.slice none 0 0/\wr=w) (fun _ _=>0)
  case atStart=>exact ⟨rfl,rfl⟩
  case round =>
   obtain ⟨rfl,rfl⟩:=hrel
   go_wp2_with fail
   refine HN.out.mono ?_
   rintro e w1 ⟨rfl,hb⟩
   exact ⟨rfl,rfl,hb⟩
 | ok v =>
  obtain ⟨op,j⟩:=v
  rw [hx] at hN
  have HN:=hideR hN
  show Calls _ _ _ _ (Rds2 w0 p s c en k (vSeq w.heap.size 0) w (if op=11\/op=5 then .ok (((),op),j,n) else .error ((rask dep op n).getD 4)))
  clear hN
  by_cases ho:op=11\/op=5
  ·rw [if_pos ho]
   have hq:(op == 11)=true\/((op == 11)=false/\(op == 5)=true):=by rcases ho with rfl|rfl<;>decide
   clear ho hx
   rcases hq with q1|⟨q1,q2⟩
   all_goals
    go_enter Tryd.func61,Tryd.ntmps61
    go_wp2_with fail
    go_loopw [4] (fun t wr=>t=.slice none 0 0/\wr=w) (fun _ _=>0)
    case atStart=>exact ⟨rfl,rfl⟩
    case round =>
     obtain ⟨rfl,rfl⟩:=hrel
     go_wp2_with fail
     refine HN.out.mono ?_
     rintro e w1 ⟨⟨v,rfl,hv⟩,h1,h2⟩
     have hv:v=.int .i64 op:=hv
     subst hv
     have HF:=hideR (⟨h1,h2⟩:_/\_)
     clear h1 h2 HN
     go_wp2
     go_ret2
     exact ⟨⟨_,rfl,none,0,0,rfl,⟨none,0,rfl⟩⟩,HF.out.1,HF.out.2⟩
  ·rw [if_neg ho]
   have q1:(op == 11)=false:=by rw [beq_eq_false_iff_ne];omega
   have q2:(op == 5)=false:=by rw [beq_eq_false_iff_ne];omega
   obtain ⟨z,hz⟩:∃z,rask dep op n=some z:=by
    cases hk:rask dep op n with
    | some z=>exact ⟨z,rfl⟩
    | none=>have:=rask_n hk;omega
   rw [hz]
   show Calls _ _ _ _ (Rds2 w0 p s c en k (vSeq w.heap.size 0) w (.error z))
   have HA:=fun u hu=>hideR (dAsk w0 p s c en k j n u hu hn op dep hdep z hz)
   clear ho hx hz
   go_enter Tryd.func61,Tryd.ntmps61
   go_wp2_with fail
   go_loopw [4] (fun t wr=>t=.slice none 0 0/\wr=w) (fun _ _=>0)
   case atStart=>exact ⟨rfl,rfl⟩
   case round =>
    obtain ⟨rfl,rfl⟩:=hrel
    go_wp2_with fail
    refine HN.out.mono ?_
    rintro e w1 ⟨⟨v,rfl,hv⟩,h1,h2⟩
    have hv:v=.int .i64 op:=hv
    subst hv
    have HC:=HA w1 h1
    clear h1 h2 HN HA
    go_wp2_with fail
    refine HC.out.mono ?_
    rintro e w2 ⟨rfl,hb⟩
    exact ⟨rfl,rfl,hb⟩
end Go.Proofs.YtgbbmdknbflilaaDoor

