/- Texts that the claim needs. -/
import Derived.Test.YtcfifbgemfladaaGreatDoorQDPa14
namespace Go.Proofs.YtcfifbgemfladaaGreatDoor
open Go.RowKit au aI Go.Proofs.Tryz
set_option linter.unusedVariables false
set_option maxRecDepth 100000
set_option maxHeartbeats 8000000
namespace aI
structure AI (w0 w:AG) (p:Nat) (s:AH) (c:Nat->Value) (en k i n:Nat) (u:AG):Prop where
 rs:RS w0 p s c en k i n u
 but:But p w u
 res:fG u w.heap.size 0 0 0 0 (.slice none 0 0) (.slice none 0 0) (.slice none 0 0)
 pw:p<w.heap.size
section
variable {w0 w u:AG} {p:Nat} {s:AH} {c:Nat->Value} {en k i n:Nat}
theorem AI.start (h:RS w0 p s c en k i n w) (hb:Below (w.alloc (.cells #[.int .i64 0,.int .i64 0,.int .i64 0,.int .i64 0,.slice none 0 0,.slice none 0 0,.slice none 0 0] 59)).heap.size (w.alloc (.cells #[.int .i64 0,.int .i64 0,.int .i64 0,.int .i64 0,.slice none 0 0,.slice none 0 0,.slice none 0 0] 59)) u):AI w0 w p s c en k i n u :=
 ⟨h.on (dM (aQ _ _) hb),But.of p (dM (aQ _ _) hb),(fG.new w w.heap.size 0 0 0 0 (.slice none 0 0) (.slice none 0 0) (.slice none 0 0) rfl).keep (hb.block _ (by simp)),h.lt⟩
theorem AI.num (h:AI w0 w p s c en k i n u) (m:Nat):AI w0 w p s c en k i m (u.setCell ⟨p,14,none⟩ (.int .i64 m)) :=
 ⟨h.rs.num m,h.but.trans (But.set p 14 u _),Bf h.res (by have:=h.pw;omega),h.pw⟩
theorem AI.call {i2 n2:Nat} {u2:AG} (h:AI w0 w p s c en k i n u) (h1:RS w0 p s c en k i2 n2 u2) (h2:But p u u2):AI w0 w p s c en k i2 n2 u2 :=
 ⟨h1,h.but.trans h2,h.res.keep (h2.block _ h.res.lt (λe=>by injection e with e;have:=h.pw;omega)),h.pw⟩
theorem AI.fin (h:AI w0 w p s c en k i n u) (y0 y1 y2 y3 y4 y5 y6:Value):RS w0 p s c en k i n (gS u w.heap.size y0 y1 y2 y3 y4 y5 y6)/\But p w (gS u w.heap.size y0 y1 y2 y3 y4 y5 y6):=by
 have hp:p≠w.heap.size:=by have:=h.pw;omega
 have hb:w0.heap.size<=w.heap.size:=by have:=h.rs.base;have:=h.pw;omega
 have hr:=aC w.heap.size;exact ⟨((((((h.rs.set hp hb _ _).set hp hb _ _).set hp hb _ _).set hp hb _ _).set hp hb _ _).set hp hb _ _).set hp hb _ _,mL (mL (mL (mL (mL (mL (mL h.but hr _ _) hr _ _) hr _ _) hr _ _) hr _ _) hr _ _) hr _ _⟩
end
theorem aeN (op:Int) (h0:form op≠0) (h10:form op≠10):1<=form op/\form op<=9:=by
 unfold form at *
 repeat' split
 all_goals first|omega|(exfalso;simp_all;done)|(exfalso;simp_all;omega)
end aI
section
variable (w0:AG) (p:Nat) (s:AH) (c:Nat->Value) (en k i n:Nat) (w:AG) (h:RS w0 p s c en k i n w) (hn:n<=65536) (op:Int) (dep:Nat) (yf:dep<=65)
include h hn yf
theorem Tv (z:Int) (hz:tH dep op n=some z):Calls prog 125 #[.pointer (some ⟨p,0,none⟩),.int .i64 op,.int .i64 dep] w λe w'=>e=.panicked (gave z)/\AS w0 w':=by
 have H:=aa h;have HF:=λu=>aa (rQ op u);have hlim:n<=65536:=hn;clear h hn;unfold tH at hz;by_cases f0:form op=0
 ·rw [AE f0] at hz;injection hz with hz;subst hz;rw [f0] at HF;clear f0;go_enter func125,ntmps125;go_wp2_with fail;refine (HF _).out.mono ?_;rintro e u ⟨rfl,hb⟩;have HS:=aa (AI.start H.out hb);have c14:=HS.out.rs.cell 14 _ rfl;have f14:=HS.out.rs.ax 14;clear hb HF;go_wp2_with fail;refine (iX _ _).mono ?_;rintro e u ⟨rfl,rfl⟩;exact ⟨rfl,rfl,HS.out.rs.below⟩
 rw [AD f0] at hz;by_cases f10:form op=10
 ·rw [AE f10] at hz;injection hz with hz;subst hz;rw [f10] at HF;clear f0 f10;go_enter func125,ntmps125;go_wp2_with fail;refine (HF _).out.mono ?_;rintro e u ⟨rfl,hb⟩;have HS:=aa (AI.start H.out hb);have c14:=HS.out.rs.cell 14 _ rfl;have f14:=HS.out.rs.ax 14;clear hb HF;go_wp2_with fail;refine (dA _ _).mono ?_;rintro e u ⟨rfl,rfl⟩;go_wp2_with fail;refine (iX _ _).mono ?_;rintro e u ⟨rfl,rfl⟩;exact ⟨rfl,rfl,HS.out.rs.below⟩
 rw [AD f10] at hz;have b0:(form op != 0)=true:=by simp [f0]
 have b10:(form op != 10)=true:=by simp [f10]
 generalize form op=F at *;by_cases hm:65536<n+1
 ·rw [AE hm] at hz;injection hz with hz;subst hz;have q:decide ((n:Int)+1<=65536)=false:=aj;clear f0 f10;go_enter func125,ntmps125;go_wp2_with fail;refine (HF _).out.mono ?_;rintro e u ⟨rfl,hb⟩;have HS:=aa (AI.start H.out hb);have c14:=HS.out.rs.cell 14 _ rfl;have f14:=HS.out.rs.ax 14;clear hb HF;go_wp2_with fail;refine (dA _ _).mono ?_;rintro e u ⟨rfl,rfl⟩;go_wp2_with fail;refine (dA _ _).mono ?_;rintro e u ⟨rfl,rfl⟩;go_wp2_with fail;refine (iX _ _).mono ?_;rintro e u ⟨rfl,rfl⟩;exact ⟨rfl,rfl,by have:=(HS.out.num (n+1)).rs.below;rw [show ((n+1:Nat):Int)=(n:Int)+1 by omega] at this;exact this⟩
 rw [AD hm] at hz;by_cases hq:64<dep
 ·rw [AE hq] at hz;injection hz with hz;subst hz;have q:decide ((n:Int)+1<=65536)=true:=ay;have q2:decide ((dep:Int)<=64)=false:=aj;clear f0 f10;go_enter func125,ntmps125;go_wp2_with fail;refine (HF _).out.mono ?_;rintro e u ⟨rfl,hb⟩;have HS:=aa (AI.start H.out hb);have c14:=HS.out.rs.cell 14 _ rfl;have f14:=HS.out.rs.ax 14;clear hb HF;go_wp2_with fail;refine (dA _ _).mono ?_;rintro e u ⟨rfl,rfl⟩;go_wp2_with fail;refine (dA _ _).mono ?_;rintro e u ⟨rfl,rfl⟩;go_wp2_with fail;refine (dA _ _).mono ?_;rintro e u ⟨rfl,rfl⟩;go_wp2_with fail;refine (iX _ _).mono ?_;rintro e u ⟨rfl,rfl⟩;exact ⟨rfl,rfl,by have:=(HS.out.num (n+1)).rs.below;rw [show ((n+1:Nat):Int)=(n:Int)+1 by omega] at this;exact this⟩
 rw [AD hq] at hz;cases hz
theorem ads {d:Nat} (IH:Cb d) (hd:65<=d+(dep+1)):Calls prog 125 #[.pointer (some ⟨p,0,none⟩),.int .i64 op,.int .i64 dep] w (uI w0 p s c en k (oP w.heap.size d) w (pq (jX s en d (dep+1)) s en dep op i n)):=by
 cases hk:tH dep op n with
 | some z =>
  have e:pq (jX s en d (dep+1)) s en dep op i n=.error z:=by unfold pq;rw [hk]
  rw [e];exact Tv w0 p s c en k i n w h hn op dep yf z hk
 | none =>
  obtain ⟨ju,hd1,f0,f10⟩:=LO hk;have H:=aa h;have HF:=λu=>aa (rQ op u);have fB:=aa IH;have zS:((n+1:Nat):Int)=(n:Int)+1:=by omega
  have q:decide ((n:Int)+1<=65536)=true:=ay;have q2:decide ((dep:Int)<=64)=true:=ay;have b0:(form op != 0)=true:=by simp [f0]
  have b10:(form op != 10)=true:=by simp [f10]
  by_cases f2:form op=2\/form op=3
  ·have e:pq (jX s en d (dep+1)) s en dep op i n=vD (none_ d) s en (jX s en d (dep+1)) op i (n+1):=by
    unfold pq;rw [hk];show (if form op=2\/form op=3 then _ else _)=_;rw [AE f2]
   rw [e];have HK:=λu hu=>aa (Ze IH w0 p s c en k i (n+1) u hu (by omega) op dep hd hd1 f2);clear e h IH hk;have hF:(form op=2/\(form op==2)=true)\/(form op=3/\(form op==2)=false/\(form op==3)=true):=by rcases f2 with f2|f2<;>rw [f2]<;>decide
   clear f0 f10 f2;cases hx:vD (none_ d) s en (jX s en d (dep+1)) op i (n+1) with
   | error z =>
    rw [hx] at HK;clear hx;rcases hF with ⟨hF,g2⟩|⟨hF,g2,g3⟩
    all_goals
     rw [hF] at HF;clear b0 b10 hF;go_enter func125,ntmps125;go_wp2_with fail;refine (HF _).out.mono ?_;rintro e u ⟨rfl,hb⟩;have HS:=aa (AI.start H.out hb);have c14:=HS.out.rs.cell 14 _ rfl;have f14:=HS.out.rs.ax 14;clear hb HF;go_wp2_with fail;refine (dA _ _).mono ?_;rintro e u ⟨rfl,rfl⟩;go_wp2_with fail;refine (dA _ _).mono ?_;rintro e u ⟨rfl,rfl⟩;obtain ⟨t1,ht1⟩:∃t1,t1=u.setCell ⟨p,14,none⟩ (.int .i64 ((n:Int)+1)):=⟨_,rfl⟩;have HT:=aa (HS.out.num (n+1));rw [zS,<- ht1] at HT;have HE:=aa ht1;clear ht1;go_upto_region 5 with fail;rw [<- HE.out];clear HE c14 f14 HS;have c14:=HT.out.rs.cell 14 _ rfl;rw [zS] at c14;go_wp2_with fail;refine (dA _ _).mono ?_;rintro e t1 ⟨rfl,rfl⟩;go_wp2_with fail;refine (dA _ _).mono ?_;rintro e t1 ⟨rfl,rfl⟩;have HC:=HK t1 HT.out.rs;clear HK;go_wp2_with fail;refine HC.out.mono ?_;rintro e w1 ⟨rfl,hb⟩;exact ⟨rfl,rfl,hb⟩
   | ok v =>
    obtain ⟨x,j,m⟩:=v;rw [hx] at HK;clear hx;rcases hF with ⟨hF,g2⟩|⟨hF,g2,g3⟩
    all_goals
     rw [hF] at HF;clear b0 b10 hF;go_enter func125,ntmps125;go_wp2_with fail;refine (HF _).out.mono ?_;rintro e u ⟨rfl,hb⟩;have HS:=aa (AI.start H.out hb);have c14:=HS.out.rs.cell 14 _ rfl;have f14:=HS.out.rs.ax 14;clear hb HF;go_wp2_with fail;refine (dA _ _).mono ?_;rintro e u ⟨rfl,rfl⟩;go_wp2_with fail;refine (dA _ _).mono ?_;rintro e u ⟨rfl,rfl⟩;obtain ⟨t1,ht1⟩:∃t1,t1=u.setCell ⟨p,14,none⟩ (.int .i64 ((n:Int)+1)):=⟨_,rfl⟩;have HT:=aa (HS.out.num (n+1));rw [zS,<- ht1] at HT;have HE:=aa ht1;clear ht1;go_upto_region 5 with fail;rw [<- HE.out];clear HE c14 f14 HS;have c14:=HT.out.rs.cell 14 _ rfl;rw [zS] at c14;go_wp2_with fail;refine (dA _ _).mono ?_;rintro e t1 ⟨rfl,rfl⟩;go_wp2_with fail;refine (dA _ _).mono ?_;rintro e t1 ⟨rfl,rfl⟩;have HC:=HK t1 HT.out.rs;clear HK;go_wp2_with fail;refine HC.out.mono ?_;rintro e u2 ⟨⟨v2,rfl,hv2⟩,h1,h2⟩;obtain ⟨o4,n4,k4,o5,n5,k5,o6,n6,k6,rfl,lZ,eC,ic⟩:=hv2;have aM:=aa (HT.out.call h1 h2);obtain ⟨B,hB,nE⟩:∃B,B=t1.heap.size/\w.heap.size<B:=⟨_,rfl,HT.out.res.lt⟩;rw [<- hB] at lZ eC ic;have HI:=aa lZ;have nC:=aa eC;have xc:=aa ic;clear h1 h2 lZ eC ic hB HT HC;have r0:=aM.out.res.cell 0 _ rfl;have g0:=aM.out.res.ax 0;have r1:=aM.out.res.cell 1 _ rfl;have g1:=aM.out.res.ax 1;have r2:=aM.out.res.cell 2 _ rfl;have g2:=aM.out.res.ax 2;have r3:=aM.out.res.cell 3 _ rfl;have g3:=aM.out.res.ax 3;have r4:=aM.out.res.cell 4 _ rfl;have g4:=aM.out.res.ax 4;have r5:=aM.out.res.cell 5 _ rfl;have g5:=aM.out.res.ax 5;have r6:=aM.out.res.cell 6 _ rfl;have g6:=aM.out.res.ax 6;go_wp2;have z:=tL (v0:=.int .i64 x.op) (v1:=.int .i64 x.a) (v2:=.int .i64 x.b) (v3:=.int .i64 x.n) (v4:=.slice o4 n4 k4) (v5:=.slice o5 n5 k5) (v6:=.slice o6 n6 k6) aM.out.res;have hz:∀j v,#[Value.int .i64 x.op,.int .i64 x.a,.int .i64 x.b,.int .i64 x.n,.slice o4 n4 k4,.slice o5 n5 k5,.slice o6 n6 k6][j]?=some v->(gS _ w.heap.size (.int .i64 x.op) (.int .i64 x.a) (.int .i64 x.b) (.int .i64 x.n) (.slice o4 n4 k4) (.slice o5 n5 k5) (.slice o6 n6 k6)).cell? ⟨w.heap.size,j,none⟩=some v:=λj v hv=>by unfold World.cell?;rw [z];exact hv
     have z0:=hz 0 _ rfl;have z1:=hz 1 _ rfl;have z2:=hz 2 _ rfl;have z3:=hz 3 _ rfl;have z4:=hz 4 _ rfl;have z5:=hz 5 _ rfl;have z6:=hz 6 _ rfl;unfold gS at z0 z1 z2 z3 z4 z5 z6
     exact bodyPost_ret (v:=.agg #[.int .i64 x.op,.int .i64 x.a,.int .i64 x.b,.int .i64 x.n,.slice o4 n4 k4,.slice o5 n5 k5,.slice o6 n6 k6]) (by simp [results,results125,go_sem,z0,z1,z2,z3,z4,z5,z6]) rfl
      ⟨⟨_,rfl,_,_,_,_,_,_,_,_,_,rfl,HI.out.keep (xe nE (by omega)),az.keep (xe nE (by omega)) d _ _ nC.out,az.keep (xe nE (by omega)) d _ _ xc.out⟩,(aM.out.fin _ _ _ _ _ _ _).1,(aM.out.fin _ _ _ _ _ _ _).2⟩
  have hfm:1<=form op/\form op<=9:=aeN op f0 f10
  have e:pq (jX s en d (dep+1)) s en dep op i n=lift (gh (none_ d) s en op i) (n+1):=by
   unfold pq;rw [hk];show (if form op=2\/form op=3 then _ else _)=_;rw [AD f2]
  rw [e];have HK:=λu hu=>aa (Nc w0 p s c en k i (n+1) u hu d op hfm (by omega) (by omega));have g2:(form op==2)=false:=ag (by omega);have g3:(form op==3)=false:=ag (by omega);clear e h IH hk hfm f0 f10 f2;cases hx:gh (none_ d) s en op i with
  | error z =>
   rw [hx] at HK;clear hx;show Calls _ _ _ _ (uI w0 p s c en k (oP w.heap.size d) w (.error z));generalize form op=F at *;go_enter func125,ntmps125;go_wp2_with fail;refine (HF _).out.mono ?_;rintro e u ⟨rfl,hb⟩;have HS:=aa (AI.start H.out hb);have c14:=HS.out.rs.cell 14 _ rfl;have f14:=HS.out.rs.ax 14;clear hb HF;go_wp2_with fail;refine (dA _ _).mono ?_;rintro e u ⟨rfl,rfl⟩;go_wp2_with fail;refine (dA _ _).mono ?_;rintro e u ⟨rfl,rfl⟩;obtain ⟨t1,ht1⟩:∃t1,t1=u.setCell ⟨p,14,none⟩ (.int .i64 ((n:Int)+1)):=⟨_,rfl⟩;have HT:=aa (HS.out.num (n+1));rw [zS,<- ht1] at HT;have HE:=aa ht1;clear ht1;go_upto_region 5 with fail;rw [<- HE.out];clear HE c14 f14 HS;have c14:=HT.out.rs.cell 14 _ rfl;rw [zS] at c14;go_wp2_with fail;refine (dA _ _).mono ?_;rintro e t1 ⟨rfl,rfl⟩;go_wp2_with fail;refine (dA _ _).mono ?_;rintro e t1 ⟨rfl,rfl⟩;have HC:=HK t1 HT.out.rs;clear HK;go_wp2_with fail;refine HC.out.mono ?_;rintro e w1 ⟨rfl,hb⟩;exact ⟨rfl,rfl,hb⟩
  | ok v =>
   obtain ⟨x,j⟩:=v;rw [hx] at HK;clear hx;show Calls _ _ _ _ (uI w0 p s c en k (oP w.heap.size d) w (.ok (x,j,n+1)));generalize form op=F at *;go_enter func125,ntmps125;go_wp2_with fail;refine (HF _).out.mono ?_;rintro e u ⟨rfl,hb⟩;have HS:=aa (AI.start H.out hb);have c14:=HS.out.rs.cell 14 _ rfl;have f14:=HS.out.rs.ax 14;clear hb HF;go_wp2_with fail;refine (dA _ _).mono ?_;rintro e u ⟨rfl,rfl⟩;go_wp2_with fail;refine (dA _ _).mono ?_;rintro e u ⟨rfl,rfl⟩;obtain ⟨t1,ht1⟩:∃t1,t1=u.setCell ⟨p,14,none⟩ (.int .i64 ((n:Int)+1)):=⟨_,rfl⟩;have HT:=aa (HS.out.num (n+1));rw [zS,<- ht1] at HT;have HE:=aa ht1;clear ht1;go_upto_region 5 with fail;rw [<- HE.out];clear HE c14 f14 HS;have c14:=HT.out.rs.cell 14 _ rfl;rw [zS] at c14;go_wp2_with fail;refine (dA _ _).mono ?_;rintro e t1 ⟨rfl,rfl⟩;go_wp2_with fail;refine (dA _ _).mono ?_;rintro e t1 ⟨rfl,rfl⟩;have HC:=HK t1 HT.out.rs;clear HK;go_wp2_with fail;refine HC.out.mono ?_;rintro e u2 ⟨⟨v2,rfl,hv2⟩,h1,h2⟩;obtain ⟨o4,n4,k4,o5,n5,k5,o6,n6,k6,rfl,lZ,eC,ic⟩:=hv2;have aM:=aa (HT.out.call h1 h2);obtain ⟨B,hB,nE⟩:∃B,B=t1.heap.size/\w.heap.size<B:=⟨_,rfl,HT.out.res.lt⟩;rw [<- hB] at lZ eC ic;have HI:=aa lZ;have nC:=aa eC;have xc:=aa ic;clear h1 h2 lZ eC ic hB HT HC;have r0:=aM.out.res.cell 0 _ rfl;have g0:=aM.out.res.ax 0;have r1:=aM.out.res.cell 1 _ rfl;have g1:=aM.out.res.ax 1;have r2:=aM.out.res.cell 2 _ rfl;have g2:=aM.out.res.ax 2;have r3:=aM.out.res.cell 3 _ rfl;have g3:=aM.out.res.ax 3;have r4:=aM.out.res.cell 4 _ rfl;have g4:=aM.out.res.ax 4;have r5:=aM.out.res.cell 5 _ rfl;have g5:=aM.out.res.ax 5;have r6:=aM.out.res.cell 6 _ rfl;have g6:=aM.out.res.ax 6;go_wp2;have z:=tL (v0:=.int .i64 x.op) (v1:=.int .i64 x.a) (v2:=.int .i64 x.b) (v3:=.int .i64 x.n) (v4:=.slice o4 n4 k4) (v5:=.slice o5 n5 k5) (v6:=.slice o6 n6 k6) aM.out.res;have hz:∀j v,#[Value.int .i64 x.op,.int .i64 x.a,.int .i64 x.b,.int .i64 x.n,.slice o4 n4 k4,.slice o5 n5 k5,.slice o6 n6 k6][j]?=some v->(gS _ w.heap.size (.int .i64 x.op) (.int .i64 x.a) (.int .i64 x.b) (.int .i64 x.n) (.slice o4 n4 k4) (.slice o5 n5 k5) (.slice o6 n6 k6)).cell? ⟨w.heap.size,j,none⟩=some v:=λj v hv=>by unfold World.cell?;rw [z];exact hv
   have z0:=hz 0 _ rfl;have z1:=hz 1 _ rfl;have z2:=hz 2 _ rfl;have z3:=hz 3 _ rfl;have z4:=hz 4 _ rfl;have z5:=hz 5 _ rfl;have z6:=hz 6 _ rfl;unfold gS at z0 z1 z2 z3 z4 z5 z6
   exact bodyPost_ret (v:=.agg #[.int .i64 x.op,.int .i64 x.a,.int .i64 x.b,.int .i64 x.n,.slice o4 n4 k4,.slice o5 n5 k5,.slice o6 n6 k6]) (by simp [results,results125,go_sem,z0,z1,z2,z3,z4,z5,z6]) rfl
    ⟨⟨_,rfl,_,_,_,_,_,_,_,_,_,rfl,HI.out.keep (xe nE (by omega)),az.keep (xe nE (by omega)) d _ _ nC.out,az.keep (xe nE (by omega)) d _ _ xc.out⟩,(aM.out.fin _ _ _ _ _ _ _).1,(aM.out.fin _ _ _ _ _ _ _).2⟩
end
namespace aI
def ug {α:Type} (l:List α) (x:R2 (List α × Int)):R2 (List α × Int):=fU x λr j m=>.ok ((l++r.1,r.2),j,m)
theorem adt {α:Type} (x:R2 (List α × Int)):ug [] x=x:=by
 unfold ug fU;cases x with
 | error e=>rfl
 | ok v=>rfl
section
variable {d:Nat} {sub:Nat->Nat->R2 (IL d × Int)} {s:AH} {en dep f i n:Nat} {l:List (Ins (IL d))}
theorem adu {z:Int} (h:nx s en i=.error z):ug l (jN sub s en dep (f+1) i n)=.error z:=by
 unfold ug jN;rw [h];rfl
theorem adv {op:Int} {j:Nat} (h:nx s en i=.ok (op,j)) (ho:op=11\/op=5):ug l (jN sub s en dep (f+1) i n)=.ok ((l,op),j,n):=by
 unfold ug jN;rw [h];show fU (if op=11\/op=5 then _ else _) _=_;rw [AE ho];show (Except.ok ((l++[],op),j,n):R2 (List (Ins (IL d)) × Int))=_;rw [List.append_nil]
theorem adw {op:Int} {j:Nat} {z:Int} (h:nx s en i=.ok (op,j)) (ho:¬ (op=11\/op=5)) (hr:pq sub s en dep op j n=.error z):ug l (jN sub s en dep (f+1) i n)=.error z:=by
 unfold ug jN;rw [h];show fU (if op=11\/op=5 then _ else _) _=_;rw [AD ho,hr];rfl
theorem adx {op:Int} {j m n2:Nat} {x:Ins (IL d)} (h:nx s en i=.ok (op,j)) (ho:¬ (op=11\/op=5)) (hr:pq sub s en dep op j n=.ok (x,m,n2)):ug l (jN sub s en dep (f+1) i n)=ug (l++[x]) (jN sub s en dep f m n2):=by
 unfold ug;rw [jN,h];show fU (if op=11\/op=5 then _ else _) _=_;rw [AD ho,hr];show fU (fU (jN sub s en dep f m n2) _) _=_;cases jN sub s en dep f m n2 with
 | error e=>rfl
 | ok v=>obtain ⟨a,b,e⟩:=v;show (Except.ok ((l++x :: a.1,a.2),b,e):R2 (List (Ins (IL d)) × Int))=.ok ((l++[x]++a.1,a.2),b,e);simp
end
theorem wC {B p:Nat} {row:Option Nat} {u u2:AG} (hp:p<B) (h:But p u u2):∀k,Since B u row k->Since B u2 row k/\u2.heap[k]?=u.heap[k]?:=λk hk =>
 ⟨⟨hk.1,jg hk.2.1 h.size,hk.2.2⟩,h.block k hk.2.1 (λe=>by injection e with e;have:=hk.1;omega)⟩
theorem xz {B B2:Nat} {row:Option Nat} {u:AG} (hB:B<=B2) (hr:∀k,row=some k->k<B2):∀k,Since B2 u none k->Since B u row k/\u.heap[k]?=u.heap[k]?:=λk hk =>
 ⟨⟨eU hB hk.1,hk.2.1,λe=>by have:=hr k e.symm;have:=hk.1;omega⟩,rfl⟩
theorem ady {d:Nat} (w:AG) (x:Ins (IL d)) (v4 v5 v6:Value):∀j u,(sJ (Bw x v4 v5 v6))[j]?=some u->(w.alloc (.cells #[.int .i64 x.op,.int .i64 x.a,.int .i64 x.b,.int .i64 x.n,v4,v5,v6] 59)).cell? ((⟨w.heap.size,0,none⟩:Addr).add j)=some u :=
 acN (fG.new w w.heap.size x.op x.a x.b x.n v4 v5 v6 rfl)
end aI
theorem adz:Cb 0:=by
 intro w0 p s c en k i n w dep h hn hd yf;have hN:=xO w0 p s c en k i n w h;have e:jX s en 0 dep i n=fU (lift (nx s en i) n) λop j n1=>if op=11\/op=5 then .ok (((),op),j,n1) else .error ((tH dep op n1).getD 4):=rfl;rw [e];clear e;cases hx:nx s en i with
 | error z =>
  rw [hx] at hN;have HN:=aa hN;show Calls _ _ _ _ (uI w0 p s c en k (Hw w.heap.size 0) w (.error z));clear hN hx;go_enter func114,ntmps114;go_wp2_with fail;go_loopw [4] (λt wr=>t=.slice none 0 0/\wr=w) (λ_ _=>0)
  case atStart=>exact ⟨rfl,rfl⟩
  case round =>
   obtain ⟨rfl,rfl⟩:=hrel;go_wp2_with fail;refine HN.out.mono ?_;rintro e w1 ⟨rfl,hb⟩;exact ⟨rfl,rfl,hb⟩
 | ok v =>
  obtain ⟨op,j⟩:=v;rw [hx] at hN;have HN:=aa hN;show Calls _ _ _ _ (uI w0 p s c en k (Hw w.heap.size 0) w (if op=11\/op=5 then .ok (((),op),j,n) else .error ((tH dep op n).getD 4)));clear hN;by_cases ho:op=11\/op=5
  ·rw [AE ho];have hq:(op==11)=true\/((op==11)=false/\(op==5)=true):=by rcases ho with rfl|rfl<;>decide
   clear ho hx;rcases hq with q1|⟨q1,q2⟩
   all_goals
    go_enter func114,ntmps114;go_wp2_with fail;go_loopw [4] (λt wr=>t=.slice none 0 0/\wr=w) (λ_ _=>0)
    case atStart=>exact ⟨rfl,rfl⟩
    case round =>
     obtain ⟨rfl,rfl⟩:=hrel;go_wp2_with fail;refine HN.out.mono ?_;rintro e w1 ⟨⟨v,rfl,hv⟩,h1,h2⟩;have hv:v=.int .i64 op:=hv;subst hv;have HF:=aa (⟨h1,h2⟩:_/\_);clear h1 h2 HN;go_wp2;go_ret2;exact ⟨⟨_,rfl,none,0,0,rfl,⟨none,0,rfl⟩⟩,HF.out.1,HF.out.2⟩
  rw [AD ho];have q1:(op==11)=false:=ag (by omega);have q2:(op==5)=false:=ag (by omega)
  obtain ⟨z,hz⟩:∃z,tH dep op n=some z:=by
   cases hk:tH dep op n with
   | some z=>exact ⟨z,rfl⟩
   | none=>have:=LO hk;omega
  rw [hz];show Calls _ _ _ _ (uI w0 p s c en k (Hw w.heap.size 0) w (.error z));have HA:=λu hu=>aa (Tv w0 p s c en k j n u hu hn op dep yf z hz);clear ho hx hz;go_enter func114,ntmps114;go_wp2_with fail;go_loopw [4] (λt wr=>t=.slice none 0 0/\wr=w) (λ_ _=>0)
  case atStart=>exact ⟨rfl,rfl⟩
  case round =>
   obtain ⟨rfl,rfl⟩:=hrel;go_wp2_with fail;refine HN.out.mono ?_;rintro e w1 ⟨⟨v,rfl,hv⟩,h1,h2⟩;have hv:v=.int .i64 op:=hv;subst hv;have HC:=HA w1 h1;clear h1 h2 HN HA;go_wp2_with fail;refine HC.out.mono ?_;rintro e w2 ⟨rfl,hb⟩;exact ⟨rfl,rfl,hb⟩
end Go.Proofs.YtcfifbgemfladaaGreatDoor
