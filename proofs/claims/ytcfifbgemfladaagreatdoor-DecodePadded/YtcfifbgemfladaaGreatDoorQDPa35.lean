/- Texts that the claim needs. -/
import Derived.Test.YtcfifbgemfladaaGreatDoorQDPa33
import Derived.Test.YtcfifbgemfladaaGreatDoorQDPa34
import Derived.Test.YtcfifbgemfladaaGreatDoorQDPa6
import Derived.Test.YtcfifbgemfladaaGreatDoorQDPa21
namespace Go.Proofs.YtcfifbgemfladaaGreatDoor
open Go.RowKit au Enc Go.Lib Go.Proofs.Tryz
set_option linter.unusedVariables false
set_option maxRecDepth 100000
set_option maxHeartbeats 4000000
theorem MQ (w0:AG) (p:Nat) (ov:Bool) (v:Value) (bs id:List Int) {d:Nat} (IH:mg w0 p d) (x:Ins (IL d)) (q4 q5 q6:Option Addr) (y4 z4 y5 z5 y6 z6:Nat) (w:AG) (h:PS w0 p ov v bs w) (hS:St id ov bs) (he:size d x.els=y6) (a4:Ints w0 (.slice q4 y4 z4) x.labels) (a5:At w0 d (.slice q5 y5 z5) x.body) (a6:At w0 d (.slice q6 y6 z6) x.els) (r:dK (Rg d) x) :
  Calls prog 105 #[.pointer (some ⟨p,0,none⟩),.agg #[.int .i64 x.op,.int .i64 x.a,.int .i64 x.b,.int .i64 x.n,.slice q4 y4 z4,.slice q5 y5 z5,.slice q6 y6 z6]] w (fI w0 p v w (id++fS (aW d) (size d) x)):=by
 have key:∀t,fS (aW d) (size d) x=t->Calls prog 105 #[.pointer (some ⟨p,0,none⟩),.agg #[.int .i64 x.op,.int .i64 x.a,.int .i64 x.b,.int .i64 x.n,.slice q4 y4 z4,.slice q5 y5 z5,.slice q6 y6 z6]] w (fI w0 p v w (id++t))->Calls prog 105 #[.pointer (some ⟨p,0,none⟩),.agg #[.int .i64 x.op,.int .i64 x.a,.int .i64 x.b,.int .i64 x.n,.slice q4 y4 z4,.slice q5 y5 z5,.slice q6 y6 z6]] w (fI w0 p v w (id++fS (aW d) (size d) x)):=λt e hc=>by rw [e];exact hc
 have hF:form x.op=1\/form x.op=2\/form x.op=3\/form x.op=4\/form x.op=5\/form x.op=6\/form x.op=7\/form x.op=8\/form x.op=9\/(form x.op<1\/9<form x.op):=by omega
 rcases hF with hf|hf|hf|hf|hf|hf|hf|hf|hf|hf
 ·by_cases h63:x.op=63
  ·exact key _ (by unfold fS;rw [AE hf,AE (.inl h63)]) (adW w0 p ov v bs id IH x q4 q5 q6 y4 z4 y5 z5 y6 z6 w h hS hf (by simp [h63]) a4 a5 a6 r)
  by_cases h64:x.op=64
  ·exact key _ (by unfold fS;rw [AE hf,AE (.inr h64)]) (adX w0 p ov v bs id IH x q4 q5 q6 y4 z4 y5 z5 y6 z6 w h hS hf (by simp [h63]) (by simp [h64]) a4 a5 a6 r)
  exact key _ (by unfold fS;rw [AE hf,AD (by omega)];simp) (S9 w0 p ov v bs id IH x q4 q5 q6 y4 z4 y5 z5 y6 z6 w h hS 1 hf (by omega) (by simp [h63]) (by simp [h64]) a4 a5 a6 r)
 ·have e0:fS (aW d) (size d) x = [x.op%256]++Cw x:=by unfold fS Cw;rw [AD (by omega),AE (.inl hf)]
  rw [e0];unfold Cw;by_cases ha:x.a=0
  ·rw [AE ha];by_cases hy:0<y6
   ·rw [AE (by omega)]
    have:=abI w0 p ov v bs id IH x q4 q5 q6 y4 z4 y5 z5 y6 z6 w h hS hf (by simp [ha]) hy a4 a5 a6 r
    simpa [bw] using this
   rw [AD (by omega)]
   have:=abH w0 p ov v bs id IH x q4 q5 q6 y4 z4 y5 z5 y6 z6 w h hS hf (by simp [ha]) (by omega) a4 a5 a6 r
   simpa [bw] using this
  rw [AD ha];by_cases hy:0<y6
  ·rw [AE (by omega)]
   have:=abK w0 p ov v bs id IH x q4 q5 q6 y4 z4 y5 z5 y6 z6 w h hS hf (by simp [ha]) hy a4 a5 a6 r
   simpa [bw] using this
  rw [AD (by omega)]
  have:=abJ w0 p ov v bs id IH x q4 q5 q6 y4 z4 y5 z5 y6 z6 w h hS hf (by simp [ha]) (by omega) a4 a5 a6 r
  simpa [bw] using this
 ·have e0:fS (aW d) (size d) x = [x.op%256]++Cw x:=by unfold fS Cw;rw [AD (by omega),AE (.inr hf)]
  rw [e0];unfold Cw;by_cases ha:x.a=0
  ·rw [AE ha];by_cases hy:0<y6
   ·rw [AE (by omega)]
    have:=adY w0 p ov v bs id IH x q4 q5 q6 y4 z4 y5 z5 y6 z6 w h hS hf (by simp [ha]) hy a4 a5 a6 r
    simpa [bw] using this
   rw [AD (by omega)]
   have:=adZ w0 p ov v bs id IH x q4 q5 q6 y4 z4 y5 z5 y6 z6 w h hS hf (by simp [ha]) (by omega) a4 a5 a6 r
   simpa [bw] using this
  rw [AD ha];by_cases hy:0<y6
  ·rw [AE (by omega)]
   have:=ad0 w0 p ov v bs id IH x q4 q5 q6 y4 z4 y5 z5 y6 z6 w h hS hf (by simp [ha]) hy a4 a5 a6 r
   simpa [bw] using this
  rw [AD (by omega)]
  have:=ad1 w0 p ov v bs id IH x q4 q5 q6 y4 z4 y5 z5 y6 z6 w h hS hf (by simp [ha]) (by omega) a4 a5 a6 r
  simpa [bw] using this
 ·exact key _ (by unfold fS;rw [AD (by omega),AD (by omega),AE (.inl hf)]) (ad2 w0 p ov v bs id IH x q4 q5 q6 y4 z4 y5 z5 y6 z6 w h hS hf a4 a5 a6 r)
 ·exact key _ (by unfold fS;rw [AD (by omega),AD (by omega),AD (by omega),AE hf,<- bw]) (ad3 w0 p ov v bs id IH x q4 q5 q6 y4 z4 y5 z5 y6 z6 w h hS hf a4 a5 a6 r)
 ·exact key _ (by unfold fS;rw [AD (by omega),AD (by omega),AE (.inr hf)]) (ad4 w0 p ov v bs id IH x q4 q5 q6 y4 z4 y5 z5 y6 z6 w h hS hf a4 a5 a6 r)
 ·exact key _ (by unfold fS;rw [AD (by omega),AD (by omega),AD (by omega),AD (by omega),AE hf,<- bw]) (ad5 w0 p ov v bs id IH x q4 q5 q6 y4 z4 y5 z5 y6 z6 w h hS hf a4 a5 a6 r)
 ·exact key _ (by unfold fS;rw [AD (by omega),AD (by omega),AD (by omega),AD (by omega),AD (by omega),AE hf,<- bw]) (ad6 w0 p ov v bs id IH x q4 q5 q6 y4 z4 y5 z5 y6 z6 w h hS hf a4 a5 a6 r)
 ·exact key _ (by unfold fS;rw [AD (by omega),AD (by omega),AD (by omega),AD (by omega),AD (by omega),AD (by omega),AE hf]) (ad7 w0 p ov v bs id IH x q4 q5 q6 y4 z4 y5 z5 y6 z6 w h hS hf a4 a5 a6 r)
 by_cases h63:x.op=63
 ·exfalso
  have:form x.op=1:=by rw [h63];decide
  omega
 by_cases h64:x.op=64
 ·exfalso
  have:form x.op=1:=by rw [h64];decide
  omega
 exact key _ (by unfold fS;rw [AD (by omega),AD (by omega),AD (by omega),AD (by omega),AD (by omega),AD (by omega),AD (by omega)];simp) (S9 w0 p ov v bs id IH x q4 q5 q6 y4 z4 y5 z5 y6 z6 w h hS _ rfl (by omega) (by simp [h63]) (by simp [h64]) a4 a5 a6 r)
theorem ad8 (w0:AG) (p:Nat) (d:Nat) (IH:mg w0 p d):mg w0 p (d+1):=by
 intro lv l0 ov v bs id w h hS Ea jT;obtain ⟨l,rfl⟩:∃l:List (Ins (IL d)),l=l0:=⟨l0,rfl⟩;have hA:Row 7 (fM w0 (At w0 d)) lv l:=Ea;have hR:∀x,x ∈ l->dK (Rg d) x:=jT;clear Ea jT;show Calls prog 90 #[.pointer (some ⟨p,0,none⟩),lv] w (fI w0 p v w (id++mF (aW d) (size d) l));obtain ⟨oL,kL,rfl⟩:=Row.len hA;have la:=hA.1;have HA:=aa hA;have HR:=aa hR;have fB:=aa IH;have Ta:=aa h;have Tc:=aa hS;clear hA hR IH h hS;generalize hna:l.length=n at *;have dB:=aa hna;go_enter func90,ntmps90;go_wp2_with fail;go_loopw [4] (λi wr=>∃(j:Nat) (aV:Bool) (v3:Value) (b3:List Int),j<=n/\i=.int .i64 j/\Hid (PS w0 p aV v3 b3 wr)/\Hid (St (id++mF (aW d) (size d) (l.take j)) aV b3)/\Hid (Kept p v w v3 wr)) (λi _=>n-(Lib.intOf i).toNat)
 case atStart=>exact ⟨0,ov,v,bs,by omega,rfl,Ta,aa (by simpa [mF] using Tc.out),aa (Kept.refl _ _ _)⟩
 case round =>
  clear Ta Tc;obtain ⟨j,aV,v3,b3,hj,rfl,gQ,HST,oF⟩:=hrel;have ko:=gQ.out.uo;by_cases hgo:j<n
  ·obtain ⟨b1,aY,kG,hv1,hx1⟩:=Row.some HA.out (by omega);injection hv1 with dX e11 e12;subst dX;clear e11 e12;obtain ⟨x,hxk⟩:∃x,l[j]?=some x:=⟨_,bG (by omega)⟩;have pW:=aa hxk;obtain ⟨iY,jP,mo,zN,⟨v4,zO,kX⟩,⟨v5,zP,kY⟩,⟨v6,zQ,kZ⟩⟩:=hx1 j x hxk;clear hx1 hxk;obtain ⟨q4,z4,rfl⟩:=Row.len kX;obtain ⟨q5,z5,rfl⟩:=At.len d _ _ kY;obtain ⟨q6,z6,rfl⟩:=At.len d _ _ kZ;have FM:=ak gQ.out.below iY;have Iu:=ak gQ.out.below jP;have Uk:=ak gQ.out.below mo;have Ul:=ak gQ.out.below zN;have Um:=ak gQ.out.below zO;have Un:=ak gQ.out.below zP;have Uo:=ak gQ.out.below zQ;clear iY jP mo zN zO zP zQ;cases aV with
   | true =>
    have HF:Hid (St (id++mF (aW d) (size d) l) true b3):=aa (by
     have h1:=(HST.out.more rfl (mF (aW d) (size d) (l.drop j)));unfold mF at h1 ⊢;rw [bw,<- zx,List.take_append_drop] at h1;exact h1)
    go_wp2;go_end0;exact ⟨_,_,_,rfl,gQ.out,HF.out,oF.out⟩
   | false =>
    have HC:=aa (MQ w0 p false v3 b3 _ fB.out x q4 q5 q6 _ z4 _ z5 _ z6 wr gQ.out HST.out rfl kX kY kZ (HR.out x (iF pW.out)));clear kX kY kZ;generalize Ac:x.labels.length=y4 at *;generalize Ad:size d x.body=y5 at *;generalize Ae:size d x.els=y6 at *;go_wp2_with fail;refine HC.out.mono ?_;rintro e w4 ⟨cZ,v4,b4,rfl,h4,s4,k4⟩;have bP:=aa h4;have jc:Hid (St (id++mF (aW d) (size d) (l.take (j+1))) cZ b4):=aa (by rw [ad9 pW.out,<- bw];exact s4);have fW:=aa (oF.out.trans k4);clear h4 s4 k4 HC;go_wp2;go_roundw
    case rel=>exact ⟨j+1,cZ,v4,b4,by omega,by go_num,bP,jc,fW⟩
    case measure=>simp [Lib.intOf];omega
  obtain rfl:n=j:=by omega
  have HF:Hid (St (id++mF (aW d) (size d) l) aV b3):=aa (by
   have h1:=HST.out;rw [qm (by have:=dB.out;omega)] at h1;exact h1)
  go_wp2;go_end0;exact ⟨_,_,_,rfl,gQ.out,HF.out,oF.out⟩
theorem aea (w0:AG) (p:Nat):mg w0 p 0:=by
 rintro lv l ov v bs id w h hS ⟨oL,kL,rfl⟩ _;have HS:=aa h;have HT:Hid (St (id++aW 0 l) ov bs):=aa (by show St (id++[]) ov bs;rw [List.append_nil];exact hS);clear h hS;go_enter func90,ntmps90;go_wp2_with fail;go_loopw [4] (λi wr=>i=.int .i64 0/\wr=w) (λ_ _=>0)
 case atStart=>exact ⟨rfl,rfl⟩
 case round =>
  obtain ⟨rfl,rfl⟩:=hrel;go_wp2;go_end0;exact ⟨_,_,_,rfl,HS.out,HT.out,Kept.refl _ _ _⟩
theorem Iz (w0:AG) (p:Nat):∀d,mg w0 p d
 | 0=>aea w0 p
 | d+1=>ad8 w0 p d (Iz w0 p d)
theorem Ug (w0:AG) (p:Nat) (d:Nat) (lv:Value) (l:IL d) (ov:Bool) (v:Value) (bs id:List Int) (w:AG) (h:PS w0 p ov v bs w) (hS:St id ov bs) (hA:At w0 d lv l) (hR:Rg d l) :
  Calls prog 66 #[.pointer (some ⟨p,0,none⟩),lv] w (fI w0 p v w (id++(aW d l++[11]))):=by
 obtain ⟨oL,kL,rfl⟩:=At.len d _ _ hA;have HC:=aa (Iz w0 p d _ l ov v bs id w h hS hA hR);clear h hS hA hR;generalize size d l=n at *;go_enter func66,ntmps66;go_wp2_with fail;refine HC.out.mono ?_;rintro e w1 ⟨cf,v1,b1,rfl,h1,s1,k1⟩;have bg:=aa (dh w0 p cf v1 b1 _ 11 w1 h1 s1);have HK:=aa k1;clear h1 s1 k1 HC;go_wp2_with fail;refine bg.out.mono ?_;rintro e w2 ⟨bX,v2,b2,rfl,h2,s2,k2⟩;have HF:=aa (⟨h2,by rw [<- bw];exact s2,HK.out.trans k2⟩:PS w0 p bX v2 b2 w2/\St (id++(aW d l++[11])) bX b2/\Kept p v w v2 w2);clear h2 s2 k2 bg HK;go_wp2;go_end0;exact ⟨_,_,_,rfl,HF.out.1,HF.out.2.1,HF.out.2.2⟩
theorem Uj (w0:AG) (p:Nat) (d:Nat) (b1 kL:Nat) (x:Ins (IL d)) (ov:Bool) (v:Value) (bs id:List Int) (w:AG) (h:PS w0 p ov v bs w) (hS:St id ov bs) (hA:Iv w w0 d b1 0 x) (hq:b1<w.heap.size) (Iw:b1≠p) (Iy:some b1≠v.ownBlock) (hR:dK (Rg d) x) :
  Calls prog 90 #[.pointer (some ⟨p,0,none⟩),.slice (some ⟨b1,0,none⟩) 1 kL] w (fI w0 p v w (id++fS (aW d) (size d) x)):=by
 obtain ⟨FM,Iu,Uk,Ul,⟨v4,Um,kX⟩,⟨v5,Un,kY⟩,⟨v6,Uo,kZ⟩⟩:=hA;obtain ⟨q4,z4,rfl⟩:=Row.len kX;obtain ⟨q5,z5,rfl⟩:=At.len d _ _ kY;obtain ⟨q6,z6,rfl⟩:=At.len d _ _ kZ;have ko:=h.uo;cases ov with
 | true =>
  have HF:Hid (PS w0 p true v bs w/\St (id++fS (aW d) (size d) x) true bs):=aa ⟨h,hS.more rfl _⟩;clear h hS kX kY kZ hR;go_enter func90,ntmps90;go_wp2_with fail;refine wp_loop_rounds 1 ?_;rw [rounds_succ];go_wp2;go_end0;exact ⟨_,_,_,rfl,HF.out.1,HF.out.2,Kept.refl _ _ _⟩
 | false =>
  have HC:=aa (MQ w0 p false v bs id (Iz w0 p d) x q4 q5 q6 _ z4 _ z5 _ z6 w h hS rfl kX kY kZ hR);clear h hS kX kY kZ hR;generalize Ac:x.labels.length=y4 at *;generalize Ad:size d x.body=y5 at *;generalize Ae:size d x.els=y6 at *;go_enter func90,ntmps90;go_wp2_with fail;refine wp_loop_rounds 2 ?_;rw [rounds_succ];go_wp2_with fail;refine HC.out.mono ?_;rintro e w4 ⟨cZ,v4,b4,rfl,h4,s4,k4⟩;have ko4:=h4.uo;have HF:=aa (⟨h4,s4,k4⟩:PS w0 p cZ v4 b4 w4/\St (id++fS (aW d) (size d) x) cZ b4/\Kept p v w v4 w4);clear h4 s4 k4 HC;go_wp2_with fail;rw [rounds_succ];go_wp2;go_end0;exact ⟨_,_,_,rfl,HF.out.1,HF.out.2.1,HF.out.2.2⟩
theorem G7 (w0:AG) (p:Nat) (d:Nat) (b1 kL:Nat) (x:Ins (IL d)) (ov:Bool) (v:Value) (bs id:List Int) (w:AG) (h:PS w0 p ov v bs w) (hS:St id ov bs) (hA:Iv w w0 d b1 0 x) (hq:b1<w.heap.size) (Iw:b1≠p) (Iy:some b1≠v.ownBlock) (hR:dK (Rg d) x) :
  Calls prog 66 #[.pointer (some ⟨p,0,none⟩),.slice (some ⟨b1,0,none⟩) 1 kL] w (fI w0 p v w (id++(fS (aW d) (size d) x++[11]))):=by
 have HC:=aa (Uj w0 p d b1 kL x ov v bs id w h hS hA hq Iw Iy hR);clear h hS hA hR hq Iw Iy;go_enter func66,ntmps66;go_wp2_with fail;refine HC.out.mono ?_;rintro e w1 ⟨cf,v1,b1,rfl,h1,s1,k1⟩;have bg:=aa (dh w0 p cf v1 b1 _ 11 w1 h1 s1);have HK:=aa k1;clear h1 s1 k1 HC;go_wp2_with fail;refine bg.out.mono ?_;rintro e w2 ⟨bX,v2,b2,rfl,h2,s2,k2⟩;have HF:=aa (⟨h2,by rw [<- bw];exact s2,HK.out.trans k2⟩:PS w0 p bX v2 b2 w2/\St (id++(fS (aW d) (size d) x++[11])) bX b2/\Kept p v w v2 w2);clear h2 s2 k2 bg HK;go_wp2;go_end0;exact ⟨_,_,_,rfl,HF.out.1,HF.out.2.1,HF.out.2.2⟩
namespace Enc
def kT (w:AG) (id:List Int) (e:Ending) (w':AG):Prop:=∃q ov v bs,e=.returned (.pointer (some ⟨q,0,none⟩))/\PS w q ov v bs w'/\St id ov bs
end Enc
theorem xN (n:Int) (w:AG) (h0:0<=n) (h1:n<=9223372036854775807):Calls prog 43 #[.int .i64 n] w (kT w (af.uB n)):=by
 have HC:=aa (dU w w.heap.size false (.slice none 0 0) [] [] n _ (PS.new w) St.nil h0 h1);go_enter func43,ntmps43;go_wp2_with fail;refine HC.out.mono ?_;rintro e w1 ⟨cf,v1,b1,rfl,h1,s1,k1⟩;have HF:=aa (⟨h1,s1⟩:PS w w.heap.size cf v1 b1 w1/\St ([]++af.uB n) cf b1);clear h1 s1 k1 HC;go_wp2;go_ret;exact ⟨_,_,_,_,rfl,HF.out.1,HF.out.2⟩
namespace Enc
def qz (f:List Int) (x:gu):List Int:=f++eT x
end Enc
theorem aeb (w0:AG) (p:Nat) (ov:Bool) (v:Value) (bs id:List Int) (lv:Value) (l:List gu) (s:AH) (w:AG) (h:PS w0 p ov v bs w) (hS:St id ov bs) (hL:Row 3 (mG w0) lv l) (hr:∀x ∈ l,(0<=x.min/\x.min<=4294967295)/\0<=x.max/\x.max<=4294967295) (hs:s.size<=1000) :
  Calls prog 65 #[.pointer (some ⟨p,0,none⟩),lv,.string s] w (fI w0 p v w (id++aG (qz (nums s)) l)):=by
 obtain ⟨oL,kL,rfl⟩:=Row.len hL;have la:=hL.1;have aN:=aa (dU w0 p ov v bs id (l.length:Int) w h hS (by omega) (by omega));have HL:=aa hL;have HR:=aa hr;clear h hS hL hr;generalize hna:l.length=n at *;have dB:=aa hna;obtain ⟨u0,hu0⟩:∃u0,af.uB (n:Int)=u0:=⟨_,rfl⟩;rw [hu0] at aN;have lN:=aa hu0;clear hu0;go_enter func65,ntmps65;go_wp2_with fail;refine aN.out.mono ?_;rintro e w1 ⟨cf,v1,b1,rfl,h1,s1,k1⟩;have uW:=aa h1;have uX:=aa s1;have bJ:=aa k1;clear h1 s1 k1 aN;go_wp2_with fail;go_loopw [6] (λi wr=>∃(j:Nat) (aV:Bool) (v3:Value) (b3:List Int),j<=n/\i=.int .i64 j/\Hid (PS w0 p aV v3 b3 wr)/\Hid (St (id++u0++(l.take j).flatMap (qz (nums s))) aV b3)/\Hid (Kept p v w v3 wr)) (λi _=>n-(Lib.intOf i).toNat)
 case atStart=>exact ⟨0,cf,v1,b1,by omega,rfl,uW,aa (by simpa using uX.out),bJ⟩
 case round =>
  clear uW uX bJ;obtain ⟨j,aV,v3,b3,hj,rfl,gQ,HST,oF⟩:=hrel;by_cases hgo:j<n
  ·obtain ⟨b1,aY,kG,hv1,hx1⟩:=Row.some HL.out (by omega);injection hv1 with dX e11 e12;subst dX;clear e11 e12;obtain ⟨x,hxk⟩:∃x,l[j]?=some x:=⟨_,bG (by omega)⟩;have HX:=aa (hx1 j x hxk);have iB:=aa (HR.out x (iF hxk));have jI:Hid ((l.take (j+1)).flatMap (qz (nums s))=(l.take j).flatMap (qz (nums s))++qz (nums s) x):=aa (um hxk);clear hxk hx1;have HC:=aa (Ck w0 p aV v3 b3 _ s wr gQ.out HST.out (by omega));go_wp2_with fail;refine HC.out.mono ?_;rintro e w4 ⟨cZ,v4,b4,rfl,h4,s4,k4⟩;have jD:=aa h4;have Ht:=aa s4;have fW:=aa (oF.out.trans k4);clear h4 s4 k4 HC gQ HST oF;have iY:=ak jD.out.below HX.out.min;have jP:=ak jD.out.below HX.out.max;have mo:=ak jD.out.below HX.out.has;obtain ⟨Td,aec,aed⟩:=x;simp only at iY jP mo;cases aed with
   | true =>
    have HC:=aa (dh w0 p cZ v4 b4 _ 1 w4 jD.out Ht.out);go_wp2_with fail;refine HC.out.mono ?_;rintro e w5 ⟨gA,v5,b5,rfl,h5,s5,k5⟩;have mM:=aa h5;have xj:=aa s5;have kH:=aa (fW.out.trans k5);clear h5 s5 k5 HC jD Ht fW iY jP mo;have iY:=ak mM.out.below HX.out.min;have HC:=aa (dU w0 p gA v5 b5 _ Td w5 mM.out xj.out iB.out.1.1 (by have:=iB.out.1.2;omega));simp only at iY;go_wp2_with fail;refine HC.out.mono ?_;rintro e w6 ⟨iD,v6,b6,rfl,h6,s6,k6⟩;have wo:=aa h6;have Fh:=aa s6;have rR:=aa (kH.out.trans k6);clear h6 s6 k6 HC mM xj kH iY;have jP:=ak wo.out.below HX.out.max;have HC:=aa (dU w0 p iD v6 b6 _ aec w6 wo.out Fh.out iB.out.2.1 (by have:=iB.out.2.2;omega));simp only at jP;go_wp2_with fail;refine HC.out.mono ?_;rintro e w7 ⟨tq,v7,b7,rfl,h7,s7,k7⟩;have LH:=aa h7;have LJ:Hid (St (id++u0++(l.take (j+1)).flatMap (qz (nums s))) tq b7):=aa (by rw [jI.out];simpa [qz,eT,one,bw] using s7);have LK:=aa (rR.out.trans k7);clear h7 s7 k7 HC wo Fh rR jP;go_wp2;go_roundw
    case rel=>exact ⟨j+1,tq,v7,b7,by omega,by go_num,LH,LJ,LK⟩
    case measure=>simp [Lib.intOf];omega
   | false =>
    have HC:=aa (dh w0 p cZ v4 b4 _ 0 w4 jD.out Ht.out);go_wp2_with fail;refine HC.out.mono ?_;rintro e w5 ⟨gA,v5,b5,rfl,h5,s5,k5⟩;have mM:=aa h5;have xj:=aa s5;have kH:=aa (fW.out.trans k5);clear h5 s5 k5 HC jD Ht fW iY jP mo;have iY:=ak mM.out.below HX.out.min;have HC:=aa (dU w0 p gA v5 b5 _ Td w5 mM.out xj.out iB.out.1.1 (by have:=iB.out.1.2;omega));simp only at iY;go_wp2_with fail;refine HC.out.mono ?_;rintro e w7 ⟨tq,v7,b7,rfl,h7,s7,k7⟩;have LH:=aa h7;have LJ:Hid (St (id++u0++(l.take (j+1)).flatMap (qz (nums s))) tq b7):=aa (by rw [jI.out];simpa [qz,eT,one,bw] using s7);have LK:=aa (kH.out.trans k7);clear h7 s7 k7 HC mM xj kH iY;go_wp2;go_roundw
    case rel=>exact ⟨j+1,tq,v7,b7,by omega,by go_num,LH,LJ,LK⟩
    case measure=>simp [Lib.intOf];omega
  obtain rfl:n=j:=by omega
  have HF:Hid (St (id++aG (qz (nums s)) l) aV b3):=aa (by
   have h1:=HST.out;rw [qm (by have:=dB.out;omega),bw] at h1;unfold aG;rw [dB.out,lN.out];exact h1)
  go_wp2;go_end0;exact ⟨_,_,_,rfl,gQ.out,HF.out,oF.out⟩
theorem Nn (lv:Value) (l:List gu) (s:AH) (w:AG) (hL:Row 3 (mG w) lv l) (hr:∀x ∈ l,(0<=x.min/\x.min<=4294967295)/\0<=x.max/\x.max<=4294967295) (hs:s.size<=1000) :
  Calls prog 40 #[lv,.string s] w (kT w (aG (qz (nums s)) l)):=by
 obtain ⟨oL,kL,rfl⟩:=Row.len hL;have HC:=aa (aeb w w.heap.size false (.slice none 0 0) [] [] _ l s _ (PS.new w) St.nil hL hr hs);clear hL hr;generalize l.length=n at *;go_enter func40,ntmps40;go_wp2_with fail;refine HC.out.mono ?_;rintro e w1 ⟨cf,v1,b1,rfl,h1,s1,k1⟩;have HF:=aa (⟨h1,s1⟩:PS w w.heap.size cf v1 b1 w1/\St ([]++aG (qz (nums s)) l) cf b1);clear h1 s1 k1 HC;go_wp2;go_ret;exact ⟨_,_,_,_,rfl,HF.out.1,HF.out.2⟩
namespace Enc
theorem VM:(prog.info? 3).map (λi=>(i.zero,i.size,i.bytes))=some (some (.int .i64 0),1,8):=by kernel_rfl
def iC (l:List Int):List Value:=l.map (Value.int .i64)
def RW (w:AG) (B:Nat) (v:Value) (l:List Int):Prop:=w.ownsRow B 3 1 v l.length (iC l)
theorem I4 (a b:List Int):iC (a++b)=iC a++iC b:=by unfold iC;rw [qw]
theorem TR {a b:List Int} (h:iC a=iC b):a=b:=by
 unfold iC at h;exact (List.map_inj_right (λx y h=>by injection h)).1 h
theorem RW.slice {w:AG} {B:Nat} {v:Value} {l:List Int} (h:RW w B v l):∃o k,v=.slice o l.length k:=by
 rcases h.2 with ⟨rfl,h0⟩|⟨g,cap,cur,rfl,_⟩
 ·rw [h0];exact ⟨_,_,rfl⟩
 exact ⟨_,_,rfl⟩
theorem RW.grown {w w':AG} {B:Nat} {v:Value} {l:List Int} {row:Option Nat} (h:RW w B v l) (hg:w.grownBy w' row) (hne:v.ownBlock=none\/v.ownBlock≠row):RW w' B v l:=World.ownsRow.kept h hg hne
theorem RW.cells {w:AG} {B:Nat} {v:Value} {l:List Int} (h:RW w B v l) (h0:0<l.length):∃g cap,v=.slice (some ⟨g,0,none⟩) l.length cap/\B<=g/\g<w.heap.size/\(∀(i:Nat) (z:Int),l[i]?=some z->w.cell? ⟨g,i,none⟩=some (.int .i64 z))/\(∀i,w.frozen? ⟨g,i,none⟩=false):=by
 rcases h.2 with ⟨rfl,h1⟩|⟨g,cap,cur,rfl,hb,hg,hn,hc,hs,ht⟩
 ·omega
 refine ⟨g,cap,rfl,hb,(gX.1 hg).1,λi z hz=>?_,λi=>by unfold World.frozen?;rw [hg];simp⟩;have hu:(iC l)[i]?=some (.int .i64 z):=by unfold iC;rw [List.getElem?_map,hz];rfl
 rw [cell_of_row w g i cur _ _ hg];rw [<- ht,List.getElem?_take] at hu;split at hu
 ·simpa using hu
 cases hu
theorem RW.bump {w:AG} {B:Nat} {pre:List Int} {c:Int} {g cap:Nat} (h:RW w B (.slice (some ⟨g,0,none⟩) (pre.length+1) cap) (pre++[c])) (z:Int) :
  RW (w.setCell ⟨g,pre.length,none⟩ (.int .i64 z)) B (.slice (some ⟨g,0,none⟩) (pre.length+1) cap) (pre++[z]):=by
 rcases h.2 with ⟨h1,_⟩|⟨g',cap',cur,h1,hb,hg,hn,hc,hs,ht⟩
 ·cases h1
 injection h1 with h2 _ h3;injection h2 with h2;injection h2 with h2 _ _;subst h2 h3;refine ⟨by unfold iC;simp,.inr ⟨g,cap,cur.setIfInBounds pre.length (.int .i64 z),by simp,hb,heap_setCell_same w g _ cur _ _ hg,by simpa using hn,hc,by rw [Array.size_setIfInBounds];exact hs,?_⟩⟩;have e1:(pre++[z]).length*1=(pre++[c]).length*1:=by simp
 rw [Array.toList_setIfInBounds,e1,List.take_set,ht,I4,I4,List.set_append,AD (by unfold iC;simp)];rw [show pre.length-(iC pre).length=0 by unfold iC;simp];rfl
theorem FG {w:AG} {B:Nat} {v:Value} {l:List Int} {op:Oper} {a:Act} {K:Act->AG->Prop} {Q:Exit->Act->AG->Prop} (s x:Operand)
  (ho:op.op=.call { callee:=.builtin .append,args:=#[s,x],argTypes:=#[28,28] }) (hown:RW w B v l) (hs:a.eval s=v) (b:Nat) (hx:a.eval x=.slice (some ⟨b,0,none⟩) 1 1) (u:Int) (hb:w.heap[b]?=some (.cells #[.int .i64 u] 3 (0,0)))
  (hn:l.length<=1000000) (hB:B<=w.heap.size) (h:∀v' w',RW w' B v' (l++[u])->w.grownBy w' v.ownBlock->(v'.ownBlock=v.ownBlock\/v'.ownBlock=some w.heap.size)->K (a.put op.dst v') w'):op.wp prog a w K Q:=by
 obtain ⟨i0,hi,hz0,hz1,hz2⟩:=info_parts VM
 obtain ⟨v',w',hr,h2,h3,h4⟩:=M8 (P:=prog) w B 28 op.type 3 i0 _ 1 8 underlying28 hi hz0 hz1 hz2 rfl (by decide) v l.length (iC l) hown (some ⟨b,0,none⟩) 1 1 [.int .i64 u] (λh=>by cases h) rfl (λad had j y hj=>by
  rw [<- Option.some.inj had,Addr.add_lit,Nat.zero_add,cell_of_row w b j _ _ _ hb];show ([Value.int .i64 u].toArray)[j]?=some y;rw [gz];exact hj) (λy hy=>by rw [List.mem_singleton.1 hy];rfl) (by unfold maxLen;omega) (by omega) hB
 unfold Oper.wp execOp;simp only [ho,resolve,invoke,builtin,Sem.run_bind,Sem.run_pure,Result.andThen_ok,List.map_toArray,List.map_cons,List.map_nil,hs,hx,hr];exact h v' w' (by unfold RW;rw [aT,I4];exact h2) h3 h4
def GC (wr:AG) (vc vt:Value) (cs ts:List Int) (bF B:Nat) (lv:Value) (bL off j:Nat) (t:Int):Nat->Value->AG->Prop
 | 0,v,_=>v=vc
 | 1,v,w=>∃b,v=.slice (some ⟨b,0,none⟩) 1 1/\wr.heap.size<=b/\w.heap[b]?=some (.cells #[.int .i64 1] 3 (0,0))
 | 2,v,w=>RW w B v (cs++[1])/\(v.ownBlock=vc.ownBlock\/∃k,v.ownBlock=some k/\wr.heap.size<=k)
 | 3,v,_=>v=vt
 | 4,v,_=>v=.pointer (some ⟨bF,1,none⟩)
 | 5,v,_=>v=lv
 | 6,v,_=>v=.int .i64 (j:Nat)
 | 7,v,_=>v=.pointer (some ⟨bL,off+j,none⟩)
 | 8,v,_=>v=.int .i64 t
 | 9,v,w=>∃b,v=.slice (some ⟨b,0,none⟩) 1 1/\wr.heap.size<=b/\w.heap[b]?=some (.cells #[.int .i64 t] 3 (0,0))
 | 10,v,w=>RW w B v (ts++[t])/\(v.ownBlock=vt.ownBlock\/∃k,v.ownBlock=some k/\wr.heap.size<=k)
 | _,_,_=>True
def sW (vc vt:Value):Nat->Option Nat
 | 2=>vc.ownBlock
 | 10=>vt.ownBlock
 | _=>none
def RC (vc vt:Value) (cs ts:List Int) (B:Nat):Nat->AG->Prop
 | 2,w=>RW w B vc cs
 | 10,w=>RW w B vt ts
 | _,_=>True
section
variable {wr:AG} {vc vt:Value} {cs ts:List Int} {bF B:Nat} {lv:Value} {bL off j:Nat} {t:Int}
theorem FY {k:Nat} (h2:k≠2) (h10:k≠10):sW vc vt k=none:=by
 unfold sW;split
 ·exact absurd rfl h2
 ·exact absurd rfl h10
 rfl
theorem C0 {v:Value} {row:Option Nat} (h:∀q,v.ownBlock=some q->row≠some q):v.ownBlock=none\/v.ownBlock≠row:=by
 cases hv:v.ownBlock with
 | none=>exact .inl rfl
 | some q=>exact .inr λe=>h q hv e.symm
theorem Mv (uk:∀k,vc.ownBlock=some k->k<wr.heap.size) (uj:∀k,vt.ownBlock=some k->k<wr.heap.size) (hap:∀k,vc.ownBlock=some k->vt.ownBlock≠some k) (i k:Nat) (v:Value) (u u':AG) (hi:i<11) (hik:i≠k)
  (hG:GC wr vc vt cs ts bF B lv bL off j t i v u) (hg:u.grownBy u' (sW vc vt k)):GC wr vc vt cs ts bF B lv bL off j t i v u':=by
 have hfp:∀q,sW vc vt k=some q->q<wr.heap.size:=λq hq=>by
  unfold sW at hq;split at hq
  ·exact uk q hq
  ·exact uj q hq
  cases hq
 have hnew:∀b,wr.heap.size<=b->b<u.heap.size->u'.heap[b]?=u.heap[b]?:=λb h1 h2=>hg.block b h2 (λe=>by have:=hfp b e.symm;omega);have hcase:i=0\/i=1\/i=2\/i=3\/i=4\/i=5\/i=6\/i=7\/i=8\/i=9\/i=10:=by omega
 rcases hcase with rfl|rfl|rfl|rfl|rfl|rfl|rfl|rfl|rfl|rfl|rfl
 ·exact hG
 ·obtain ⟨b,h1,h2,h3⟩:=hG;exact ⟨b,h1,h2,by rw [hnew b h2 (gX.1 h3).1];exact h3⟩
 ·refine ⟨hG.1.grown hg (C0 λq hq hf=>?_),hG.2⟩
  have vo:k=10:=by
   rcases Nat.decEq k 10 with h|h
   ·rw [FY (λe=>hik e.symm) h] at hf;cases hf
   exact h
  subst vo;rcases hG.2 with h|⟨q',h,hq'⟩
  ·exact hap q (h ▸ hq) hf
  rw [hq] at h;injection h with h;have:=uj q hf;omega
 ·exact hG
 ·exact hG
 ·exact hG
 ·exact hG
 ·exact hG
 ·exact hG
 ·obtain ⟨b,h1,h2,h3⟩:=hG;exact ⟨b,h1,h2,by rw [hnew b h2 (gX.1 h3).1];exact h3⟩
 refine ⟨hG.1.grown hg (C0 λq hq hf=>?_),hG.2⟩
 have hk2:k=2:=by
  rcases Nat.decEq k 2 with h|h
  ·rw [FY h (λe=>hik e.symm)] at hf;cases hf
  exact h
 subst hk2;rcases hG.2 with h|⟨q',h,hq'⟩
 ·exact hap q hf (h ▸ hq)
 rw [hq] at h;injection h with h;have:=uk q hf;omega
theorem Mw (hap:∀k,vc.ownBlock=some k->vt.ownBlock≠some k) (i k:Nat) (u u':AG) (hik:i≠k) (hR:RC vc vt cs ts B i u) (hg:u.grownBy u' (sW vc vt k)):RC vc vt cs ts B i u':=by
 by_cases h2:i=2
 ·subst h2;refine RW.grown hR hg (C0 λq hq hf=>?_)
  have vo:k=10:=by
   rcases Nat.decEq k 10 with h|h
   ·rw [FY (λe=>hik e.symm) h] at hf;cases hf
   exact h
  subst vo;exact hap q hq hf
 by_cases h10:i=10
 ·subst h10;refine RW.grown hR hg (C0 λq hq hf=>?_)
  have hk2:k=2:=by
   rcases Nat.decEq k 2 with h|h
   ·rw [FY h (λe=>hik e.symm)] at hf;cases hf
   exact h
  subst hk2;exact hap q hf hq
 unfold RC;split
 ·exact absurd rfl h2
 ·exact absurd rfl h10
 trivial
def KC (wb wr:AG) (vc vt:Value) (w:AG):Prop:=AS wb w/\wr.heap.size<=w.heap.size/\∀k,k<wr.heap.size->some k≠vc.ownBlock->some k≠vt.ownBlock->w.heap[k]?=wr.heap[k]?
theorem Mx {wb:AG} (uk:∀k,vc.ownBlock=some k->wb.heap.size<=k) (uj:∀k,vt.ownBlock=some k->wb.heap.size<=k) (k:Nat) (u u':AG) (h:KC wb wr vc vt u) (hg:u.grownBy u' (sW vc vt k)):KC wb wr vc vt u':=by
 have hcase:sW vc vt k=none\/sW vc vt k=vc.ownBlock\/sW vc vt k=vt.ownBlock:=by
  unfold sW;split
  ·exact .inr (.inl rfl)
  ·exact .inr (.inr rfl)
  exact .inl rfl
 refine ⟨h.1.grown hg h.1.size λq hq=>?_,eU h.2.1 hg.size,λq hq h1 h2=>?_⟩
 ·rcases hcase with e|e|e
  ·rw [e] at hq;cases hq
  ·exact uk q (by rw [<- e];exact hq)
  exact uj q (by rw [<- e];exact hq)
 rw [hg.block q (jg hq h.2.1) (by
  rcases hcase with e|e|e
  ·rw [e];simp
  ·rw [e];exact h1
  rw [e];exact h2)]
 exact h.2.2 q hq h1 h2
theorem FF {wb:AG} {w:AG} (h:KC wb wr vc vt w) {b o:Nat} {x:Value} (hb:b<wb.heap.size) (uk:∀k,vc.ownBlock=some k->wb.heap.size<=k) (uj:∀k,vt.ownBlock=some k->wb.heap.size<=k) (hs:wb.heap.size<=wr.heap.size) (hc:wr.cell? ⟨b,o,none⟩=some x):w.cell? ⟨b,o,none⟩=some x:=by
 rw [World.cell?_of_block (a:=⟨b,o,none⟩) (h.2.2 b (by omega) (λe=>by have:=uk b e.symm;omega) (λe=>by have:=uj b e.symm;omega))];exact hc
theorem rH (w:AG) (r:Option Nat):w.grownBy w r:=⟨rfl,rfl,rfl,aC _,λ_ _ _=>rfl⟩
end
end Enc
end Go.Proofs.YtcfifbgemfladaaGreatDoor
