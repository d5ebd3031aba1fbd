/- Texts that the claim needs. -/
import Derived.Test.YtmfcojpjpgldhaaGreatDoorQEBy27
import Derived.Test.YtmfcojpjpgldhaaGreatDoorQEBy28
import Derived.Test.YtmfcojpjpgldhaaGreatDoorQEBy21
import Derived.Test.YtmfcojpjpgldhaaGreatDoorQEBy1
namespace Go.Proofs.YtmfcojpjpgldhaaGreatDoor
open Go.RowKit aA Enc Go.Lib Go.Proofs.Tryz
set_option linter.unusedVariables false
set_option maxRecDepth 100000
set_option maxHeartbeats 4000000
theorem JO (w0:World) (p:Nat) (ov:Bool) (v:Value) (bs id:List Int) {d:Nat} (IH:mK w0 p d) (x:Ins (IL d)) (q4 q5 q6:Option Addr) (y4 z4 y5 z5 y6 z6:Nat) (w:World) (h:PS w0 p ov v bs w) (hS:St id ov bs) (he:size d x.els=y6) (a4:Ints w0 (.slice q4 y4 z4) x.labels) (a5:At w0 d (.slice q5 y5 z5) x.body) (a6:At w0 d (.slice q6 y6 z6) x.els) (r:dM (Rg d) x) :
  Calls prog 122 #[.pointer (some ⟨p,0,none⟩),.agg #[.int .i64 x.op,.int .i64 x.a,.int .i64 x.b,.int .i64 x.n,.slice q4 y4 z4,.slice q5 y5 z5,.slice q6 y6 z6]] w (gH w0 p v w (id++cn (aQ d) (size d) x)):=by
 have key:∀t,cn (aQ d) (size d) x=t->Calls prog 122 #[.pointer (some ⟨p,0,none⟩),.agg #[.int .i64 x.op,.int .i64 x.a,.int .i64 x.b,.int .i64 x.n,.slice q4 y4 z4,.slice q5 y5 z5,.slice q6 y6 z6]] w (gH w0 p v w (id++t))->Calls prog 122 #[.pointer (some ⟨p,0,none⟩),.agg #[.int .i64 x.op,.int .i64 x.a,.int .i64 x.b,.int .i64 x.n,.slice q4 y4 z4,.slice q5 y5 z5,.slice q6 y6 z6]] w (gH w0 p v w (id++cn (aQ d) (size d) x)):=λt e hc=>by rw [e];exact hc
 have hF:form x.op=1\/form x.op=2\/form x.op=3\/form x.op=4\/form x.op=5\/form x.op=6\/form x.op=7\/form x.op=8\/form x.op=9\/(form x.op<1\/9<form x.op):=by omega
 rcases hF with hf|hf|hf|hf|hf|hf|hf|hf|hf|hf
 ·by_cases h63:x.op=63
  ·exact key _ (by unfold cn;rw [if_pos hf,if_pos (.inl h63)]) (ZX w0 p ov v bs id IH x q4 q5 q6 y4 z4 y5 z5 y6 z6 w h hS hf (by simp [h63]) a4 a5 a6 r)
  by_cases h64:x.op=64
  ·exact key _ (by unfold cn;rw [if_pos hf,if_pos (.inr h64)]) (ZY w0 p ov v bs id IH x q4 q5 q6 y4 z4 y5 z5 y6 z6 w h hS hf (by simp [h63]) (by simp [h64]) a4 a5 a6 r)
  exact key _ (by unfold cn;rw [if_pos hf,if_neg (by omega)];simp) (NS w0 p ov v bs id IH x q4 q5 q6 y4 z4 y5 z5 y6 z6 w h hS 1 hf (by omega) (by simp [h63]) (by simp [h64]) a4 a5 a6 r)
 ·have e0:cn (aQ d) (size d) x = [x.op%256]++oG x:=by unfold cn oG;rw [if_neg (by omega),if_pos (.inl hf)]
  rw [e0];unfold oG;by_cases ha:x.a=0
  ·rw [if_pos ha];by_cases hy:0<y6
   ·rw [if_pos (by omega)]
    have:=XN w0 p ov v bs id IH x q4 q5 q6 y4 z4 y5 z5 y6 z6 w h hS hf (by simp [ha]) hy a4 a5 a6 r
    simpa [bf] using this
   rw [if_neg (by omega)]
   have:=XM w0 p ov v bs id IH x q4 q5 q6 y4 z4 y5 z5 y6 z6 w h hS hf (by simp [ha]) (by omega) a4 a5 a6 r
   simpa [bf] using this
  rw [if_neg ha];by_cases hy:0<y6
  ·rw [if_pos (by omega)]
   have:=XP w0 p ov v bs id IH x q4 q5 q6 y4 z4 y5 z5 y6 z6 w h hS hf (by simp [ha]) hy a4 a5 a6 r
   simpa [bf] using this
  rw [if_neg (by omega)]
  have:=XO w0 p ov v bs id IH x q4 q5 q6 y4 z4 y5 z5 y6 z6 w h hS hf (by simp [ha]) (by omega) a4 a5 a6 r
  simpa [bf] using this
 ·have e0:cn (aQ d) (size d) x = [x.op%256]++oG x:=by unfold cn oG;rw [if_neg (by omega),if_pos (.inr hf)]
  rw [e0];unfold oG;by_cases ha:x.a=0
  ·rw [if_pos ha];by_cases hy:0<y6
   ·rw [if_pos (by omega)]
    have:=ZZ w0 p ov v bs id IH x q4 q5 q6 y4 z4 y5 z5 y6 z6 w h hS hf (by simp [ha]) hy a4 a5 a6 r
    simpa [bf] using this
   rw [if_neg (by omega)]
   have:=Z0 w0 p ov v bs id IH x q4 q5 q6 y4 z4 y5 z5 y6 z6 w h hS hf (by simp [ha]) (by omega) a4 a5 a6 r
   simpa [bf] using this
  rw [if_neg ha];by_cases hy:0<y6
  ·rw [if_pos (by omega)]
   have:=Z1 w0 p ov v bs id IH x q4 q5 q6 y4 z4 y5 z5 y6 z6 w h hS hf (by simp [ha]) hy a4 a5 a6 r
   simpa [bf] using this
  rw [if_neg (by omega)]
  have:=Z2 w0 p ov v bs id IH x q4 q5 q6 y4 z4 y5 z5 y6 z6 w h hS hf (by simp [ha]) (by omega) a4 a5 a6 r
  simpa [bf] using this
 ·exact key _ (by unfold cn;rw [if_neg (by omega),if_neg (by omega),if_pos (.inl hf)]) (Z3 w0 p ov v bs id IH x q4 q5 q6 y4 z4 y5 z5 y6 z6 w h hS hf a4 a5 a6 r)
 ·exact key _ (by unfold cn;rw [if_neg (by omega),if_neg (by omega),if_neg (by omega),if_pos hf,<- bf]) (Z4 w0 p ov v bs id IH x q4 q5 q6 y4 z4 y5 z5 y6 z6 w h hS hf a4 a5 a6 r)
 ·exact key _ (by unfold cn;rw [if_neg (by omega),if_neg (by omega),if_pos (.inr hf)]) (Z5 w0 p ov v bs id IH x q4 q5 q6 y4 z4 y5 z5 y6 z6 w h hS hf a4 a5 a6 r)
 ·exact key _ (by unfold cn;rw [if_neg (by omega),if_neg (by omega),if_neg (by omega),if_neg (by omega),if_pos hf,<- bf]) (Z6 w0 p ov v bs id IH x q4 q5 q6 y4 z4 y5 z5 y6 z6 w h hS hf a4 a5 a6 r)
 ·exact key _ (by unfold cn;rw [if_neg (by omega),if_neg (by omega),if_neg (by omega),if_neg (by omega),if_neg (by omega),if_pos hf,<- bf]) (Z7 w0 p ov v bs id IH x q4 q5 q6 y4 z4 y5 z5 y6 z6 w h hS hf a4 a5 a6 r)
 ·exact key _ (by unfold cn;rw [if_neg (by omega),if_neg (by omega),if_neg (by omega),if_neg (by omega),if_neg (by omega),if_neg (by omega),if_pos hf]) (Z8 w0 p ov v bs id IH x q4 q5 q6 y4 z4 y5 z5 y6 z6 w h hS hf a4 a5 a6 r)
 by_cases h63:x.op=63
 ·exfalso
  have:form x.op=1:=by rw [h63];decide
  omega
 by_cases h64:x.op=64
 ·exfalso
  have:form x.op=1:=by rw [h64];decide
  omega
 exact key _ (by unfold cn;rw [if_neg (by omega),if_neg (by omega),if_neg (by omega),if_neg (by omega),if_neg (by omega),if_neg (by omega),if_neg (by omega)];simp) (NS w0 p ov v bs id IH x q4 q5 q6 y4 z4 y5 z5 y6 z6 w h hS _ rfl (by omega) (by simp [h63]) (by simp [h64]) a4 a5 a6 r)
theorem Z9 (w0:World) (p:Nat) (d:Nat) (IH:mK w0 p d):mK w0 p (d+1):=by
 intro lv l0 ov v bs id w h hS yp nD;obtain ⟨l,rfl⟩:∃l:List (Ins (IL d)),l=l0:=⟨l0,rfl⟩;have hA:Row 7 (fA w0 (At w0 d)) lv l:=yp;have hR:∀x,x ∈ l->dM (Rg d) x:=nD;clear yp nD;show Calls prog 117 #[.pointer (some ⟨p,0,none⟩),lv] w (gH w0 p v w (id++iX (aQ d) (size d) l));obtain ⟨oL,kL,rfl⟩:=Row.len hA;have la:=hA.1;have HA:=aa hA;have HR:=aa hR;have dh:=aa IH;have NT:=aa h;have NU:=aa hS;clear hA hR IH h hS;generalize hna:l.length=n at *;have eQ:=aa hna;go_enter func117,ntmps117;go_wp2_with fail;go_loopw [4] (λi wr=>∃(j:Nat) (bw:Bool) (v3:Value) (b3:List Int),j<=n/\i=.int .i64 j/\Hid (PS w0 p bw v3 b3 wr)/\Hid (St (id++iX (aQ d) (size d) (l.take j)) bw b3)/\Hid (Kept p v w v3 wr)) (λi _=>n-(Lib.intOf i).toNat)
 case atStart=>exact ⟨0,ov,v,bs,by omega,rfl,NT,aa (by simpa [iX] using NU.out),aa (Kept.refl _ _ _)⟩
 case round =>
  clear NT NU;obtain ⟨j,bw,v3,b3,hj,rfl,iU,HST,ba⟩:=hrel;have ko:=iU.out.tK;by_cases hgo:j<n
  ·obtain ⟨b1,aJ,gb,hv1,hx1⟩:=Row.some HA.out (by omega);injection hv1 with cJ e11 e12;subst cJ;clear e11 e12;obtain ⟨x,hxk⟩:∃x,l[j]?=some x:=⟨_,aY (by omega)⟩;have eU:=aa hxk;obtain ⟨bN,cF,dn,jO,⟨v4,jP,dw⟩,⟨v5,jQ,dx⟩,⟨v6,jR,dz⟩⟩:=hx1 j x hxk;clear hx1 hxk;obtain ⟨q4,z4,rfl⟩:=Row.len dw;obtain ⟨q5,z5,rfl⟩:=At.len d _ _ dx;obtain ⟨q6,z6,rfl⟩:=At.len d _ _ dz;have lu:=aj iU.out.below bN;have lN:=aj iU.out.below cF;have pz:=aj iU.out.below dn;have uo:=aj iU.out.below jO;have uu:=aj iU.out.below jP;have uw:=aj iU.out.below jQ;have uy:=aj iU.out.below jR;clear bN cF dn jO jP jQ jR;cases bw with
   | true =>
    have HF:Hid (St (id++iX (aQ d) (size d) l) true b3):=aa (by
     have h1:=(HST.out.more rfl (iX (aQ d) (size d) (l.drop j)));unfold iX at h1 ⊢;rw [bf,<- vR,List.take_append_drop] at h1;exact h1)
    go_wp2;go_end0;exact ⟨_,_,_,rfl,iU.out,HF.out,ba.out⟩
   | false =>
    have HC:=aa (JO w0 p false v3 b3 _ dh.out x q4 q5 q6 _ z4 _ z5 _ z6 wr iU.out HST.out rfl dw dx dz (HR.out x (dK eU.out)));clear dw dx dz;generalize oK:x.labels.length=y4 at *;generalize oM:size d x.body=y5 at *;generalize nC:size d x.els=y6 at *;go_wp2_with fail;refine HC.out.mono ?_;rintro e w4 ⟨dO,v4,b4,rfl,h4,s4,k4⟩;have cm:=aa h4;have jS:Hid (St (id++iX (aQ d) (size d) (l.take (j+1))) dO b4):=aa (by rw [CJ eU.out,<- bf];exact s4);have bO:=aa (ba.out.trans k4);clear h4 s4 k4 HC;go_wp2;go_roundw
    case rel=>exact ⟨j+1,dO,v4,b4,by omega,by go_num,cm,jS,bO⟩
    case measure=>simp [Lib.intOf];omega
  obtain rfl:n=j:=by omega
  have HF:Hid (St (id++iX (aQ d) (size d) l) bw b3):=aa (by
   have h1:=HST.out;rw [jZ (by have:=eQ.out;omega)] at h1;exact h1)
  go_wp2;go_end0;exact ⟨_,_,_,rfl,iU.out,HF.out,ba.out⟩
theorem aaa (w0:World) (p:Nat):mK w0 p 0:=by
 rintro lv l ov v bs id w h hS ⟨oL,kL,rfl⟩ _;have HS:=aa h;have HT:Hid (St (id++aQ 0 l) ov bs):=aa (by show St (id++[]) ov bs;rw [List.append_nil];exact hS);clear h hS;go_enter func117,ntmps117;go_wp2_with fail;go_loopw [4] (λi wr=>i=.int .i64 0/\wr=w) (λ_ _=>0)
 case atStart=>exact ⟨rfl,rfl⟩
 case round =>
  obtain ⟨rfl,rfl⟩:=hrel;go_wp2;go_end0;exact ⟨_,_,_,rfl,HS.out,HT.out,Kept.refl _ _ _⟩
theorem FI (w0:World) (p:Nat):∀d,mK w0 p d
 | 0=>aaa w0 p
 | d+1=>Z9 w0 p d (FI w0 p d)
theorem Qb (w0:World) (p:Nat) (d:Nat) (lv:Value) (l:IL d) (ov:Bool) (v:Value) (bs id:List Int) (w:World) (h:PS w0 p ov v bs w) (hS:St id ov bs) (hA:At w0 d lv l) (hR:Rg d l) :
  Calls prog 101 #[.pointer (some ⟨p,0,none⟩),lv] w (gH w0 p v w (id++(aQ d l++[11]))):=by
 obtain ⟨oL,kL,rfl⟩:=At.len d _ _ hA;have HC:=aa (FI w0 p d _ l ov v bs id w h hS hA hR);clear h hS hA hR;generalize size d l=n at *;go_enter func101,ntmps101;go_wp2_with fail;refine HC.out.mono ?_;rintro e w1 ⟨df,v1,b1,rfl,h1,s1,k1⟩;have cz:=aa (dV w0 p df v1 b1 _ 11 w1 h1 s1);have HK:=aa k1;clear h1 s1 k1 HC;go_wp2_with fail;refine cz.out.mono ?_;rintro e w2 ⟨cQ,v2,b2,rfl,h2,s2,k2⟩;have HF:=aa (⟨h2,by rw [<- bf];exact s2,HK.out.trans k2⟩:PS w0 p cQ v2 b2 w2/\St (id++(aQ d l++[11])) cQ b2/\Kept p v w v2 w2);clear h2 s2 k2 cz HK;go_wp2;go_end0;exact ⟨_,_,_,rfl,HF.out.1,HF.out.2.1,HF.out.2.2⟩
theorem Qc (w0:World) (p:Nat) (d:Nat) (b1 kL:Nat) (x:Ins (IL d)) (ov:Bool) (v:Value) (bs id:List Int) (w:World) (h:PS w0 p ov v bs w) (hS:St id ov bs) (hA:BW w w0 d b1 0 x) (hq:b1<w.heap.size) (wO:b1≠p) (wP:some b1≠v.ownBlock) (hR:dM (Rg d) x) :
  Calls prog 117 #[.pointer (some ⟨p,0,none⟩),.slice (some ⟨b1,0,none⟩) 1 kL] w (gH w0 p v w (id++cn (aQ d) (size d) x)):=by
 obtain ⟨lu,lN,pz,uo,⟨v4,uu,dw⟩,⟨v5,uw,dx⟩,⟨v6,uy,dz⟩⟩:=hA;obtain ⟨q4,z4,rfl⟩:=Row.len dw;obtain ⟨q5,z5,rfl⟩:=At.len d _ _ dx;obtain ⟨q6,z6,rfl⟩:=At.len d _ _ dz;have ko:=h.tK;cases ov with
 | true =>
  have HF:Hid (PS w0 p true v bs w/\St (id++cn (aQ d) (size d) x) true bs):=aa ⟨h,hS.more rfl _⟩;clear h hS dw dx dz hR;go_enter func117,ntmps117;go_wp2_with fail;refine wp_loop_rounds 1 ?_;rw [rounds_succ];go_wp2;go_end0;exact ⟨_,_,_,rfl,HF.out.1,HF.out.2,Kept.refl _ _ _⟩
 | false =>
  have HC:=aa (JO w0 p false v bs id (FI w0 p d) x q4 q5 q6 _ z4 _ z5 _ z6 w h hS rfl dw dx dz hR);clear h hS dw dx dz hR;generalize oK:x.labels.length=y4 at *;generalize oM:size d x.body=y5 at *;generalize nC:size d x.els=y6 at *;go_enter func117,ntmps117;go_wp2_with fail;refine wp_loop_rounds 2 ?_;rw [rounds_succ];go_wp2_with fail;refine HC.out.mono ?_;rintro e w4 ⟨dO,v4,b4,rfl,h4,s4,k4⟩;have ko4:=h4.tK;have HF:=aa (⟨h4,s4,k4⟩:PS w0 p dO v4 b4 w4/\St (id++cn (aQ d) (size d) x) dO b4/\Kept p v w v4 w4);clear h4 s4 k4 HC;go_wp2_with fail;rw [rounds_succ];go_wp2;go_end0;exact ⟨_,_,_,rfl,HF.out.1,HF.out.2.1,HF.out.2.2⟩
theorem EP (w0:World) (p:Nat) (d:Nat) (b1 kL:Nat) (x:Ins (IL d)) (ov:Bool) (v:Value) (bs id:List Int) (w:World) (h:PS w0 p ov v bs w) (hS:St id ov bs) (hA:BW w w0 d b1 0 x) (hq:b1<w.heap.size) (wO:b1≠p) (wP:some b1≠v.ownBlock) (hR:dM (Rg d) x) :
  Calls prog 101 #[.pointer (some ⟨p,0,none⟩),.slice (some ⟨b1,0,none⟩) 1 kL] w (gH w0 p v w (id++(cn (aQ d) (size d) x++[11]))):=by
 have HC:=aa (Qc w0 p d b1 kL x ov v bs id w h hS hA hq wO wP hR);clear h hS hA hR hq wO wP;go_enter func101,ntmps101;go_wp2_with fail;refine HC.out.mono ?_;rintro e w1 ⟨df,v1,b1,rfl,h1,s1,k1⟩;have cz:=aa (dV w0 p df v1 b1 _ 11 w1 h1 s1);have HK:=aa k1;clear h1 s1 k1 HC;go_wp2_with fail;refine cz.out.mono ?_;rintro e w2 ⟨cQ,v2,b2,rfl,h2,s2,k2⟩;have HF:=aa (⟨h2,by rw [<- bf];exact s2,HK.out.trans k2⟩:PS w0 p cQ v2 b2 w2/\St (id++(cn (aQ d) (size d) x++[11])) cQ b2/\Kept p v w v2 w2);clear h2 s2 k2 cz HK;go_wp2;go_end0;exact ⟨_,_,_,rfl,HF.out.1,HF.out.2.1,HF.out.2.2⟩
namespace Enc
def lM (w:World) (id:List Int) (e:Ending) (w':World):Prop:=∃q ov v bs,e=.returned (.pointer (some ⟨q,0,none⟩))/\PS w q ov v bs w'/\St id ov bs
end Enc
theorem xc (n:Int) (w:World) (h0:0<=n) (h1:n<=9223372036854775807):Calls prog 62 #[.int .i64 n] w (lM w (ak.uB n)):=by
 have HC:=aa (dU w w.heap.size false (.slice none 0 0) [] [] n _ (PS.new w) St.nil h0 h1);go_enter func62,ntmps62;go_wp2_with fail;refine HC.out.mono ?_;rintro e w1 ⟨df,v1,b1,rfl,h1,s1,k1⟩;have HF:=aa (⟨h1,s1⟩:PS w w.heap.size df v1 b1 w1/\St ([]++ak.uB n) df b1);clear h1 s1 k1 HC;go_wp2;go_ret;exact ⟨_,_,_,_,rfl,HF.out.1,HF.out.2⟩
namespace Enc
def qd (f:List Int) (x:gN):List Int:=f++ik x
end Enc
theorem aab (w0:World) (p:Nat) (ov:Bool) (v:Value) (bs id:List Int) (lv:Value) (l:List gN) (s:ByteArray) (w:World) (h:PS w0 p ov v bs w) (hS:St id ov bs) (hL:Row 3 (gD w0) lv l) (hr:∀x ∈ l,(0<=x.min/\x.min<=4294967295)/\0<=x.max/\x.max<=4294967295) (hs:s.size<=1000) :
  Calls prog 100 #[.pointer (some ⟨p,0,none⟩),lv,.string s] w (gH w0 p v w (id++aZ (qd (nums s)) l)):=by
 obtain ⟨oL,kL,rfl⟩:=Row.len hL;have la:=hL.1;have eY:=aa (dU w0 p ov v bs id (l.length:Int) w h hS (by omega) (by omega));have HL:=aa hL;have HR:=aa hr;clear h hS hL hr;generalize hna:l.length=n at *;have eQ:=aa hna;obtain ⟨u0,hu0⟩:∃u0,ak.uB (n:Int)=u0:=⟨_,rfl⟩;rw [hu0] at eY;have lC:=aa hu0;clear hu0;go_enter func100,ntmps100;go_wp2_with fail;refine eY.out.mono ?_;rintro e w1 ⟨df,v1,b1,rfl,h1,s1,k1⟩;have uk:=aa h1;have um:=aa s1;have aO:=aa k1;clear h1 s1 k1 eY;go_wp2_with fail;go_loopw [6] (λi wr=>∃(j:Nat) (bw:Bool) (v3:Value) (b3:List Int),j<=n/\i=.int .i64 j/\Hid (PS w0 p bw v3 b3 wr)/\Hid (St (id++u0++(l.take j).flatMap (qd (nums s))) bw b3)/\Hid (Kept p v w v3 wr)) (λi _=>n-(Lib.intOf i).toNat)
 case atStart=>exact ⟨0,df,v1,b1,by omega,rfl,uk,aa (by simpa using um.out),aO⟩
 case round =>
  clear uk um aO;obtain ⟨j,bw,v3,b3,hj,rfl,iU,HST,ba⟩:=hrel;by_cases hgo:j<n
  ·obtain ⟨b1,aJ,gb,hv1,hx1⟩:=Row.some HL.out (by omega);injection hv1 with cJ e11 e12;subst cJ;clear e11 e12;obtain ⟨x,hxk⟩:∃x,l[j]?=some x:=⟨_,aY (by omega)⟩;have HX:=aa (hx1 j x hxk);have iV:=aa (HR.out x (dK hxk));have iQ:Hid ((l.take (j+1)).flatMap (qd (nums s))=(l.take j).flatMap (qd (nums s))++qd (nums s) x):=aa (ry hxk);clear hxk hx1;have HC:=aa (Bd w0 p bw v3 b3 _ s wr iU.out HST.out (by omega));go_wp2_with fail;refine HC.out.mono ?_;rintro e w4 ⟨dO,v4,b4,rfl,h4,s4,k4⟩;have fG:=aa h4;have dP:=aa s4;have bO:=aa (ba.out.trans k4);clear h4 s4 k4 HC iU HST ba;have bN:=aj fG.out.below HX.out.min;have cF:=aj fG.out.below HX.out.max;have dn:=aj fG.out.below HX.out.has;obtain ⟨NV,aac,aad⟩:=x;simp only at bN cF dn;cases aad with
   | true =>
    have HC:=aa (dV w0 p dO v4 b4 _ 1 w4 fG.out dP.out);go_wp2_with fail;refine HC.out.mono ?_;rintro e w5 ⟨iz,v5,b5,rfl,h5,s5,k5⟩;have mX:=aa h5;have mV:=aa s5;have kg:=aa (bO.out.trans k5);clear h5 s5 k5 HC fG dP bO bN cF dn;have bN:=aj mX.out.below HX.out.min;have HC:=aa (dU w0 p iz v5 b5 _ NV w5 mX.out mV.out iV.out.1.1 (by have:=iV.out.1.2;omega));simp only at bN;go_wp2_with fail;refine HC.out.mono ?_;rintro e w6 ⟨iW,v6,b6,rfl,h6,s6,k6⟩;have uY:=aa h6;have xd:=aa s6;have tO:=aa (kg.out.trans k6);clear h6 s6 k6 HC mX mV kg bN;have cF:=aj uY.out.below HX.out.max;have HC:=aa (dU w0 p iW v6 b6 _ aac w6 uY.out xd.out iV.out.2.1 (by have:=iV.out.2.2;omega));simp only at cF;go_wp2_with fail;refine HC.out.mono ?_;rintro e w7 ⟨si,v7,b7,rfl,h7,s7,k7⟩;have Im:=aa h7;have Io:Hid (St (id++u0++(l.take (j+1)).flatMap (qd (nums s))) si b7):=aa (by rw [iQ.out];simpa [qd,ik,one,bf] using s7);have Ip:=aa (tO.out.trans k7);clear h7 s7 k7 HC uY xd tO cF;go_wp2;go_roundw
    case rel=>exact ⟨j+1,si,v7,b7,by omega,by go_num,Im,Io,Ip⟩
    case measure=>simp [Lib.intOf];omega
   | false =>
    have HC:=aa (dV w0 p dO v4 b4 _ 0 w4 fG.out dP.out);go_wp2_with fail;refine HC.out.mono ?_;rintro e w5 ⟨iz,v5,b5,rfl,h5,s5,k5⟩;have mX:=aa h5;have mV:=aa s5;have kg:=aa (bO.out.trans k5);clear h5 s5 k5 HC fG dP bO bN cF dn;have bN:=aj mX.out.below HX.out.min;have HC:=aa (dU w0 p iz v5 b5 _ NV w5 mX.out mV.out iV.out.1.1 (by have:=iV.out.1.2;omega));simp only at bN;go_wp2_with fail;refine HC.out.mono ?_;rintro e w7 ⟨si,v7,b7,rfl,h7,s7,k7⟩;have Im:=aa h7;have Io:Hid (St (id++u0++(l.take (j+1)).flatMap (qd (nums s))) si b7):=aa (by rw [iQ.out];simpa [qd,ik,one,bf] using s7);have Ip:=aa (kg.out.trans k7);clear h7 s7 k7 HC mX mV kg bN;go_wp2;go_roundw
    case rel=>exact ⟨j+1,si,v7,b7,by omega,by go_num,Im,Io,Ip⟩
    case measure=>simp [Lib.intOf];omega
  obtain rfl:n=j:=by omega
  have HF:Hid (St (id++aZ (qd (nums s)) l) bw b3):=aa (by
   have h1:=HST.out;rw [jZ (by have:=eQ.out;omega),bf] at h1;unfold aZ;rw [eQ.out,lC.out];exact h1)
  go_wp2;go_end0;exact ⟨_,_,_,rfl,iU.out,HF.out,ba.out⟩
theorem Kb (lv:Value) (l:List gN) (s:ByteArray) (w:World) (hL:Row 3 (gD w) lv l) (hr:∀x ∈ l,(0<=x.min/\x.min<=4294967295)/\0<=x.max/\x.max<=4294967295) (hs:s.size<=1000) :
  Calls prog 59 #[lv,.string s] w (lM w (aZ (qd (nums s)) l)):=by
 obtain ⟨oL,kL,rfl⟩:=Row.len hL;have HC:=aa (aab w w.heap.size false (.slice none 0 0) [] [] _ l s _ (PS.new w) St.nil hL hr hs);clear hL hr;generalize l.length=n at *;go_enter func59,ntmps59;go_wp2_with fail;refine HC.out.mono ?_;rintro e w1 ⟨df,v1,b1,rfl,h1,s1,k1⟩;have HF:=aa (⟨h1,s1⟩:PS w w.heap.size df v1 b1 w1/\St ([]++aZ (qd (nums s)) l) df b1);clear h1 s1 k1 HC;go_wp2;go_ret;exact ⟨_,_,_,_,rfl,HF.out.1,HF.out.2⟩
end Go.Proofs.YtmfcojpjpgldhaaGreatDoor
namespace Go.Proofs.YtmfcojpjpgldhaaGreatDoor
open Go.RowKit aA
set_option linter.unusedVariables false
namespace ai
section
variable {P:Program} {ops:Array Oper} {Q:Exit->Act->World->Prop} {id:Nat} {a0:Act} {w0:World}
def IM (ops:Array Oper) (a0:Act) (n:Nat) (dst:Nat->Nat) (K:World->Prop) (R:Nat->World->Prop) (G:Nat->Value->World->Prop) (L:Array Bool) (a:Act) (w:World):Prop :=
 (∀k,n<=k->L.getD k false=false)/\Fr a0 dst n a/\K w/\(∀i,i<n->L.getD i false=false->R i w)/\∀i,i<n->L.getD i false=true->G i (a.eval (.tmp (dst i))) w
theorem JC (n:Nat) (dst:Nat->Nat) (fp:Nat->Option Nat) (K:World->Prop) (R:Nat->World->Prop) (G:Nat->Value->World->Prop) (hm:P.follows .mixedOrders=true) (hT:Bt ops n=true)
  (hinj:∀i j,i<n->j<n->dst i=dst j->i=j)
  (hdst:∀i,i<n->∃o,ops[i]?=some o/\o.dst=some (dst i)/\o.guard=none/\dst i<a0.tmps.size)
  (uN:∀i k v w w',i<n->k<n->i≠k->K w->G i v w->w.grownBy w' (fp k)->G i v w')
  (hres:∀i k w w',i<n->k<n->i≠k->R i w->w.grownBy w' (fp k)->R i w')
  (hK:∀k w w',k<n->K w->w.grownBy w' (fp k)->K w')
  (hstep:∀i o a w,i<n->ops[i]?=some o->Fr a0 dst n a->K w->R i w->(∀j ∈ deps o,G j (a.eval (.tmp (dst j))) w)->o.wp P a w (λa' w'=>∃v,a'=a.put o.dst v/\w.grownBy w' (fp i)/\G i v w') Q)
  (cH:∀a w,Fr a0 dst n a->K w->(∀i,i<n->G i (a.eval (.tmp (dst i))) w)->wpList P ops Q (ops.toList.drop n) a w)
  (tG:K { w0 with drawn:=w0.drawn+1 }) (nD:∀i,i<n->R i { w0 with drawn:=w0.drawn+1 }) :
  (Code.region id ops true).wp P Q a0 w0:=by
 have qj:=hT;unfold Bt at qj;rw [gm,iF,decide_eq_true_eq] at qj;obtain ⟨hn,qj⟩:=qj
 have hlow:∀i,i<ops.size->∀j ∈ lU ops i,j<i:=λi hi j hj=>by
  have:=qj i (List.mem_range.2 hi)
  rw [gm,iF] at this;exact of_decide_eq_true (this.1 j hj)
 have hbig:∀(L:Array Bool) i,n<=i->i<ops.size->Closed ops L->(∀j ∈ lU ops i,L.getD j false=true)->∀j,j<i->L.getD j false=true:=λL i hi hs hc hd j hj=>by
  have:=qj i (List.mem_range.2 hs)
  rw [gm,Bool.or_eq_true,decide_eq_true_eq] at this;rcases this.2 with h|h
  ·omega
  have hjm:j ∈ yS ops [i] i:=by simpa using (iF.1 h) j (List.mem_range.2 hj)
  rcases EW hc hd i [i] (λm hm=>.inl (List.mem_singleton.1 hm)) j hjm with h|h
  ·omega
  exact h
 refine Ex (λL a w=>L.size=ops.size/\Closed ops L/\(IM ops a0 n dst K R G L a w\/Behind P ops Q n L a w)) hm ?_ ?_ ?_
 ·rintro L i a w hi ⟨hsz,hc,zW⟩;obtain ⟨vN,o,ho,hd⟩:=Ey hi;obtain ⟨jT,oZ⟩:=Ez vN;have hd':∀j ∈ lU ops i,L.getD j false=true:=by rw [vO ho];exact hd
  have hsz':(L.setIfInBounds i true).size=ops.size:=by rw [Array.size_setIfInBounds,hsz]
  have hc':Closed ops (L.setIfInBounds i true):=λm hm j hj=>by
   rw [kP L i _ jT] at hm ⊢;split
   ·rfl
   by_cases he:m=i
   ·subst he;exact hd' j hj
   rw [if_neg he] at hm;exact hc m hm j hj
  have low:∀k,n<=k->(∀j,j<k->L.getD j false=true)->(∀j,k<=j->L.getD j false=false)->n<=i->i=k:=λk hnk hk1 hk2 hni=>by
   have h1:=hbig L i hni (by omega) hc hd';rcases Nat.lt_trichotomy i k with h|h|h
   ·rw [hk1 i h] at oZ;cases oZ
   ·exact h
   have:=h1 k h;rw [hk2 k (aI _)] at this;cases this
  have yT:∀k,k=i->n<=k->(∀j,j<k->L.getD j false=true)->(∀j,k<=j->L.getD j false=false)->wpList P ops Q (ops.toList.drop k) a w->wpOp P ops Q i (λa w=>(L.setIfInBounds i true).size=ops.size/\Closed ops (L.setIfInBounds i true)/\(IM ops a0 n dst K R G (L.setIfInBounds i true) a w\/Behind P ops Q n (L.setIfInBounds i true) a w)) a w:=by
   rintro k rfl hnk hk1 hk2 hwp;have hks:k<ops.size:=by omega
   have xx:ops.toList.drop k=o :: ops.toList.drop (k+1):=by
    rw [lX (by simpa using hks)];congr 1
    have:=uz hks
    rw [ho] at this;simpa using (Option.some.inj this).symm
   rw [xx] at hwp
   have up:∀a w,wpList P ops Q (ops.toList.drop (k+1)) a w->(L.setIfInBounds k true).size=ops.size/\Closed ops (L.setIfInBounds k true)/\(IM ops a0 n dst K R G (L.setIfInBounds k true) a w\/Behind P ops Q n (L.setIfInBounds k true) a w):=λa w h =>
    ⟨hsz',hc',.inr ⟨k+1,by omega,λj hj=>by
     rw [kP L k _ jT];split
     ·rfl
     ·exact hk1 j (by omega),λj hj=>by
     rw [kP L k _ jT,if_neg (by omega)];exact hk2 j (by omega),h⟩⟩
   unfold wpOp;rw [ho];unfold wpList at hwp;show ite _ _ _;split
   ·rename_i hw;rw [if_pos hw] at hwp;exact hwp.imp (Oper.wp_mono up) (λh=>h)
   rename_i hw;rw [if_neg hw] at hwp;exact up _ _ hwp
  rcases zW with ⟨hk,hF,hB,hR,hG⟩|⟨k,hnk,hk1,hk2,hwp⟩
  ·by_cases hin:i<n
   ·obtain ⟨o',ho',lI,hog,hos⟩:=hdst i hin
    have:o'=o:=by rw [ho] at ho';exact (Option.some.inj ho').symm
    subst this;have hs:=hstep i o' a w hin ho hF hB (hR i hin oZ) (λj hj=>hG j (by have:=hlow i (by omega) j (by rw [vO ho];exact hj);omega) (hd j hj));unfold wpOp;rw [ho];show ite _ _ _;rw [if_pos (by simp [Region.wanted,hog])];refine .inl (Oper.wp_mono ?_ hs);rintro a' w' ⟨v,rfl,hBw,sO⟩;have qI:dst i<a.tmps.size:=by rw [hF.size];exact hos
    refine ⟨hsz',hc',.inl ⟨λk hnk=>?_,by rw [lI];exact hF.put hin v,?_,λj hj mJ=>?_,λj hj mJ=>?_⟩⟩
    ·rw [kP L i _ jT,if_neg (by omega)];exact hk k hnk
    ·exact hK i w w' hin hB hBw
    ·by_cases he:j=i
     ·subst he;rw [kP L j _ jT,if_pos rfl] at mJ;cases mJ
     rw [kP L i _ jT,if_neg he] at mJ;exact hres j i w w' hj hin he (hR j hj mJ) hBw
    rw [lI];by_cases he:j=i
    ·subst he;rw [xw v qI];exact sO
    rw [kP L i _ jT,if_neg he] at mJ;rw [vP v (λe=>he (hinj i j hin hj e).symm)];exact uN j i _ w w' hj hin he hB (hG j hj mJ) hBw
   have h1:=hbig L i (by omega) (by omega) hc hd'
   have CW:n=i:=by
    rcases Nat.lt_or_ge n i with h|h
    ·have:=h1 n h;rw [hk n (aI _)] at this;cases this
    omega
   refine yT n CW (aI _) (λj hj=>h1 j (by omega)) hk (cH a w hF hB λj hj=>hG j hj (h1 j (by omega)))
  rcases Nat.lt_or_ge i n with h|h
  ·rw [hk1 i (by omega)] at oZ;cases oZ
  exact yT k (low k hnk hk1 hk2 h).symm hnk hk1 hk2 hwp
 ·rintro L a w hr ⟨hsz,hc,⟨hk,_⟩|⟨k,hnk,hk1,hk2,hwp⟩⟩
  ·have:=EZ hT hsz hr n hn
   rw [hk n (aI _)] at this;cases this
  have:ops.size<=k:=by
   rcases Nat.lt_or_ge k ops.size with h|h
   ·have:=EZ hT hsz hr k h
    rw [hk2 k (aI _)] at this;cases this
   exact h
  rw [zz (by simpa using this)] at hwp;exact hwp
 have hf:∀k,(Array.replicate ops.size false).getD k false=false:=λk=>by
  simp [Array.getD]
 refine ⟨by simp,λi hi=>?_,.inl ⟨λk _=>hf k,⟨rfl,rfl,λ_ _=>rfl⟩,tG,λi hi _=>nD i hi,λi _ hL=>?_⟩⟩
 ·rw [hf] at hi;cases hi
 rw [hf] at hL;cases hL
end
end ai
end Go.Proofs.YtmfcojpjpgldhaaGreatDoor
namespace Go.Proofs.YtmfcojpjpgldhaaGreatDoor
open Go.RowKit aA Enc Go.Lib Go.Proofs.Tryz
set_option linter.unusedVariables false
set_option maxRecDepth 100000
namespace Enc
theorem RS:(prog.info? 3).map (λi=>(i.zero,i.size,i.bytes))=some (some (.int .i64 0),1,8):=by kernel_rfl
def iC (l:List Int):List Value:=l.map (Value.int .i64)
def RW (w:World) (B:Nat) (v:Value) (l:List Int):Prop:=w.ownsRow B 3 1 v l.length (iC l)
theorem FX (a b:List Int):iC (a++b)=iC a++iC b:=by unfold iC;rw [zA]
theorem PO {a b:List Int} (h:iC a=iC b):a=b:=by
 unfold iC at h;exact (List.map_inj_right (λx y h=>by injection h)).1 h
theorem RW.slice {w:World} {B:Nat} {v:Value} {l:List Int} (h:RW w B v l):∃o k,v=.slice o l.length k:=by
 rcases h.2 with ⟨rfl,h0⟩|⟨g,cap,cur,rfl,_⟩
 ·rw [h0];exact ⟨_,_,rfl⟩
 exact ⟨_,_,rfl⟩
theorem RW.grown {w w':World} {B:Nat} {v:Value} {l:List Int} {row:Option Nat} (h:RW w B v l) (hg:w.grownBy w' row) (hne:v.ownBlock=none\/v.ownBlock≠row):RW w' B v l:=World.ownsRow.kept h hg hne
theorem RW.cells {w:World} {B:Nat} {v:Value} {l:List Int} (h:RW w B v l) (h0:0<l.length):∃g cap,v=.slice (some ⟨g,0,none⟩) l.length cap/\B<=g/\g<w.heap.size/\(∀(i:Nat) (z:Int),l[i]?=some z->w.cell? ⟨g,i,none⟩=some (.int .i64 z))/\(∀i,w.frozen? ⟨g,i,none⟩=false):=by
 rcases h.2 with ⟨rfl,h1⟩|⟨g,cap,cur,rfl,hb,hg,hn,hc,hs,ht⟩
 ·omega
 refine ⟨g,cap,rfl,hb,(kD.1 hg).1,λi z hz=>?_,λi=>by unfold World.frozen?;rw [hg];simp⟩;have hu:(iC l)[i]?=some (.int .i64 z):=by unfold iC;rw [List.getElem?_map,hz];rfl
 rw [cell_of_row w g i cur _ _ hg];rw [<- ht,List.getElem?_take] at hu;split at hu
 ·simpa using hu
 cases hu
theorem RW.bump {w:World} {B:Nat} {pre:List Int} {c:Int} {g cap:Nat} (h:RW w B (.slice (some ⟨g,0,none⟩) (pre.length+1) cap) (pre++[c])) (z:Int) :
  RW (w.setCell ⟨g,pre.length,none⟩ (.int .i64 z)) B (.slice (some ⟨g,0,none⟩) (pre.length+1) cap) (pre++[z]):=by
 rcases h.2 with ⟨h1,_⟩|⟨g',cap',cur,h1,hb,hg,hn,hc,hs,ht⟩
 ·cases h1
 injection h1 with h2 _ h3;injection h2 with h2;injection h2 with h2 _ _;subst h2 h3;refine ⟨by unfold iC;simp,.inr ⟨g,cap,cur.setIfInBounds pre.length (.int .i64 z),by simp,hb,heap_setCell_same w g _ cur _ _ hg,by simpa using hn,hc,by rw [Array.size_setIfInBounds];exact hs,?_⟩⟩;have e1:(pre++[z]).length*1=(pre++[c]).length*1:=by simp
 rw [Array.toList_setIfInBounds,e1,List.take_set,ht,FX,FX,List.set_append,if_neg (by unfold iC;simp)];rw [show pre.length-(iC pre).length=0 by unfold iC;simp];rfl
theorem DL {w:World} {B:Nat} {v:Value} {l:List Int} {op:Oper} {a:Act} {K:Act->World->Prop} {Q:Exit->Act->World->Prop} (s x:Operand)
  (ho:op.op=.call { callee:=.builtin .append,args:=#[s,x],argTypes:=#[28,28] }) (hown:RW w B v l) (hs:a.eval s=v) (b:Nat) (hx:a.eval x=.slice (some ⟨b,0,none⟩) 1 1) (u:Int) (hb:w.heap[b]?=some (.cells #[.int .i64 u] 3 (0,0)))
  (hn:l.length<=1000000) (hB:B<=w.heap.size) (h:∀v' w',RW w' B v' (l++[u])->w.grownBy w' v.ownBlock->(v'.ownBlock=v.ownBlock\/v'.ownBlock=some w.heap.size)->K (a.put op.dst v') w'):op.wp prog a w K Q:=by
 obtain ⟨i0,hi,hz0,hz1,hz2⟩:=info_parts RS
 obtain ⟨v',w',hr,h2,h3,h4⟩:=FY (P:=prog) w B 28 op.type 3 i0 _ 1 8 underlying28 hi hz0 hz1 hz2 rfl (by decide) v l.length (iC l) hown (some ⟨b,0,none⟩) 1 1 [.int .i64 u] (λh=>by cases h) rfl (λad had j y hj=>by
  rw [<- Option.some.inj had,Addr.add_lit,Nat.zero_add,cell_of_row w b j _ _ _ hb];show ([Value.int .i64 u].toArray)[j]?=some y;rw [fI];exact hj) (λy hy=>by rw [List.mem_singleton.1 hy];rfl) (by unfold maxLen;omega) (by omega) hB
 unfold Oper.wp execOp;simp only [ho,resolve,invoke,builtin,Sem.run_bind,Sem.run_pure,Result.andThen_ok,List.map_toArray,List.map_cons,List.map_nil,hs,hx,hr];exact h v' w' (by unfold RW;rw [aB,FX];exact h2) h3 h4
def GC (wr:World) (vc vt:Value) (cs ts:List Int) (bF B:Nat) (lv:Value) (bL off j:Nat) (t:Int):Nat->Value->World->Prop
 | 0,v,_=>v=vc
 | 1,v,w=>∃b,v=.slice (some ⟨b,0,none⟩) 1 1/\wr.heap.size<=b/\w.heap[b]?=some (.cells #[.int .i64 1] 3 (0,0))
 | 2,v,w=>RW w B v (cs++[1])/\(v.ownBlock=vc.ownBlock\/∃k,v.ownBlock=some k/\wr.heap.size<=k)
 | 3,v,_=>v=vt
 | 4,v,_=>v=.pointer (some ⟨bF,1,none⟩)
 | 5,v,_=>v=lv
 | 6,v,_=>v=.int .i64 (j:Nat)
 | 7,v,_=>v=.pointer (some ⟨bL,off+j,none⟩)
 | 8,v,_=>v=.int .i64 t
 | 9,v,w=>∃b,v=.slice (some ⟨b,0,none⟩) 1 1/\wr.heap.size<=b/\w.heap[b]?=some (.cells #[.int .i64 t] 3 (0,0))
 | 10,v,w=>RW w B v (ts++[t])/\(v.ownBlock=vt.ownBlock\/∃k,v.ownBlock=some k/\wr.heap.size<=k)
 | _,_,_=>True
def rV (vc vt:Value):Nat->Option Nat
 | 2=>vc.ownBlock
 | 10=>vt.ownBlock
 | _=>none
def RC (vc vt:Value) (cs ts:List Int) (B:Nat):Nat->World->Prop
 | 2,w=>RW w B vc cs
 | 10,w=>RW w B vt ts
 | _,_=>True
section
variable {wr:World} {vc vt:Value} {cs ts:List Int} {bF B:Nat} {lv:Value} {bL off j:Nat} {t:Int}
theorem D8 {k:Nat} (h2:k≠2) (h10:k≠10):rV vc vt k=none:=by
 unfold rV;split
 ·exact absurd rfl h2
 ·exact absurd rfl h10
 rfl
theorem BV {v:Value} {row:Option Nat} (h:∀q,v.ownBlock=some q->row≠some q):v.ownBlock=none\/v.ownBlock≠row:=by
 cases hv:v.ownBlock with
 | none=>exact .inl rfl
 | some q=>exact .inr λe=>h q hv e.symm
theorem JD (tJ:∀k,vc.ownBlock=some k->k<wr.heap.size) (tH:∀k,vt.ownBlock=some k->k<wr.heap.size) (hap:∀k,vc.ownBlock=some k->vt.ownBlock≠some k) (i k:Nat) (v:Value) (u u':World) (hi:i<11) (hik:i≠k)
  (hG:GC wr vc vt cs ts bF B lv bL off j t i v u) (hg:u.grownBy u' (rV vc vt k)):GC wr vc vt cs ts bF B lv bL off j t i v u':=by
 have hfp:∀q,rV vc vt k=some q->q<wr.heap.size:=λq hq=>by
  unfold rV at hq;split at hq
  ·exact tJ q hq
  ·exact tH q hq
  cases hq
 have hnew:∀b,wr.heap.size<=b->b<u.heap.size->u'.heap[b]?=u.heap[b]?:=λb h1 h2=>hg.block b h2 (λe=>by have:=hfp b e.symm;omega);have hcase:i=0\/i=1\/i=2\/i=3\/i=4\/i=5\/i=6\/i=7\/i=8\/i=9\/i=10:=by omega
 rcases hcase with rfl|rfl|rfl|rfl|rfl|rfl|rfl|rfl|rfl|rfl|rfl
 ·exact hG
 ·obtain ⟨b,h1,h2,h3⟩:=hG;exact ⟨b,h1,h2,by rw [hnew b h2 (kD.1 h3).1];exact h3⟩
 ·refine ⟨hG.1.grown hg (BV λq hq hf=>?_),hG.2⟩
  have FZ:k=10:=by
   rcases Nat.decEq k 10 with h|h
   ·rw [D8 (λe=>hik e.symm) h] at hf;cases hf
   exact h
  subst FZ;rcases hG.2 with h|⟨q',h,hq'⟩
  ·exact hap q (h ▸ hq) hf
  rw [hq] at h;injection h with h;have:=tH q hf;omega
 ·exact hG
 ·exact hG
 ·exact hG
 ·exact hG
 ·exact hG
 ·exact hG
 ·obtain ⟨b,h1,h2,h3⟩:=hG;exact ⟨b,h1,h2,by rw [hnew b h2 (kD.1 h3).1];exact h3⟩
 refine ⟨hG.1.grown hg (BV λq hq hf=>?_),hG.2⟩
 have hk2:k=2:=by
  rcases Nat.decEq k 2 with h|h
  ·rw [D8 h (λe=>hik e.symm)] at hf;cases hf
  exact h
 subst hk2;rcases hG.2 with h|⟨q',h,hq'⟩
 ·exact hap q hf (h ▸ hq)
 rw [hq] at h;injection h with h;have:=tJ q hf;omega
theorem JE (hap:∀k,vc.ownBlock=some k->vt.ownBlock≠some k) (i k:Nat) (u u':World) (hik:i≠k) (hR:RC vc vt cs ts B i u) (hg:u.grownBy u' (rV vc vt k)):RC vc vt cs ts B i u':=by
 by_cases h2:i=2
 ·subst h2;refine RW.grown hR hg (BV λq hq hf=>?_)
  have FZ:k=10:=by
   rcases Nat.decEq k 10 with h|h
   ·rw [D8 (λe=>hik e.symm) h] at hf;cases hf
   exact h
  subst FZ;exact hap q hq hf
 by_cases h10:i=10
 ·subst h10;refine RW.grown hR hg (BV λq hq hf=>?_)
  have hk2:k=2:=by
   rcases Nat.decEq k 2 with h|h
   ·rw [D8 h (λe=>hik e.symm)] at hf;cases hf
   exact h
  subst hk2;exact hap q hf hq
 unfold RC;split
 ·exact absurd rfl h2
 ·exact absurd rfl h10
 trivial
def KC (wb wr:World) (vc vt:Value) (w:World):Prop:=Below wb.heap.size wb w/\wr.heap.size<=w.heap.size/\∀k,k<wr.heap.size->some k≠vc.ownBlock->some k≠vt.ownBlock->w.heap[k]?=wr.heap[k]?
theorem JF {wb:World} (tJ:∀k,vc.ownBlock=some k->wb.heap.size<=k) (tH:∀k,vt.ownBlock=some k->wb.heap.size<=k) (k:Nat) (u u':World) (h:KC wb wr vc vt u) (hg:u.grownBy u' (rV vc vt k)):KC wb wr vc vt u':=by
 have hcase:rV vc vt k=none\/rV vc vt k=vc.ownBlock\/rV vc vt k=vt.ownBlock:=by
  unfold rV;split
  ·exact .inr (.inl rfl)
  ·exact .inr (.inr rfl)
  exact .inl rfl
 refine ⟨h.1.grown hg h.1.size λq hq=>?_,tL h.2.1 hg.size,λq hq h1 h2=>?_⟩
 ·rcases hcase with e|e|e
  ·rw [e] at hq;cases hq
  ·exact tJ q (by rw [<- e];exact hq)
  exact tH q (by rw [<- e];exact hq)
 rw [hg.block q (nH hq h.2.1) (by
  rcases hcase with e|e|e
  ·rw [e];simp
  ·rw [e];exact h1
  rw [e];exact h2)]
 exact h.2.2 q hq h1 h2
theorem DK {wb:World} {w:World} (h:KC wb wr vc vt w) {b o:Nat} {x:Value} (hb:b<wb.heap.size) (tJ:∀k,vc.ownBlock=some k->wb.heap.size<=k) (tH:∀k,vt.ownBlock=some k->wb.heap.size<=k) (hs:wb.heap.size<=wr.heap.size) (hc:wr.cell? ⟨b,o,none⟩=some x):w.cell? ⟨b,o,none⟩=some x:=by
 rw [World.cell?_of_block (a:=⟨b,o,none⟩) (h.2.2 b (by omega) (λe=>by have:=tJ b e.symm;omega) (λe=>by have:=tH b e.symm;omega))];exact hc
theorem ru (w:World) (r:Option Nat):w.grownBy w r:=⟨rfl,rfl,rfl,aI _,λ_ _ _=>rfl⟩
end
end Enc
end Go.Proofs.YtmfcojpjpgldhaaGreatDoor
