/- Texts that the claim needs. -/
import Derived.Test.YtmfcojpjpgldhaaGreatDoorQEBy0
import Derived.Laws.BitsAllLaws
import Derived.Lib.ValidLaws
import Derived.Test.YtmfcojpjpgldhaaGreatDoorQEBy2
import Derived.Deep.Cut
namespace Go.Proofs.YtmfcojpjpgldhaaGreatDoor
open Go.RowKit aA
namespace aA
open Go.Lib
def bJ (l:List UInt8) (k:Nat):Nat:=(l.getD k 0).toNat
theorem qK (l:List UInt8) (k:Nat):bJ l k<256:=(l.getD k 0).toNat_lt
def pg (x:Nat):Bool:=decide (128<=x/\x<=191)
theorem getD_drop (l:List UInt8) (i k:Nat):(l.drop i).getD k 0=l.getD (i+k) 0:=by
 rw [List.getD_eq_getElem?_getD,List.getD_eq_getElem?_getD,List.getElem?_drop]
theorem v1 (l:List UInt8) (i:Nat) (hi:i<l.length) (h:bJ l i<128):validD (l.drop i)=validD (l.drop (i+1)):=by
 have e:l.drop i=l.getD i 0 :: l.drop (i+1):=by
  rw [lX hi,List.getD_eq_getElem?_getD,aY hi];rfl
 rw [e];exact validD_cons _ _ h
theorem VH (l:List UInt8) (i:Nat) (hi:l.length<=i):validD (l.drop i)=true:=by
 rw [zz hi];rfl
theorem VI (l:List UInt8) (i:Nat) (hi:i<l.length):l.drop i≠[]:=by
 intro h
 have:(l.drop i).length=0:=by rw [h];rfl
 rw [p7] at this;omega
theorem EE (l:List UInt8) (i:Nat) (hi:i<l.length) (h:128<=bJ l i) :
  validD (l.drop i)=match checkN (l.length-i) (bJ l (i+1)) (bJ l (i+2)) (bJ l (i+3)) (firstT (bJ l i)%8) (accLo (firstT (bJ l i) / 16)) (accHi (firstT (bJ l i) / 16)) with
   | none=>false
   | some k=>validD (l.drop (i+k)):=by
 have h0:128<=((l.drop i).getD 0 0).toNat:=by rw [getD_drop];exact h
 rw [validD_lead _ (VI l i hi) h0,p7,getD_drop,getD_drop,getD_drop,getD_drop];simp only [List.drop_drop];rfl
theorem VG (l:List UInt8) (i:Nat) (hi:i<l.length) (h:128<=bJ l i) (h2:bJ l i<194\/245<=bJ l i):validD (l.drop i)=false:=by
 rw [EE l i hi h];generalize bJ l i=b at *
 have e:firstT b=241:=by
  unfold firstT
  repeat' split
  all_goals first|rfl|(exfalso;omega)
 rw [e];simp [checkN]
theorem v2 (l:List UInt8) (i:Nat) (hi:i<l.length) (h:194<=bJ l i/\bJ l i<=223) :
  validD (l.drop i)=(decide (i+1<l.length)&&pg (bJ l (i+1))&&validD (l.drop (i+2))):=by
 rw [EE l i hi (by omega)];generalize bJ l i=b at *
 have e:firstT b=2:=by
  unfold firstT
  repeat' split
  all_goals first|rfl|(exfalso;omega)
 rw [e];simp only [checkN,accLo,accHi,pg];generalize bJ l (i+1)=b1;by_cases h1:l.length-i<2\/b1<128\/191<b1
 ·simp only [h1,if_pos,Nat.reduceMod,Nat.reduceDiv]
  have:(decide (i+1<l.length)&&decide (128<=b1/\b1<=191))=false:=by
   rw [Bool.and_eq_false_iff,decide_eq_false_iff_not,decide_eq_false_iff_not];omega
  rw [this];rfl
 simp only [h1,if_false,if_pos,Nat.reduceMod,Nat.reduceDiv]
 have:(decide (i+1<l.length)&&decide (128<=b1/\b1<=191))=true:=by
  rw [gm,decide_eq_true_iff,decide_eq_true_iff];omega
 rw [this];rfl
theorem v3 (l:List UInt8) (i:Nat) (hi:i<l.length) (h:224<=bJ l i/\bJ l i<=239) :
  validD (l.drop i)=(decide (i+1<l.length)&&pg (bJ l (i+1))&&(decide (i+2<l.length)&&pg (bJ l (i+2))) &&
   !(decide ((bJ l i%16*64+bJ l (i+1)%64)*64+bJ l (i+2)%64<2048) || decide (55296<=(bJ l i%16*64+bJ l (i+1)%64)*64+bJ l (i+2)%64/\(bJ l i%16*64+bJ l (i+1)%64)*64+bJ l (i+2)%64<=57343))&&validD (l.drop (i+3))):=by
 rw [EE l i hi (by omega)];have q1:=qK l (i+1);have q2:=qK l (i+2);generalize bJ l i=b at *;generalize bJ l (i+1)=b1 at *;generalize bJ l (i+2)=b2 at *;generalize hV:validD (l.drop (i+3))=V
 have e:firstT b%8=3/\accLo (firstT b / 16)=(if b=224 then 160 else 128)/\accHi (firstT b / 16)=(if b=237 then 159 else 191):=by
  unfold firstT
  repeat' split
  all_goals first|(exfalso;omega)|(subst_vars;exact ⟨rfl,rfl,rfl⟩)|exact ⟨rfl,rfl,rfl⟩
 rw [e.1,e.2.1,e.2.2];simp only [checkN,pg];generalize hlo:(if b=224 then 160 else 128:Nat)=lo;generalize hhi:(if b=237 then 159 else 191:Nat)=hi';have VJ:(b=224/\lo=160)\/(b≠224/\lo=128):=by split at hlo<;>omega
 have VK:(b=237/\hi'=159)\/(b≠237/\hi'=191):=by split at hhi<;>omega
 by_cases h1:l.length-i<3\/b1<lo\/hi'<b1\/b2<128\/191<b2
 ·simp only [h1,if_pos,Nat.reduceEqDiff,if_false]
  have:(decide (i+1<l.length)&&decide (128<=b1/\b1<=191)&&(decide (i+2<l.length)&&decide (128<=b2/\b2<=191)) &&
   !(decide ((b%16*64+b1%64)*64+b2%64<2048) || decide (55296<=(b%16*64+b1%64)*64+b2%64/\(b%16*64+b1%64)*64+b2%64<=57343)))=false:=by
   simp only [Bool.and_eq_false_iff,decide_eq_false_iff_not,Bool.not_eq_false',Bool.or_eq_true,decide_eq_true_iff];omega
  rw [this];rfl
 simp only [h1,if_pos,Nat.reduceEqDiff,if_false]
 have:(decide (i+1<l.length)&&decide (128<=b1/\b1<=191)&&(decide (i+2<l.length)&&decide (128<=b2/\b2<=191)) &&
  !(decide ((b%16*64+b1%64)*64+b2%64<2048) || decide (55296<=(b%16*64+b1%64)*64+b2%64/\(b%16*64+b1%64)*64+b2%64<=57343)))=true:=by
  simp only [gm,decide_eq_true_iff,Bool.not_eq_true',Bool.or_eq_false_iff,decide_eq_false_iff_not];omega
 rw [this,hV];rfl
theorem v4 (l:List UInt8) (i:Nat) (hi:i<l.length) (h:240<=bJ l i/\bJ l i<=244) :
  validD (l.drop i)=(decide (i+1<l.length)&&pg (bJ l (i+1))&&(decide (i+2<l.length)&&pg (bJ l (i+2)))&&(decide (i+3<l.length)&&pg (bJ l (i+3))) &&
   !(decide (((bJ l i%8*64+bJ l (i+1)%64)*64+bJ l (i+2)%64)*64+bJ l (i+3)%64<65536) || decide (1114111<((bJ l i%8*64+bJ l (i+1)%64)*64+bJ l (i+2)%64)*64+bJ l (i+3)%64))&&validD (l.drop (i+4))):=by
 rw [EE l i hi (by omega)];have q1:=qK l (i+1);have q2:=qK l (i+2);have q3:=qK l (i+3);generalize bJ l i=b at *;generalize bJ l (i+1)=b1 at *;generalize bJ l (i+2)=b2 at *;generalize bJ l (i+3)=b3 at *;generalize hV:validD (l.drop (i+4))=V
 have e:firstT b%8=4/\accLo (firstT b / 16)=(if b=240 then 144 else 128)/\accHi (firstT b / 16)=(if b=244 then 143 else 191):=by
  unfold firstT
  repeat' split
  all_goals first|(exfalso;omega)|(subst_vars;exact ⟨rfl,rfl,rfl⟩)|exact ⟨rfl,rfl,rfl⟩
 rw [e.1,e.2.1,e.2.2];simp only [checkN,pg];generalize hlo:(if b=240 then 144 else 128:Nat)=lo;generalize hhi:(if b=244 then 143 else 191:Nat)=hi';have VJ:(b=240/\lo=144)\/(b≠240/\lo=128):=by split at hlo<;>omega
 have VK:(b=244/\hi'=143)\/(b≠244/\hi'=191):=by split at hhi<;>omega
 by_cases h1:l.length-i<4\/b1<lo\/hi'<b1\/b2<128\/191<b2\/b3<128\/191<b3
 ·simp only [h1,if_pos,Nat.reduceEqDiff,if_false]
  have:(decide (i+1<l.length)&&decide (128<=b1/\b1<=191)&&(decide (i+2<l.length)&&decide (128<=b2/\b2<=191))&&(decide (i+3<l.length)&&decide (128<=b3/\b3<=191)) &&
   !(decide (((b%8*64+b1%64)*64+b2%64)*64+b3%64<65536) || decide (1114111<((b%8*64+b1%64)*64+b2%64)*64+b3%64)))=false:=by
   simp only [Bool.and_eq_false_iff,decide_eq_false_iff_not,Bool.not_eq_false',Bool.or_eq_true,decide_eq_true_iff];omega
  rw [this];rfl
 simp only [h1,if_pos,Nat.reduceEqDiff,if_false]
 have:(decide (i+1<l.length)&&decide (128<=b1/\b1<=191)&&(decide (i+2<l.length)&&decide (128<=b2/\b2<=191))&&(decide (i+3<l.length)&&decide (128<=b3/\b3<=191)) &&
  !(decide (((b%8*64+b1%64)*64+b2%64)*64+b3%64<65536) || decide (1114111<((b%8*64+b1%64)*64+b2%64)*64+b3%64)))=true:=by
  simp only [gm,decide_eq_true_iff,Bool.not_eq_true',Bool.or_eq_false_iff,decide_eq_false_iff_not];omega
 rw [this,hV];rfl
def more (l:List UInt8) (j low:Nat):Nat->Nat->Nat->Bool
 | 0,k,v=>!(decide (v<low) || decide (1114111<v) || decide (55296<=v/\v<=57343))&&validD (l.drop (j+k))
 | m+1,k,v=>(decide (j+k<l.length)&&pg (bJ l (j+k)))&&more l j low m (k+1) (v*64+bJ l (j+k)%64)
theorem Vy (l:List UInt8) (i:Nat) (hi:i<l.length) (h:194<=bJ l i/\bJ l i<=223):validD (l.drop i)=more l i 128 1 1 (bJ l i%32):=by
 rw [v2 l i hi h];simp only [more];have q1:=qK l (i+1);generalize bJ l i=b at *;generalize bJ l (i+1)=b1 at *
 have e:(!(decide (b%32*64+b1%64<128) || decide (1114111<b%32*64+b1%64) || decide (55296<=b%32*64+b1%64/\b%32*64+b1%64<=57343)))=true:=by
  simp only [Bool.not_eq_true',Bool.or_eq_false_iff,decide_eq_false_iff_not];omega
 rw [e,fN]
theorem VB (l:List UInt8) (i:Nat) (hi:i<l.length) (h:224<=bJ l i/\bJ l i<=239):validD (l.drop i)=more l i 2048 2 1 (bJ l i%16):=by
 rw [v3 l i hi h];simp only [more];have q1:=qK l (i+1);have q2:=qK l (i+2);generalize bJ l i=b at *;generalize bJ l (i+1)=b1 at *;generalize bJ l (i+2)=b2 at *;have e:decide (1114111<(b%16*64+b1%64)*64+b2%64)=false:=by rw [decide_eq_false_iff_not];omega
 rw [e,Bool.or_false];simp only [xA]
theorem VF (l:List UInt8) (i:Nat) (hi:i<l.length) (h:240<=bJ l i/\bJ l i<=244):validD (l.drop i)=more l i 65536 3 1 (bJ l i%8):=by
 rw [v4 l i hi h];simp only [more];have q1:=qK l (i+1);have q2:=qK l (i+2);have q3:=qK l (i+3);generalize bJ l i=b at *;generalize bJ l (i+1)=b1 at *;generalize bJ l (i+2)=b2 at *;generalize bJ l (i+3)=b3 at *;generalize hv:((b%8*64+b1%64)*64+b2%64)*64+b3%64=v
 have e:(!(decide (v<65536) || decide (1114111<v) || decide (55296<=v/\v<=57343))) = !(decide (v<65536) || decide (1114111<v)):=by
  by_cases c:v<65536
  ·simp [c]
  have:decide (55296<=v/\v<=57343)=false:=by rw [decide_eq_false_iff_not];omega
  rw [this,Bool.or_false]
 rw [e];simp only [xA]
def oC (k v:Nat):Prop:=(k=1/\v<32)\/(k=2/\v<2048)\/(k=3/\v<131072)\/(k=4/\v<8388608)
theorem oC.on {k v x:Nat} (h:oC k v) (hk:k<=3):oC (k+1) (v*64+x%64):=by unfold oC at *;omega
theorem oC.lt {k v:Nat} (h:oC k v):v<8388608:=by unfold oC at h;omega
theorem Bb (p:Nat->Bool) (h:(List.range 256).all p=true) (c:Nat) (h1:c<256):p c=true:=by
 rw [iF] at h;exact h _ (List.mem_range.2 h1)
theorem ED (c:Nat) (h:c<256):wrap64 (c:Int)=c:=by
 have:=Bb (λn=>wrap64 (n:Int)==(n:Int)) (by decide +kernel) c h
 simpa using this
theorem a31 (c:Nat) (h:c<256):bits .and .i64 (c:Int) 31=((c%32:Nat):Int):=by
 have:=Bb (λn=>bits .and .i64 (n:Int) 31==((n%32:Nat):Int)) (by decide +kernel) c h
 simpa using this
theorem VC (c:Nat) (h:c<256):bits .and .i64 (c:Int) 15=((c%16:Nat):Int):=by
 have:=Bb (λn=>bits .and .i64 (n:Int) 15==((n%16:Nat):Int)) (by decide +kernel) c h
 simpa using this
theorem a7 (c:Nat) (h:c<256):bits .and .i64 (c:Int) 7=((c%8:Nat):Int):=by
 have:=Bb (λn=>bits .and .i64 (n:Int) 7==((n%8:Nat):Int)) (by decide +kernel) c h
 simpa using this
theorem G0 (c:Nat) (h:c<256):(bits .and .u8 (c:Int) 192 != 128) = !(pg c):=by
 have:=Bb (λn=>(bits .and .u8 (n:Int) 192 != 128)==!(pg n)) (by decide +kernel) c h
 simpa using this
theorem a63 (c:Nat) (h:c<256):bits .and .u8 (c:Int) 63=((c%64:Nat):Int):=by
 have:=Bb (λn=>bits .and .u8 (n:Int) 63==((n%64:Nat):Int)) (by decide +kernel) c h
 simpa using this
theorem G3 (v x:Nat) (h:v<8388608) (hx:x<64):bits .or .i64 ((v:Int)*64) (x:Int)=(v:Int)*64+(x:Int):=by
 have e1:(BitVec.ofInt 64 ((v:Int)*64)).toNat=v*64:=by rw [BitVec.toNat_ofInt];omega
 have e2:(BitVec.ofInt 64 (x:Int)).toNat=x:=by rw [BitVec.toNat_ofInt];omega
 show IntKind.i64.wrap (((BitVec.ofInt 64 ((v:Int)*64) ||| BitVec.ofInt 64 (x:Int)).toNat:Nat):Int)=_;rw [BitVec.toNat_or,e1,e2,nat_join 6 _ _ (by simp only [Nat.reducePow];omega) (by simp only [Nat.reducePow];omega),IntKind.wrap_i64];omega
theorem EC (s:ByteArray) (j:Nat) (h:j<s.size):s[j].toNat=bJ s.data.toList j:=by
 unfold bJ;have hl:j<s.data.toList.length:=by simpa using h
 rw [List.getD_eq_getElem?_getD,aY hl];rfl
end aA
end Go.Proofs.YtmfcojpjpgldhaaGreatDoor
namespace Go.Proofs.YtmfcojpjpgldhaaGreatDoor
open Go.RowKit aA Go.Proofs.Tryz
set_option linter.unusedVariables false
set_option maxRecDepth 100000
set_option maxHeartbeats 4000000
theorem Vv (s:ByteArray) (hs:s.size<=64) (w:World):Calls prog 114 #[.string s] w λe w'=>e=.returned (.bool (Lib.validD s.data.toList))/\w'=w:=by
 obtain ⟨R,hR⟩:∃R,R=Lib.validD s.data.toList:=⟨_,rfl⟩;rw [<- hR];have HR:Hid (R=Lib.validD (s.data.toList.drop 0)):=hR;clear hR;have hsl:s.data.toList.length=s.size:=by simp
 have yO:=ag hsl;clear hsl;go_enter func114,ntmps114;go_wp2_with fail;go_loopw [3] (λi wr=>∃j:Nat,j<=s.size/\i=.int .i64 j/\Hid (R=Lib.validD (s.data.toList.drop j))/\wr=w) (λi _=>s.size-(RowKit.intOf i).toNat)
 case atStart=>exact ⟨0,by omega,rfl,HR,rfl⟩
 case round =>
  obtain ⟨j,hj,rfl,HK,rfl⟩:=hrel;by_cases hgo:j<s.size
  ·have HB:=ag (EC s j hgo);have hlt:=qK s.data.toList j;have CL:Hid (j<s.data.toList.length):=by rw [yO.out];exact hgo
   go_upto_region 4 with fail;rw [HB.out,ED _ hlt];have HB2:Hid (∃b,b=bJ s.data.toList j):=ag ⟨_,rfl⟩;obtain ⟨b,hb⟩:=HB2.out;rw [<- hb] at hlt ⊢;have cZ:=ag hb;clear hb HB2 HB;by_cases c0:b<128
   ·have t0:decide ((b:Int)<128)=true:=aC (by omega);have HN:=ag (HK.out.trans (v1 _ _ CL.out (by rw [<- cZ.out];exact c0)));clear HK;go_wp2;go_roundw
    case rel=>exact ⟨j+1,by omega,by go_num,HN,trivial⟩
    case measure=>simp [RowKit.intOf];omega
   have t0:decide ((b:Int)<128)=false:=au (by omega);by_cases c1:194<=b/\b<=223
   ·have Vw:decide (194<=(b:Int))=true:=aC (by omega);have Vx:decide ((b:Int)<=223)=true:=aC (by omega);have HN:Hid (R=more s.data.toList j 128 1 1 (b%32)):=ag (HK.out.trans (by have:=Vy _ _ CL.out (by rw [<- cZ.out];exact c1);rw [<- cZ.out] at this;exact this));have eP:=a31 b hlt;have mq:Hid (oC 1 (b%32)):=ag (by unfold oC;omega);generalize hv0:b%32=v0 at *;clear HK;go_wp2_with fail;obtain ⟨ws,hws⟩:∃ws,ws=wr:=⟨_,rfl⟩;rw [<- hws];have aM:=ag hws;clear hws;go_loopw [4,7] (λv k wr2=>∃kk vv:Nat,1<=kk/\kk<=2/\j+kk<=s.size/\v=.int .i64 vv/\k=.int .i64 kk/\Hid (oC kk vv)/\Hid (R=more s.data.toList j 128 (2-kk) kk vv)/\wr2=ws) (λ_ k _=>3-(RowKit.intOf k).toNat)
    case atStart=>exact ⟨1,v0,by omega,by omega,by omega,rfl,rfl,mq,HN,rfl⟩
    case round =>
     obtain ⟨kk,vv,hk1,hk2,hk3,rfl,rfl,di,HM,rfl⟩:=hrel;have hvl:=di.out.lt;by_cases hke:kk<=1
     ·by_cases hin:j+kk<s.size
      ·have hx:=EC s (j+kk) hin;have hxl:=qK s.data.toList (j+kk)
       have fu:Hid (R=(pg (bJ s.data.toList (j+kk))&&more s.data.toList j 128 (2-(kk+1)) (kk+1) (vv*64+bJ s.data.toList (j+kk)%64))):=ag (HM.out.trans (by
        rw [show 2-kk=(2-(kk+1))+1 by omega];show ((decide (j+kk<s.data.toList.length)&&_)&&_)=_;rw [yO.out,aC hin,fN]))
       have eX:Hid (oC (kk+1) (vv*64+bJ s.data.toList (j+kk)%64)):=ag (di.out.on (by omega));generalize bJ s.data.toList (j+kk)=x at *;have hc:=G0 x hxl;have h63:=a63 x hxl;have yI:=G3 vv (x%64) hvl (by omega);have hwx:=ED (x%64) (by omega);generalize hxm:x%64=xm at *;cases fO:pg x with
       | true =>
        rw [fO] at hc fu;rw [fN] at fu;have hc2:(bits .and .u8 (x:Int) 192 != 128)=false:=hc;clear hc fO HM;go_wp2;go_roundw
        case rel=>exact ⟨kk+1,vv*64+xm,by omega,by omega,by omega,by go_num,by go_num,eX,fu,by first|exact aM.out|exact aM.out.symm|trivial|rfl⟩
        case measure=>simp [RowKit.intOf];omega
       | false =>
        rw [fO] at hc fu;have hc2:(bits .and .u8 (x:Int) 192 != 128)=true:=hc;have hF:R=false:=fu.out;subst hF;clear hc fO HM fu;go_wp2;go_ret;exact ⟨rfl,by first|exact aM.out|exact aM.out.symm|trivial|rfl⟩
      have hF:R=false:=HM.out.trans (by
       rw [show 2-kk=(2-(kk+1))+1 by omega];show ((decide (j+kk<s.data.toList.length)&&_)&&_)=_;rw [yO.out,au hin,Bool.false_and,Bool.false_and])
      subst hF;clear HM;go_wp2;go_ret;exact ⟨rfl,by first|exact aM.out|exact aM.out.symm|trivial|rfl⟩
     obtain rfl:kk=2:=by omega
     have fu:Hid (R=(!(decide (vv<128) || decide (1114111<vv) || decide (55296<=vv/\vv<=57343))&&Lib.validD (s.data.toList.drop (j+2)))):=HM;clear HM;clear di HN mq eP Vw Vx t0 hk1 hk2 hke hv0;by_cases d1:vv<128
     ·have hF:R=false:=fu.out.trans (by rw [aC d1];rfl);subst hF;clear fu;go_wp2;go_ret;exact ⟨rfl,by first|exact aM.out|exact aM.out.symm|trivial|rfl⟩
     by_cases d2:1114111<vv
     ·have hF:R=false:=fu.out.trans (by rw [aC d2,Bool.or_true];rfl);subst hF;clear fu;go_wp2;go_ret;exact ⟨rfl,by first|exact aM.out|exact aM.out.symm|trivial|rfl⟩
     rw [au d1,au d2] at fu
     have hd:decide ((55296:Int)<=(vv:Int)/\(vv:Int)<=57343)=decide (55296<=vv/\vv<=57343):=by
      by_cases d3:55296<=vv/\vv<=57343
      ·rw [aC d3];exact aC (by omega)
      rw [au d3];exact au (by omega)
     go_wp2_with fail;refine (bB _ _ _ _).mono ?_;rintro e u ⟨rfl,rfl⟩;rw [hd];generalize decide (55296<=vv/\vv<=57343)=t at *;cases t with
     | true =>
      have hF:R=false:=fu.out;subst hF;clear fu;go_wp2;go_ret;exact ⟨rfl,by first|exact aM.out|exact aM.out.symm|trivial|rfl⟩
     | false =>
      have CM:Hid (R=Lib.validD (s.data.toList.drop (j+2))):=fu;clear fu;go_wp2;go_roundw
      case rel=>exact ⟨j+2,by omega,by go_num,CM,by first|exact aM.out|exact aM.out.symm|trivial|rfl⟩
      case measure=>simp [RowKit.intOf];omega
   have tf1:(decide (194<=(b:Int))&&decide ((b:Int)<=223))=false:=by rw [<- Bool.decide_and,decide_eq_false_iff_not];omega
   by_cases c2:224<=b/\b<=239
   ·have Vz:decide (224<=(b:Int))=true:=aC (by omega);have VA:decide ((b:Int)<=239)=true:=aC (by omega);have HN:Hid (R=more s.data.toList j 2048 2 1 (b%16)):=ag (HK.out.trans (by have:=VB _ _ CL.out (by rw [<- cZ.out];exact c2);rw [<- cZ.out] at this;exact this));have eP:=VC b hlt;have mq:Hid (oC 1 (b%16)):=ag (by unfold oC;omega);generalize hv0:b%16=v0 at *;clear HK;go_wp2_with fail;obtain ⟨ws,hws⟩:∃ws,ws=wr:=⟨_,rfl⟩;rw [<- hws];have aM:=ag hws;clear hws;go_loopw [4,7] (λv k wr2=>∃kk vv:Nat,1<=kk/\kk<=3/\j+kk<=s.size/\v=.int .i64 vv/\k=.int .i64 kk/\Hid (oC kk vv)/\Hid (R=more s.data.toList j 2048 (3-kk) kk vv)/\wr2=ws) (λ_ k _=>4-(RowKit.intOf k).toNat)
    case atStart=>exact ⟨1,v0,by omega,by omega,by omega,rfl,rfl,mq,HN,rfl⟩
    case round =>
     obtain ⟨kk,vv,hk1,hk2,hk3,rfl,rfl,di,HM,rfl⟩:=hrel;have hvl:=di.out.lt;by_cases hke:kk<=2
     ·by_cases hin:j+kk<s.size
      ·have hx:=EC s (j+kk) hin;have hxl:=qK s.data.toList (j+kk)
       have fu:Hid (R=(pg (bJ s.data.toList (j+kk))&&more s.data.toList j 2048 (3-(kk+1)) (kk+1) (vv*64+bJ s.data.toList (j+kk)%64))):=ag (HM.out.trans (by
        rw [show 3-kk=(3-(kk+1))+1 by omega];show ((decide (j+kk<s.data.toList.length)&&_)&&_)=_;rw [yO.out,aC hin,fN]))
       have eX:Hid (oC (kk+1) (vv*64+bJ s.data.toList (j+kk)%64)):=ag (di.out.on (by omega));generalize bJ s.data.toList (j+kk)=x at *;have hc:=G0 x hxl;have h63:=a63 x hxl;have yI:=G3 vv (x%64) hvl (by omega);have hwx:=ED (x%64) (by omega);generalize hxm:x%64=xm at *;cases fO:pg x with
       | true =>
        rw [fO] at hc fu;rw [fN] at fu;have hc2:(bits .and .u8 (x:Int) 192 != 128)=false:=hc;clear hc fO HM;go_wp2;go_roundw
        case rel=>exact ⟨kk+1,vv*64+xm,by omega,by omega,by omega,by go_num,by go_num,eX,fu,by first|exact aM.out|exact aM.out.symm|trivial|rfl⟩
        case measure=>simp [RowKit.intOf];omega
       | false =>
        rw [fO] at hc fu;have hc2:(bits .and .u8 (x:Int) 192 != 128)=true:=hc;have hF:R=false:=fu.out;subst hF;clear hc fO HM fu;go_wp2;go_ret;exact ⟨rfl,by first|exact aM.out|exact aM.out.symm|trivial|rfl⟩
      have hF:R=false:=HM.out.trans (by
       rw [show 3-kk=(3-(kk+1))+1 by omega];show ((decide (j+kk<s.data.toList.length)&&_)&&_)=_;rw [yO.out,au hin,Bool.false_and,Bool.false_and])
      subst hF;clear HM;go_wp2;go_ret;exact ⟨rfl,by first|exact aM.out|exact aM.out.symm|trivial|rfl⟩
     obtain rfl:kk=3:=by omega
     have fu:Hid (R=(!(decide (vv<2048) || decide (1114111<vv) || decide (55296<=vv/\vv<=57343))&&Lib.validD (s.data.toList.drop (j+3)))):=HM;clear HM;clear di HN mq eP Vz VA t0 hk1 hk2 hke hv0;by_cases d1:vv<2048
     ·have hF:R=false:=fu.out.trans (by rw [aC d1];rfl);subst hF;clear fu;go_wp2;go_ret;exact ⟨rfl,by first|exact aM.out|exact aM.out.symm|trivial|rfl⟩
     by_cases d2:1114111<vv
     ·have hF:R=false:=fu.out.trans (by rw [aC d2,Bool.or_true];rfl);subst hF;clear fu;go_wp2;go_ret;exact ⟨rfl,by first|exact aM.out|exact aM.out.symm|trivial|rfl⟩
     rw [au d1,au d2] at fu
     have hd:decide ((55296:Int)<=(vv:Int)/\(vv:Int)<=57343)=decide (55296<=vv/\vv<=57343):=by
      by_cases d3:55296<=vv/\vv<=57343
      ·rw [aC d3];exact aC (by omega)
      rw [au d3];exact au (by omega)
     go_wp2_with fail;refine (bB _ _ _ _).mono ?_;rintro e u ⟨rfl,rfl⟩;rw [hd];generalize decide (55296<=vv/\vv<=57343)=t at *;cases t with
     | true =>
      have hF:R=false:=fu.out;subst hF;clear fu;go_wp2;go_ret;exact ⟨rfl,by first|exact aM.out|exact aM.out.symm|trivial|rfl⟩
     | false =>
      have CM:Hid (R=Lib.validD (s.data.toList.drop (j+3))):=fu;clear fu;go_wp2;go_roundw
      case rel=>exact ⟨j+3,by omega,by go_num,CM,by first|exact aM.out|exact aM.out.symm|trivial|rfl⟩
      case measure=>simp [RowKit.intOf];omega
   have tf2:(decide (224<=(b:Int))&&decide ((b:Int)<=239))=false:=by rw [<- Bool.decide_and,decide_eq_false_iff_not];omega
   by_cases c3:240<=b/\b<=244
   ·have VD:decide (240<=(b:Int))=true:=aC (by omega);have VE:decide ((b:Int)<=244)=true:=aC (by omega);have HN:Hid (R=more s.data.toList j 65536 3 1 (b%8)):=ag (HK.out.trans (by have:=VF _ _ CL.out (by rw [<- cZ.out];exact c3);rw [<- cZ.out] at this;exact this));have eP:=a7 b hlt;have mq:Hid (oC 1 (b%8)):=ag (by unfold oC;omega);generalize hv0:b%8=v0 at *;clear HK;go_wp2_with fail;obtain ⟨ws,hws⟩:∃ws,ws=wr:=⟨_,rfl⟩;rw [<- hws];have aM:=ag hws;clear hws;go_loopw [4,7] (λv k wr2=>∃kk vv:Nat,1<=kk/\kk<=4/\j+kk<=s.size/\v=.int .i64 vv/\k=.int .i64 kk/\Hid (oC kk vv)/\Hid (R=more s.data.toList j 65536 (4-kk) kk vv)/\wr2=ws) (λ_ k _=>5-(RowKit.intOf k).toNat)
    case atStart=>exact ⟨1,v0,by omega,by omega,by omega,rfl,rfl,mq,HN,rfl⟩
    case round =>
     obtain ⟨kk,vv,hk1,hk2,hk3,rfl,rfl,di,HM,rfl⟩:=hrel;have hvl:=di.out.lt;by_cases hke:kk<=3
     ·by_cases hin:j+kk<s.size
      ·have hx:=EC s (j+kk) hin;have hxl:=qK s.data.toList (j+kk)
       have fu:Hid (R=(pg (bJ s.data.toList (j+kk))&&more s.data.toList j 65536 (4-(kk+1)) (kk+1) (vv*64+bJ s.data.toList (j+kk)%64))):=ag (HM.out.trans (by
        rw [show 4-kk=(4-(kk+1))+1 by omega];show ((decide (j+kk<s.data.toList.length)&&_)&&_)=_;rw [yO.out,aC hin,fN]))
       have eX:Hid (oC (kk+1) (vv*64+bJ s.data.toList (j+kk)%64)):=ag (di.out.on (by omega));generalize bJ s.data.toList (j+kk)=x at *;have hc:=G0 x hxl;have h63:=a63 x hxl;have yI:=G3 vv (x%64) hvl (by omega);have hwx:=ED (x%64) (by omega);generalize hxm:x%64=xm at *;cases fO:pg x with
       | true =>
        rw [fO] at hc fu;rw [fN] at fu;have hc2:(bits .and .u8 (x:Int) 192 != 128)=false:=hc;clear hc fO HM;go_wp2;go_roundw
        case rel=>exact ⟨kk+1,vv*64+xm,by omega,by omega,by omega,by go_num,by go_num,eX,fu,by first|exact aM.out|exact aM.out.symm|trivial|rfl⟩
        case measure=>simp [RowKit.intOf];omega
       | false =>
        rw [fO] at hc fu;have hc2:(bits .and .u8 (x:Int) 192 != 128)=true:=hc;have hF:R=false:=fu.out;subst hF;clear hc fO HM fu;go_wp2;go_ret;exact ⟨rfl,by first|exact aM.out|exact aM.out.symm|trivial|rfl⟩
      have hF:R=false:=HM.out.trans (by
       rw [show 4-kk=(4-(kk+1))+1 by omega];show ((decide (j+kk<s.data.toList.length)&&_)&&_)=_;rw [yO.out,au hin,Bool.false_and,Bool.false_and])
      subst hF;clear HM;go_wp2;go_ret;exact ⟨rfl,by first|exact aM.out|exact aM.out.symm|trivial|rfl⟩
     obtain rfl:kk=4:=by omega
     have fu:Hid (R=(!(decide (vv<65536) || decide (1114111<vv) || decide (55296<=vv/\vv<=57343))&&Lib.validD (s.data.toList.drop (j+4)))):=HM;clear HM;clear di HN mq eP VD VE t0 hk1 hk2 hke hv0;by_cases d1:vv<65536
     ·have hF:R=false:=fu.out.trans (by rw [aC d1];rfl);subst hF;clear fu;go_wp2;go_ret;exact ⟨rfl,by first|exact aM.out|exact aM.out.symm|trivial|rfl⟩
     by_cases d2:1114111<vv
     ·have hF:R=false:=fu.out.trans (by rw [aC d2,Bool.or_true];rfl);subst hF;clear fu;go_wp2;go_ret;exact ⟨rfl,by first|exact aM.out|exact aM.out.symm|trivial|rfl⟩
     rw [au d1,au d2] at fu
     have hd:decide ((55296:Int)<=(vv:Int)/\(vv:Int)<=57343)=decide (55296<=vv/\vv<=57343):=by
      by_cases d3:55296<=vv/\vv<=57343
      ·rw [aC d3];exact aC (by omega)
      rw [au d3];exact au (by omega)
     go_wp2_with fail;refine (bB _ _ _ _).mono ?_;rintro e u ⟨rfl,rfl⟩;rw [hd];generalize decide (55296<=vv/\vv<=57343)=t at *;cases t with
     | true =>
      have hF:R=false:=fu.out;subst hF;clear fu;go_wp2;go_ret;exact ⟨rfl,by first|exact aM.out|exact aM.out.symm|trivial|rfl⟩
     | false =>
      have CM:Hid (R=Lib.validD (s.data.toList.drop (j+4))):=fu;clear fu;go_wp2;go_roundw
      case rel=>exact ⟨j+4,by omega,by go_num,CM,by first|exact aM.out|exact aM.out.symm|trivial|rfl⟩
      case measure=>simp [RowKit.intOf];omega
   have tf3:(decide (240<=(b:Int))&&decide ((b:Int)<=244))=false:=by rw [<- Bool.decide_and,decide_eq_false_iff_not];omega
   have HF:Hid (R=false):=ag (HK.out.trans (VG _ _ CL.out (by rw [<- cZ.out];omega) (by rw [<- cZ.out];omega)));have hF:=HF.out;subst hF;go_wp2
   all_goals (go_ret;exact ⟨rfl,rfl⟩)
  have hF:R=true:=HK.out.trans (VH _ _ (by rw [yO.out];omega));subst hF;go_wp2;go_ret;exact ⟨rfl,rfl⟩
namespace aA
def tV (s:ByteArray):Bool:=decide ((s.size:Int)<=64)&&Lib.validD s.data.toList
end aA
theorem G5 (s:ByteArray) (w:World) (hs:s.size<=9223372036854775807) :
  Calls prog 89 #[.string s] w λe w'=>e=.returned (.bool (tV s))/\w'=w:=by
 unfold tV;by_cases h0:s.size<=64
 ·have h0z:decide ((s.size:Int)<=64)=true:=by simp;omega
  have CV:=ag (Vv s h0 w);generalize Lib.validD s.data.toList=V at CV ⊢;rw [h0z,fN];go_enter func89,ntmps89;go_wp2_with fail;refine CV.out.mono ?_;rintro e w' ⟨rfl,rfl⟩;go_wp2;go_ret;exact ⟨rfl,rfl⟩
 have h0z:decide ((s.size:Int)<=64)=false:=by simp;omega
 rw [h0z,Bool.false_and];go_enter func89,ntmps89;go_wp2;go_ret;exact ⟨rfl,rfl⟩
end Go.Proofs.YtmfcojpjpgldhaaGreatDoor
