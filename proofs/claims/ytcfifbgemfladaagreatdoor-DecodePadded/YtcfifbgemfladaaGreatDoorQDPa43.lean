/- Texts that the claim needs. -/
import Derived.Test.YtcfifbgemfladaaGreatDoorQDPa0
import Derived.Laws.BitsAllLaws
import Derived.Lib.ValidLaws
import Derived.Deep.Cut
namespace Go.Proofs.YtcfifbgemfladaaGreatDoor
open Go.RowKit au
namespace au
open Go.Lib
def bA (l:List UInt8) (k:Nat):Nat:=(l.getD k 0).toNat
theorem qY (l:List UInt8) (k:Nat):bA l k<256:=(l.getD k 0).toNat_lt
def pE (x:Nat):Bool:=decide (128<=x/\x<=191)
theorem getD_drop (l:List UInt8) (i k:Nat):(l.drop i).getD k 0=l.getD (i+k) 0:=by
 rw [List.getD_eq_getElem?_getD,List.getD_eq_getElem?_getD,List.getElem?_drop]
theorem v1 (l:List UInt8) (i:Nat) (hi:i<l.length) (h:bA l i<128):validD (l.drop i)=validD (l.drop (i+1)):=by
 have e:l.drop i=l.getD i 0 :: l.drop (i+1):=by
  rw [nN hi,List.getD_eq_getElem?_getD,bG hi];rfl
 rw [e];exact validD_cons _ _ h
theorem aab (l:List UInt8) (i:Nat) (hi:l.length<=i):validD (l.drop i)=true:=by
 rw [BJ hi];rfl
theorem aac (l:List UInt8) (i:Nat) (hi:i<l.length):l.drop i≠[]:=by
 intro h
 have:(l.drop i).length=0:=by rw [h];rfl
 rw [List.length_drop] at this;omega
theorem GU (l:List UInt8) (i:Nat) (hi:i<l.length) (h:128<=bA l i) :
  validD (l.drop i)=match checkN (l.length-i) (bA l (i+1)) (bA l (i+2)) (bA l (i+3)) (firstT (bA l i)%8) (accLo (firstT (bA l i) / 16)) (accHi (firstT (bA l i) / 16)) with
   | none=>false
   | some k=>validD (l.drop (i+k)):=by
 have h0:128<=((l.drop i).getD 0 0).toNat:=by rw [getD_drop];exact h
 rw [validD_lead _ (aac l i hi) h0,List.length_drop,getD_drop,getD_drop,getD_drop,getD_drop];simp only [List.drop_drop];rfl
theorem aaa (l:List UInt8) (i:Nat) (hi:i<l.length) (h:128<=bA l i) (h2:bA l i<194\/245<=bA l i):validD (l.drop i)=false:=by
 rw [GU l i hi h];generalize bA l i=b at *
 have e:firstT b=241:=by
  unfold firstT
  repeat' split
  all_goals first|rfl|(exfalso;omega)
 rw [e];simp [checkN]
theorem v2 (l:List UInt8) (i:Nat) (hi:i<l.length) (h:194<=bA l i/\bA l i<=223) :
  validD (l.drop i)=(decide (i+1<l.length)&&pE (bA l (i+1))&&validD (l.drop (i+2))):=by
 rw [GU l i hi (by omega)];generalize bA l i=b at *
 have e:firstT b=2:=by
  unfold firstT
  repeat' split
  all_goals first|rfl|(exfalso;omega)
 rw [e];simp only [checkN,accLo,accHi,pE];generalize bA l (i+1)=b1;by_cases h1:l.length-i<2\/b1<128\/191<b1
 ·simp only [h1,AE,Nat.reduceMod,Nat.reduceDiv]
  have:(decide (i+1<l.length)&&decide (128<=b1/\b1<=191))=false:=by
   rw [Bool.and_eq_false_iff,decide_eq_false_iff_not,decide_eq_false_iff_not];omega
  rw [this];rfl
 simp only [h1,if_false,AE,Nat.reduceMod,Nat.reduceDiv]
 have:(decide (i+1<l.length)&&decide (128<=b1/\b1<=191))=true:=by
  rw [bH,decide_eq_true_iff,decide_eq_true_iff];omega
 rw [this];rfl
theorem v3 (l:List UInt8) (i:Nat) (hi:i<l.length) (h:224<=bA l i/\bA l i<=239) :
  validD (l.drop i)=(decide (i+1<l.length)&&pE (bA l (i+1))&&(decide (i+2<l.length)&&pE (bA l (i+2))) &&
   !(decide ((bA l i%16*64+bA l (i+1)%64)*64+bA l (i+2)%64<2048) || decide (55296<=(bA l i%16*64+bA l (i+1)%64)*64+bA l (i+2)%64/\(bA l i%16*64+bA l (i+1)%64)*64+bA l (i+2)%64<=57343))&&validD (l.drop (i+3))):=by
 rw [GU l i hi (by omega)];have q1:=qY l (i+1);have q2:=qY l (i+2);generalize bA l i=b at *;generalize bA l (i+1)=b1 at *;generalize bA l (i+2)=b2 at *;generalize hV:validD (l.drop (i+3))=V
 have e:firstT b%8=3/\accLo (firstT b / 16)=(if b=224 then 160 else 128)/\accHi (firstT b / 16)=(if b=237 then 159 else 191):=by
  unfold firstT
  repeat' split
  all_goals first|(exfalso;omega)|(subst_vars;exact ⟨rfl,rfl,rfl⟩)|exact ⟨rfl,rfl,rfl⟩
 rw [e.1,e.2.1,e.2.2];simp only [checkN,pE];generalize hlo:(if b=224 then 160 else 128:Nat)=lo;generalize hhi:(if b=237 then 159 else 191:Nat)=hi';have aad:(b=224/\lo=160)\/(b≠224/\lo=128):=by split at hlo<;>omega
 have aae:(b=237/\hi'=159)\/(b≠237/\hi'=191):=by split at hhi<;>omega
 by_cases h1:l.length-i<3\/b1<lo\/hi'<b1\/b2<128\/191<b2
 ·simp only [h1,AE,Nat.reduceEqDiff,if_false]
  have:(decide (i+1<l.length)&&decide (128<=b1/\b1<=191)&&(decide (i+2<l.length)&&decide (128<=b2/\b2<=191)) &&
   !(decide ((b%16*64+b1%64)*64+b2%64<2048) || decide (55296<=(b%16*64+b1%64)*64+b2%64/\(b%16*64+b1%64)*64+b2%64<=57343)))=false:=by
   simp only [Bool.and_eq_false_iff,decide_eq_false_iff_not,Bool.not_eq_false',Bool.or_eq_true,decide_eq_true_iff];omega
  rw [this];rfl
 simp only [h1,AE,Nat.reduceEqDiff,if_false]
 have:(decide (i+1<l.length)&&decide (128<=b1/\b1<=191)&&(decide (i+2<l.length)&&decide (128<=b2/\b2<=191)) &&
  !(decide ((b%16*64+b1%64)*64+b2%64<2048) || decide (55296<=(b%16*64+b1%64)*64+b2%64/\(b%16*64+b1%64)*64+b2%64<=57343)))=true:=by
  simp only [bH,decide_eq_true_iff,Bool.not_eq_true',Bool.or_eq_false_iff,decide_eq_false_iff_not];omega
 rw [this,hV];rfl
theorem v4 (l:List UInt8) (i:Nat) (hi:i<l.length) (h:240<=bA l i/\bA l i<=244) :
  validD (l.drop i)=(decide (i+1<l.length)&&pE (bA l (i+1))&&(decide (i+2<l.length)&&pE (bA l (i+2)))&&(decide (i+3<l.length)&&pE (bA l (i+3))) &&
   !(decide (((bA l i%8*64+bA l (i+1)%64)*64+bA l (i+2)%64)*64+bA l (i+3)%64<65536) || decide (1114111<((bA l i%8*64+bA l (i+1)%64)*64+bA l (i+2)%64)*64+bA l (i+3)%64))&&validD (l.drop (i+4))):=by
 rw [GU l i hi (by omega)];have q1:=qY l (i+1);have q2:=qY l (i+2);have q3:=qY l (i+3);generalize bA l i=b at *;generalize bA l (i+1)=b1 at *;generalize bA l (i+2)=b2 at *;generalize bA l (i+3)=b3 at *;generalize hV:validD (l.drop (i+4))=V
 have e:firstT b%8=4/\accLo (firstT b / 16)=(if b=240 then 144 else 128)/\accHi (firstT b / 16)=(if b=244 then 143 else 191):=by
  unfold firstT
  repeat' split
  all_goals first|(exfalso;omega)|(subst_vars;exact ⟨rfl,rfl,rfl⟩)|exact ⟨rfl,rfl,rfl⟩
 rw [e.1,e.2.1,e.2.2];simp only [checkN,pE];generalize hlo:(if b=240 then 144 else 128:Nat)=lo;generalize hhi:(if b=244 then 143 else 191:Nat)=hi';have aad:(b=240/\lo=144)\/(b≠240/\lo=128):=by split at hlo<;>omega
 have aae:(b=244/\hi'=143)\/(b≠244/\hi'=191):=by split at hhi<;>omega
 by_cases h1:l.length-i<4\/b1<lo\/hi'<b1\/b2<128\/191<b2\/b3<128\/191<b3
 ·simp only [h1,AE,Nat.reduceEqDiff,if_false]
  have:(decide (i+1<l.length)&&decide (128<=b1/\b1<=191)&&(decide (i+2<l.length)&&decide (128<=b2/\b2<=191))&&(decide (i+3<l.length)&&decide (128<=b3/\b3<=191)) &&
   !(decide (((b%8*64+b1%64)*64+b2%64)*64+b3%64<65536) || decide (1114111<((b%8*64+b1%64)*64+b2%64)*64+b3%64)))=false:=by
   simp only [Bool.and_eq_false_iff,decide_eq_false_iff_not,Bool.not_eq_false',Bool.or_eq_true,decide_eq_true_iff];omega
  rw [this];rfl
 simp only [h1,AE,Nat.reduceEqDiff,if_false]
 have:(decide (i+1<l.length)&&decide (128<=b1/\b1<=191)&&(decide (i+2<l.length)&&decide (128<=b2/\b2<=191))&&(decide (i+3<l.length)&&decide (128<=b3/\b3<=191)) &&
  !(decide (((b%8*64+b1%64)*64+b2%64)*64+b3%64<65536) || decide (1114111<((b%8*64+b1%64)*64+b2%64)*64+b3%64)))=true:=by
  simp only [bH,decide_eq_true_iff,Bool.not_eq_true',Bool.or_eq_false_iff,decide_eq_false_iff_not];omega
 rw [this,hV];rfl
def more (l:List UInt8) (j low:Nat):Nat->Nat->Nat->Bool
 | 0,k,v=>!(decide (v<low) || decide (1114111<v) || decide (55296<=v/\v<=57343))&&validD (l.drop (j+k))
 | m+1,k,v=>(decide (j+k<l.length)&&pE (bA l (j+k)))&&more l j low m (k+1) (v*64+bA l (j+k)%64)
theorem Z2 (l:List UInt8) (i:Nat) (hi:i<l.length) (h:194<=bA l i/\bA l i<=223):validD (l.drop i)=more l i 128 1 1 (bA l i%32):=by
 rw [v2 l i hi h];simp only [more];have q1:=qY l (i+1);generalize bA l i=b at *;generalize bA l (i+1)=b1 at *
 have e:(!(decide (b%32*64+b1%64<128) || decide (1114111<b%32*64+b1%64) || decide (55296<=b%32*64+b1%64/\b%32*64+b1%64<=57343)))=true:=by
  simp only [Bool.not_eq_true',Bool.or_eq_false_iff,decide_eq_false_iff_not];omega
 rw [e,jk]
theorem Z5 (l:List UInt8) (i:Nat) (hi:i<l.length) (h:224<=bA l i/\bA l i<=239):validD (l.drop i)=more l i 2048 2 1 (bA l i%16):=by
 rw [v3 l i hi h];simp only [more];have q1:=qY l (i+1);have q2:=qY l (i+2);generalize bA l i=b at *;generalize bA l (i+1)=b1 at *;generalize bA l (i+2)=b2 at *;have e:decide (1114111<(b%16*64+b1%64)*64+b2%64)=false:=by rw [decide_eq_false_iff_not];omega
 rw [e,Bool.or_false];simp only [yh]
theorem Z9 (l:List UInt8) (i:Nat) (hi:i<l.length) (h:240<=bA l i/\bA l i<=244):validD (l.drop i)=more l i 65536 3 1 (bA l i%8):=by
 rw [v4 l i hi h];simp only [more];have q1:=qY l (i+1);have q2:=qY l (i+2);have q3:=qY l (i+3);generalize bA l i=b at *;generalize bA l (i+1)=b1 at *;generalize bA l (i+2)=b2 at *;generalize bA l (i+3)=b3 at *;generalize hv:((b%8*64+b1%64)*64+b2%64)*64+b3%64=v
 have e:(!(decide (v<65536) || decide (1114111<v) || decide (55296<=v/\v<=57343))) = !(decide (v<65536) || decide (1114111<v)):=by
  by_cases c:v<65536
  ·simp [c]
  have:decide (55296<=v/\v<=57343)=false:=by rw [decide_eq_false_iff_not];omega
  rw [this,Bool.or_false]
 rw [e];simp only [yh]
def om (k v:Nat):Prop:=(k=1/\v<32)\/(k=2/\v<2048)\/(k=3/\v<131072)\/(k=4/\v<8388608)
theorem om.on {k v x:Nat} (h:om k v) (hk:k<=3):om (k+1) (v*64+x%64):=by unfold om at *;omega
theorem om.lt {k v:Nat} (h:om k v):v<8388608:=by unfold om at h;omega
theorem Cj (p:Nat->Bool) (h:(List.range 256).all p=true) (c:Nat) (h1:c<256):p c=true:=by
 rw [dN] at h;exact h _ (List.mem_range.2 h1)
theorem GR (c:Nat) (h:c<256):wrap64 (c:Int)=c:=by
 have:=Cj (λn=>wrap64 (n:Int)==(n:Int)) (by decide +kernel) c h
 simpa using this
theorem a31 (c:Nat) (h:c<256):bits .and .i64 (c:Int) 31=((c%32:Nat):Int):=by
 have:=Cj (λn=>bits .and .i64 (n:Int) 31==((n%32:Nat):Int)) (by decide +kernel) c h
 simpa using this
theorem Z6 (c:Nat) (h:c<256):bits .and .i64 (c:Int) 15=((c%16:Nat):Int):=by
 have:=Cj (λn=>bits .and .i64 (n:Int) 15==((n%16:Nat):Int)) (by decide +kernel) c h
 simpa using this
theorem a7 (c:Nat) (h:c<256):bits .and .i64 (c:Int) 7=((c%8:Nat):Int):=by
 have:=Cj (λn=>bits .and .i64 (n:Int) 7==((n%8:Nat):Int)) (by decide +kernel) c h
 simpa using this
theorem Ki (c:Nat) (h:c<256):(bits .and .u8 (c:Int) 192 != 128) = !(pE c):=by
 have:=Cj (λn=>(bits .and .u8 (n:Int) 192 != 128)==!(pE n)) (by decide +kernel) c h
 simpa using this
theorem a63 (c:Nat) (h:c<256):bits .and .u8 (c:Int) 63=((c%64:Nat):Int):=by
 have:=Cj (λn=>bits .and .u8 (n:Int) 63==((n%64:Nat):Int)) (by decide +kernel) c h
 simpa using this
theorem Kj (v x:Nat) (h:v<8388608) (hx:x<64):bits .or .i64 ((v:Int)*64) (x:Int)=(v:Int)*64+(x:Int):=by
 have e1:(BitVec.ofInt 64 ((v:Int)*64)).toNat=v*64:=by rw [BitVec.toNat_ofInt];omega
 have e2:(BitVec.ofInt 64 (x:Int)).toNat=x:=by rw [BitVec.toNat_ofInt];omega
 show IntKind.i64.wrap (((BitVec.ofInt 64 ((v:Int)*64) ||| BitVec.ofInt 64 (x:Int)).toNat:Nat):Int)=_;rw [BitVec.toNat_or,e1,e2,nat_join 6 _ _ (by simp only [Nat.reducePow];omega) (by simp only [Nat.reducePow];omega),IntKind.wrap_i64];omega
theorem GQ (s:AH) (j:Nat) (h:j<s.size):s[j].toNat=bA s.data.toList j:=by
 unfold bA;have hl:j<s.data.toList.length:=by simpa using h
 rw [List.getD_eq_getElem?_getD,bG hl];rfl
end au
end Go.Proofs.YtcfifbgemfladaaGreatDoor
namespace Go.Proofs.YtcfifbgemfladaaGreatDoor
open Go.RowKit au Go.Proofs.Tryz
set_option linter.unusedVariables false
set_option maxRecDepth 100000
set_option maxHeartbeats 4000000
theorem ZZ (s:AH) (hs:s.size<=64) (w:AG):Calls prog 12 #[.string s] w λe w'=>e=.returned (.bool (Lib.validD s.data.toList))/\w'=w:=by
 obtain ⟨R,hR⟩:∃R,R=Lib.validD s.data.toList:=⟨_,rfl⟩;rw [<- hR];have HR:Hid (R=Lib.validD (s.data.toList.drop 0)):=hR;clear hR;have hsl:s.data.toList.length=s.size:=by simp
 have zy:=ah hsl;clear hsl;go_enter func12,ntmps12;go_wp2_with fail;go_loopw [3] (λi wr=>∃j:Nat,j<=s.size/\i=.int .i64 j/\Hid (R=Lib.validD (s.data.toList.drop j))/\wr=w) (λi _=>s.size-(RowKit.intOf i).toNat)
 case atStart=>exact ⟨0,by omega,rfl,HR,rfl⟩
 case round =>
  obtain ⟨j,hj,rfl,HK,rfl⟩:=hrel;by_cases hgo:j<s.size
  ·have HB:=ah (GQ s j hgo);have hlt:=qY s.data.toList j;have DV:Hid (j<s.data.toList.length):=by rw [zy.out];exact hgo
   go_upto_region 4 with fail;rw [HB.out,GR _ hlt];have HB2:Hid (∃b,b=bA s.data.toList j):=ah ⟨_,rfl⟩;obtain ⟨b,hb⟩:=HB2.out;rw [<- hb] at hlt ⊢;have cn:=ah hb;clear hb HB2 HB;by_cases c0:b<128
   ·have t0:decide ((b:Int)<128)=true:=ay;have HN:=ah (HK.out.trans (v1 _ _ DV.out (by rw [<- cn.out];exact c0)));clear HK;go_wp2;go_roundw
    case rel=>exact ⟨j+1,by omega,by go_num,HN,trivial⟩
    case measure=>simp [RowKit.intOf];omega
   have t0:decide ((b:Int)<128)=false:=aj;by_cases c1:194<=b/\b<=223
   ·have Z0:decide (194<=(b:Int))=true:=ay;have Z1:decide ((b:Int)<=223)=true:=ay;have HN:Hid (R=more s.data.toList j 128 1 1 (b%32)):=ah (HK.out.trans (by have:=Z2 _ _ DV.out (by rw [<- cn.out];exact c1);rw [<- cn.out] at this;exact this));have wE:=a31 b hlt;have xk:Hid (om 1 (b%32)):=ah (by unfold om;omega);generalize hv0:b%32=v0 at *;clear HK;go_wp2_with fail;obtain ⟨ws,hws⟩:∃ws,ws=wr:=⟨_,rfl⟩;rw [<- hws];have bh:=ah hws;clear hws;go_loopw [4,7] (λv k wr2=>∃kk vv:Nat,1<=kk/\kk<=2/\j+kk<=s.size/\v=.int .i64 vv/\k=.int .i64 kk/\Hid (om kk vv)/\Hid (R=more s.data.toList j 128 (2-kk) kk vv)/\wr2=ws) (λ_ k _=>3-(RowKit.intOf k).toNat)
    case atStart=>exact ⟨1,v0,by omega,by omega,by omega,rfl,rfl,xk,HN,rfl⟩
    case round =>
     obtain ⟨kk,vv,hk1,hk2,hk3,rfl,rfl,vX,HM,rfl⟩:=hrel;have hvl:=vX.out.lt;by_cases hke:kk<=1
     ·by_cases hin:j+kk<s.size
      ·have hx:=GQ s (j+kk) hin;have hxl:=qY s.data.toList (j+kk)
       have dR:Hid (R=(pE (bA s.data.toList (j+kk))&&more s.data.toList j 128 (2-(kk+1)) (kk+1) (vv*64+bA s.data.toList (j+kk)%64))):=ah (HM.out.trans (by
        rw [show 2-kk=(2-(kk+1))+1 by omega];show ((decide (j+kk<s.data.toList.length)&&_)&&_)=_;rw [zy.out,ay hin,jk]))
       have lS:Hid (om (kk+1) (vv*64+bA s.data.toList (j+kk)%64)):=ah (vX.out.on (by omega));generalize bA s.data.toList (j+kk)=x at *;have hc:=Ki x hxl;have h63:=a63 x hxl;have zm:=Kj vv (x%64) hvl (by omega);have hwx:=GR (x%64) (by omega);generalize hxm:x%64=xm at *;cases r9:pE x with
       | true =>
        rw [r9] at hc dR;rw [jk] at dR;have hc2:(bits .and .u8 (x:Int) 192 != 128)=false:=hc;clear hc r9 HM;go_wp2;go_roundw
        case rel=>exact ⟨kk+1,vv*64+xm,by omega,by omega,by omega,by go_num,by go_num,lS,dR,by first|exact bh.out|exact bh.out.symm|trivial|rfl⟩
        case measure=>simp [RowKit.intOf];omega
       | false =>
        rw [r9] at hc dR;have hc2:(bits .and .u8 (x:Int) 192 != 128)=true:=hc;have hF:R=false:=dR.out;subst hF;clear hc r9 HM dR;go_wp2;go_ret;exact ⟨rfl,by first|exact bh.out|exact bh.out.symm|trivial|rfl⟩
      have hF:R=false:=HM.out.trans (by
       rw [show 2-kk=(2-(kk+1))+1 by omega];show ((decide (j+kk<s.data.toList.length)&&_)&&_)=_;rw [zy.out,aj hin,Bool.false_and,Bool.false_and])
      subst hF;clear HM;go_wp2;go_ret;exact ⟨rfl,by first|exact bh.out|exact bh.out.symm|trivial|rfl⟩
     obtain rfl:kk=2:=by omega
     have dR:Hid (R=(!(decide (vv<128) || decide (1114111<vv) || decide (55296<=vv/\vv<=57343))&&Lib.validD (s.data.toList.drop (j+2)))):=HM;clear HM;clear vX HN xk wE Z0 Z1 t0 hk1 hk2 hke hv0;by_cases d1:vv<128
     ·have hF:R=false:=dR.out.trans (by rw [ay d1];rfl);subst hF;clear dR;go_wp2;go_ret;exact ⟨rfl,by first|exact bh.out|exact bh.out.symm|trivial|rfl⟩
     by_cases d2:1114111<vv
     ·have hF:R=false:=dR.out.trans (by rw [ay d2,Bool.or_true];rfl);subst hF;clear dR;go_wp2;go_ret;exact ⟨rfl,by first|exact bh.out|exact bh.out.symm|trivial|rfl⟩
     rw [aj d1,aj d2] at dR
     have hd:decide ((55296:Int)<=(vv:Int)/\(vv:Int)<=57343)=decide (55296<=vv/\vv<=57343):=by
      by_cases d3:55296<=vv/\vv<=57343
      ·rw [ay d3];exact ay
      rw [aj d3];exact aj
     go_wp2_with fail;refine (aX _ _ _ _).mono ?_;rintro e u ⟨rfl,rfl⟩;rw [hd];generalize decide (55296<=vv/\vv<=57343)=t at *;cases t with
     | true =>
      have hF:R=false:=dR.out;subst hF;clear dR;go_wp2;go_ret;exact ⟨rfl,by first|exact bh.out|exact bh.out.symm|trivial|rfl⟩
     | false =>
      have xa:Hid (R=Lib.validD (s.data.toList.drop (j+2))):=dR;clear dR;go_wp2;go_roundw
      case rel=>exact ⟨j+2,by omega,by go_num,xa,by first|exact bh.out|exact bh.out.symm|trivial|rfl⟩
      case measure=>simp [RowKit.intOf];omega
   have tf1:(decide (194<=(b:Int))&&decide ((b:Int)<=223))=false:=by rw [<- Bool.decide_and,decide_eq_false_iff_not];omega
   by_cases c2:224<=b/\b<=239
   ·have Z3:decide (224<=(b:Int))=true:=ay;have Z4:decide ((b:Int)<=239)=true:=ay;have HN:Hid (R=more s.data.toList j 2048 2 1 (b%16)):=ah (HK.out.trans (by have:=Z5 _ _ DV.out (by rw [<- cn.out];exact c2);rw [<- cn.out] at this;exact this));have wE:=Z6 b hlt;have xk:Hid (om 1 (b%16)):=ah (by unfold om;omega);generalize hv0:b%16=v0 at *;clear HK;go_wp2_with fail;obtain ⟨ws,hws⟩:∃ws,ws=wr:=⟨_,rfl⟩;rw [<- hws];have bh:=ah hws;clear hws;go_loopw [4,7] (λv k wr2=>∃kk vv:Nat,1<=kk/\kk<=3/\j+kk<=s.size/\v=.int .i64 vv/\k=.int .i64 kk/\Hid (om kk vv)/\Hid (R=more s.data.toList j 2048 (3-kk) kk vv)/\wr2=ws) (λ_ k _=>4-(RowKit.intOf k).toNat)
    case atStart=>exact ⟨1,v0,by omega,by omega,by omega,rfl,rfl,xk,HN,rfl⟩
    case round =>
     obtain ⟨kk,vv,hk1,hk2,hk3,rfl,rfl,vX,HM,rfl⟩:=hrel;have hvl:=vX.out.lt;by_cases hke:kk<=2
     ·by_cases hin:j+kk<s.size
      ·have hx:=GQ s (j+kk) hin;have hxl:=qY s.data.toList (j+kk)
       have dR:Hid (R=(pE (bA s.data.toList (j+kk))&&more s.data.toList j 2048 (3-(kk+1)) (kk+1) (vv*64+bA s.data.toList (j+kk)%64))):=ah (HM.out.trans (by
        rw [show 3-kk=(3-(kk+1))+1 by omega];show ((decide (j+kk<s.data.toList.length)&&_)&&_)=_;rw [zy.out,ay hin,jk]))
       have lS:Hid (om (kk+1) (vv*64+bA s.data.toList (j+kk)%64)):=ah (vX.out.on (by omega));generalize bA s.data.toList (j+kk)=x at *;have hc:=Ki x hxl;have h63:=a63 x hxl;have zm:=Kj vv (x%64) hvl (by omega);have hwx:=GR (x%64) (by omega);generalize hxm:x%64=xm at *;cases r9:pE x with
       | true =>
        rw [r9] at hc dR;rw [jk] at dR;have hc2:(bits .and .u8 (x:Int) 192 != 128)=false:=hc;clear hc r9 HM;go_wp2;go_roundw
        case rel=>exact ⟨kk+1,vv*64+xm,by omega,by omega,by omega,by go_num,by go_num,lS,dR,by first|exact bh.out|exact bh.out.symm|trivial|rfl⟩
        case measure=>simp [RowKit.intOf];omega
       | false =>
        rw [r9] at hc dR;have hc2:(bits .and .u8 (x:Int) 192 != 128)=true:=hc;have hF:R=false:=dR.out;subst hF;clear hc r9 HM dR;go_wp2;go_ret;exact ⟨rfl,by first|exact bh.out|exact bh.out.symm|trivial|rfl⟩
      have hF:R=false:=HM.out.trans (by
       rw [show 3-kk=(3-(kk+1))+1 by omega];show ((decide (j+kk<s.data.toList.length)&&_)&&_)=_;rw [zy.out,aj hin,Bool.false_and,Bool.false_and])
      subst hF;clear HM;go_wp2;go_ret;exact ⟨rfl,by first|exact bh.out|exact bh.out.symm|trivial|rfl⟩
     obtain rfl:kk=3:=by omega
     have dR:Hid (R=(!(decide (vv<2048) || decide (1114111<vv) || decide (55296<=vv/\vv<=57343))&&Lib.validD (s.data.toList.drop (j+3)))):=HM;clear HM;clear vX HN xk wE Z3 Z4 t0 hk1 hk2 hke hv0;by_cases d1:vv<2048
     ·have hF:R=false:=dR.out.trans (by rw [ay d1];rfl);subst hF;clear dR;go_wp2;go_ret;exact ⟨rfl,by first|exact bh.out|exact bh.out.symm|trivial|rfl⟩
     by_cases d2:1114111<vv
     ·have hF:R=false:=dR.out.trans (by rw [ay d2,Bool.or_true];rfl);subst hF;clear dR;go_wp2;go_ret;exact ⟨rfl,by first|exact bh.out|exact bh.out.symm|trivial|rfl⟩
     rw [aj d1,aj d2] at dR
     have hd:decide ((55296:Int)<=(vv:Int)/\(vv:Int)<=57343)=decide (55296<=vv/\vv<=57343):=by
      by_cases d3:55296<=vv/\vv<=57343
      ·rw [ay d3];exact ay
      rw [aj d3];exact aj
     go_wp2_with fail;refine (aX _ _ _ _).mono ?_;rintro e u ⟨rfl,rfl⟩;rw [hd];generalize decide (55296<=vv/\vv<=57343)=t at *;cases t with
     | true =>
      have hF:R=false:=dR.out;subst hF;clear dR;go_wp2;go_ret;exact ⟨rfl,by first|exact bh.out|exact bh.out.symm|trivial|rfl⟩
     | false =>
      have xa:Hid (R=Lib.validD (s.data.toList.drop (j+3))):=dR;clear dR;go_wp2;go_roundw
      case rel=>exact ⟨j+3,by omega,by go_num,xa,by first|exact bh.out|exact bh.out.symm|trivial|rfl⟩
      case measure=>simp [RowKit.intOf];omega
   have tf2:(decide (224<=(b:Int))&&decide ((b:Int)<=239))=false:=by rw [<- Bool.decide_and,decide_eq_false_iff_not];omega
   by_cases c3:240<=b/\b<=244
   ·have Z7:decide (240<=(b:Int))=true:=ay;have Z8:decide ((b:Int)<=244)=true:=ay;have HN:Hid (R=more s.data.toList j 65536 3 1 (b%8)):=ah (HK.out.trans (by have:=Z9 _ _ DV.out (by rw [<- cn.out];exact c3);rw [<- cn.out] at this;exact this));have wE:=a7 b hlt;have xk:Hid (om 1 (b%8)):=ah (by unfold om;omega);generalize hv0:b%8=v0 at *;clear HK;go_wp2_with fail;obtain ⟨ws,hws⟩:∃ws,ws=wr:=⟨_,rfl⟩;rw [<- hws];have bh:=ah hws;clear hws;go_loopw [4,7] (λv k wr2=>∃kk vv:Nat,1<=kk/\kk<=4/\j+kk<=s.size/\v=.int .i64 vv/\k=.int .i64 kk/\Hid (om kk vv)/\Hid (R=more s.data.toList j 65536 (4-kk) kk vv)/\wr2=ws) (λ_ k _=>5-(RowKit.intOf k).toNat)
    case atStart=>exact ⟨1,v0,by omega,by omega,by omega,rfl,rfl,xk,HN,rfl⟩
    case round =>
     obtain ⟨kk,vv,hk1,hk2,hk3,rfl,rfl,vX,HM,rfl⟩:=hrel;have hvl:=vX.out.lt;by_cases hke:kk<=3
     ·by_cases hin:j+kk<s.size
      ·have hx:=GQ s (j+kk) hin;have hxl:=qY s.data.toList (j+kk)
       have dR:Hid (R=(pE (bA s.data.toList (j+kk))&&more s.data.toList j 65536 (4-(kk+1)) (kk+1) (vv*64+bA s.data.toList (j+kk)%64))):=ah (HM.out.trans (by
        rw [show 4-kk=(4-(kk+1))+1 by omega];show ((decide (j+kk<s.data.toList.length)&&_)&&_)=_;rw [zy.out,ay hin,jk]))
       have lS:Hid (om (kk+1) (vv*64+bA s.data.toList (j+kk)%64)):=ah (vX.out.on (by omega));generalize bA s.data.toList (j+kk)=x at *;have hc:=Ki x hxl;have h63:=a63 x hxl;have zm:=Kj vv (x%64) hvl (by omega);have hwx:=GR (x%64) (by omega);generalize hxm:x%64=xm at *;cases r9:pE x with
       | true =>
        rw [r9] at hc dR;rw [jk] at dR;have hc2:(bits .and .u8 (x:Int) 192 != 128)=false:=hc;clear hc r9 HM;go_wp2;go_roundw
        case rel=>exact ⟨kk+1,vv*64+xm,by omega,by omega,by omega,by go_num,by go_num,lS,dR,by first|exact bh.out|exact bh.out.symm|trivial|rfl⟩
        case measure=>simp [RowKit.intOf];omega
       | false =>
        rw [r9] at hc dR;have hc2:(bits .and .u8 (x:Int) 192 != 128)=true:=hc;have hF:R=false:=dR.out;subst hF;clear hc r9 HM dR;go_wp2;go_ret;exact ⟨rfl,by first|exact bh.out|exact bh.out.symm|trivial|rfl⟩
      have hF:R=false:=HM.out.trans (by
       rw [show 4-kk=(4-(kk+1))+1 by omega];show ((decide (j+kk<s.data.toList.length)&&_)&&_)=_;rw [zy.out,aj hin,Bool.false_and,Bool.false_and])
      subst hF;clear HM;go_wp2;go_ret;exact ⟨rfl,by first|exact bh.out|exact bh.out.symm|trivial|rfl⟩
     obtain rfl:kk=4:=by omega
     have dR:Hid (R=(!(decide (vv<65536) || decide (1114111<vv) || decide (55296<=vv/\vv<=57343))&&Lib.validD (s.data.toList.drop (j+4)))):=HM;clear HM;clear vX HN xk wE Z7 Z8 t0 hk1 hk2 hke hv0;by_cases d1:vv<65536
     ·have hF:R=false:=dR.out.trans (by rw [ay d1];rfl);subst hF;clear dR;go_wp2;go_ret;exact ⟨rfl,by first|exact bh.out|exact bh.out.symm|trivial|rfl⟩
     by_cases d2:1114111<vv
     ·have hF:R=false:=dR.out.trans (by rw [ay d2,Bool.or_true];rfl);subst hF;clear dR;go_wp2;go_ret;exact ⟨rfl,by first|exact bh.out|exact bh.out.symm|trivial|rfl⟩
     rw [aj d1,aj d2] at dR
     have hd:decide ((55296:Int)<=(vv:Int)/\(vv:Int)<=57343)=decide (55296<=vv/\vv<=57343):=by
      by_cases d3:55296<=vv/\vv<=57343
      ·rw [ay d3];exact ay
      rw [aj d3];exact aj
     go_wp2_with fail;refine (aX _ _ _ _).mono ?_;rintro e u ⟨rfl,rfl⟩;rw [hd];generalize decide (55296<=vv/\vv<=57343)=t at *;cases t with
     | true =>
      have hF:R=false:=dR.out;subst hF;clear dR;go_wp2;go_ret;exact ⟨rfl,by first|exact bh.out|exact bh.out.symm|trivial|rfl⟩
     | false =>
      have xa:Hid (R=Lib.validD (s.data.toList.drop (j+4))):=dR;clear dR;go_wp2;go_roundw
      case rel=>exact ⟨j+4,by omega,by go_num,xa,by first|exact bh.out|exact bh.out.symm|trivial|rfl⟩
      case measure=>simp [RowKit.intOf];omega
   have tf3:(decide (240<=(b:Int))&&decide ((b:Int)<=244))=false:=by rw [<- Bool.decide_and,decide_eq_false_iff_not];omega
   have HF:Hid (R=false):=ah (HK.out.trans (aaa _ _ DV.out (by rw [<- cn.out];omega) (by rw [<- cn.out];omega)));have hF:=HF.out;subst hF;go_wp2
   all_goals (go_ret;exact ⟨rfl,rfl⟩)
  have hF:R=true:=HK.out.trans (aab _ _ (by rw [zy.out];omega));subst hF;go_wp2;go_ret;exact ⟨rfl,rfl⟩
namespace au
def uM (s:AH):Bool:=decide ((s.size:Int)<=64)&&Lib.validD s.data.toList
end au
theorem Kk (s:AH) (w:AG) (hs:s.size<=9223372036854775807) :
  Calls prog 55 #[.string s] w λe w'=>e=.returned (.bool (uM s))/\w'=w:=by
 unfold uM;by_cases h0:s.size<=64
 ·have h0z:decide ((s.size:Int)<=64)=true:=by simp;omega
  have CV:=ah (ZZ s h0 w);generalize Lib.validD s.data.toList=V at CV ⊢;rw [h0z,jk];go_enter func55,ntmps55;go_wp2_with fail;refine CV.out.mono ?_;rintro e w' ⟨rfl,rfl⟩;go_wp2;go_ret;exact ⟨rfl,rfl⟩
 have h0z:decide ((s.size:Int)<=64)=false:=by simp;omega
 rw [h0z,Bool.false_and];go_enter func55,ntmps55;go_wp2;go_ret;exact ⟨rfl,rfl⟩
end Go.Proofs.YtcfifbgemfladaaGreatDoor
