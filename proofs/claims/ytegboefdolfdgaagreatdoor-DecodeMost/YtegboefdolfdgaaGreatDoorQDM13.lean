/- Texts that the claim needs. -/
import Derived.Test.YtegboefdolfdgaaGreatDoorQDM12
import Derived.Test.YtegboefdolfdgaaGreatDoorQDM0
import Derived.Deep.Cut
namespace Go.Proofs.YtegboefdolfdgaaGreatDoor
open Go.RowKit aA
set_option linter.unusedVariables false
set_option maxRecDepth 100000
set_option maxHeartbeats 4000000
theorem Gw (s:ByteArray) (hs:s.size<=1000000) (w:World):Calls Tryz.prog 30 #[.string s] w fun e w'=>e=.returned (.bool (Lib.validD s.data.toList))/\w'=w:=by
 obtain ⟨R,hR⟩:∃R,R=Lib.validD s.data.toList:=⟨_,rfl⟩;rw [<- hR];have HR:Hid (R=Lib.validD (s.data.toList.drop 0)):=hR;clear hR;have hsl:s.data.toList.length=s.size:=by simp
 have tF:=aj hsl;clear hsl;go_enter Tryz.func30,Tryz.ntmps30;go_wp2_with fail;go_loopw [3] (fun i wr=>∃j:Nat,j<=s.size/\i=.int .i64 j/\Hid (R=Lib.validD (s.data.toList.drop j))/\wr=w) (fun i _=>s.size-(RowKit.intOf i).toNat)
 case atStart=>exact ⟨0,by omega,rfl,HR,rfl⟩
 case round =>
  obtain ⟨j,hj,rfl,HK,rfl⟩:=hrel;by_cases hgo:j<s.size
  ·have HB:=aj (Bq s j hgo);have hlt:=mr s.data.toList j;have yd:Hid (j<s.data.toList.length):=by rw [tF.out];exact hgo
   go_upto_region 4 with fail;rw [HB.out,Br _ hlt];have HB2:Hid (∃b,b=aT s.data.toList j):=aj ⟨_,rfl⟩;obtain ⟨b,hb⟩:=HB2.out;rw [<- hb] at hlt ⊢;have rD:=aj hb;clear hb HB2 HB;by_cases c0:b<128
   ·have t0:decide ((b:Int)<128)=true:=decide_eq_true (by omega);have HN:=aj (HK.out.trans (v1 _ _ yd.out (by rw [<- rD.out];exact c0)));clear HK;go_wp2;go_roundw
    case rel=>exact ⟨j+1,by omega,by go_num,HN,trivial⟩
    case measure=>simp [RowKit.intOf];omega
   have t0:decide ((b:Int)<128)=false:=decide_eq_false (by omega);by_cases c1:194<=b/\b<=223
   ·have O3:decide (194<=(b:Int))=true:=decide_eq_true (by omega);have O4:decide ((b:Int)<=223)=true:=decide_eq_true (by omega);have HN:Hid (R=more s.data.toList j 128 1 1 (b%32)):=aj (HK.out.trans (by have:=O5 _ _ yd.out (by rw [<- rD.out];exact c1);rw [<- rD.out] at this;exact this));have yf:=a31 b hlt;have tH:Hid (jU 1 (b%32)):=aj (by unfold jU;omega);generalize hv0:b%32=v0 at *;clear HK;go_wp2_with fail;obtain ⟨ws,hws⟩:∃ws,ws=wr:=⟨_,rfl⟩;rw [<- hws];have bM:=aj hws;clear hws;go_loopw [4,7] (fun v k wr2=>∃kk vv:Nat,1<=kk/\kk<=2/\j+kk<=s.size/\v=.int .i64 vv/\k=.int .i64 kk/\Hid (jU kk vv)/\Hid (R=more s.data.toList j 128 (2-kk) kk vv)/\wr2=ws) (fun _ k _=>3-(RowKit.intOf k).toNat)
    case atStart=>exact ⟨1,v0,by omega,by omega,by omega,rfl,rfl,tH,HN,rfl⟩
    case round =>
     obtain ⟨kk,vv,hk1,hk2,hk3,rfl,rfl,pF,HM,rfl⟩:=hrel;have hvl:=pF.out.lt;by_cases hke:kk<=1
     ·by_cases hin:j+kk<s.size
      ·have hx:=Bq s (j+kk) hin;have hxl:=mr s.data.toList (j+kk)
       have bD:Hid (R=(ky (aT s.data.toList (j+kk)) && more s.data.toList j 128 (2-(kk+1)) (kk+1) (vv*64+aT s.data.toList (j+kk)%64))):=aj (HM.out.trans (by
        rw [show 2-kk=(2-(kk+1))+1 by omega];show ((decide (j+kk<s.data.toList.length) && _) && _)=_;rw [tF.out,decide_eq_true hin,Bool.true_and]))
       have bQ:Hid (jU (kk+1) (vv*64+aT s.data.toList (j+kk)%64)):=aj (pF.out.on (by omega));generalize aT s.data.toList (j+kk)=x at *;have hc:=De x hxl;have h63:=a63 x hxl;have oZ:=Df vv (x%64) hvl (by omega);have hwx:=Br (x%64) (by omega);generalize hxm:x%64=xm at *;cases ni:ky x with
       | true =>
        rw [ni] at hc bD;rw [Bool.true_and] at bD;have hc2:(bits .and .u8 (x:Int) 192 != 128)=false:=hc;clear hc ni HM;go_wp2;go_roundw
        case rel=>exact ⟨kk+1,vv*64+xm,by omega,by omega,by omega,by go_num,by go_num,bQ,bD,by first|exact bM.out|exact bM.out.symm|trivial|rfl⟩
        case measure=>simp [RowKit.intOf];omega
       | false =>
        rw [ni] at hc bD;have hc2:(bits .and .u8 (x:Int) 192 != 128)=true:=hc;have hF:R=false:=bD.out;subst hF;clear hc ni HM bD;go_wp2;go_ret;exact ⟨rfl,by first|exact bM.out|exact bM.out.symm|trivial|rfl⟩
      ·have hF:R=false:=HM.out.trans (by
        rw [show 2-kk=(2-(kk+1))+1 by omega];show ((decide (j+kk<s.data.toList.length) && _) && _)=_;rw [tF.out,decide_eq_false hin,Bool.false_and,Bool.false_and])
       subst hF;clear HM;go_wp2;go_ret;exact ⟨rfl,by first|exact bM.out|exact bM.out.symm|trivial|rfl⟩
     ·obtain rfl:kk=2:=by omega
      have bD:Hid (R=(!(decide (vv<128) || decide (1114111<vv) || decide (55296<=vv/\vv<=57343)) && Lib.validD (s.data.toList.drop (j+2)))):=HM;clear HM;clear pF HN tH yf O3 O4 t0 hk1 hk2 hke hv0;by_cases d1:vv<128
      ·have hF:R=false:=bD.out.trans (by rw [decide_eq_true d1];rfl);subst hF;clear bD;go_wp2;go_ret;exact ⟨rfl,by first|exact bM.out|exact bM.out.symm|trivial|rfl⟩
      by_cases d2:1114111<vv
      ·have hF:R=false:=bD.out.trans (by rw [decide_eq_true d2,Bool.or_true];rfl);subst hF;clear bD;go_wp2;go_ret;exact ⟨rfl,by first|exact bM.out|exact bM.out.symm|trivial|rfl⟩
      rw [decide_eq_false d1,decide_eq_false d2] at bD
      have hd:decide ((55296:Int)<=(vv:Int)/\(vv:Int)<=57343)=decide (55296<=vv/\vv<=57343):=by
       by_cases d3:55296<=vv/\vv<=57343
       ·rw [decide_eq_true d3];exact decide_eq_true (by omega)
       ·rw [decide_eq_false d3];exact decide_eq_false (by omega)
      go_wp2_with fail;refine (aO _ _ _ _).mono ?_;rintro e u ⟨rfl,rfl⟩;rw [hd];generalize decide (55296<=vv/\vv<=57343)=t at *;cases t with
      | true =>
       have hF:R=false:=bD.out;subst hF;clear bD;go_wp2;go_ret;exact ⟨rfl,by first|exact bM.out|exact bM.out.symm|trivial|rfl⟩
      | false =>
       have yg:Hid (R=Lib.validD (s.data.toList.drop (j+2))):=bD;clear bD;go_wp2;go_roundw
       case rel=>exact ⟨j+2,by omega,by go_num,yg,by first|exact bM.out|exact bM.out.symm|trivial|rfl⟩
       case measure=>simp [RowKit.intOf];omega
   have VI:(decide (194<=(b:Int)) && decide ((b:Int)<=223))=false:=by rw [<- Bool.decide_and,decide_eq_false_iff_not];omega
   by_cases c2:224<=b/\b<=239
   ·have O6:decide (224<=(b:Int))=true:=decide_eq_true (by omega);have O7:decide ((b:Int)<=239)=true:=decide_eq_true (by omega);have HN:Hid (R=more s.data.toList j 2048 2 1 (b%16)):=aj (HK.out.trans (by have:=O8 _ _ yd.out (by rw [<- rD.out];exact c2);rw [<- rD.out] at this;exact this));have yf:=O9 b hlt;have tH:Hid (jU 1 (b%16)):=aj (by unfold jU;omega);generalize hv0:b%16=v0 at *;clear HK;go_wp2_with fail;obtain ⟨ws,hws⟩:∃ws,ws=wr:=⟨_,rfl⟩;rw [<- hws];have bM:=aj hws;clear hws;go_loopw [4,7] (fun v k wr2=>∃kk vv:Nat,1<=kk/\kk<=3/\j+kk<=s.size/\v=.int .i64 vv/\k=.int .i64 kk/\Hid (jU kk vv)/\Hid (R=more s.data.toList j 2048 (3-kk) kk vv)/\wr2=ws) (fun _ k _=>4-(RowKit.intOf k).toNat)
    case atStart=>exact ⟨1,v0,by omega,by omega,by omega,rfl,rfl,tH,HN,rfl⟩
    case round =>
     obtain ⟨kk,vv,hk1,hk2,hk3,rfl,rfl,pF,HM,rfl⟩:=hrel;have hvl:=pF.out.lt;by_cases hke:kk<=2
     ·by_cases hin:j+kk<s.size
      ·have hx:=Bq s (j+kk) hin;have hxl:=mr s.data.toList (j+kk)
       have bD:Hid (R=(ky (aT s.data.toList (j+kk)) && more s.data.toList j 2048 (3-(kk+1)) (kk+1) (vv*64+aT s.data.toList (j+kk)%64))):=aj (HM.out.trans (by
        rw [show 3-kk=(3-(kk+1))+1 by omega];show ((decide (j+kk<s.data.toList.length) && _) && _)=_;rw [tF.out,decide_eq_true hin,Bool.true_and]))
       have bQ:Hid (jU (kk+1) (vv*64+aT s.data.toList (j+kk)%64)):=aj (pF.out.on (by omega));generalize aT s.data.toList (j+kk)=x at *;have hc:=De x hxl;have h63:=a63 x hxl;have oZ:=Df vv (x%64) hvl (by omega);have hwx:=Br (x%64) (by omega);generalize hxm:x%64=xm at *;cases ni:ky x with
       | true =>
        rw [ni] at hc bD;rw [Bool.true_and] at bD;have hc2:(bits .and .u8 (x:Int) 192 != 128)=false:=hc;clear hc ni HM;go_wp2;go_roundw
        case rel=>exact ⟨kk+1,vv*64+xm,by omega,by omega,by omega,by go_num,by go_num,bQ,bD,by first|exact bM.out|exact bM.out.symm|trivial|rfl⟩
        case measure=>simp [RowKit.intOf];omega
       | false =>
        rw [ni] at hc bD;have hc2:(bits .and .u8 (x:Int) 192 != 128)=true:=hc;have hF:R=false:=bD.out;subst hF;clear hc ni HM bD;go_wp2;go_ret;exact ⟨rfl,by first|exact bM.out|exact bM.out.symm|trivial|rfl⟩
      ·have hF:R=false:=HM.out.trans (by
        rw [show 3-kk=(3-(kk+1))+1 by omega];show ((decide (j+kk<s.data.toList.length) && _) && _)=_;rw [tF.out,decide_eq_false hin,Bool.false_and,Bool.false_and])
       subst hF;clear HM;go_wp2;go_ret;exact ⟨rfl,by first|exact bM.out|exact bM.out.symm|trivial|rfl⟩
     ·obtain rfl:kk=3:=by omega
      have bD:Hid (R=(!(decide (vv<2048) || decide (1114111<vv) || decide (55296<=vv/\vv<=57343)) && Lib.validD (s.data.toList.drop (j+3)))):=HM;clear HM;clear pF HN tH yf O6 O7 t0 hk1 hk2 hke hv0;by_cases d1:vv<2048
      ·have hF:R=false:=bD.out.trans (by rw [decide_eq_true d1];rfl);subst hF;clear bD;go_wp2;go_ret;exact ⟨rfl,by first|exact bM.out|exact bM.out.symm|trivial|rfl⟩
      by_cases d2:1114111<vv
      ·have hF:R=false:=bD.out.trans (by rw [decide_eq_true d2,Bool.or_true];rfl);subst hF;clear bD;go_wp2;go_ret;exact ⟨rfl,by first|exact bM.out|exact bM.out.symm|trivial|rfl⟩
      rw [decide_eq_false d1,decide_eq_false d2] at bD
      have hd:decide ((55296:Int)<=(vv:Int)/\(vv:Int)<=57343)=decide (55296<=vv/\vv<=57343):=by
       by_cases d3:55296<=vv/\vv<=57343
       ·rw [decide_eq_true d3];exact decide_eq_true (by omega)
       ·rw [decide_eq_false d3];exact decide_eq_false (by omega)
      go_wp2_with fail;refine (aO _ _ _ _).mono ?_;rintro e u ⟨rfl,rfl⟩;rw [hd];generalize decide (55296<=vv/\vv<=57343)=t at *;cases t with
      | true =>
       have hF:R=false:=bD.out;subst hF;clear bD;go_wp2;go_ret;exact ⟨rfl,by first|exact bM.out|exact bM.out.symm|trivial|rfl⟩
      | false =>
       have yg:Hid (R=Lib.validD (s.data.toList.drop (j+3))):=bD;clear bD;go_wp2;go_roundw
       case rel=>exact ⟨j+3,by omega,by go_num,yg,by first|exact bM.out|exact bM.out.symm|trivial|rfl⟩
       case measure=>simp [RowKit.intOf];omega
   have VJ:(decide (224<=(b:Int)) && decide ((b:Int)<=239))=false:=by rw [<- Bool.decide_and,decide_eq_false_iff_not];omega
   by_cases c3:240<=b/\b<=244
   ·have Pb:decide (240<=(b:Int))=true:=decide_eq_true (by omega);have Pd:decide ((b:Int)<=244)=true:=decide_eq_true (by omega);have HN:Hid (R=more s.data.toList j 65536 3 1 (b%8)):=aj (HK.out.trans (by have:=Pf _ _ yd.out (by rw [<- rD.out];exact c3);rw [<- rD.out] at this;exact this));have yf:=a7 b hlt;have tH:Hid (jU 1 (b%8)):=aj (by unfold jU;omega);generalize hv0:b%8=v0 at *;clear HK;go_wp2_with fail;obtain ⟨ws,hws⟩:∃ws,ws=wr:=⟨_,rfl⟩;rw [<- hws];have bM:=aj hws;clear hws;go_loopw [4,7] (fun v k wr2=>∃kk vv:Nat,1<=kk/\kk<=4/\j+kk<=s.size/\v=.int .i64 vv/\k=.int .i64 kk/\Hid (jU kk vv)/\Hid (R=more s.data.toList j 65536 (4-kk) kk vv)/\wr2=ws) (fun _ k _=>5-(RowKit.intOf k).toNat)
    case atStart=>exact ⟨1,v0,by omega,by omega,by omega,rfl,rfl,tH,HN,rfl⟩
    case round =>
     obtain ⟨kk,vv,hk1,hk2,hk3,rfl,rfl,pF,HM,rfl⟩:=hrel;have hvl:=pF.out.lt;by_cases hke:kk<=3
     ·by_cases hin:j+kk<s.size
      ·have hx:=Bq s (j+kk) hin;have hxl:=mr s.data.toList (j+kk)
       have bD:Hid (R=(ky (aT s.data.toList (j+kk)) && more s.data.toList j 65536 (4-(kk+1)) (kk+1) (vv*64+aT s.data.toList (j+kk)%64))):=aj (HM.out.trans (by
        rw [show 4-kk=(4-(kk+1))+1 by omega];show ((decide (j+kk<s.data.toList.length) && _) && _)=_;rw [tF.out,decide_eq_true hin,Bool.true_and]))
       have bQ:Hid (jU (kk+1) (vv*64+aT s.data.toList (j+kk)%64)):=aj (pF.out.on (by omega));generalize aT s.data.toList (j+kk)=x at *;have hc:=De x hxl;have h63:=a63 x hxl;have oZ:=Df vv (x%64) hvl (by omega);have hwx:=Br (x%64) (by omega);generalize hxm:x%64=xm at *;cases ni:ky x with
       | true =>
        rw [ni] at hc bD;rw [Bool.true_and] at bD;have hc2:(bits .and .u8 (x:Int) 192 != 128)=false:=hc;clear hc ni HM;go_wp2;go_roundw
        case rel=>exact ⟨kk+1,vv*64+xm,by omega,by omega,by omega,by go_num,by go_num,bQ,bD,by first|exact bM.out|exact bM.out.symm|trivial|rfl⟩
        case measure=>simp [RowKit.intOf];omega
       | false =>
        rw [ni] at hc bD;have hc2:(bits .and .u8 (x:Int) 192 != 128)=true:=hc;have hF:R=false:=bD.out;subst hF;clear hc ni HM bD;go_wp2;go_ret;exact ⟨rfl,by first|exact bM.out|exact bM.out.symm|trivial|rfl⟩
      ·have hF:R=false:=HM.out.trans (by
        rw [show 4-kk=(4-(kk+1))+1 by omega];show ((decide (j+kk<s.data.toList.length) && _) && _)=_;rw [tF.out,decide_eq_false hin,Bool.false_and,Bool.false_and])
       subst hF;clear HM;go_wp2;go_ret;exact ⟨rfl,by first|exact bM.out|exact bM.out.symm|trivial|rfl⟩
     ·obtain rfl:kk=4:=by omega
      have bD:Hid (R=(!(decide (vv<65536) || decide (1114111<vv) || decide (55296<=vv/\vv<=57343)) && Lib.validD (s.data.toList.drop (j+4)))):=HM;clear HM;clear pF HN tH yf Pb Pd t0 hk1 hk2 hke hv0;by_cases d1:vv<65536
      ·have hF:R=false:=bD.out.trans (by rw [decide_eq_true d1];rfl);subst hF;clear bD;go_wp2;go_ret;exact ⟨rfl,by first|exact bM.out|exact bM.out.symm|trivial|rfl⟩
      by_cases d2:1114111<vv
      ·have hF:R=false:=bD.out.trans (by rw [decide_eq_true d2,Bool.or_true];rfl);subst hF;clear bD;go_wp2;go_ret;exact ⟨rfl,by first|exact bM.out|exact bM.out.symm|trivial|rfl⟩
      rw [decide_eq_false d1,decide_eq_false d2] at bD
      have hd:decide ((55296:Int)<=(vv:Int)/\(vv:Int)<=57343)=decide (55296<=vv/\vv<=57343):=by
       by_cases d3:55296<=vv/\vv<=57343
       ·rw [decide_eq_true d3];exact decide_eq_true (by omega)
       ·rw [decide_eq_false d3];exact decide_eq_false (by omega)
      go_wp2_with fail;refine (aO _ _ _ _).mono ?_;rintro e u ⟨rfl,rfl⟩;rw [hd];generalize decide (55296<=vv/\vv<=57343)=t at *;cases t with
      | true =>
       have hF:R=false:=bD.out;subst hF;clear bD;go_wp2;go_ret;exact ⟨rfl,by first|exact bM.out|exact bM.out.symm|trivial|rfl⟩
      | false =>
       have yg:Hid (R=Lib.validD (s.data.toList.drop (j+4))):=bD;clear bD;go_wp2;go_roundw
       case rel=>exact ⟨j+4,by omega,by go_num,yg,by first|exact bM.out|exact bM.out.symm|trivial|rfl⟩
       case measure=>simp [RowKit.intOf];omega
   have VK:(decide (240<=(b:Int)) && decide ((b:Int)<=244))=false:=by rw [<- Bool.decide_and,decide_eq_false_iff_not];omega
   have HF:Hid (R=false):=aj (HK.out.trans (Pg _ _ yd.out (by rw [<- rD.out];omega) (by rw [<- rD.out];omega)));have hF:=HF.out;subst hF;go_wp2
   all_goals (go_ret;exact ⟨rfl,rfl⟩)
  ·have hF:R=true:=HK.out.trans (Ph _ _ (by rw [tF.out];omega));subst hF;go_wp2;go_ret;exact ⟨rfl,rfl⟩
namespace aA
def Dg (s:ByteArray):Bool:=decide ((s.size:Int)<=64) && Lib.validD s.data.toList
end aA
theorem Pj (s:ByteArray) (w:World) (hs:s.size<=9223372036854775807) :
  Calls Tryz.prog 96 #[.string s] w fun e w'=>e=.returned (.bool (Dg s))/\w'=w:=by
 unfold Dg;by_cases h0:s.size<=64
 ·have h0z:decide ((s.size:Int)<=64)=true:=by simp;omega
  have CV:=aj (Gw s (by omega) w);generalize Lib.validD s.data.toList=V at CV ⊢;rw [h0z,Bool.true_and];go_enter Tryz.func96,Tryz.ntmps96;go_wp2_with fail;refine CV.out.mono ?_;rintro e w' ⟨rfl,rfl⟩;go_wp2;go_ret;exact ⟨rfl,rfl⟩
 ·have h0z:decide ((s.size:Int)<=64)=false:=by simp;omega
  rw [h0z,Bool.false_and];go_enter Tryz.func96,Tryz.ntmps96;go_wp2;go_ret;exact ⟨rfl,rfl⟩
end Go.Proofs.YtegboefdolfdgaaGreatDoor
namespace Go.Proofs.YtegboefdolfdgaaGreatDoor
open Go.RowKit aA ai
set_option linter.unusedVariables false
set_option maxRecDepth 100000
set_option maxHeartbeats 4000000
namespace ai
theorem Fits.ok {α:Type} {X:R α} {y:α} {n i1 n1:Nat} {z z1:Int} (h:Fits (aG z (lift X n)) (fun a=>a=y) i1 n1 z1) (h0:z1=0):X=.ok (y,i1)/\n1=n/\z=0:=by
 have hz:=h.zero h0;subst hz;rw [bJ] at h;cases X with
 | error e=>obtain ⟨rfl,h⟩:=h;exact absurd h0 h
 | ok v=>obtain ⟨a,j⟩:=v;obtain ⟨rfl,rfl,rfl,_⟩:=h;exact ⟨rfl,rfl,rfl⟩
def JO (w0:World) (p:Nat) (s:ByteArray) (en:Nat) (w:World) (X:R2 ByteArray) (e:Ending) (w':World):Prop :=
 ∃(t:ByteArray) (i n:Nat) (z:Int),e=.returned (.string t)/\DS w0 p s en i n z w'/\But p w w'/\Fits X (fun a=>a=t) i n z/\t.size<=262144
theorem Ta (s:ByteArray):Dg s=nm s:=rfl
end ai
section
variable (w0:World) (p:Nat) (s:ByteArray) (en i n:Nat) (z:Int) (w:World) (h:DS w0 p s en i n z w)
include h
theorem Cw:Calls Tryz.prog 31 #[.pointer (some ⟨p,0,none⟩)] w (JO w0 p s en w (aG z (lift (lU s en i) n))):=by
 have HY:=aa (kg w0 p s en i n z w h);have hlen:=h.len;have hbig:=h.big;have HF:Hid (∀(y:Int) (i1 n1:Nat) (z1:Int) (t:ByteArray) (i2 n2:Nat) (z2:Int),Fits (aG z (lift (ru s en i) n)) (fun a=>a=y) i1 n1 z1->Fits (aG z1 (lift (if y<=(en:Int)-i1 then (.ok (s.extract i1 (i1+y.toNat),i1+y.toNat):R ByteArray) else .error 50) n1)) (fun a=>a=t) i2 n2 z2->Fits (aG z (lift (lU s en i) n)) (fun a=>a=t) i2 n2 z2):=aa (fun _ _ _ _ _ _ _ _ h1 h2=>Fits.cQ h1 h2);have HR:Hid (∀(y:Int) (i1 n1:Nat) (z1:Int),Fits (aG z (lift (ru s en i) n)) (fun a=>a=y) i1 n1 z1->z1=0->0<=y/\y<=4294967295/\i1<=en):=aa (fun y i1 n1 z1 h1 h0=>by have:=iP hlen (h1.ok h0).1;omega);clear h;generalize aG z (lift (lU s en i) n)=G at HF ⊢;go_enter Tryz.func31,Tryz.ntmps31;go_wp2_with fail;refine HY.out.mono ?_;rintro e u ⟨y,i1,n1,z1,rfl,h1,h2,hF⟩;have c4:=h1.cell 4 _ rfl;have H1:=aa h1;have H2:=aa h2;have da:=aa hF;clear h1 h2 hF HY;by_cases hz:z1=0
 ·obtain ⟨b0,b1,b2⟩:=HR.out _ _ _ _ da.out hz;subst hz;clear HR;have c1:=H1.out.cell 1 _ rfl;have c2:=H1.out.cell 2 _ rfl;have f1:=H1.out.ag 1;obtain ⟨m,rfl⟩:∃m:Nat,y=(m:Int):=⟨y.toNat,by omega⟩;by_cases hc:(m:Int)<=(en:Int)-i1
  ·have hd:decide ((m:Int) > (en:Int)-i1)=false:=decide_eq_false (by omega);have bq:Hid (Fits G (fun a=>a=s.extract i1 (i1+m)) (i1+m) n1 0):=aa (HF.out _ _ _ _ _ _ _ _ da.out (by rw [bJ,if_pos hc];exact ⟨rfl,rfl,rfl,rfl⟩));have hT:Hid ((s.extract i1 (i1+m)).size<=262144):=aa (by rw [ByteArray.size_extract];omega);have hw:IntKind.i64.wrap ((en:Int)-i1)=(en:Int)-i1:=by rw [IntKind.wrap_i64];omega
   have hw2:IntKind.i64.wrap ((i1:Int)+m)=(i1:Int)+m:=by rw [IntKind.wrap_i64];omega
   have hw4:IntKind.i64.wrap ((i1:Int)+m-m)=(i1:Int):=by rw [IntKind.wrap_i64];omega
   have a1:((i1:Int)+(m:Int)).toNat=i1+m:=by omega
   have a2:(i1:Int).toNat=i1:=by omega
   have a3:i1+m<=s.size:=by omega
   have a4:i1+m<=en:=by omega
   clear HF da;go_wp2_with fail;go_quiet (fail);have HD:=aa (H1.out.on (bN u nq));have HB:Hid (But p w (u.drewN nq)):=aa (H2.out.trans (But.of p (bN u nq)));generalize u.drewN nq=u1 at *;clear c1 c2 c4 f1 H1 H2;have e1:=HD.out.cell 1 _ rfl;have f1:=HD.out.ag 1;obtain ⟨u2,hu2⟩:∃u2,u2=u1.setCell ⟨p,1,none⟩ (.int .i64 ((i1:Int)+m)):=⟨_,rfl⟩;have uM:=aa hu2;have H3:Hid (DS w0 p s en (i1+m) n1 0 u2):=aa (by rw [hu2];exact HD.out.at_ (j:=i1+m) a4);have HB2:Hid (But p w u2):=aa (by rw [hu2];exact HB.out.trans (But.set p 1 u1 _));clear hu2 HD HB;go_wp2_with fail;rw [<- uM.out];clear uM e1 f1;have d0:=H3.out.cell 0 _ rfl;have d1:=H3.out.cell 1 _ rfl;rw [show (((i1+m:Nat)):Int)=(i1:Int)+m by omega] at d1;go_quiet (fail);have H4:=aa (H3.out.on (bN u2 nq));have kK:Hid (But p w (u2.drewN nq)):=aa (HB2.out.trans (But.of p (bN u2 nq)));clear d0 d1 H3 HB2;go_wp2;go_ret;exact ⟨_,_,_,_,rfl,H4.out,kK.out,bq.out,hT.out⟩
  ·have hd:decide ((m:Int) > (en:Int)-i1)=true:=decide_eq_true (by omega);have bq:Hid (Fits G (fun a=>a=ByteArray.empty) i1 n1 50):=aa (HF.out _ _ _ _ _ _ _ _ da.out (by rw [bJ,if_neg hc];exact ⟨rfl,by decide⟩));have hw:IntKind.i64.wrap ((en:Int)-i1)=(en:Int)-i1:=by rw [IntKind.wrap_i64];omega
   clear HF da;go_wp2_with fail;go_quiet (fail);have HD:=aa (H1.out.on (bN u nq));have HB:Hid (But p w (u.drewN nq)):=aa (H2.out.trans (But.of p (bN u nq)));generalize u.drewN nq=u1 at *;clear c1 c2 c4 f1 H1 H2;go_wp2_with fail;refine (fD w0 p s en i1 n1 0 _ HD.out 50).mono ?_;rintro e u3 ⟨rfl,h3,h4⟩;rw [if_pos rfl] at h3;have H3:=aa h3;have H4:Hid (But p w u3):=aa (HB.out.trans h4);clear h3 h4;go_wp2;go_ret;exact ⟨_,_,_,_,rfl,H3.out,H4.out,bq.out,by decide⟩
 ·have q1:(z1 != 0)=true:=by simp [hz]
  have bq:Hid (Fits G (fun a=>a=ByteArray.empty) i1 n1 z1):=aa (HF.out _ _ _ _ _ _ _ _ da.out (by rw [gH hz];exact ⟨rfl,hz⟩));clear HF da HR hz;go_wp2;go_ret;exact ⟨_,_,_,_,rfl,H1.out,H2.out,bq.out,by decide⟩
theorem CC:Calls Tryz.prog 83 #[.pointer (some ⟨p,0,none⟩)] w (JO w0 p s en w (aG z (lift (pK s en i) n))):=by
 have HY:=aa (Cw w0 p s en i n z w h);have HF:Hid (∀(y:ByteArray) (i1 n1:Nat) (z1:Int) (i2 n2:Nat) (z2:Int),Fits (aG z (lift (lU s en i) n)) (fun a=>a=y) i1 n1 z1->Fits (aG z1 (lift (if nm y then (.ok (y,i1):R ByteArray) else .error 50) n1)) (fun a=>a=y) i2 n2 z2->Fits (aG z (lift (pK s en i) n)) (fun a=>a=y) i2 n2 z2):=aa (fun _ _ _ _ _ _ _ h1 h2=>Fits.cQ h1 h2);clear h;generalize aG z (lift (pK s en i) n)=G at HF ⊢;go_enter Tryz.func83,Tryz.ntmps83;go_wp2_with fail;refine HY.out.mono ?_;rintro e u ⟨y,i1,n1,z1,rfl,h1,h2,hF,ht⟩;have H1:=aa h1;have H2:=aa h2;have HT:=aa ht;have HN:=aa (Pj y u (by omega));rw [Ta] at HN;have da:=aa hF;clear h1 h2 hF HY ht;cases hm:nm y with
 | true =>
  rw [hm] at HN;have bq:Hid (Fits G (fun a=>a=y) i1 n1 z1):=aa (HF.out _ _ _ _ _ _ _ da.out (by rw [if_pos hm];exact Fits.fin (fun _=>rfl)));clear HF da hm;go_wp2_with fail;refine HN.out.mono ?_;rintro e u2 ⟨rfl,rfl⟩;clear HN;go_wp2;go_ret;exact ⟨_,_,_,_,rfl,H1.out,H2.out,bq.out,HT.out⟩
 | false =>
  rw [hm] at HN
  have bq:Hid (Fits G (fun a=>a=y) i1 n1 (if z1=0 then 50 else z1)):=aa (HF.out _ _ _ _ _ _ _ da.out (by
   rw [if_neg (by simp [hm])];by_cases hz:z1=0
   ·rw [if_pos hz];subst hz;rw [bJ];exact ⟨rfl,by decide⟩
   ·rw [if_neg hz,gH hz];exact ⟨rfl,hz⟩))
  clear HF da hm;go_wp2_with fail;refine HN.out.mono ?_;rintro e u2 ⟨rfl,rfl⟩;clear HN;go_wp2_with fail;refine (fD w0 p s en i1 n1 z1 _ H1.out 50).mono ?_;rintro e u3 ⟨rfl,h3,h4⟩;have H3:=aa h3;have H4:Hid (But p w u3):=aa (H2.out.trans h4);clear h3 h4;go_wp2;go_ret;exact ⟨_,_,_,_,rfl,H3.out,H4.out,bq.out,HT.out⟩
end
end Go.Proofs.YtegboefdolfdgaaGreatDoor
