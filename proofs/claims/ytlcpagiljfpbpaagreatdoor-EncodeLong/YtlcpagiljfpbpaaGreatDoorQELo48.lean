/- Texts that the claim needs. -/
import Derived.Test.YtlcpagiljfpbpaaGreatDoorQELo47
import Derived.Test.YtlcpagiljfpbpaaGreatDoorQELo1
import Derived.Deep.Cut
namespace Go.Proofs.YtlcpagiljfpbpaaGreatDoor
open Go.RowKit Rep
set_option linter.unusedVariables false
set_option maxRecDepth 100000 in
set_option maxHeartbeats 4000000 in
theorem refUtf (s:ByteArray) (hs:s.size<=64) (w:World):Calls Tryz.prog 122 #[.string s] w fun e w'=>e=.returned (.bool (Lib.validD s.data.toList))/\w'=w:=by
 obtain ⟨R,hR⟩:∃R,R=Lib.validD s.data.toList:=⟨_,rfl⟩
 rw [<- hR]
 have HR:Hid (R=Lib.validD (s.data.toList.drop 0)):=hR
 clear hR
 have hsl:s.data.toList.length=s.size:=by simp
 have HSL:=hideM hsl
 clear hsl
 go_enter Tryz.func122,Tryz.ntmps122
 go_wp2_with fail
 go_loopw [3] (fun i wr=>∃j:Nat,j<=s.size/\i=.int .i64 j/\Hid (R=Lib.validD (s.data.toList.drop j))/\wr=w) (fun i _=>s.size-(intOf i).toNat)
 case atStart=>exact ⟨0,by omega,rfl,HR,rfl⟩
 case round =>
  obtain ⟨j,hj,rfl,HK,rfl⟩:=hrel
  by_cases hgo:j<s.size
  ·have HB:=hideM (by8_get s j hgo)
   have hlt:=by8_lt s.data.toList j
   have HJL:Hid (j<s.data.toList.length):=by rw [HSL.out];exact hgo
   go_upto_region 4 with fail
   rw [HB.out,w64 _ hlt]
   have HB2:Hid (∃b,b=by8 s.data.toList j):=hideM ⟨_,rfl⟩
   obtain ⟨b,hb⟩:=HB2.out
   rw [<- hb] at hlt ⊢
   have HBB:=hideM hb
   clear hb HB2 HB
   by_cases c0:b<128
   ·have t0:decide ((b:Int)<128)=true:=decide_eq_true (by omega)
    have HN:=hideM (HK.out.trans (v1 _ _ HJL.out (by rw [<- HBB.out];exact c0)))
    clear HK
    go_wp2
    go_roundw
    case rel=>exact ⟨j+1,by omega,by go_num,HN,trivial⟩
    case measure=>simp [intOf];omega
   have t0:decide ((b:Int)<128)=false:=decide_eq_false (by omega)
   by_cases c1:194<=b/\b<=223
   ·have ta1:decide (194<=(b:Int))=true:=decide_eq_true (by omega)
    have tb1:decide ((b:Int)<=223)=true:=decide_eq_true (by omega)
    have HN:Hid (R=more s.data.toList j 128 1 1 (b%32)):=hideM (HK.out.trans (by have:=more2 _ _ HJL.out (by rw [<- HBB.out];exact c1);rw [<- HBB.out] at this;exact this))
    have hba:=a31 b hlt
    have HBN:Hid (Bnd 1 (b%32)):=hideM (by unfold Bnd;omega)
    generalize hv0:b%32=v0 at *
    clear HK
    go_wp2_with fail
    obtain ⟨ws,hws⟩:∃ws,ws=wr:=⟨_,rfl⟩
    rw [<- hws]
    have HWS:=hideM hws
    clear hws
    go_loopw [4,7] (fun v k wr2=>∃kk vv:Nat,1<=kk/\kk<=2/\j+kk<=s.size/\v=.int .i64 vv/\k=.int .i64 kk/\Hid (Bnd kk vv)/\Hid (R=more s.data.toList j 128 (2-kk) kk vv)/\wr2=ws) (fun _ k _=>3-(intOf k).toNat)
    case atStart=>exact ⟨1,v0,by omega,by omega,by omega,rfl,rfl,HBN,HN,rfl⟩
    case round =>
     obtain ⟨kk,vv,hk1,hk2,hk3,rfl,rfl,HBK,HM,rfl⟩:=hrel
     have hvl:=HBK.out.lt
     by_cases hke:kk<=1
     ·by_cases hin:j+kk<s.size
      ·have hx:=by8_get s (j+kk) hin
       have hxl:=by8_lt s.data.toList (j+kk)
       have HM2:Hid (R=(cnt8 (by8 s.data.toList (j+kk)) && more s.data.toList j 128 (2-(kk+1)) (kk+1) (vv*64+by8 s.data.toList (j+kk)%64))):=hideM (HM.out.trans (by
        rw [show 2-kk=(2-(kk+1))+1 by omega]
        show ((decide (j+kk<s.data.toList.length) && _) && _)=_
        rw [HSL.out,decide_eq_true hin,Bool.true_and]))
       have HB3:Hid (Bnd (kk+1) (vv*64+by8 s.data.toList (j+kk)%64)):=hideM (HBK.out.on (by omega))
       generalize by8 s.data.toList (j+kk)=x at *
       have hc:=a192 x hxl
       have h63:=a63 x hxl
       have hor:=or6 vv (x%64) hvl (by omega)
       have hwx:=w64 (x%64) (by omega)
       generalize hxm:x%64=xm at *
       cases hcx:cnt8 x with
       | true =>
        rw [hcx] at hc HM2
        rw [Bool.true_and] at HM2
        have hc2:(bits .and .u8 (x:Int) 192 != 128)=false:=hc
        clear hc hcx HM
        go_wp2
        go_roundw
        case rel=>exact ⟨kk+1,vv*64+xm,by omega,by omega,by omega,by go_num,by go_num,HB3,HM2,by first|exact HWS.out|exact HWS.out.symm|trivial|rfl⟩
        case measure=>simp [intOf];omega
       | false =>
        rw [hcx] at hc HM2
        have hc2:(bits .and .u8 (x:Int) 192 != 128)=true:=hc
        have hF:R=false:=HM2.out
        subst hF
        clear hc hcx HM HM2
        go_wp2
        go_ret
        exact ⟨rfl,by first|exact HWS.out|exact HWS.out.symm|trivial|rfl⟩
      ·have hF:R=false:=HM.out.trans (by
        rw [show 2-kk=(2-(kk+1))+1 by omega]
        show ((decide (j+kk<s.data.toList.length) && _) && _)=_
        rw [HSL.out,decide_eq_false hin,Bool.false_and,Bool.false_and])
       subst hF
       clear HM
       go_wp2
       go_ret
       exact ⟨rfl,by first|exact HWS.out|exact HWS.out.symm|trivial|rfl⟩
     ·obtain rfl:kk=2:=by omega
      have HM2:Hid (R=(!(decide (vv<128) || decide (1114111<vv) || decide (55296<=vv/\vv<=57343)) && Lib.validD (s.data.toList.drop (j+2)))):=HM
      clear HM
      clear HBK HN HBN hba ta1 tb1 t0 hk1 hk2 hke hv0
      by_cases d1:vv<128
      ·have hF:R=false:=HM2.out.trans (by rw [decide_eq_true d1];rfl)
       subst hF
       clear HM2
       go_wp2
       go_ret
       exact ⟨rfl,by first|exact HWS.out|exact HWS.out.symm|trivial|rfl⟩
      by_cases d2:1114111<vv
      ·have hF:R=false:=HM2.out.trans (by rw [decide_eq_true d2,Bool.or_true];rfl)
       subst hF
       clear HM2
       go_wp2
       go_ret
       exact ⟨rfl,by first|exact HWS.out|exact HWS.out.symm|trivial|rfl⟩
      rw [decide_eq_false d1,decide_eq_false d2] at HM2
      have hd:decide ((55296:Int)<=(vv:Int)/\(vv:Int)<=57343)=decide (55296<=vv/\vv<=57343):=by
       by_cases d3:55296<=vv/\vv<=57343
       ·rw [decide_eq_true d3];exact decide_eq_true (by omega)
       ·rw [decide_eq_false d3];exact decide_eq_false (by omega)
      go_wp2_with fail
      refine (refIn _ _ _ _).mono ?_
      rintro e u ⟨rfl,rfl⟩
      rw [hd]
      generalize decide (55296<=vv/\vv<=57343)=t at *
      cases t with
      | true =>
       have hF:R=false:=HM2.out
       subst hF
       clear HM2
       go_wp2
       go_ret
       exact ⟨rfl,by first|exact HWS.out|exact HWS.out.symm|trivial|rfl⟩
      | false =>
       have HM3:Hid (R=Lib.validD (s.data.toList.drop (j+2))):=HM2
       clear HM2
       go_wp2
       go_roundw
       case rel=>exact ⟨j+2,by omega,by go_num,HM3,by first|exact HWS.out|exact HWS.out.symm|trivial|rfl⟩
       case measure=>simp [intOf];omega
   have tf1:(decide (194<=(b:Int)) && decide ((b:Int)<=223))=false:=by rw [<- Bool.decide_and,decide_eq_false_iff_not];omega
   by_cases c2:224<=b/\b<=239
   ·have ta2:decide (224<=(b:Int))=true:=decide_eq_true (by omega)
    have tb2:decide ((b:Int)<=239)=true:=decide_eq_true (by omega)
    have HN:Hid (R=more s.data.toList j 2048 2 1 (b%16)):=hideM (HK.out.trans (by have:=more3 _ _ HJL.out (by rw [<- HBB.out];exact c2);rw [<- HBB.out] at this;exact this))
    have hba:=a15 b hlt
    have HBN:Hid (Bnd 1 (b%16)):=hideM (by unfold Bnd;omega)
    generalize hv0:b%16=v0 at *
    clear HK
    go_wp2_with fail
    obtain ⟨ws,hws⟩:∃ws,ws=wr:=⟨_,rfl⟩
    rw [<- hws]
    have HWS:=hideM hws
    clear hws
    go_loopw [4,7] (fun v k wr2=>∃kk vv:Nat,1<=kk/\kk<=3/\j+kk<=s.size/\v=.int .i64 vv/\k=.int .i64 kk/\Hid (Bnd kk vv)/\Hid (R=more s.data.toList j 2048 (3-kk) kk vv)/\wr2=ws) (fun _ k _=>4-(intOf k).toNat)
    case atStart=>exact ⟨1,v0,by omega,by omega,by omega,rfl,rfl,HBN,HN,rfl⟩
    case round =>
     obtain ⟨kk,vv,hk1,hk2,hk3,rfl,rfl,HBK,HM,rfl⟩:=hrel
     have hvl:=HBK.out.lt
     by_cases hke:kk<=2
     ·by_cases hin:j+kk<s.size
      ·have hx:=by8_get s (j+kk) hin
       have hxl:=by8_lt s.data.toList (j+kk)
       have HM2:Hid (R=(cnt8 (by8 s.data.toList (j+kk)) && more s.data.toList j 2048 (3-(kk+1)) (kk+1) (vv*64+by8 s.data.toList (j+kk)%64))):=hideM (HM.out.trans (by
        rw [show 3-kk=(3-(kk+1))+1 by omega]
        show ((decide (j+kk<s.data.toList.length) && _) && _)=_
        rw [HSL.out,decide_eq_true hin,Bool.true_and]))
       have HB3:Hid (Bnd (kk+1) (vv*64+by8 s.data.toList (j+kk)%64)):=hideM (HBK.out.on (by omega))
       generalize by8 s.data.toList (j+kk)=x at *
       have hc:=a192 x hxl
       have h63:=a63 x hxl
       have hor:=or6 vv (x%64) hvl (by omega)
       have hwx:=w64 (x%64) (by omega)
       generalize hxm:x%64=xm at *
       cases hcx:cnt8 x with
       | true =>
        rw [hcx] at hc HM2
        rw [Bool.true_and] at HM2
        have hc2:(bits .and .u8 (x:Int) 192 != 128)=false:=hc
        clear hc hcx HM
        go_wp2
        go_roundw
        case rel=>exact ⟨kk+1,vv*64+xm,by omega,by omega,by omega,by go_num,by go_num,HB3,HM2,by first|exact HWS.out|exact HWS.out.symm|trivial|rfl⟩
        case measure=>simp [intOf];omega
       | false =>
        rw [hcx] at hc HM2
        have hc2:(bits .and .u8 (x:Int) 192 != 128)=true:=hc
        have hF:R=false:=HM2.out
        subst hF
        clear hc hcx HM HM2
        go_wp2
        go_ret
        exact ⟨rfl,by first|exact HWS.out|exact HWS.out.symm|trivial|rfl⟩
      ·have hF:R=false:=HM.out.trans (by
        rw [show 3-kk=(3-(kk+1))+1 by omega]
        show ((decide (j+kk<s.data.toList.length) && _) && _)=_
        rw [HSL.out,decide_eq_false hin,Bool.false_and,Bool.false_and])
       subst hF
       clear HM
       go_wp2
       go_ret
       exact ⟨rfl,by first|exact HWS.out|exact HWS.out.symm|trivial|rfl⟩
     ·obtain rfl:kk=3:=by omega
      have HM2:Hid (R=(!(decide (vv<2048) || decide (1114111<vv) || decide (55296<=vv/\vv<=57343)) && Lib.validD (s.data.toList.drop (j+3)))):=HM
      clear HM
      clear HBK HN HBN hba ta2 tb2 t0 hk1 hk2 hke hv0
      by_cases d1:vv<2048
      ·have hF:R=false:=HM2.out.trans (by rw [decide_eq_true d1];rfl)
       subst hF
       clear HM2
       go_wp2
       go_ret
       exact ⟨rfl,by first|exact HWS.out|exact HWS.out.symm|trivial|rfl⟩
      by_cases d2:1114111<vv
      ·have hF:R=false:=HM2.out.trans (by rw [decide_eq_true d2,Bool.or_true];rfl)
       subst hF
       clear HM2
       go_wp2
       go_ret
       exact ⟨rfl,by first|exact HWS.out|exact HWS.out.symm|trivial|rfl⟩
      rw [decide_eq_false d1,decide_eq_false d2] at HM2
      have hd:decide ((55296:Int)<=(vv:Int)/\(vv:Int)<=57343)=decide (55296<=vv/\vv<=57343):=by
       by_cases d3:55296<=vv/\vv<=57343
       ·rw [decide_eq_true d3];exact decide_eq_true (by omega)
       ·rw [decide_eq_false d3];exact decide_eq_false (by omega)
      go_wp2_with fail
      refine (refIn _ _ _ _).mono ?_
      rintro e u ⟨rfl,rfl⟩
      rw [hd]
      generalize decide (55296<=vv/\vv<=57343)=t at *
      cases t with
      | true =>
       have hF:R=false:=HM2.out
       subst hF
       clear HM2
       go_wp2
       go_ret
       exact ⟨rfl,by first|exact HWS.out|exact HWS.out.symm|trivial|rfl⟩
      | false =>
       have HM3:Hid (R=Lib.validD (s.data.toList.drop (j+3))):=HM2
       clear HM2
       go_wp2
       go_roundw
       case rel=>exact ⟨j+3,by omega,by go_num,HM3,by first|exact HWS.out|exact HWS.out.symm|trivial|rfl⟩
       case measure=>simp [intOf];omega
   have tf2:(decide (224<=(b:Int)) && decide ((b:Int)<=239))=false:=by rw [<- Bool.decide_and,decide_eq_false_iff_not];omega
   by_cases c3:240<=b/\b<=244
   ·have ta3:decide (240<=(b:Int))=true:=decide_eq_true (by omega)
    have tb3:decide ((b:Int)<=244)=true:=decide_eq_true (by omega)
    have HN:Hid (R=more s.data.toList j 65536 3 1 (b%8)):=hideM (HK.out.trans (by have:=more4 _ _ HJL.out (by rw [<- HBB.out];exact c3);rw [<- HBB.out] at this;exact this))
    have hba:=a7 b hlt
    have HBN:Hid (Bnd 1 (b%8)):=hideM (by unfold Bnd;omega)
    generalize hv0:b%8=v0 at *
    clear HK
    go_wp2_with fail
    obtain ⟨ws,hws⟩:∃ws,ws=wr:=⟨_,rfl⟩
    rw [<- hws]
    have HWS:=hideM hws
    clear hws
    go_loopw [4,7] (fun v k wr2=>∃kk vv:Nat,1<=kk/\kk<=4/\j+kk<=s.size/\v=.int .i64 vv/\k=.int .i64 kk/\Hid (Bnd kk vv)/\Hid (R=more s.data.toList j 65536 (4-kk) kk vv)/\wr2=ws) (fun _ k _=>5-(intOf k).toNat)
    case atStart=>exact ⟨1,v0,by omega,by omega,by omega,rfl,rfl,HBN,HN,rfl⟩
    case round =>
     obtain ⟨kk,vv,hk1,hk2,hk3,rfl,rfl,HBK,HM,rfl⟩:=hrel
     have hvl:=HBK.out.lt
     by_cases hke:kk<=3
     ·by_cases hin:j+kk<s.size
      ·have hx:=by8_get s (j+kk) hin
       have hxl:=by8_lt s.data.toList (j+kk)
       have HM2:Hid (R=(cnt8 (by8 s.data.toList (j+kk)) && more s.data.toList j 65536 (4-(kk+1)) (kk+1) (vv*64+by8 s.data.toList (j+kk)%64))):=hideM (HM.out.trans (by
        rw [show 4-kk=(4-(kk+1))+1 by omega]
        show ((decide (j+kk<s.data.toList.length) && _) && _)=_
        rw [HSL.out,decide_eq_true hin,Bool.true_and]))
       have HB3:Hid (Bnd (kk+1) (vv*64+by8 s.data.toList (j+kk)%64)):=hideM (HBK.out.on (by omega))
       generalize by8 s.data.toList (j+kk)=x at *
       have hc:=a192 x hxl
       have h63:=a63 x hxl
       have hor:=or6 vv (x%64) hvl (by omega)
       have hwx:=w64 (x%64) (by omega)
       generalize hxm:x%64=xm at *
       cases hcx:cnt8 x with
       | true =>
        rw [hcx] at hc HM2
        rw [Bool.true_and] at HM2
        have hc2:(bits .and .u8 (x:Int) 192 != 128)=false:=hc
        clear hc hcx HM
        go_wp2
        go_roundw
        case rel=>exact ⟨kk+1,vv*64+xm,by omega,by omega,by omega,by go_num,by go_num,HB3,HM2,by first|exact HWS.out|exact HWS.out.symm|trivial|rfl⟩
        case measure=>simp [intOf];omega
       | false =>
        rw [hcx] at hc HM2
        have hc2:(bits .and .u8 (x:Int) 192 != 128)=true:=hc
        have hF:R=false:=HM2.out
        subst hF
        clear hc hcx HM HM2
        go_wp2
        go_ret
        exact ⟨rfl,by first|exact HWS.out|exact HWS.out.symm|trivial|rfl⟩
      ·have hF:R=false:=HM.out.trans (by
        rw [show 4-kk=(4-(kk+1))+1 by omega]
        show ((decide (j+kk<s.data.toList.length) && _) && _)=_
        rw [HSL.out,decide_eq_false hin,Bool.false_and,Bool.false_and])
       subst hF
       clear HM
       go_wp2
       go_ret
       exact ⟨rfl,by first|exact HWS.out|exact HWS.out.symm|trivial|rfl⟩
     ·obtain rfl:kk=4:=by omega
      have HM2:Hid (R=(!(decide (vv<65536) || decide (1114111<vv) || decide (55296<=vv/\vv<=57343)) && Lib.validD (s.data.toList.drop (j+4)))):=HM
      clear HM
      clear HBK HN HBN hba ta3 tb3 t0 hk1 hk2 hke hv0
      by_cases d1:vv<65536
      ·have hF:R=false:=HM2.out.trans (by rw [decide_eq_true d1];rfl)
       subst hF
       clear HM2
       go_wp2
       go_ret
       exact ⟨rfl,by first|exact HWS.out|exact HWS.out.symm|trivial|rfl⟩
      by_cases d2:1114111<vv
      ·have hF:R=false:=HM2.out.trans (by rw [decide_eq_true d2,Bool.or_true];rfl)
       subst hF
       clear HM2
       go_wp2
       go_ret
       exact ⟨rfl,by first|exact HWS.out|exact HWS.out.symm|trivial|rfl⟩
      rw [decide_eq_false d1,decide_eq_false d2] at HM2
      have hd:decide ((55296:Int)<=(vv:Int)/\(vv:Int)<=57343)=decide (55296<=vv/\vv<=57343):=by
       by_cases d3:55296<=vv/\vv<=57343
       ·rw [decide_eq_true d3];exact decide_eq_true (by omega)
       ·rw [decide_eq_false d3];exact decide_eq_false (by omega)
      go_wp2_with fail
      refine (refIn _ _ _ _).mono ?_
      rintro e u ⟨rfl,rfl⟩
      rw [hd]
      generalize decide (55296<=vv/\vv<=57343)=t at *
      cases t with
      | true =>
       have hF:R=false:=HM2.out
       subst hF
       clear HM2
       go_wp2
       go_ret
       exact ⟨rfl,by first|exact HWS.out|exact HWS.out.symm|trivial|rfl⟩
      | false =>
       have HM3:Hid (R=Lib.validD (s.data.toList.drop (j+4))):=HM2
       clear HM2
       go_wp2
       go_roundw
       case rel=>exact ⟨j+4,by omega,by go_num,HM3,by first|exact HWS.out|exact HWS.out.symm|trivial|rfl⟩
       case measure=>simp [intOf];omega
   have tf3:(decide (240<=(b:Int)) && decide ((b:Int)<=244))=false:=by rw [<- Bool.decide_and,decide_eq_false_iff_not];omega
   have HF:Hid (R=false):=hideM (HK.out.trans (vBad _ _ HJL.out (by rw [<- HBB.out];omega) (by rw [<- HBB.out];omega)))
   have hF:=HF.out
   subst hF
   go_wp2
   all_goals (go_ret;exact ⟨rfl,rfl⟩)
  ·have hF:R=true:=HK.out.trans (vEnd _ _ (by rw [HSL.out];omega))
   subst hF
   go_wp2
   go_ret
   exact ⟨rfl,rfl⟩
namespace Rep
def nmD (s:ByteArray):Bool:=decide ((s.size:Int)<=64) && Lib.validD s.data.toList
end Rep
set_option maxHeartbeats 1000000 in
theorem refName (s:ByteArray) (w:World) (hs:s.size<=9223372036854775807) :
  Calls Tryz.prog 98 #[.string s] w fun e w'=>e=.returned (.bool (nmD s))/\w'=w:=by
 unfold nmD
 by_cases h0:s.size<=64
 ·have h0z:decide ((s.size:Int)<=64)=true:=by simp;omega
  have CV:=hideM (refUtf s h0 w)
  generalize Lib.validD s.data.toList=V at CV ⊢
  rw [h0z,Bool.true_and]
  go_enter Tryz.func98,Tryz.ntmps98
  go_wp2_with fail
  refine CV.out.mono ?_
  rintro e w' ⟨rfl,rfl⟩
  go_wp2
  go_ret
  exact ⟨rfl,rfl⟩
 ·have h0z:decide ((s.size:Int)<=64)=false:=by simp;omega
  rw [h0z,Bool.false_and]
  go_enter Tryz.func98,Tryz.ntmps98
  go_wp2
  go_ret
  exact ⟨rfl,rfl⟩
end Go.Proofs.YtlcpagiljfpbpaaGreatDoor

