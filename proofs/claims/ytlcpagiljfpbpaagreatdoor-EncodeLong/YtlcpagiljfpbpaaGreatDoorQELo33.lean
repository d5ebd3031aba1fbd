/- Texts that the claim needs. -/
import Derived.Test.YtlcpagiljfpbpaaGreatDoorQELo30
import Derived.Test.YtlcpagiljfpbpaaGreatDoorQELo31
import Derived.Test.YtlcpagiljfpbpaaGreatDoorQELo32
import Derived.Test.YtlcpagiljfpbpaaGreatDoorQELo29
namespace Go.Proofs.YtlcpagiljfpbpaaGreatDoor
open Go.RowKit Rep
theorem refForm (op:Int) (w:World):Calls Tryz.prog 127 #[.int .i64 op] w fun e w'=>e=.returned (.int .i64 (form op))/\w'=w:=by
 by_cases c0:op<=-1
 ·have e:form op=0:=by
   unfold form
   repeat first|rw [if_neg (by omega)]|rw [if_pos (by omega)]
  rw [e]
  exact refForm0 op w (by omega)
 by_cases c1:op<=0
 ·have e:form op=1:=by
   unfold form
   repeat first|rw [if_neg (by omega)]|rw [if_pos (by omega)]
  rw [e]
  exact refForm1 op w (by omega)
 by_cases c2:op<=1
 ·have e:form op=1:=by
   unfold form
   repeat first|rw [if_neg (by omega)]|rw [if_pos (by omega)]
  rw [e]
  exact refForm2 op w (by omega)
 by_cases c3:op<=2
 ·have e:form op=2:=by
   unfold form
   repeat first|rw [if_neg (by omega)]|rw [if_pos (by omega)]
  rw [e]
  exact refForm3 op w (by omega)
 by_cases c4:op<=3
 ·have e:form op=2:=by
   unfold form
   repeat first|rw [if_neg (by omega)]|rw [if_pos (by omega)]
  rw [e]
  exact refForm4 op w (by omega)
 by_cases c5:op<=4
 ·have e:form op=3:=by
   unfold form
   repeat first|rw [if_neg (by omega)]|rw [if_pos (by omega)]
  rw [e]
  exact refForm5 op w (by omega)
 by_cases c6:op<=11
 ·have e:form op=0:=by
   unfold form
   repeat first|rw [if_neg (by omega)]|rw [if_pos (by omega)]
  rw [e]
  exact refForm6 op w (by omega)
 by_cases c7:op<=12
 ·have e:form op=4:=by
   unfold form
   repeat first|rw [if_neg (by omega)]|rw [if_pos (by omega)]
  rw [e]
  exact refForm7 op w (by omega)
 by_cases c8:op<=13
 ·have e:form op=4:=by
   unfold form
   repeat first|rw [if_neg (by omega)]|rw [if_pos (by omega)]
  rw [e]
  exact refForm8 op w (by omega)
 by_cases c9:op<=14
 ·have e:form op=5:=by
   unfold form
   repeat first|rw [if_neg (by omega)]|rw [if_pos (by omega)]
  rw [e]
  exact refForm9 op w (by omega)
 by_cases c10:op<=15
 ·have e:form op=1:=by
   unfold form
   repeat first|rw [if_neg (by omega)]|rw [if_pos (by omega)]
  rw [e]
  exact refForm10 op w (by omega)
 by_cases c11:op<=16
 ·have e:form op=6:=by
   unfold form
   repeat first|rw [if_neg (by omega)]|rw [if_pos (by omega)]
  rw [e]
  exact refForm11 op w (by omega)
 by_cases c12:op<=17
 ·have e:form op=7:=by
   unfold form
   repeat first|rw [if_neg (by omega)]|rw [if_pos (by omega)]
  rw [e]
  exact refForm12 op w (by omega)
 by_cases c13:op<=25
 ·have e:form op=0:=by
   unfold form
   repeat first|rw [if_neg (by omega)]|rw [if_pos (by omega)]
  rw [e]
  exact refForm13 op w (by omega)
 by_cases c14:op<=26
 ·have e:form op=1:=by
   unfold form
   repeat first|rw [if_neg (by omega)]|rw [if_pos (by omega)]
  rw [e]
  exact refForm14 op w (by omega)
 by_cases c15:op<=27
 ·have e:form op=1:=by
   unfold form
   repeat first|rw [if_neg (by omega)]|rw [if_pos (by omega)]
  rw [e]
  exact refForm15 op w (by omega)
 by_cases c16:op<=31
 ·have e:form op=0:=by
   unfold form
   repeat first|rw [if_neg (by omega)]|rw [if_pos (by omega)]
  rw [e]
  exact refForm16 op w (by omega)
 by_cases c17:op<=36
 ·have e:form op=6:=by
   unfold form
   repeat first|rw [if_neg (by omega)]|rw [if_pos (by omega)]
  rw [e]
  exact refForm17 op w (by omega)
 by_cases c18:op<=39
 ·have e:form op=0:=by
   unfold form
   repeat first|rw [if_neg (by omega)]|rw [if_pos (by omega)]
  rw [e]
  exact refForm18 op w (by omega)
 by_cases c19:op<=40
 ·have e:form op=8:=by
   unfold form
   repeat first|rw [if_neg (by omega)]|rw [if_pos (by omega)]
  rw [e]
  exact refForm19 op w (by omega)
 by_cases c20:op<=41
 ·have e:form op=8:=by
   unfold form
   repeat first|rw [if_neg (by omega)]|rw [if_pos (by omega)]
  rw [e]
  exact refForm20 op w (by omega)
 by_cases c21:op<=42
 ·have e:form op=10:=by
   unfold form
   repeat first|rw [if_neg (by omega)]|rw [if_pos (by omega)]
  rw [e]
  exact refForm21 op w (by omega)
 by_cases c22:op<=43
 ·have e:form op=10:=by
   unfold form
   repeat first|rw [if_neg (by omega)]|rw [if_pos (by omega)]
  rw [e]
  exact refForm22 op w (by omega)
 by_cases c23:op<=55
 ·have e:form op=8:=by
   unfold form
   repeat first|rw [if_neg (by omega)]|rw [if_pos (by omega)]
  rw [e]
  exact refForm23 op w (by omega)
 by_cases c24:op<=56
 ·have e:form op=10:=by
   unfold form
   repeat first|rw [if_neg (by omega)]|rw [if_pos (by omega)]
  rw [e]
  exact refForm24 op w (by omega)
 by_cases c25:op<=57
 ·have e:form op=10:=by
   unfold form
   repeat first|rw [if_neg (by omega)]|rw [if_pos (by omega)]
  rw [e]
  exact refForm25 op w (by omega)
 by_cases c26:op<=62
 ·have e:form op=8:=by
   unfold form
   repeat first|rw [if_neg (by omega)]|rw [if_pos (by omega)]
  rw [e]
  exact refForm26 op w (by omega)
 by_cases c27:op<=63
 ·have e:form op=1:=by
   unfold form
   repeat first|rw [if_neg (by omega)]|rw [if_pos (by omega)]
  rw [e]
  exact refForm27 op w (by omega)
 by_cases c28:op<=64
 ·have e:form op=1:=by
   unfold form
   repeat first|rw [if_neg (by omega)]|rw [if_pos (by omega)]
  rw [e]
  exact refForm28 op w (by omega)
 by_cases c29:op<=65
 ·have e:form op=9:=by
   unfold form
   repeat first|rw [if_neg (by omega)]|rw [if_pos (by omega)]
  rw [e]
  exact refForm29 op w (by omega)
 by_cases c30:op<=66
 ·have e:form op=9:=by
   unfold form
   repeat first|rw [if_neg (by omega)]|rw [if_pos (by omega)]
  rw [e]
  exact refForm30 op w (by omega)
 by_cases c31:op<=67
 ·have e:form op=10:=by
   unfold form
   repeat first|rw [if_neg (by omega)]|rw [if_pos (by omega)]
  rw [e]
  exact refForm31 op w (by omega)
 by_cases c32:op<=68
 ·have e:form op=10:=by
   unfold form
   repeat first|rw [if_neg (by omega)]|rw [if_pos (by omega)]
  rw [e]
  exact refForm32 op w (by omega)
 by_cases c33:op<=90
 ·have e:form op=1:=by
   unfold form
   repeat first|rw [if_neg (by omega)]|rw [if_pos (by omega)]
  rw [e]
  exact refForm33 op w (by omega)
 by_cases c34:op<=102
 ·have e:form op=10:=by
   unfold form
   repeat first|rw [if_neg (by omega)]|rw [if_pos (by omega)]
  rw [e]
  exact refForm34 op w (by omega)
 by_cases c35:op<=138
 ·have e:form op=1:=by
   unfold form
   repeat first|rw [if_neg (by omega)]|rw [if_pos (by omega)]
  rw [e]
  exact refForm35 op w (by omega)
 by_cases c36:op<=166
 ·have e:form op=10:=by
   unfold form
   repeat first|rw [if_neg (by omega)]|rw [if_pos (by omega)]
  rw [e]
  exact refForm36 op w (by omega)
 by_cases c37:op<=167
 ·have e:form op=1:=by
   unfold form
   repeat first|rw [if_neg (by omega)]|rw [if_pos (by omega)]
  rw [e]
  exact refForm37 op w (by omega)
 by_cases c38:op<=171
 ·have e:form op=10:=by
   unfold form
   repeat first|rw [if_neg (by omega)]|rw [if_pos (by omega)]
  rw [e]
  exact refForm38 op w (by omega)
 by_cases c39:op<=173
 ·have e:form op=1:=by
   unfold form
   repeat first|rw [if_neg (by omega)]|rw [if_pos (by omega)]
  rw [e]
  exact refForm39 op w (by omega)
 by_cases c40:op<=191
 ·have e:form op=10:=by
   unfold form
   repeat first|rw [if_neg (by omega)]|rw [if_pos (by omega)]
  rw [e]
  exact refForm40 op w (by omega)
 have e:form op=0:=by
  unfold form
  repeat rw [if_neg (by omega)]
 rw [e]
 exact refForm41 op w (by omega)
end Go.Proofs.YtlcpagiljfpbpaaGreatDoor

namespace Go.Proofs.YtlcpagiljfpbpaaGreatDoor
open Go.RowKit Rep Enc Go.Lib
set_option linter.unusedVariables false
set_option maxRecDepth 100000 in
set_option maxHeartbeats 2000000 in
theorem dList (w0:World) (p:Nat) (ov:Bool) (v:Value) (bs id:List Int) (lv:Value) (l:List Int) (w:World) (h:PS w0 p ov v bs w) (hS:St id ov bs) (hL:Ints w0 lv l) (hr:∀x ∈ l,0<=x/\x<=4294967295) :
  Calls Tryz.prog 109 #[.pointer (some ⟨p,0,none⟩),lv] w (PDo w0 p v w (id++idxB l)):=by
 obtain ⟨oL,kL,rfl⟩:=Row.len hL
 have la:=hL.1
 have HC0:=hideR (dU w0 p ov v bs id (l.length:Int) w h hS (by omega) (by omega))
 have HL:=hideR hL
 have HR:=hideR hr
 clear h hS hL hr
 generalize hna:l.length=n at *
 have HNA:=hideR hna
 obtain ⟨u0,hu0⟩:∃u0,Leb.uB (n:Int)=u0:=⟨_,rfl⟩
 rw [hu0] at HC0
 have HU0:=hideR hu0
 clear hu0
 go_enter Tryz.func109,Tryz.ntmps109
 go_wp2_with fail
 refine HC0.out.mono ?_
 rintro e w1 ⟨ov1,v1,b1,rfl,h1,s1,k1⟩
 have HPS1:=hideR h1
 have HST1:=hideR s1
 have HK1:=hideR k1
 clear h1 s1 k1 HC0
 go_wp2_with fail
 go_loopw [4] (fun i wr=>∃(j:Nat) (ov3:Bool) (v3:Value) (b3:List Int),j<=n/\i=.int .i64 j/\Hid (PS w0 p ov3 v3 b3 wr)/\Hid (St (id++u0++(l.take j).flatMap Leb.uB) ov3 b3)/\Hid (Kept p v w v3 wr)) (fun i _=>n-(Lib.intOf i).toNat)
 case atStart=>exact ⟨0,ov1,v1,b1,by omega,rfl,HPS1,hideR (by simpa using HST1.out),HK1⟩
 case round =>
  clear HPS1 HST1 HK1
  obtain ⟨j,ov3,v3,b3,hj,rfl,HPS,HST,HKW⟩:=hrel
  have ko:=HPS.out.cellO
  by_cases hgo:j<n
  ·obtain ⟨b1,off1,cap1,hv1,hx1⟩:=Row.some HL.out (by omega)
   injection hv1 with ho1 e11 e12
   subst ho1
   clear e11 e12
   obtain ⟨x,hxk⟩:∃x,l[j]?=some x:=⟨_,List.getElem?_eq_getElem (by omega)⟩
   have cx:=cell_on HPS.out.below (hx1 j x hxk)
   simp only [Nat.mul_one] at cx
   have HXK:=hideR hxk
   have HTK:Hid ((l.take (j+1)).flatMap Leb.uB=(l.take j).flatMap Leb.uB++Leb.uB x):=hideR (fm_take HXK.out)
   clear hxk hx1
   cases ov3 with
   | true =>
    have HF:Hid (St (id++idxB l) true b3):=hideR (by
     have h1:=(HST.out.more rfl ((l.drop j).flatMap Leb.uB))
     rw [List.append_assoc,List.append_assoc,<- List.flatMap_append,List.take_append_drop] at h1
     unfold idxB;rw [HNA.out,HU0.out];exact h1)
    go_wp2
    go_end0
    exact ⟨_,_,_,rfl,HPS.out,HF.out,HKW.out⟩
   | false =>
    have HC:=hideR (dU w0 p false v3 b3 _ x wr HPS.out HST.out (HR.out x (List.mem_of_getElem? HXK.out)).1 (by have:=(HR.out x (List.mem_of_getElem? HXK.out)).2;omega))
    go_wp2_with fail
    refine HC.out.mono ?_
    rintro e w4 ⟨ov4,v4,b4,rfl,h4,s4,k4⟩
    have HPS4:=hideR h4
    have HST4:Hid (St (id++u0++(l.take (j+1)).flatMap Leb.uB) ov4 b4):=hideR (by rw [HTK.out,<- List.append_assoc];exact s4)
    have HK4:=hideR (HKW.out.trans k4)
    clear h4 s4 k4 HC
    go_wp2
    go_roundw
    case rel=>exact ⟨j+1,ov4,v4,b4,by omega,by go_num,HPS4,HST4,HK4⟩
    case measure=>simp [Lib.intOf];omega
  ·obtain rfl:n=j:=by omega
   have HF:Hid (St (id++idxB l) ov3 b3):=hideR (by
    have h1:=HST.out
    rw [List.take_of_length_le (by have:=HNA.out;omega),List.append_assoc] at h1
    unfold idxB;rw [HNA.out,HU0.out];exact h1)
   go_wp2
   go_end0
   exact ⟨_,_,_,rfl,HPS.out,HF.out,HKW.out⟩
set_option maxRecDepth 100000 in
set_option maxHeartbeats 2000000 in
theorem dTypes (w0:World) (p:Nat) (ov:Bool) (v:Value) (bs id:List Int) (lv:Value) (l:List Int) (w:World) (h:PS w0 p ov v bs w) (hS:St id ov bs) (hL:Ints w0 lv l) :
  Calls Tryz.prog 105 #[.pointer (some ⟨p,0,none⟩),lv] w (PDo w0 p v w (id++typB l)):=by
 obtain ⟨oL,kL,rfl⟩:=Row.len hL
 have la:=hL.1
 have HC0:=hideR (dU w0 p ov v bs id (l.length:Int) w h hS (by omega) (by omega))
 have HL:=hideR hL
 clear h hS hL
 generalize hna:l.length=n at *
 have HNA:=hideR hna
 obtain ⟨u0,hu0⟩:∃u0,Leb.uB (n:Int)=u0:=⟨_,rfl⟩
 rw [hu0] at HC0
 have HU0:=hideR hu0
 clear hu0
 go_enter Tryz.func105,Tryz.ntmps105
 go_wp2_with fail
 refine HC0.out.mono ?_
 rintro e w1 ⟨ov1,v1,b1,rfl,h1,s1,k1⟩
 have HPS1:=hideR h1
 have HST1:=hideR s1
 have HK1:=hideR k1
 clear h1 s1 k1 HC0
 go_wp2_with fail
 go_loopw [4] (fun i wr=>∃(j:Nat) (ov3:Bool) (v3:Value) (b3:List Int),j<=n/\i=.int .i64 j/\Hid (PS w0 p ov3 v3 b3 wr)/\Hid (St (id++u0++(l.take j).flatMap (fun x:Int=>[x%256])) ov3 b3)/\Hid (Kept p v w v3 wr)) (fun i _=>n-(Lib.intOf i).toNat)
 case atStart=>exact ⟨0,ov1,v1,b1,by omega,rfl,HPS1,hideR (by simpa using HST1.out),HK1⟩
 case round =>
  clear HPS1 HST1 HK1
  obtain ⟨j,ov3,v3,b3,hj,rfl,HPS,HST,HKW⟩:=hrel
  have ko:=HPS.out.cellO
  by_cases hgo:j<n
  ·obtain ⟨b1,off1,cap1,hv1,hx1⟩:=Row.some HL.out (by omega)
   injection hv1 with ho1 e11 e12
   subst ho1
   clear e11 e12
   obtain ⟨x,hxk⟩:∃x,l[j]?=some x:=⟨_,List.getElem?_eq_getElem (by omega)⟩
   have cx:=cell_on HPS.out.below (hx1 j x hxk)
   simp only [Nat.mul_one] at cx
   have HXK:=hideR hxk
   have HTK:Hid ((l.take (j+1)).flatMap (fun x:Int=>[x%256])=(l.take j).flatMap (fun x:Int=>[x%256])++[x%256]):=hideR (fm_take HXK.out)
   clear hxk hx1
   have HC:=hideR (dByte w0 p ov3 v3 b3 _ x wr HPS.out HST.out)
   go_wp2_with fail
   refine HC.out.mono ?_
   rintro e w4 ⟨ov4,v4,b4,rfl,h4,s4,k4⟩
   have HPS4:=hideR h4
   have HST4:Hid (St (id++u0++(l.take (j+1)).flatMap (fun x:Int=>[x%256])) ov4 b4):=hideR (by rw [HTK.out,<- List.append_assoc];exact s4)
   have HK4:=hideR (HKW.out.trans k4)
   clear h4 s4 k4 HC
   go_wp2
   go_roundw
   case rel=>exact ⟨j+1,ov4,v4,b4,by omega,by go_num,HPS4,HST4,HK4⟩
   case measure=>simp [Lib.intOf];omega
  ·obtain rfl:n=j:=by omega
   have HF:Hid (St (id++typB l) ov3 b3):=hideR (by
    have h1:=HST.out
    rw [List.take_of_length_le (by have:=HNA.out;omega),List.append_assoc] at h1
    unfold typB;rw [HNA.out,HU0.out];exact h1)
   go_wp2
   go_end0
   exact ⟨_,_,_,rfl,HPS.out,HF.out,HKW.out⟩
namespace Enc
def DIS (w0:World) (p:Nat) (d:Nat):Prop:=∀(lv:Value) (l:IL d) (ov:Bool) (v:Value) (bs id:List Int) (w:World),PS w0 p ov v bs w->St id ov bs->At w0 d lv l->Rg d l ->
 Calls Tryz.prog 74 #[.pointer (some ⟨p,0,none⟩),lv] w (PDo w0 p v w (id++bytesI d l))
end Enc
end Go.Proofs.YtlcpagiljfpbpaaGreatDoor

