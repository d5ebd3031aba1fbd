/- Texts that the claim needs. -/
import Derived.Test.YtiailkiepndliaaGreatDoorQDWi33
import Derived.Test.YtiailkiepndliaaGreatDoorQDWi15
import Derived.Test.YtiailkiepndliaaGreatDoorQDWi35
import Derived.Test.YtiailkiepndliaaGreatDoorQDWi17
import Derived.Laws.Concat
import Derived.Test.YtiailkiepndliaaGreatDoorQDWi7
import Derived.Test.YtiailkiepndliaaGreatDoorQDWi9
import Derived.Test.YtiailkiepndliaaGreatDoorRows
import Derived.Lib.LaidIn
import Derived.Lib.LaidU8T
import Derived.ProofKit
namespace Go.Proofs.YtiailkiepndliaaGreatDoor
open Go.RowKit Rep Enc Dec Go.Lib
set_option linter.unusedVariables false
namespace Dec
theorem chk_depth {d:Nat} {m:Mod d} (h:chk m=0):goF stepDepth d m.funcs ()=some ():=by
 unfold chk at h
 split at h
 ·split at h
  ·cases h
  ·split at h
   ·cases h
   ·split at h
    ·cases h
    ·rename_i u1 h1
     exact h1
 ·cases h
theorem vr_of:∀(d:Nat) (l:IL d) (k:Nat),goI stepForm d l k ()=some ()->goI stepLabels d l k ()=some ()->goI stepDepth d l k ()=some ()->NR d l->VR d k l
 | 0,_,_,_,_,_,_=>trivial
 | d+1,l,k,hF,hL,hD,hN=>by
  intro x hx
  obtain ⟨f1,f2,f3⟩:=goL_all (show List (Ins (IL d)) from l) hF x hx
  obtain ⟨g1,g2,g3⟩:=goL_all (show List (Ins (IL d)) from l) hL x hx
  obtain ⟨e1,e2,e3⟩:=goL_all (show List (Ins (IL d)) from l) hD x hx
  obtain ⟨n1,n2,n3⟩:=hN x hx
  have hok:okS (sn x)=true:=by
   unfold stepForm at f1
   by_cases h:okS (sn x)=true
   ·exact h
   ·rw [if_neg h] at f1;cases f1
  have hfw:x.labels.length<=4096:=by
   unfold stepLabels at g1
   by_cases h:few (sn x).labels.length=true
   ·have:=of_decide_eq_true (p:=(((sn x).labels.length:Int)<=4096)) h
    have e:(sn x).labels=x.labels:=rfl
    rw [e] at this;omega
   ·rw [if_neg h] at g1;cases g1
  have hdp:k<=64:=by
   unfold stepDepth at e1
   by_cases h:k<=64
   ·exact h
   ·rw [if_neg h] at e1;cases e1
  refine ⟨hdp,⟨ok1_of hok,hfw,rg1_of hok hfw n1 trivial trivial,fun h65=>?_⟩,vr_of d x.body (k+1) f2 g2 e2 n2,vr_of d x.els (k+1) f3 g3 e3 n3⟩
  have hk:okF (form x.op) x.op x.a x.b x.n x.labels (size d x.body) (size d x.els)=true:=hok
  rw [h65,show form 65=9 from rfl] at hk
  unfold okF at hk
  rw [if_neg (by decide),if_neg (by decide),if_neg (by decide),if_neg (by decide),if_neg (by decide),if_neg (by decide),if_pos rfl,Bool.and_eq_true,Bool.or_eq_true,Bool.and_eq_true] at hk
  rcases hk.1 with h|⟨h1,h2⟩
  ·exact absurd h (by decide)
  ·exact ⟨of_decide_eq_true h1,of_decide_eq_true h2⟩
theorem mid_bt (A B:ByteArray) (xs:List Int) (hb:∀x ∈ xs,0<=x/\x<=255):Ls (A++strOfNums xs++B) A.size xs:=by
 intro j hj
 have hsz:(strOfNums xs).size=xs.length:=strOfNums_size xs
 have hlt:A.size+j<(A++strOfNums xs++B).size:=by rw [ByteArray.size_append,ByteArray.size_append];omega
 unfold Leb.bt
 rw [dif_pos hlt]
 have hx:xs.getD j 0=xs[j]:=by rw [List.getD_eq_getElem?_getD,List.getElem?_eq_getElem hj];rfl
 have hbj:=hb xs[j] (List.getElem_mem hj)
 have e:((A++strOfNums xs++B)[A.size+j]'hlt)=UInt8.ofNat (xs[j]).toNat:=by
  rw [ByteArray.getElem_append_left (by rw [ByteArray.size_append];omega),ByteArray.getElem_append_right (by omega)]
  show ((xs.map fun n=>UInt8.ofNat n.toNat).toArray[A.size+j-A.size]'(by simpa using hj))=_
  simp only [List.getElem_toArray,List.getElem_map,Nat.add_sub_cancel_left]
 rw [e,hx,UInt8.toNat_ofNat']
 omega
theorem within_read {k:IL 81} (A B:ByteArray) (hN:NR 81 k) (hc:chk (bodyM k)=0) (ha:A.size<=1000) (hb:B.size<=1000) (hs:(sA k).size<=20000) :
  ∃m,xE (A++sA k++B) A.size=.ok (k,A.size+(sA k).size,m):=by
 obtain ⟨_,⟨c,hcnt⟩,hL,_,hF⟩:=chk_zero hc
 have hD:=chk_depth hc
 have vr:=vr_of 81 k 0 (goF_one hF) (goF_one hL) (goF_one hD) hN
 have hcnt':=goF_one (f:={ type:=0,locals:=[],body:=k }) hcnt
 have h1:=goI_tot 81 k 0 0 c hcnt'
 have h2:=goI_count_le 81 k 0 0 c (by omega) hcnt'
 have bd:=bd_bytesI 81 k (vi_of 81 k 0 (goF_one hF))
 have e:sA k=strOfNums (bytesI 81 k++[11]):=by unfold sA;rw [if_pos hc]
 have hsz:(sA k).size=(bytesI 81 k).length+1:=by rw [e,strOfNums_size];simp
 have hall:(A++sA k++B).size=A.size+(sA k).size+B.size:=by rw [ByteArray.size_append,ByteArray.size_append]
 have hls:Ls (A++sA k++B) A.size (bytesI 81 k++[11]):=by
  rw [e]
  exact mid_bt A B _ (fun x hx=>by
   rcases List.mem_append.1 hx with h|h
   ·exact bd x h
   ·rw [List.mem_singleton.1 h];omega)
 have sp:=seq_put (en:=(A++sA k++B).size) (Nat.le_refl _) 81 0 k 11 A.size 0 (.inr rfl) vr (by omega) hls (by omega)
 refine ⟨0+tot 81 k,?_⟩
 unfold xE
 rw [if_neg (by omega),if_pos ⟨by omega,by omega⟩,show Int.toNat (A.size:Int)=A.size from rfl]
 unfold rexpr
 rw [sp]
 show (if (11:Int)=11 then (.ok (k,A.size+(bytesI 81 k).length+1,0+tot 81 k):R2 (IL 81)) else .error 50)=_
 rw [if_pos rfl,hsz]
 rfl
end Dec
end Go.Proofs.YtiailkiepndliaaGreatDoor

namespace Go.Proofs.YtiailkiepndliaaGreatDoor
open Go.RowKit Rep Enc Dec Go.Lib
set_option linter.unusedVariables false
namespace Dec
theorem samL_same {α:Type} {f:α->α->Bool} (hf:∀x,f x x=true):∀l,samL f l l=true
 | []=>rfl
 | x :: r=>by unfold samL sam1;rw [samL_same hf r,hf,hf];simp
theorem samI_same:∀(d:Nat) (l:IL d),samI d l l=true
 | 0,_=>rfl
 | d+1,l=>samL_same (samI_same d) l
end Dec
set_option maxRecDepth 100000 in
set_option maxHeartbeats 16000000 in
theorem withinC (C:WastC UtfI) (d:Nat) (av:Value) (a:IL d) (A B:ByteArray) (w:World) (hI:UtfI w) (hA:At w d av a) (hN:NR d a) (hSA:A.size<=9223372036854775807) (hSB:B.size<=9223372036854775807) :
  Calls Tryz.prog 3 #[av,.string A,.string B] w fun e w'=>e=.returned (.bool true)/\Below w.heap.size w w':=by
 obtain ⟨oA,kA,rfl⟩:=At.len d _ _ hA
 obtain ⟨u1,hu1⟩:∃u1,u1=w.alloc (.cells #[.int .i64 0,.slice none 0 0,.slice oA (size d a) kA] 26):=⟨_,rfl⟩
 have hb:Below w.heap.size w u1:=by rw [hu1];exact new_on' w _
 have hx:Bx u1 w.heap.size 26 #[.int .i64 0,.slice none 0 0,.slice oA (size d a) kA]:=by rw [hu1];exact Bx.new rfl
 have HL:=hideR (pLarge d _ _ _ _ _ _ _ _ _ _ (bodyM a) u1 (bodyM_at hA hb hx) (fun x hx=>by simp [bodyM] at hx))
 have HI:=hideR hI
 have HA:=hideR hA
 have HN:=hideR hN
 have HB:=hideR hb
 have HX:=hideR hx
 have HU:=hideR hu1
 clear hI hA hN hb hx hu1
 generalize size d a=na at *
 by_cases hA1:1000<A.size\/1000<B.size
 ·by_cases hA2:1000<A.size
  ·have dA:decide ((A.size:Int) > 1000)=true:=decide_eq_true (by omega)
   go_enter Tryz.func3,Tryz.ntmps3
   go_wp2_with fail
   rw [<- HU.out]
   clear HU
   refine HL.out.mono ?_
   rintro e u2 ⟨hb2,hor⟩
   have HB2:=hideR (HB.out.trans (hb2.mono HB.out.size))
   have HI2:=hideR (C.keep HB2.out HI.out)
   rcases hor with rfl|⟨rfl,_⟩
   all_goals (
    clear hb2 HL
    go_wp2_with fail
    refine (dWakes _ HI2.out).mono ?_
    rintro e u3 ⟨rfl,hb3⟩
    have HB3:=hideR (HB2.out.trans (hb3.mono HB2.out.size))
    clear hb3
    go_wp2
    go_ret
    exact ⟨rfl,HB3.out⟩)
  ·have dA:decide ((A.size:Int) > 1000)=false:=decide_eq_false (by omega)
   have dB:decide ((B.size:Int) > 1000)=true:=decide_eq_true (by omega)
   go_enter Tryz.func3,Tryz.ntmps3
   go_wp2_with fail
   rw [<- HU.out]
   clear HU
   refine HL.out.mono ?_
   rintro e u2 ⟨hb2,hor⟩
   have HB2:=hideR (HB.out.trans (hb2.mono HB.out.size))
   have HI2:=hideR (C.keep HB2.out HI.out)
   rcases hor with rfl|⟨rfl,_⟩
   all_goals (
    clear hb2 HL
    go_wp2_with fail
    refine (dWakes _ HI2.out).mono ?_
    rintro e u3 ⟨rfl,hb3⟩
    have HB3:=hideR (HB2.out.trans (hb3.mono HB2.out.size))
    clear hb3
    go_wp2
    go_ret
    exact ⟨rfl,HB3.out⟩)
 have hAs:A.size<=1000:=by omega
 have hBs:B.size<=1000:=by omega
 have dA:decide ((A.size:Int) > 1000)=false:=decide_eq_false (by omega)
 have dB:decide ((B.size:Int) > 1000)=false:=decide_eq_false (by omega)
 clear hA1
 go_enter Tryz.func3,Tryz.ntmps3
 go_wp2_with fail
 rw [<- HU.out]
 clear HU
 refine HL.out.mono ?_
 rintro e u2 ⟨hb2,hor⟩
 have HB2:=hideR (HB.out.trans (hb2.mono HB.out.size))
 have HI2:=hideR (C.keep HB2.out HI.out)
 rcases hor with rfl|⟨rfl,m,hm,hs,_,_⟩
 ·clear hb2 HL
  go_wp2_with fail
  refine (dWakes _ HI2.out).mono ?_
  rintro e u3 ⟨rfl,hb3⟩
  have HB3:=hideR (HB2.out.trans (hb3.mono HB2.out.size))
  clear hb3
  go_wp2
  go_ret
  exact ⟨rfl,HB3.out⟩
 have hc2:u2.cell? ⟨w.heap.size,2,none⟩=some (.slice oA na kA):=cell_on hb2 (HX.out.cell 2 _ rfl)
 obtain ⟨k,hk,hlb,hwt⟩:=largeBody hm hs hc2
 have HNK:=hideR (NR_on 81 d _ k a hk (At.on HB2.out d _ _ HA.out) HN.out)
 have HKA:=hideR hk
 have HLA:=hideR hlb
 have HWA:=hideR hwt
 clear hb2 HL hm hs hc2 hk hlb hwt HX HA HN
 have hA1:=bodA_small HNK.out (by have:=HWA.out;omega)
 have HWR:=hideR (fun hc hs=>within_read A B HNK.out hc hAs hBs hs)
 have hE0:Hid (chk (bodyM k)≠0->sA k=⟨#[]⟩):=hideR fun h=>by unfold sA;rw [if_neg h]
 obtain ⟨S1,hS1⟩:∃S1,S1=sA k:=⟨_,rfl⟩
 obtain ⟨E1,hE1⟩:∃E1,E1=chk (bodyM k):=⟨_,rfl⟩
 rw [<- hS1,<- hE1] at hA1
 rw [<- hS1,<- hE1] at HWR
 rw [<- hS1,<- hE1] at hE0
 have HA1:=hideR hA1
 clear hA1 hS1 hE1
 have HC:=hideR (refCopiesC 81 _ k u2 HKA.out HLA.out)
 go_wp2_with fail
 refine HC.out.mono ?_
 rintro e u5 ⟨v5,rfl,h5,hb5⟩
 have HB5:=hideR (HB2.out.trans (hb5.mono HB2.out.size))
 have HKA5:=hideR (At.on hb5 81 _ _ HKA.out)
 have hA5:At u5 81 v5 k:=AtS.at 81 _ _ h5
 have HC2:=hideR (pBody C 81 v5 k u5 (C.keep HB5.out HI.out) hA5 (by decide) (fun h=>bodyRg HNK.out h))
 rw [HA1.out] at HC2
 obtain ⟨o5,k5,rfl⟩:=At.len 81 _ _ hA5
 clear HC h5 hb5 hA5 HKA HI2
 generalize size 81 k=n5 at *
 go_wp2_with fail
 refine HC2.out.mono ?_
 rintro e u6 ⟨rfl,hb6⟩
 have HB6:=hideR (HB5.out.trans (hb6.mono HB5.out.size))
 have HKA6:=hideR (At.on hb6 81 _ _ HKA5.out)
 have HI6:=hideR (C.keep HB6.out HI.out)
 clear HC2 hb6 HA1 HB5 HB2 HB HKA5 HLA HWA
 by_cases h1:E1=0
 ·subst h1
  by_cases h2:20000<S1.size
  ·have d2:decide ((S1.size:Int) > 20000)=true:=decide_eq_true (by omega)
   go_wp2_with fail
   refine (dWakes _ HI6.out).mono ?_
   rintro e u7 ⟨rfl,hb7⟩
   have HB7:=hideR (HB6.out.trans (hb7.mono HB6.out.size))
   clear hb7
   go_wp2
   go_ret
   exact ⟨rfl,HB7.out⟩
  ·have d2:decide ((S1.size:Int) > 20000)=false:=decide_eq_false (by omega)
   obtain ⟨mm,hxE⟩:=HWR.out rfl (by omega)
   have hX:=dExpr (A++S1++B) A.size u6 (by rw [ByteArray.size_append,ByteArray.size_append];omega)
   unfold XSays at hX
   rw [hxE] at hX
   have HXE:=hideR hX
   have hsz:A.size+S1.size+B.size<=9223372036854775807:=by omega
   have hsz1:A.size+S1.size<=9223372036854775807:=by omega
   clear hX hxE HWR hE0
   go_wp2_with fail
   refine HXE.out.mono ?_
   rintro e u7 ⟨hb7,o7,n7,k7,rfl,hat⟩
   have HB7:=hideR (HB6.out.trans (hb7.mono HB6.out.size))
   have HI7:=hideR (C.keep HB7.out HI.out)
   have HRI:=hideR (refInstrs 81 _ _ _ _ u7 hat (At.on hb7 81 _ _ HKA6.out))
   rw [samI_same] at HRI
   have hw:IntKind.i64.wrap ((A.size:Int)+(S1.size:Int))=((A.size+S1.size:Nat):Int):=by rw [IntKind.wrap_i64];omega
   have hw2:(((A.size+S1.size:Nat):Int) == IntKind.i64.wrap ((A.size:Int)+(S1.size:Int)))=true:=by rw [hw];simp
   have hw3:decide (((A.size+S1.size:Nat):Int)=IntKind.i64.wrap ((A.size:Int)+(S1.size:Int)))=true:=decide_eq_true hw.symm
   clear HXE hat hb7
   go_wp2_with fail
   refine HRI.out.mono ?_
   rintro e u8 ⟨rfl,hb8⟩
   have HB8:=hideR (HB7.out.trans (hb8.mono HB7.out.size))
   have HI8:=hideR (C.keep HB8.out HI.out)
   clear HRI hb8
   go_wp2_with fail
   refine (dWakes _ HI8.out).mono ?_
   rintro e u9 ⟨rfl,hb9⟩
   have HB9:=hideR (HB8.out.trans (hb9.mono HB8.out.size))
   clear hb9
   go_wp2
   go_ret
   exact ⟨rfl,HB9.out⟩
 ·have b1:(E1 != 0)=true:=by simp [h1]
  have b1':(E1 == 0)=false:=by simp [h1]
  obtain rfl:=hE0.out h1
  go_wp2_with fail
  refine (dWakes _ HI6.out).mono ?_
  rintro e u7 ⟨rfl,hb7⟩
  have HB7:=hideR (HB6.out.trans (hb7.mono HB6.out.size))
  clear hb7
  go_wp2
  go_ret
  exact ⟨rfl,HB7.out⟩
end Go.Proofs.YtiailkiepndliaaGreatDoor

namespace Go.Proofs.YtiailkiepndliaaGreatDoor
open Go.RowKit Rep
set_option linter.unusedVariables false
theorem reckC:ReckC UtfI:=⟨utfI_on,fun op w _=>(preckons op w).mono fun e w' ⟨h1,h2⟩=>⟨h1,by rw [h2];exact Below.refl _ _⟩⟩
theorem theC:WastC UtfI:=wastC reckC fun _ h=>h
end Go.Proofs.YtiailkiepndliaaGreatDoor

namespace Go.Proofs.YtiailkiepndliaaGreatDoor
open Go.RowKit Go.Shelf Go.Lib Rep
theorem own:ownKnob Tryz.prog.godebug=none:=by kernel_rfl
theorem acceptIs:(Rows.laid_unicode_utf8_acceptRanges:DataW Unit)=Lib.acceptData:=by kernel_rfl
theorem firstIs:Rows.laid_unicode_utf8_first=Lib.firstData:=by kernel_rfl
theorem tabsOf {W : World} (hL : laidMetH Tryz.prog [("unicode/utf8.acceptRanges", Rows.laid_unicode_utf8_acceptRanges), ("unicode/utf8.first", Rows.laid_unicode_utf8_first)] W) : UtfI W := by
 rw [acceptIs,firstIs] at hL
 have hM : laidMet Tryz.prog [("unicode/utf8.acceptRanges", Lib.acceptData), ("unicode/utf8.first", Lib.firstData)] W := hL
 exact utf8Tabs_of_readsT (U8Types.of196 Tryz.laysValid) ⟨by kernel_rfl,by kernel_rfl,by kernel_rfl,by kernel_rfl,by kernel_rfl,by kernel_rfl,by kernel_rfl⟩ (Lib.laidMet.reads hM (.tail _ (.head _))) (Lib.laidMet.reads hM (.head _))
noncomputable def laidWorld (os:Os):World :=
 let w0:=World.holding Tryz.prog os ⟨#[],#[],[]⟩
 let put (h:Array Obj) (g:Nat) (cs:Array Value):Array Obj:=h.modify g fun
  | .cells _ t frozen=>.cells cs t frozen
  | o=>o
 let h1:=put w0.heap 0 (Lib.firstTab.map fun z=>Value.int .u8 z).toArray
 let h2:=put h1 1 ((List.range 16).flatMap fun i=>[Value.int .u8 (Lib.accLo i),Value.int .u8 (Lib.accHi i)]).toArray
 { w0 with heap:=h2 }
theorem laid_met (os : Os) (args : Array Value) : laidMet Tryz.prog [("unicode/utf8.acceptRanges", Rows.laid_unicode_utf8_acceptRanges), ("unicode/utf8.first", Rows.laid_unicode_utf8_first)] ((laidWorld os).forCall (fun _ _ => 0) ⟨#[], args, []⟩).memory := by
 rw [acceptIs,firstIs]
 exact (LaidIn.of_run (l := [("unicode/utf8.acceptRanges", Lib.acceptData), ("unicode/utf8.first", Lib.firstData)]) [1, 0] 8 (by kernel_rfl) (by kernel_rfl) (by kernel_rfl) (by kernel_rfl)).met
end Go.Proofs.YtiailkiepndliaaGreatDoor

