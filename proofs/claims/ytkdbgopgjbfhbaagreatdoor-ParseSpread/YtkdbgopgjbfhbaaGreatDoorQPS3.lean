/- Texts that the claim needs. -/
import Derived.Test.YtkdbgopgjbfhbaaGreatDoorQPS1
import Derived.Test.YtkdbgopgjbfhbaaGreatDoorQPS2
import Derived.Shelf.LaysM
import Derived.Shelf.Lay
import Derived.Shelf.Strconv.Clone
namespace Go.Proofs.YtkdbgopgjbfhbaaGreatDoor
open Go.RowKit Go.Shelf Lx
set_option linter.unusedVariables false
set_option maxHeartbeats 1000000
def Tryz.adg:Go.Shelf.Ren:=⟨fun|316=>150|n=>n,fun|9=>9|3=>3|4=>4|37=>90|0=>0|127=>182|5=>5|n=>n,fun|n=>n⟩
theorem Tryz.adh:Go.Proofs.LaysM.n316 Tryz.prog Tryz.adg:={
 mixed:=by kernel_rfl
 f316:=Tryz.func150.trans (congrArg some (by kernel_rfl))
 t0:=Tryz.underlying0
 a0:=Tryz.isAgg0
 z0:=Tryz.sizeOf0
 v0:=Tryz.zeroValue0
 t3:=Tryz.underlying3
 a3:=Tryz.isAgg3
 z3:=Tryz.sizeOf3
 v3:=Tryz.zeroValue3
 t4:=Tryz.underlying4
 a4:=Tryz.isAgg4
 z4:=Tryz.sizeOf4
 v4:=Tryz.zeroValue4
 t9:=Tryz.underlying9
 a9:=Tryz.isAgg9
 z9:=Tryz.sizeOf9
 v9:=Tryz.zeroValue9
 t37:=Tryz.underlying90
 a37:=Tryz.isAgg90
 z37:=Tryz.sizeOf90
 v37:=Tryz.zeroValue90
 t127:=Tryz.underlying182
 a127:=Tryz.isAgg182
 z127:=Tryz.sizeOf182
 v127:=Tryz.zeroValue182
 t5:=Tryz.underlying5
 a5:=Tryz.isAgg5
 z5:=Tryz.sizeOf5
 v5:=Tryz.zeroValue5
 i0:=by kernel_rfl
 i3:=by kernel_rfl
 i4:=by kernel_rfl
 i5:=by kernel_rfl
 i9:=by kernel_rfl
 i37:=by kernel_rfl
 i127:=by kernel_rfl }
theorem adi (s:ByteArray) (w:World) (h:s.size<=281474976710656):Calls Tryz.prog 150 #[.string s] w fun e w'=>e=.returned (.string s)/\Below w.heap.size w w' :=
 Any.stringslite_Clone Tryz.adh s w h
theorem FN (s:ByteArray) (w:World) (h:s.size<=281474976710656):Calls Tryz.prog 119 #[.string s] w fun e w'=>e=.returned (.string s)/\Below w.heap.size w w':=by
 have H:=ae (adi s w h);go_enter Tryz.func119,Tryz.ntmps119;go_wp2_with fail;refine H.out.mono ?_;rintro e u ⟨rfl,hb⟩;have HB:=ae hb;clear hb;go_wp2;go_ret;exact ⟨rfl,HB.out⟩
theorem sS {t s:ByteArray} (h:t=s):(t.toList == s.toList)=true:=by rw [h];simp
theorem adj (t x:ByteArray) (w:World):Calls Tryz.prog 149 #[.string t,.string x] w fun e w'=>e=.returned (.bool (pfx t x))/\w'=w:=by
 have hB:pfx t x=(decide (x.size<=t.size) && decide (t.extract 0 x.size=x)):=rfl;generalize pfx t x=B at hB ⊢;by_cases h1:x.size<=t.size
 ·have q1:decide ((t.size:Int)>=(x.size:Int))=true:=decide_eq_true (by omega);by_cases h2:t.extract 0 x.size=x
  ·rw [decide_eq_true h1,decide_eq_true h2] at hB;have q2:=sS h2;clear h2;subst hB;go_enter Tryz.func149,Tryz.ntmps149;go_wp2
   all_goals first|(go_ret;exact ⟨rfl,rfl⟩)|skip
  ·rw [decide_eq_true h1,decide_eq_false h2] at hB;have q2:=q8 h2;clear h2;subst hB;go_enter Tryz.func149,Tryz.ntmps149;go_wp2
   all_goals first|(go_ret;exact ⟨rfl,rfl⟩)|skip
 ·rw [decide_eq_false h1] at hB;have q1:decide ((t.size:Int)>=(x.size:Int))=false:=decide_eq_false (by omega);subst hB;go_enter Tryz.func149,Tryz.ntmps149;go_wp2;go_ret;exact ⟨rfl,rfl⟩
theorem ZH (t x:ByteArray) (w:World):Calls Tryz.prog 118 #[.string t,.string x] w fun e w'=>e=.returned (.bool (pfx t x))/\w'=w:=by
 have H:=ae (adj t x w);go_enter Tryz.func118,Tryz.ntmps118;go_wp2_with fail;refine H.out.mono ?_;rintro e u ⟨rfl,rfl⟩;go_wp2;go_ret;exact ⟨rfl,rfl⟩
namespace Lx
theorem Lr (s:ByteArray) (l:List ByteArray) (k:Nat) (x:ByteArray) (h:l[k]?=some x):bN s (l.drop k)=if x=s then true else bN s (l.drop (k+1)):=by
 obtain ⟨hk,hx⟩:=List.getElem?_eq_some_iff.1 h;rw [List.drop_eq_getElem_cons hk,bN,hx]
end Lx
theorem UJ (s:ByteArray) (l:List ByteArray) (b c:Nat) (w:World) (hl:l.length<1000) (hc:∀k x,l[k]?=some x->w.cell? ⟨b,k,none⟩=some (.string x)) :
  Calls Tryz.prog 145 #[.string s,.slice (some ⟨b,0,none⟩) l.length c] w fun e w'=>e=.returned (.bool (bN s l))/\w'=w:=by
 obtain ⟨R,hR⟩:∃R,R=bN s l:=⟨_,rfl⟩;have st0:Hid (bN s (l.drop 0)=R):=ae (by rw [hR];rfl);rw [<- hR];clear hR;have HC:=ae hc;have HL:=ae hl;clear hc hl;go_enter Tryz.func145,Tryz.ntmps145;go_wp2_with fail
 go_loop [5] (fun a=>∃k:Nat,a=.int .i64 k/\k<=l.length/\Hid (bN s (l.drop k)=R)) (fun a=>match a with | .int _ k=>l.length-k.toNat|_=>0)
 case atStart=>exact ⟨0,rfl,Nat.zero_le _,st0⟩
 case round =>
  obtain ⟨k,rfl,hk,hR⟩:=hrel;clear st0;by_cases hp:k<l.length
  ·have q1:decide ((k:Int)<(l.length:Int))=true:=decide_eq_true (by omega);obtain ⟨x,hx⟩:∃x,l[k]?=some x:=⟨_,List.getElem?_eq_getElem hp⟩;have hcell:=HC.out k x hx;have hs:=Lr s l k x hx;rw [hR.out] at hs;have hw1:wrap64 ((k:Int)+1)=((k+1:Nat):Int):=by have:=HL.out;unfold wrap64;omega
   by_cases h:x=s
   ·rw [if_pos h] at hs;have q2:=sS h;have HS:=ae hs;clear hs hx h hR;go_wp2;go_ret;exact ⟨ba HS.out.symm,rfl⟩
   ·rw [if_neg h] at hs;have q2:=q8 h;have HS:=ae hs;clear hs hx h hR;go_wp2
    go_round
    case rel=>exact ⟨k+1,by first|rfl|(congr 1),hp,ae HS.out.symm⟩
    case measure=>simp;omega
  ·have q1:decide ((k:Int)<(l.length:Int))=false:=decide_eq_false (by omega);have hs:R=false:=by rw [<- hR.out,List.drop_eq_nil_of_le (by omega)];rfl
   have HS:=ae hs;clear hs hR;go_wp2;go_ret;exact ⟨ba HS.out.symm,rfl⟩
theorem UK (w:World) (t:TypeId) (l:List ByteArray):∀k x,l[k]?=some x->(w.alloc (.cells (l.map Value.string).toArray t)).cell? ⟨w.heap.size,k,none⟩=some (.string x):=fun k x h=>by
 rw [World.cell?_alloc_at _ t _ _ rfl];simp [h]
theorem Fy (s:ByteArray) (w:World):Calls Tryz.prog 92 #[.string s] w fun e w'=>e=.returned (.bool (bN s keys))/\Below w.heap.size w w':=by
 have H:=ae (UJ s keys w.heap.size 12 _ (by decide) (UK w 9 keys));have HB:=ae ((Below.refl _ w).alloc (Nat.le_refl _) (.cells (keys.map Value.string).toArray 9));obtain ⟨B,hB⟩:∃B,B=bN s keys:=⟨_,rfl⟩;rw [<- hB] at H ⊢;clear hB;go_enter Tryz.func92,Tryz.ntmps92;go_wp2_with fail;refine Calls.mono (show Calls _ _ _ _ _ from H.out) ?_;rintro e u ⟨rfl,rfl⟩;go_wp2;go_ret;exact ⟨rfl,HB.out⟩
theorem JC (s:ByteArray) (w:World):Calls Tryz.prog 110 #[.string s] w fun e w'=>e=.returned (.bool (bN s signs))/\Below w.heap.size w w':=by
 have H:=ae (UJ s signs w.heap.size 14 _ (by decide) (UK w 9 signs));have HB:=ae ((Below.refl _ w).alloc (Nat.le_refl _) (.cells (signs.map Value.string).toArray 9));obtain ⟨B,hB⟩:∃B,B=bN s signs:=⟨_,rfl⟩;rw [<- hB] at H ⊢;clear hB;go_enter Tryz.func110,Tryz.ntmps110;go_wp2_with fail;refine Calls.mono (show Calls _ _ _ _ _ from H.out) ?_;rintro e u ⟨rfl,rfl⟩;go_wp2;go_ret;exact ⟨rfl,HB.out⟩
end Go.Proofs.YtkdbgopgjbfhbaaGreatDoor
