/- Texts that the claim needs. -/
import Derived.Test.YthfapccopngfhaaDoorQDex12
import Derived.Test.YthfapccopngfhaaDoorQDex13
import Derived.Test.YthfapccopngfhaaDoorQDex14
import Derived.Test.YthfapccopngfhaaDoorQDex11
namespace Go.Proofs.YthfapccopngfhaaDoor
open Go.RowKit Rep
theorem refForm (op:Int) (w:World):Calls Tryd.prog 19 #[.int .i64 op] w fun e w'=>e=.returned (.int .i64 (form op))/\w'=w:=by
 by_cases c0:op<=-1
 ·have e:form op=0:=by
   unfold form
   repeat first|rw [if_neg (by omega)]|rw [if_pos (by omega)]
  rw [e]
  exact refForm0 op w (by omega)
 by_cases c1:op<=0
 ·have e:form op=1:=by
   unfold form
   repeat first|rw [if_neg (by omega)]|rw [if_pos (by omega)]
  rw [e]
  exact refForm1 op w (by omega)
 by_cases c2:op<=1
 ·have e:form op=1:=by
   unfold form
   repeat first|rw [if_neg (by omega)]|rw [if_pos (by omega)]
  rw [e]
  exact refForm2 op w (by omega)
 by_cases c3:op<=2
 ·have e:form op=2:=by
   unfold form
   repeat first|rw [if_neg (by omega)]|rw [if_pos (by omega)]
  rw [e]
  exact refForm3 op w (by omega)
 by_cases c4:op<=3
 ·have e:form op=2:=by
   unfold form
   repeat first|rw [if_neg (by omega)]|rw [if_pos (by omega)]
  rw [e]
  exact refForm4 op w (by omega)
 by_cases c5:op<=4
 ·have e:form op=3:=by
   unfold form
   repeat first|rw [if_neg (by omega)]|rw [if_pos (by omega)]
  rw [e]
  exact refForm5 op w (by omega)
 by_cases c6:op<=11
 ·have e:form op=0:=by
   unfold form
   repeat first|rw [if_neg (by omega)]|rw [if_pos (by omega)]
  rw [e]
  exact refForm6 op w (by omega)
 by_cases c7:op<=12
 ·have e:form op=4:=by
   unfold form
   repeat first|rw [if_neg (by omega)]|rw [if_pos (by omega)]
  rw [e]
  exact refForm7 op w (by omega)
 by_cases c8:op<=13
 ·have e:form op=4:=by
   unfold form
   repeat first|rw [if_neg (by omega)]|rw [if_pos (by omega)]
  rw [e]
  exact refForm8 op w (by omega)
 by_cases c9:op<=14
 ·have e:form op=5:=by
   unfold form
   repeat first|rw [if_neg (by omega)]|rw [if_pos (by omega)]
  rw [e]
  exact refForm9 op w (by omega)
 by_cases c10:op<=15
 ·have e:form op=1:=by
   unfold form
   repeat first|rw [if_neg (by omega)]|rw [if_pos (by omega)]
  rw [e]
  exact refForm10 op w (by omega)
 by_cases c11:op<=16
 ·have e:form op=6:=by
   unfold form
   repeat first|rw [if_neg (by omega)]|rw [if_pos (by omega)]
  rw [e]
  exact refForm11 op w (by omega)
 by_cases c12:op<=17
 ·have e:form op=7:=by
   unfold form
   repeat first|rw [if_neg (by omega)]|rw [if_pos (by omega)]
  rw [e]
  exact refForm12 op w (by omega)
 by_cases c13:op<=25
 ·have e:form op=0:=by
   unfold form
   repeat first|rw [if_neg (by omega)]|rw [if_pos (by omega)]
  rw [e]
  exact refForm13 op w (by omega)
 by_cases c14:op<=26
 ·have e:form op=1:=by
   unfold form
   repeat first|rw [if_neg (by omega)]|rw [if_pos (by omega)]
  rw [e]
  exact refForm14 op w (by omega)
 by_cases c15:op<=27
 ·have e:form op=1:=by
   unfold form
   repeat first|rw [if_neg (by omega)]|rw [if_pos (by omega)]
  rw [e]
  exact refForm15 op w (by omega)
 by_cases c16:op<=31
 ·have e:form op=0:=by
   unfold form
   repeat first|rw [if_neg (by omega)]|rw [if_pos (by omega)]
  rw [e]
  exact refForm16 op w (by omega)
 by_cases c17:op<=36
 ·have e:form op=6:=by
   unfold form
   repeat first|rw [if_neg (by omega)]|rw [if_pos (by omega)]
  rw [e]
  exact refForm17 op w (by omega)
 by_cases c18:op<=39
 ·have e:form op=0:=by
   unfold form
   repeat first|rw [if_neg (by omega)]|rw [if_pos (by omega)]
  rw [e]
  exact refForm18 op w (by omega)
 by_cases c19:op<=40
 ·have e:form op=8:=by
   unfold form
   repeat first|rw [if_neg (by omega)]|rw [if_pos (by omega)]
  rw [e]
  exact refForm19 op w (by omega)
 by_cases c20:op<=41
 ·have e:form op=8:=by
   unfold form
   repeat first|rw [if_neg (by omega)]|rw [if_pos (by omega)]
  rw [e]
  exact refForm20 op w (by omega)
 by_cases c21:op<=42
 ·have e:form op=10:=by
   unfold form
   repeat first|rw [if_neg (by omega)]|rw [if_pos (by omega)]
  rw [e]
  exact refForm21 op w (by omega)
 by_cases c22:op<=43
 ·have e:form op=10:=by
   unfold form
   repeat first|rw [if_neg (by omega)]|rw [if_pos (by omega)]
  rw [e]
  exact refForm22 op w (by omega)
 by_cases c23:op<=55
 ·have e:form op=8:=by
   unfold form
   repeat first|rw [if_neg (by omega)]|rw [if_pos (by omega)]
  rw [e]
  exact refForm23 op w (by omega)
 by_cases c24:op<=56
 ·have e:form op=10:=by
   unfold form
   repeat first|rw [if_neg (by omega)]|rw [if_pos (by omega)]
  rw [e]
  exact refForm24 op w (by omega)
 by_cases c25:op<=57
 ·have e:form op=10:=by
   unfold form
   repeat first|rw [if_neg (by omega)]|rw [if_pos (by omega)]
  rw [e]
  exact refForm25 op w (by omega)
 by_cases c26:op<=62
 ·have e:form op=8:=by
   unfold form
   repeat first|rw [if_neg (by omega)]|rw [if_pos (by omega)]
  rw [e]
  exact refForm26 op w (by omega)
 by_cases c27:op<=63
 ·have e:form op=1:=by
   unfold form
   repeat first|rw [if_neg (by omega)]|rw [if_pos (by omega)]
  rw [e]
  exact refForm27 op w (by omega)
 by_cases c28:op<=64
 ·have e:form op=1:=by
   unfold form
   repeat first|rw [if_neg (by omega)]|rw [if_pos (by omega)]
  rw [e]
  exact refForm28 op w (by omega)
 by_cases c29:op<=65
 ·have e:form op=9:=by
   unfold form
   repeat first|rw [if_neg (by omega)]|rw [if_pos (by omega)]
  rw [e]
  exact refForm29 op w (by omega)
 by_cases c30:op<=66
 ·have e:form op=9:=by
   unfold form
   repeat first|rw [if_neg (by omega)]|rw [if_pos (by omega)]
  rw [e]
  exact refForm30 op w (by omega)
 by_cases c31:op<=67
 ·have e:form op=10:=by
   unfold form
   repeat first|rw [if_neg (by omega)]|rw [if_pos (by omega)]
  rw [e]
  exact refForm31 op w (by omega)
 by_cases c32:op<=68
 ·have e:form op=10:=by
   unfold form
   repeat first|rw [if_neg (by omega)]|rw [if_pos (by omega)]
  rw [e]
  exact refForm32 op w (by omega)
 by_cases c33:op<=90
 ·have e:form op=1:=by
   unfold form
   repeat first|rw [if_neg (by omega)]|rw [if_pos (by omega)]
  rw [e]
  exact refForm33 op w (by omega)
 by_cases c34:op<=102
 ·have e:form op=10:=by
   unfold form
   repeat first|rw [if_neg (by omega)]|rw [if_pos (by omega)]
  rw [e]
  exact refForm34 op w (by omega)
 by_cases c35:op<=138
 ·have e:form op=1:=by
   unfold form
   repeat first|rw [if_neg (by omega)]|rw [if_pos (by omega)]
  rw [e]
  exact refForm35 op w (by omega)
 by_cases c36:op<=166
 ·have e:form op=10:=by
   unfold form
   repeat first|rw [if_neg (by omega)]|rw [if_pos (by omega)]
  rw [e]
  exact refForm36 op w (by omega)
 by_cases c37:op<=167
 ·have e:form op=1:=by
   unfold form
   repeat first|rw [if_neg (by omega)]|rw [if_pos (by omega)]
  rw [e]
  exact refForm37 op w (by omega)
 by_cases c38:op<=171
 ·have e:form op=10:=by
   unfold form
   repeat first|rw [if_neg (by omega)]|rw [if_pos (by omega)]
  rw [e]
  exact refForm38 op w (by omega)
 by_cases c39:op<=173
 ·have e:form op=1:=by
   unfold form
   repeat first|rw [if_neg (by omega)]|rw [if_pos (by omega)]
  rw [e]
  exact refForm39 op w (by omega)
 by_cases c40:op<=191
 ·have e:form op=10:=by
   unfold form
   repeat first|rw [if_neg (by omega)]|rw [if_pos (by omega)]
  rw [e]
  exact refForm40 op w (by omega)
 have e:form op=0:=by
  unfold form
  repeat rw [if_neg (by omega)]
 rw [e]
 exact refForm41 op w (by omega)
end Go.Proofs.YthfapccopngfhaaDoor

namespace Go.Proofs.YthfapccopngfhaaDoor
open Go.RowKit Rep Dec
set_option linter.unusedVariables false
namespace Dec
def Fits {α:Type} (X:R2 α) (P:α->Prop) (i n:Nat) (z:Int):Prop :=
 match X with
 | .ok (a,j,m)=>P a/\j=i/\m=n/\z=0
 | .error e=>e=z/\z≠0
def YInt (w0:World) (p:Nat) (s:ByteArray) (en:Nat) (w:World) (X:R2 Int) (e:Ending) (w':World):Prop :=
 ∃(y:Int) (i n:Nat) (z:Int),e=.returned (.int .i64 y)/\DS w0 p s en i n z w'/\But p w w'/\Fits X (fun a=>a=y) i n z
section
variable {w0 w w':World} {p:Nat} {s:ByteArray} {en:Nat} {e:Ending}
theorem DR.int {X:R2 Int} (h:DR w0 p s en vInt i0 w X e w'):YInt w0 p s en w X e w':=by
 cases X with
 | error y=>obtain ⟨a,v,i2,n2,rfl,⟨t,rfl⟩,d,f⟩:=h;exact ⟨t,i2,n2,y,rfl,d,f,rfl,a⟩
 | ok x =>
  obtain ⟨x,j,m⟩:=x
  obtain ⟨v,rfl,hv,d,f⟩:=h
  have hv:v=.int .i64 x:=hv
  subst hv
  exact ⟨x,j,m,0,rfl,d,f,rfl,rfl,rfl,rfl⟩
theorem DR.int0 {X:R2 Int} (h:DR w0 p s en vInt z0 w X e w'):YInt w0 p s en w X e w':=by
 apply DR.int
 cases X with
 | error y=>obtain ⟨a,v,i2,n2,rfl,hv,d,f⟩:=h;exact ⟨a,v,i2,n2,rfl,⟨0,hv⟩,d,f⟩
 | ok x=>exact h
theorem DR.unit {X:R2 Unit} (h:DR w0 p s en vUnit u0 w X e w'):e=.returned (.tuple #[])/\∃(i n:Nat) (z:Int),DS w0 p s en i n z w'/\But p w w'/\Fits X (fun a=>a=()) i n z:=by
 cases X with
 | error y=>obtain ⟨a,v,i2,n2,rfl,hv,d,f⟩:=h;have hv:v=.tuple #[]:=hv;subst hv;exact ⟨rfl,i2,n2,y,d,f,rfl,a⟩
 | ok x =>
  obtain ⟨x,j,m⟩:=x
  obtain ⟨v,rfl,hv,d,f⟩:=h
  have hv:v=.tuple #[]:=hv
  subst hv
  exact ⟨rfl,j,m,0,d,f,rfl,rfl,rfl,rfl⟩
theorem DR.list {B:Nat} {X:R2 (List Int)} (h:DR w0 p s en (vInts B) s0 w X e w'):∃(l:List Int) (o:Option Addr) (k c:Nat) (i n:Nat) (z:Int),e=.returned (.slice o k c)/\DS w0 p s en i n z w'/\But p w w'/\Fits X (fun a=>a=l) i n z/\(z=0->vInts B l (.slice o k c) w'):=by
 cases X with
 | error y=>obtain ⟨a,v,i2,n2,rfl,⟨o,k,c,rfl⟩,d,f⟩:=h;exact ⟨[],o,k,c,i2,n2,y,rfl,d,f,⟨rfl,a⟩,fun h=>absurd h a⟩
 | ok x =>
  obtain ⟨x,j,m⟩:=x
  obtain ⟨v,rfl,hv,d,f⟩:=h
  have hv2:=hv
  unfold vInts IntsS at hv2
  obtain ⟨o,c,rfl⟩:=Row.len hv2
  exact ⟨x,o,_,c,j,m,0,rfl,d,f,⟨rfl,rfl,rfl,rfl⟩,fun _=>hv⟩
end
end Dec
section
variable (w0:World) (p:Nat) (s:ByteArray) (en i n:Nat) (z:Int) (w:World) (h:DS w0 p s en i n z w)
include h
theorem yUi:Calls Tryd.prog 31 #[.pointer (some ⟨p,0,none⟩)] w (YInt w0 p s en w (stk z (lift (ru s en i) n))):=(yU w0 p s en i n z w h).mono fun _ _ h=>DR.int0 h
theorem yMusti (b:Int) (hb:b=0\/b=11\/b=96\/b=112):Calls Tryd.prog 33 #[.pointer (some ⟨p,0,none⟩),.int .i64 b] w fun e w'=>e=.returned (.tuple #[])/\∃(i' n':Nat) (z':Int),DS w0 p s en i' n' z' w'/\But p w w'/\Fits (stk z (lift (must s en b i) n)) (fun a=>a=()) i' n' z':=(yMust w0 p s en i n z w h b hb).mono fun _ _ h=>DR.unit h
theorem yResi:Calls Tryd.prog 30 #[.pointer (some ⟨p,0,none⟩)] w (YInt w0 p s en w (stk z (lift (rres s en i) n))):=(yRes w0 p s en i n z w h).mono fun _ _ h=>DR.int h
end
namespace Dec
section
variable {w0 w u:World} {p:Nat} {s:ByteArray} {en i n q:Nat} {z op a b m:Int} {v4 v5 v6:Value}
theorem DS.set (h:DS w0 p s en i n z u) (hq:p≠q) (hb:w0.heap.size<=q) (j:Nat) (v:Value):DS w0 p s en i n z (u.setCell ⟨q,j,none⟩ v) :=
 ⟨h.below.setCell hb v,h.base,by rw [Below.heap_setCell _ _ _ _ hq];exact h.blk,h.le,h.len,h.big⟩
structure YI (w0 w:World) (p:Nat) (s:ByteArray) (en i n:Nat) (z:Int) (q:Nat) (op a b m:Int) (v4 v5 v6:Value) (u:World):Prop where
 ds:DS w0 p s en i n z u
 but:But p w u
 x:Blk u q op a b m v4 v5 v6
 pw:p<w.heap.size
 hq:w.heap.size<=q
theorem YI.call {i2 n2:Nat} {z2:Int} {u2:World} (h:YI w0 w p s en i n z q op a b m v4 v5 v6 u) (h1:DS w0 p s en i2 n2 z2 u2) (h2:But p u u2):YI w0 w p s en i2 n2 z2 q op a b m v4 v5 v6 u2 :=
 ⟨h1,h.but.trans h2,h.x.keep (h2.block _ h.x.lt (fun e=>by injection e with e;have:=h.pw;have:=h.hq;omega)),h.pw,h.hq⟩
theorem YI.ne (h:YI w0 w p s en i n z q op a b m v4 v5 v6 u):p≠q/\w0.heap.size<=q:=⟨by have:=h.pw;have:=h.hq;omega,by have:=h.pw;have:=h.hq;have:=h.ds.base;omega⟩
theorem YI.set1 (h:YI w0 w p s en i n z q op a b m v4 v5 v6 u) (y:Int):YI w0 w p s en i n z q op y b m v4 v5 v6 (u.setCell ⟨q,1,none⟩ (.int .i64 y)) :=
 ⟨h.ds.set h.ne.1 h.ne.2 _ _,but_set h.but h.hq _ _,heap_setCell_same u q 1 _ _ _ h.x,h.pw,h.hq⟩
theorem YI.set2 (h:YI w0 w p s en i n z q op a b m v4 v5 v6 u) (y:Int):YI w0 w p s en i n z q op a y m v4 v5 v6 (u.setCell ⟨q,2,none⟩ (.int .i64 y)) :=
 ⟨h.ds.set h.ne.1 h.ne.2 _ _,but_set h.but h.hq _ _,heap_setCell_same u q 2 _ _ _ h.x,h.pw,h.hq⟩
theorem YI.set3 (h:YI w0 w p s en i n z q op a b m v4 v5 v6 u) (y:Int):YI w0 w p s en i n z q op a b y v4 v5 v6 (u.setCell ⟨q,3,none⟩ (.int .i64 y)) :=
 ⟨h.ds.set h.ne.1 h.ne.2 _ _,but_set h.but h.hq _ _,heap_setCell_same u q 3 _ _ _ h.x,h.pw,h.hq⟩
theorem YI.set4 (h:YI w0 w p s en i n z q op a b m v4 v5 v6 u) (y:Value):YI w0 w p s en i n z q op a b m y v5 v6 (u.setCell ⟨q,4,none⟩ y) :=
 ⟨h.ds.set h.ne.1 h.ne.2 _ _,but_set h.but h.hq _ _,heap_setCell_same u q 4 _ _ _ h.x,h.pw,h.hq⟩
theorem YI.set5 (h:YI w0 w p s en i n z q op a b m v4 v5 v6 u) (y:Value):YI w0 w p s en i n z q op a b m v4 y v6 (u.setCell ⟨q,5,none⟩ y) :=
 ⟨h.ds.set h.ne.1 h.ne.2 _ _,but_set h.but h.hq _ _,heap_setCell_same u q 5 _ _ _ h.x,h.pw,h.hq⟩
theorem YI.set6 (h:YI w0 w p s en i n z q op a b m v4 v5 v6 u) (y:Value):YI w0 w p s en i n z q op a b m v4 v5 y (u.setCell ⟨q,6,none⟩ y) :=
 ⟨h.ds.set h.ne.1 h.ne.2 _ _,but_set h.but h.hq _ _,heap_setCell_same u q 6 _ _ _ h.x,h.pw,h.hq⟩
end
def IsX (u w:World) (d:Nat) (op a b m:Int) (v4 v5 v6:Value) (x:Ins (IL d)):Prop :=
 x.op=op/\x.a=a/\x.b=b/\x.n=m/\IntsS u (Since w.heap.size u none) v4 x.labels/\AtS u (Since w.heap.size u none) d v5 x.body/\AtS u (Since w.heap.size u none) d v6 x.els
def OSays (w0 w:World) (p:Nat) (s:ByteArray) (en q d:Nat) (op:Int) (X:R2 (Ins (IL d))) (e:Ending) (u:World):Prop :=
 e=.returned (.tuple #[])/\∃(a b m:Int) (o4:Option Addr) (n4 k4:Nat) (o5:Option Addr) (n5 k5:Nat) (o6:Option Addr) (n6 k6:Nat) (i n:Nat) (z:Int),
  YI w0 w p s en i n z q op a b m (.slice o4 n4 k4) (.slice o5 n5 k5) (.slice o6 n6 k6) u/\Fits X (IsX u w d op a b m (.slice o4 n4 k4) (.slice o5 n5 k5) (.slice o6 n6 k6)) i n z
theorem stk0 {α:Type} (x:R2 α):stk 0 x=x:=by unfold stk;rw [if_pos rfl]
theorem stkE {α:Type} {z:Int} (h:z≠0) (x:R2 α):stk z x=.error z:=by unfold stk;rw [if_neg h]
theorem Fits.bd {α β:Type} {X:R α} {f:α->Nat->R β} {P:β->Prop} {y:α} {n i1 n1 i2 n2:Nat} {z1 z2:Int} (h1:Fits (stk 0 (lift X n)) (fun a=>a=y) i1 n1 z1) (h2:Fits (stk z1 (lift (f y i1) n1)) P i2 n2 z2):Fits (lift (bd X f) n) P i2 n2 z2:=by
 rw [stk0] at h1
 cases X with
 | error e =>
  obtain ⟨rfl,h⟩:=h1
  rw [stkE h] at h2
  exact h2
 | ok x =>
  obtain ⟨a,j⟩:=x
  obtain ⟨rfl,rfl,rfl,rfl⟩:=h1
  rw [stk0] at h2
  exact h2
theorem Fits.bdz {α β:Type} {z:Int} {X:R α} {f:α->Nat->R β} {P:β->Prop} {y:α} {n i1 n1 i2 n2:Nat} {z1 z2:Int} (h1:Fits (stk z (lift X n)) (fun a=>a=y) i1 n1 z1) (h2:Fits (stk z1 (lift (f y i1) n1)) P i2 n2 z2):Fits (stk z (lift (Dec.bd X f) n)) P i2 n2 z2:=by
 by_cases hz:z=0
 ·subst hz;rw [stk0];exact Fits.bd h1 h2
 ·rw [stkE hz] at h1 ⊢
  obtain ⟨rfl,h⟩:=h1
  rw [stkE h] at h2
  exact h2
theorem Fits.fin {α:Type} {P:α->Prop} {x:α} {z:Int} {i n:Nat} (h:z=0->P x):Fits (stk z (lift (.ok (x,i)) n)) P i n z:=by
 by_cases hz:z=0
 ·subst hz;rw [stk0];exact ⟨h rfl,rfl,rfl,rfl⟩
 ·rw [stkE hz];exact ⟨rfl,hz⟩
theorem Fits.t {X:R2 Unit} {i n:Nat} {z:Int} (h:Fits X (fun _=>True) i n z):Fits X (fun a=>a=()) i n z:=by
 cases X with
 | error e=>exact h
 | ok v=>exact ⟨rfl,h.2⟩
theorem ints_lo {u:World} {B B2:Nat} {v:Value} {l:List Int} (hB:B<=B2) (h:IntsS u (Since B2 u none) v l):IntsS u (Since B u none) v l:=h.keep (fun k hk=>⟨⟨Nat.le_trans hB hk.1,hk.2.1,hk.2.2⟩,rfl⟩)
theorem at_lo {u:World} {B B2 d:Nat} {v:Value} {l:IL d} (hB:B<=B2) (h:AtS u (Since B2 u none) d v l):AtS u (Since B u none) d v l:=AtS.keep (fun k hk=>⟨⟨Nat.le_trans hB hk.1,hk.2.1,hk.2.2⟩,rfl⟩) d _ _ h
theorem Fits.zero {α:Type} {X:R2 α} {P:α->Prop} {i n:Nat} {z1 z2:Int} (h:Fits (stk z1 X) P i n z2) (h2:z2=0):z1=0:=by
 by_cases hz:z1=0
 ·exact hz
 ·rw [stkE hz] at h;obtain ⟨rfl,_⟩:=h;exact h2
end Dec
end Go.Proofs.YthfapccopngfhaaDoor

