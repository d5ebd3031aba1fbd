/- Texts that the claim needs. -/
import Derived.Test.YtegboefdolfdgaaGreatDoorQDM9
import Derived.Test.YtegboefdolfdgaaGreatDoorQDM11
import Derived.Test.YtegboefdolfdgaaGreatDoorQDM0
import Derived.Lib.ValidU
import Derived.Ground.NamesProg
import Derived.WalkMore
import Derived.Shelf.Lay
import Derived.Shelf.Unicode.ValidAny
import Derived.Test.YtegboefdolfdgaaGreatDoorQDM6
import Derived.Shelf.LaysM
import Derived.Shelf.Strconv.Clone
import Derived.Deep.Cut
import Derived.Laws.BitsAllLaws
import Derived.Lib.ValidLaws
namespace Go.Proofs.YtegboefdolfdgaaGreatDoor
open Go.RowKit aA ai
set_option linter.unusedVariables false
namespace ai
def Fits {α:Type} (X:R2 α) (P:α->Prop) (i n:Nat) (z:Int):Prop :=
 match X with
 | .ok (a,j,m)=>P a/\j=i/\m=n/\z=0
 | .error e=>e=z/\z≠0
def uw (w0:World) (p:Nat) (s:ByteArray) (en:Nat) (w:World) (X:R2 Int) (e:Ending) (w':World):Prop :=
 ∃(y:Int) (i n:Nat) (z:Int),e=.returned (.int .i64 y)/\DS w0 p s en i n z w'/\But p w w'/\Fits X (fun a=>a=y) i n z
section
variable {w0 w w':World} {p:Nat} {s:ByteArray} {en:Nat} {e:Ending}
theorem DR.int {X:R2 Int} (h:DR w0 p s en fS i0 w X e w'):uw w0 p s en w X e w':=by
 cases X with
 | error y=>obtain ⟨a,v,i2,n2,rfl,⟨t,rfl⟩,d,f⟩:=h;exact ⟨t,i2,n2,y,rfl,d,f,rfl,a⟩
 | ok x =>
  obtain ⟨x,j,m⟩:=x;obtain ⟨v,rfl,hv,d,f⟩:=h;have hv:v=.int .i64 x:=hv;subst hv;exact ⟨x,j,m,0,rfl,d,f,rfl,rfl,rfl,rfl⟩
theorem DR.AJ {X:R2 Int} (h:DR w0 p s en fS z0 w X e w'):uw w0 p s en w X e w':=by
 apply DR.int;cases X with
 | error y=>obtain ⟨a,v,i2,n2,rfl,hv,d,f⟩:=h;exact ⟨a,v,i2,n2,rfl,⟨0,hv⟩,d,f⟩
 | ok x=>exact h
theorem DR.unit {X:R2 Unit} (h:DR w0 p s en xu u0 w X e w'):e=.returned (.tuple #[])/\∃(i n:Nat) (z:Int),DS w0 p s en i n z w'/\But p w w'/\Fits X (fun a=>a=()) i n z:=by
 cases X with
 | error y=>obtain ⟨a,v,i2,n2,rfl,hv,d,f⟩:=h;have hv:v=.tuple #[]:=hv;subst hv;exact ⟨rfl,i2,n2,y,d,f,rfl,a⟩
 | ok x =>
  obtain ⟨x,j,m⟩:=x;obtain ⟨v,rfl,hv,d,f⟩:=h;have hv:v=.tuple #[]:=hv;subst hv;exact ⟨rfl,j,m,0,d,f,rfl,rfl,rfl,rfl⟩
theorem DR.list {B:Nat} {X:R2 (List Int)} (h:DR w0 p s en (jN B) s0 w X e w'):∃(l:List Int) (o:Option Addr) (k c:Nat) (i n:Nat) (z:Int),e=.returned (.slice o k c)/\DS w0 p s en i n z w'/\But p w w'/\Fits X (fun a=>a=l) i n z/\(z=0->jN B l (.slice o k c) w'):=by
 cases X with
 | error y=>obtain ⟨a,v,i2,n2,rfl,⟨o,k,c,rfl⟩,d,f⟩:=h;exact ⟨[],o,k,c,i2,n2,y,rfl,d,f,⟨rfl,a⟩,fun h=>absurd h a⟩
 | ok x =>
  obtain ⟨x,j,m⟩:=x;obtain ⟨v,rfl,hv,d,f⟩:=h;have hv2:=hv;unfold jN aH at hv2;obtain ⟨o,c,rfl⟩:=Row.len hv2;exact ⟨x,o,_,c,j,m,0,rfl,d,f,⟨rfl,rfl,rfl,rfl⟩,fun _=>hv⟩
end
end ai
section
variable (w0:World) (p:Nat) (s:ByteArray) (en i n:Nat) (z:Int) (w:World) (h:DS w0 p s en i n z w)
include h
theorem kg:Calls Tryz.prog 29 #[.pointer (some ⟨p,0,none⟩)] w (uw w0 p s en w (aG z (lift (ru s en i) n))):=(yU w0 p s en i n z w h).mono fun _ _ h=>DR.AJ h
theorem nX (b:Int) (hb:b=0\/b=11\/b=96\/b=112):Calls Tryz.prog 14 #[.pointer (some ⟨p,0,none⟩),.int .i64 b] w fun e w'=>e=.returned (.tuple #[])/\∃(i' n':Nat) (z':Int),DS w0 p s en i' n' z' w'/\But p w w'/\Fits (aG z (lift (must s en b i) n)) (fun a=>a=()) i' n' z':=(Li w0 p s en i n z w h b hb).mono fun _ _ h=>DR.unit h
theorem Fc:Calls Tryz.prog 94 #[.pointer (some ⟨p,0,none⟩)] w (uw w0 p s en w (aG z (lift (jh s en i) n))):=(Lj w0 p s en i n z w h).mono fun _ _ h=>DR.int h
end
namespace ai
section
variable {w0 w u:World} {p:Nat} {s:ByteArray} {en i n q:Nat} {z op a b m:Int} {v4 v5 v6:Value}
theorem DS.set (h:DS w0 p s en i n z u) (hq:p≠q) (hb:w0.heap.size<=q) (j:Nat) (v:Value):DS w0 p s en i n z (u.setCell ⟨q,j,none⟩ v) :=
 ⟨h.below.setCell hb v,h.base,by rw [Below.heap_setCell _ _ _ _ hq];exact h.blk,h.le,h.len,h.big⟩
structure YI (w0 w:World) (p:Nat) (s:ByteArray) (en i n:Nat) (z:Int) (q:Nat) (op a b m:Int) (v4 v5 v6:Value) (u:World):Prop where
 ds:DS w0 p s en i n z u
 but:But p w u
 x:cF u q op a b m v4 v5 v6
 pw:p<w.heap.size
 hq:w.heap.size<=q
theorem YI.call {i2 n2:Nat} {z2:Int} {u2:World} (h:YI w0 w p s en i n z q op a b m v4 v5 v6 u) (h1:DS w0 p s en i2 n2 z2 u2) (h2:But p u u2):YI w0 w p s en i2 n2 z2 q op a b m v4 v5 v6 u2 :=
 ⟨h1,h.but.trans h2,h.x.keep (h2.block _ h.x.lt (fun e=>by injection e with e;have:=h.pw;have:=h.hq;omega)),h.pw,h.hq⟩
theorem YI.ne (h:YI w0 w p s en i n z q op a b m v4 v5 v6 u):p≠q/\w0.heap.size<=q:=⟨by have:=h.pw;have:=h.hq;omega,by have:=h.pw;have:=h.hq;have:=h.ds.base;omega⟩
theorem YI.set1 (h:YI w0 w p s en i n z q op a b m v4 v5 v6 u) (y:Int):YI w0 w p s en i n z q op y b m v4 v5 v6 (u.setCell ⟨q,1,none⟩ (.int .i64 y)) :=
 ⟨h.ds.set h.ne.1 h.ne.2 _ _,fe h.but h.hq _ _,heap_setCell_same u q 1 _ _ _ h.x,h.pw,h.hq⟩
theorem YI.set2 (h:YI w0 w p s en i n z q op a b m v4 v5 v6 u) (y:Int):YI w0 w p s en i n z q op a y m v4 v5 v6 (u.setCell ⟨q,2,none⟩ (.int .i64 y)) :=
 ⟨h.ds.set h.ne.1 h.ne.2 _ _,fe h.but h.hq _ _,heap_setCell_same u q 2 _ _ _ h.x,h.pw,h.hq⟩
theorem YI.AK (h:YI w0 w p s en i n z q op a b m v4 v5 v6 u) (y:Int):YI w0 w p s en i n z q op a b y v4 v5 v6 (u.setCell ⟨q,3,none⟩ (.int .i64 y)) :=
 ⟨h.ds.set h.ne.1 h.ne.2 _ _,fe h.but h.hq _ _,heap_setCell_same u q 3 _ _ _ h.x,h.pw,h.hq⟩
theorem YI.xw (h:YI w0 w p s en i n z q op a b m v4 v5 v6 u) (y:Value):YI w0 w p s en i n z q op a b m y v5 v6 (u.setCell ⟨q,4,none⟩ y) :=
 ⟨h.ds.set h.ne.1 h.ne.2 _ _,fe h.but h.hq _ _,heap_setCell_same u q 4 _ _ _ h.x,h.pw,h.hq⟩
theorem YI.pW (h:YI w0 w p s en i n z q op a b m v4 v5 v6 u) (y:Value):YI w0 w p s en i n z q op a b m v4 y v6 (u.setCell ⟨q,5,none⟩ y) :=
 ⟨h.ds.set h.ne.1 h.ne.2 _ _,fe h.but h.hq _ _,heap_setCell_same u q 5 _ _ _ h.x,h.pw,h.hq⟩
theorem YI.xx (h:YI w0 w p s en i n z q op a b m v4 v5 v6 u) (y:Value):YI w0 w p s en i n z q op a b m v4 v5 y (u.setCell ⟨q,6,none⟩ y) :=
 ⟨h.ds.set h.ne.1 h.ne.2 _ _,fe h.but h.hq _ _,heap_setCell_same u q 6 _ _ _ h.x,h.pw,h.hq⟩
end
def lH (u w:World) (d:Nat) (op a b m:Int) (v4 v5 v6:Value) (x:Ins (IL d)):Prop :=
 x.op=op/\x.a=a/\x.b=b/\x.n=m/\aH u (Since w.heap.size u none) v4 x.labels/\ah u (Since w.heap.size u none) d v5 x.body/\ah u (Since w.heap.size u none) d v6 x.els
def lI (w0 w:World) (p:Nat) (s:ByteArray) (en q d:Nat) (op:Int) (X:R2 (Ins (IL d))) (e:Ending) (u:World):Prop :=
 e=.returned (.tuple #[])/\∃(a b m:Int) (o4:Option Addr) (n4 k4:Nat) (o5:Option Addr) (n5 k5:Nat) (o6:Option Addr) (n6 k6:Nat) (i n:Nat) (z:Int),
  YI w0 w p s en i n z q op a b m (.slice o4 n4 k4) (.slice o5 n5 k5) (.slice o6 n6 k6) u/\Fits X (lH u w d op a b m (.slice o4 n4 k4) (.slice o5 n5 k5) (.slice o6 n6 k6)) i n z
theorem bJ {α:Type} (x:R2 α):aG 0 x=x:=by unfold aG;rw [if_pos rfl]
theorem gH {α:Type} {z:Int} (h:z≠0) (x:R2 α):aG z x=.error z:=by unfold aG;rw [if_neg h]
theorem Fits.bd {α β:Type} {X:R α} {f:α->Nat->R β} {P:β->Prop} {y:α} {n i1 n1 i2 n2:Nat} {z1 z2:Int} (h1:Fits (aG 0 (lift X n)) (fun a=>a=y) i1 n1 z1) (h2:Fits (aG z1 (lift (f y i1) n1)) P i2 n2 z2):Fits (lift (bd X f) n) P i2 n2 z2:=by
 rw [bJ] at h1;cases X with
 | error e =>
  obtain ⟨rfl,h⟩:=h1;rw [gH h] at h2;exact h2
 | ok x =>
  obtain ⟨a,j⟩:=x;obtain ⟨rfl,rfl,rfl,rfl⟩:=h1;rw [bJ] at h2;exact h2
theorem Fits.cQ {α β:Type} {z:Int} {X:R α} {f:α->Nat->R β} {P:β->Prop} {y:α} {n i1 n1 i2 n2:Nat} {z1 z2:Int} (h1:Fits (aG z (lift X n)) (fun a=>a=y) i1 n1 z1) (h2:Fits (aG z1 (lift (f y i1) n1)) P i2 n2 z2):Fits (aG z (lift (ai.bd X f) n)) P i2 n2 z2:=by
 by_cases hz:z=0
 ·subst hz;rw [bJ];exact Fits.bd h1 h2
 ·rw [gH hz] at h1 ⊢;obtain ⟨rfl,h⟩:=h1;rw [gH h] at h2;exact h2
theorem Fits.fin {α:Type} {P:α->Prop} {x:α} {z:Int} {i n:Nat} (h:z=0->P x):Fits (aG z (lift (.ok (x,i)) n)) P i n z:=by
 by_cases hz:z=0
 ·subst hz;rw [bJ];exact ⟨h rfl,rfl,rfl,rfl⟩
 ·rw [gH hz];exact ⟨rfl,hz⟩
theorem Fits.t {X:R2 Unit} {i n:Nat} {z:Int} (h:Fits X (fun _=>True) i n z):Fits X (fun a=>a=()) i n z:=by
 cases X with
 | error e=>exact h
 | ok v=>exact ⟨rfl,h.2⟩
theorem Ll {u:World} {B B2:Nat} {v:Value} {l:List Int} (hB:B<=B2) (h:aH u (Since B2 u none) v l):aH u (Since B u none) v l:=h.keep (fun k hk=>⟨⟨Nat.le_trans hB hk.1,hk.2.1,hk.2.2⟩,rfl⟩)
theorem AL {u:World} {B B2 d:Nat} {v:Value} {l:IL d} (hB:B<=B2) (h:ah u (Since B2 u none) d v l):ah u (Since B u none) d v l:=ah.keep (fun k hk=>⟨⟨Nat.le_trans hB hk.1,hk.2.1,hk.2.2⟩,rfl⟩) d _ _ h
theorem Fits.zero {α:Type} {X:R2 α} {P:α->Prop} {i n:Nat} {z1 z2:Int} (h:Fits (aG z1 X) P i n z2) (h2:z2=0):z1=0:=by
 by_cases hz:z1=0
 ·exact hz
 ·rw [gH hz] at h;obtain ⟨rfl,_⟩:=h;exact h2
end ai
end Go.Proofs.YtegboefdolfdgaaGreatDoor
namespace Go.Proofs
open Go.RowKit Go.Shelf Go.Lib
shelf_lay Lays.n196 Nm 196 at Tryz as Tryz.laysValid
namespace YtegboefdolfdgaaGreatDoor
open Go.RowKit aA
namespace aA
def nm (s:ByteArray):Bool:=decide ((s.size:Int)<=64) && Lib.validD s.data.toList
end aA
def iW (w:World):Prop:=Lib.Utf8Tabs (Tryz.laysValid_ren.g 3) (Tryz.laysValid_ren.g 4) w
end YtegboefdolfdgaaGreatDoor
shelf_lay LaysM.n316 Nm 316 at Tryz as Tryz.TJ
namespace YtegboefdolfdgaaGreatDoor
open Go.RowKit aA ai
set_option linter.unusedVariables false
namespace ai
def lU (s:ByteArray) (en i:Nat):R ByteArray:=bd (ru s en i) fun n j=>if n<=(en:Int)-j then .ok (s.extract j (j+n.toNat),j+n.toNat) else .error 50
def G5 (a:ByteArray) (v:Value) (_:World):Prop:=v=.string a
def tG (p i en n:Nat):Nat->Value
 | 0=>.int .i64 n
 | 1=>.pointer (some ⟨p,0,none⟩)
 | 2=>.pointer (some ⟨p,0,none⟩)
 | 3=>.pointer (some ⟨p,2,none⟩)
 | 4=>.int .i64 en
 | 5=>.pointer (some ⟨p,0,none⟩)
 | 6=>.pointer (some ⟨p,0,none⟩)
 | 7=>.pointer (some ⟨p,1,none⟩)
 | 8=>.int .i64 i
 | 9=>.int .i64 ((en:Int)-i)
 | _=>.bool false
end ai
theorem TK (t:ByteArray) (w:World) (ht:t.size<=262144):Calls Tryz.prog 99 #[.string t] w fun e w'=>e=.returned (.string t)/\Below w.heap.size w w':=Any.stringslite_Clone Tryz.TJ t w (by omega)
theorem TL (t:ByteArray) (w:World) (ht:t.size<=262144):Calls Tryz.prog 86 #[.string t] w fun e w'=>e=.returned (.string t)/\Below w.heap.size w w':=by
 have HC:=aa (TK t w ht);go_enter Tryz.func86,Tryz.ntmps86;go_wp2_with fail;refine HC.out.mono ?_;rintro e u ⟨rfl,hb⟩;go_wp2;go_ret;exact ⟨rfl,hb⟩
set_option maxRecDepth 100000 in
set_option maxHeartbeats 4000000 in
theorem Dv (w0:World) (p:Nat) (s:ByteArray) (c:Nat->Value) (en k i n:Nat) (w:World) (h:RS w0 p s c en k i n w) :
  Calls Tryz.prog 68 #[.pointer (some ⟨p,0,none⟩)] w (bw w0 p s c en k n G5 w (lU s en i)):=by
 have HC:=aa (gh w0 p s c en k i n w h);have hlen:=h.len;have hbig:=h.big;clear h;unfold lU;cases hx:ru s en i with
 | error z =>
  rw [hx] at HC;rw [bg];clear hx;go_enter Tryz.func68,Tryz.ntmps68;go_wp2_with fail;refine HC.out.mono ?_;rintro e w1 ⟨rfl,hb⟩;exact ⟨rfl,rfl,hb⟩
 | ok v =>
  obtain ⟨x,j⟩:=v;have iH:=iP hlen hx;rw [hx] at HC;rw [aM];clear hx;obtain ⟨m,rfl⟩:∃m:Nat,x=(m:Int):=⟨x.toNat,by omega⟩;rw [show ((m:Int).toNat)=m by omega];by_cases hm:(m:Int)<=(en:Int)-j
  ·rw [if_pos hm];have q1:decide ((m:Int)<=(en:Int)-(j:Int))=true:=decide_eq_true hm;have a1:((j:Int)+(m:Int)).toNat=j+m:=by omega
   have hT:(s.extract j (j+m)).size<=262144:=by rw [ByteArray.size_extract];omega
   have HT:=fun u=>aa (TL (s.extract j (j+m)) u hT);have b1:j+m<=s.size:=by omega
   have b2:j+m<=en:=by omega
   have hjn:((j:Int)).toNat=j:=by omega
   clear iH hT hm;go_enter Tryz.func68,Tryz.ntmps68;go_wp2_with fail;refine HC.out.mono ?_;rintro e w1 ⟨⟨v,rfl,hv⟩,h1,h2⟩;have hv:v=.int .i64 m:=hv;subst hv;have H1:=aa h1;have H2:=aa h2;have c0:=h1.cell 0 _ rfl;have c1:=h1.cell 1 _ rfl;have c2:=h1.cell 2 _ rfl;have f1:=h1.ag 1;clear h1 h2 HC;go_wp2_with fail;go_quiet (first|(go_at_call 11;exact Calls.quiet_of_same (bH _ _)))
   obtain ⟨t1,ht1⟩:∃t1,t1=(w1.drewN nq).setCell ⟨p,1,none⟩ (.int .i64 ((j:Int)+m)):=⟨_,rfl⟩;have HR:Hid (RS w0 p s c en k (j+m) n t1):=aa (by rw [ht1];have:=(H1.out.on (bN w1 nq)).at_ (j:=j+m) b2;rw [show ((j+m:Nat):Int)=(j:Int)+m by omega] at this;exact this);have HB:Hid (But p w t1):=aa (by rw [ht1];exact (H2.out.trans (But.of p (bN w1 nq))).trans (But.set p 1 _ _));have HE:=aa ht1;clear ht1;go_upto_region 5 with fail;rw [<- HE.out];clear HE c0 c1 c2 f1 H1 H2;have c0:=HR.out.cell 0 _ rfl;have c1:=HR.out.cell 1 _ rfl;rw [show ((j+m:Nat):Int)=(j:Int)+m by omega] at c1;go_region_with (first|(go_at_call 86;refine (HT _).out.mono ?_;rintro e u ⟨rfl,hb⟩))
   all_goals (
    have HF:=aa (⟨(HR.out.on (gV t1)).on hb,(HB.out.trans (But.of p (gV t1))).trans (But.of p hb)⟩:_/\_);clear hb HT;go_wp2;go_ret;exact ⟨⟨_,rfl,rfl⟩,HF.out.1,HF.out.2⟩)
  ·rw [if_neg hm];have q1:decide ((m:Int)<=(en:Int)-(j:Int))=false:=decide_eq_false hm;clear iH hm;go_enter Tryz.func68,Tryz.ntmps68;go_wp2_with fail;refine HC.out.mono ?_;rintro e w1 ⟨⟨v,rfl,hv⟩,h1,h2⟩;have hv:v=.int .i64 m:=hv;subst hv;have H1:=aa h1;have c1:=h1.cell 1 _ rfl;have c2:=h1.cell 2 _ rfl;have hle:=h1.le;clear h1 h2 HC;go_wp2_with fail;refine af.yF 11 (fun i=>7+i) (fun q v _=>v=tG p j en m q) (by kernel_rfl) (by kernel_rfl) (fun i j h1 h2 h=>by have h':7+i=7+j:=h;omega) (af.tP (size:=42) (by kernel_rfl)) (fun i v w w' _ h _=>h) ?hstep ?fu
   case hstep =>
    intro q o a u hq ho hF hB hd;have f0:a.tmps[0]?.getD undef=.pointer (some ⟨p,0,none⟩):=af.av (hF.eval 0 (fun i hi=>by show 7+i≠0;omega));have f3:a.tmps[3]?.getD undef=.int .i64 m:=af.av (hF.eval 3 (fun i hi=>by show 7+i≠3;omega));have d1:=aF hB c1;have d2:=aF hB c2;have hcase:q=0\/q=1\/q=2\/q=3\/q=4\/q=5\/q=6\/q=7\/q=8\/q=9\/q=10:=by omega
    clear hq c1 c2;rcases hcase with rfl|rfl|rfl|rfl|rfl|rfl|rfl|rfl|rfl|rfl|rfl
    all_goals (simp only [List.getElem?_toArray,List.getElem?_cons_succ,List.getElem?_cons_zero,Option.some.injEq] at ho;subst ho;refine af.aR fun K hK=>?_)
    ·go_simp;exact hK _ _ ⟨_,rfl,Below.refl _ _,rfl⟩
    ·go_simp;exact hK _ _ ⟨_,rfl,Below.refl _ _,rfl⟩
    ·have q:a.tmps[8]?.getD undef=.pointer (some ⟨p,0,none⟩):=af.av (hd 1 (by decide));go_simp;exact hK _ _ ⟨_,rfl,Below.refl _ _,rfl⟩
    ·have q:a.tmps[9]?.getD undef=.pointer (some ⟨p,0,none⟩):=af.av (hd 2 (by decide));go_simp;exact hK _ _ ⟨_,rfl,Below.refl _ _,rfl⟩
    ·have q:a.tmps[10]?.getD undef=.pointer (some ⟨p,2,none⟩):=af.av (hd 3 (by decide));go_simp;exact hK _ _ ⟨_,rfl,Below.refl _ _,rfl⟩
    ·go_simp;exact hK _ _ ⟨_,rfl,Below.refl _ _,rfl⟩
    ·have q:a.tmps[12]?.getD undef=.pointer (some ⟨p,0,none⟩):=af.av (hd 5 (by decide));go_simp;exact hK _ _ ⟨_,rfl,Below.refl _ _,rfl⟩
    ·have q:a.tmps[13]?.getD undef=.pointer (some ⟨p,0,none⟩):=af.av (hd 6 (by decide));go_simp;exact hK _ _ ⟨_,rfl,Below.refl _ _,rfl⟩
    ·have q:a.tmps[14]?.getD undef=.pointer (some ⟨p,1,none⟩):=af.av (hd 7 (by decide));go_simp;exact hK _ _ ⟨_,rfl,Below.refl _ _,rfl⟩
    ·have q:a.tmps[11]?.getD undef=.int .i64 en:=af.av (hd 4 (by decide));have q2:a.tmps[15]?.getD undef=.int .i64 j:=af.av (hd 8 (by decide));have q3:IntKind.i64.wrap ((en:Int)-(j:Int))=(en:Int)-j:=by first|omega|(rw [IntKind.wrap_i64];first|omega|(unfold wrap64;omega))
     have q4:wrap64 ((en:Int)-(j:Int))=(en:Int)-j:=by first|omega|(unfold wrap64;omega)
     go_simp;exact hK _ _ ⟨_,rfl,Below.refl _ _,by first|rfl|(rw [q3];rfl)|(rw [q4];rfl)⟩
    ·have q:a.tmps[7]?.getD undef=.int .i64 m:=af.av (hd 0 (by decide));have q2:a.tmps[16]?.getD undef=.int .i64 ((en:Int)-j):=af.av (hd 9 (by decide));go_simp;exact hK _ _ ⟨_,rfl,Below.refl _ _,rfl⟩
   case fu =>
    intro a u hF hB hG;have q:a.tmps[17]?.getD undef=.bool false:=af.av (hG 10 (by decide));simp only [List.drop_succ_cons,List.drop_zero];refine wpList_plain rfl fun K hK=>?_;go_simp;refine (eZ _ _).mono ?_;rintro e u2 ⟨rfl,rfl⟩;exact ⟨hF.defers,rfl,H1.out.below.trans (hB.mono H1.out.below.size)⟩
end YtegboefdolfdgaaGreatDoor
namespace YtegboefdolfdgaaGreatDoor
open Go.RowKit aA
set_option maxHeartbeats 1000000 in
set_option maxRecDepth 1000000 in
theorem Pq (s:ByteArray) (w:World) (hs:s.size<=9223372036854775807) (hT:iW w) :
  Calls Tryz.prog 88 #[.string s] w fun e w'=>e=.returned (.bool (nm s))/\Below w.heap.size w w':=by
 have cV:Calls Tryz.prog 67 #[.string s] w _:=Any.utf8_ValidString Tryz.laysValid s w (by omega) hT;unfold nm;generalize Lib.validD s.data.toList=V at cV ⊢;have CV:=aj cV;clear cV;by_cases h0:s.size<=64
 ·have h0z:decide ((s.size:Int)<=64)=true:=by simp;omega
  rw [h0z,Bool.true_and];go_enter Tryz.func88,Tryz.ntmps88;go_wp2_with fail;refine CV.out.mono ?_;rintro e w' ⟨rfl,hb⟩;go_wp2;go_ret;exact ⟨rfl,hb⟩
 ·have h0z:decide ((s.size:Int)<=64)=false:=by simp;omega
  rw [h0z,Bool.false_and];clear CV;go_enter Tryz.func88,Tryz.ntmps88;go_wp2;go_ret;exact ⟨rfl,Below.refl _ _⟩
end YtegboefdolfdgaaGreatDoor
end Go.Proofs
namespace Go.Proofs.YtegboefdolfdgaaGreatDoor
open Go.RowKit aA ai
set_option linter.unusedVariables false
set_option maxRecDepth 100000
set_option maxHeartbeats 2000000
namespace ai
def oh (s:ByteArray) (en i:Nat):R Bool:=bd (nx s en i) fun b j=>if b<=1 then .ok (b == 1,j) else .error 50
def pK (s:ByteArray) (en i:Nat):R ByteArray:=bd (lU s en i) fun t j=>if nm t then .ok (t,j) else .error 50
def nu (s:ByteArray) (en i:Nat):R Unit:=bd (lU s en i) fun t j=>if Lib.validD t.data.toList then .ok ((),en) else .error 50
def Qe (a:Bool) (v:Value) (_:World):Prop:=v=.bool a
theorem GY {s:ByteArray} {en i:Nat} {x:ByteArray} {j:Nat} (he:en<=s.size) (h:lU s en i=.ok (x,j)):i<j/\j<=en/\x.size<=s.size:=by
 obtain ⟨b,m,h1,h2⟩:=fJ h;have h3:=iP he h1;split at h2
 ·injection h2 with h2;injection h2 with h2 h4;subst h2;rw [ByteArray.size_extract];omega
 ·cases h2
end ai
section
variable (w0:World) (p:Nat) (s:ByteArray) (c:Nat->Value) (en k i n:Nat) (w:World) (h:RS w0 p s c en k i n w)
include h
theorem Dt:Calls Tryz.prog 72 #[.pointer (some ⟨p,0,none⟩)] w (bw w0 p s c en k n fS w (rt s en i)):=by
 have HC:=aa (rf w0 p s c en k i n w h);have hlen:=h.len;have hbig:=h.big;clear h;unfold rt;cases hx:nx s en i with
 | error z =>
  rw [hx] at HC;rw [bg];clear hx;go_enter Tryz.func72,Tryz.ntmps72;go_wp2_with fail;refine HC.out.mono ?_;rintro e w1 ⟨rfl,hb⟩;exact ⟨rfl,rfl,hb⟩
 | ok v =>
  obtain ⟨x,j⟩:=v;rw [hx] at HC;rw [aM,GZ];clear hx;have HV:=fun u=>aa (G0 w0 x u);unfold Bz at HV;cases hv0:kz x 0 with
  | error z =>
   rw [bg];rw [hv0] at HV;clear hv0;go_enter Tryz.func72,Tryz.ntmps72;go_wp2_with fail;refine HC.out.mono ?_;rintro e w1 ⟨⟨v,rfl,hv⟩,h1,h2⟩;have hv:v=.int .i64 x:=hv;subst hv;have HF:=aa h1.below;clear h1 h2 HC;go_wp2_with fail;refine (HV _).out.mono ?_;rintro e w2 ⟨rfl,rfl⟩;exact ⟨rfl,rfl,HF.out⟩
  | ok v =>
   obtain ⟨a,i0⟩:=v;rw [aM];rw [hv0] at HV;clear hv0;go_enter Tryz.func72,Tryz.ntmps72;go_wp2_with fail;refine HC.out.mono ?_;rintro e w1 ⟨⟨v,rfl,hv⟩,h1,h2⟩;have hv:v=.int .i64 x:=hv;subst hv;have HF:=aa (⟨h1,h2⟩:_/\_);clear h1 h2 HC;go_wp2_with fail;refine (HV _).out.mono ?_;rintro e w2 ⟨rfl,rfl⟩;go_wp2;go_ret;exact ⟨⟨_,rfl,rfl⟩,HF.out.1,HF.out.2⟩
theorem G3:Calls Tryz.prog 74 #[.pointer (some ⟨p,0,none⟩)] w (bw w0 p s c en k n Qe w (oh s en i)):=by
 have HC:=aa (rf w0 p s c en k i n w h);have hlen:=h.len;have hbig:=h.big;clear h;unfold oh;cases hx:nx s en i with
 | error z =>
  rw [hx] at HC;rw [bg];clear hx;go_enter Tryz.func74,Tryz.ntmps74;go_wp2_with fail;refine HC.out.mono ?_;rintro e w1 ⟨rfl,hb⟩;exact ⟨rfl,rfl,hb⟩
 | ok v =>
  obtain ⟨x,j⟩:=v;rw [hx] at HC;rw [aM];clear hx;by_cases gT:x<=1
  ·rw [if_pos gT];have hd:decide (x<=(1:Int))=true:=decide_eq_true gT;go_enter Tryz.func74,Tryz.ntmps74;go_wp2_with fail;refine HC.out.mono ?_;rintro e w1 ⟨⟨v,rfl,hv⟩,h1,h2⟩;have hv:v=.int .i64 x:=hv;subst hv;have HF:=aa (⟨h1,h2⟩:_/\_);clear h1 h2 HC;go_wp2_with fail;refine (bH _ _).mono ?_;rintro e w2 ⟨rfl,rfl⟩;go_wp2;go_ret;exact ⟨⟨_,rfl,rfl⟩,HF.out.1,HF.out.2⟩
  ·rw [if_neg gT];have hd:decide (x<=(1:Int))=false:=decide_eq_false gT;go_enter Tryz.func74,Tryz.ntmps74;go_wp2_with fail;refine HC.out.mono ?_;rintro e w1 ⟨⟨v,rfl,hv⟩,h1,h2⟩;have hv:v=.int .i64 x:=hv;subst hv;have HF:=aa h1.below;clear h1 h2 HC;go_wp2_with fail;refine (eZ _ _).mono ?_;rintro e w2 ⟨rfl,rfl⟩;exact ⟨rfl,rfl,HF.out⟩
theorem Du (hU:∀u,Below w0.heap.size w0 u->iW u):Calls Tryz.prog 73 #[.pointer (some ⟨p,0,none⟩)] w (bw w0 p s c en k n G5 w (pK s en i)):=by
 have HC:=aa (Dv w0 p s c en k i n w h);have hlen:=h.len;have hbig:=h.big;clear h;unfold pK;cases hx:lU s en i with
 | error z =>
  rw [hx] at HC;rw [bg];clear hx;go_enter Tryz.func73,Tryz.ntmps73;go_wp2_with fail;refine HC.out.mono ?_;rintro e w1 ⟨rfl,hb⟩;exact ⟨rfl,rfl,hb⟩
 | ok v =>
  obtain ⟨x,j⟩:=v;have hxs:=GY hlen hx;rw [hx] at HC;rw [aM];clear hx;have HN:∀u,Below w0.heap.size w0 u->Hid (Calls Tryz.prog 88 #[.string x] u fun e w'=>e=.returned (.bool (nm x))/\Below u.heap.size u w'):=fun u hb=>aa (Pq x u (by omega) (hU u hb));generalize nm x=y at HN ⊢;clear hU hxs hlen hbig;cases y with
  | true =>
   rw [if_pos rfl];go_enter Tryz.func73,Tryz.ntmps73;go_wp2_with fail;refine HC.out.mono ?_;rintro e w1 ⟨⟨v,rfl,hv⟩,h1,h2⟩;have hv:v=.string x:=hv;subst hv;have HM:=HN _ h1.below;have HF:=aa (⟨h1,h2⟩:_/\_);clear h1 h2 HC HN;go_wp2_with fail;refine HM.out.mono ?_;rintro e w2 ⟨rfl,hb⟩;have HG:=aa (⟨HF.out.1.on hb,HF.out.2.trans (But.of p hb)⟩:_/\_);clear hb HM HF;go_wp2_with fail;refine (bH _ _).mono ?_;rintro e w3 ⟨rfl,rfl⟩;go_wp2;go_ret;exact ⟨⟨_,rfl,rfl⟩,HG.out.1,HG.out.2⟩
  | false =>
   rw [if_neg (by simp)];go_enter Tryz.func73,Tryz.ntmps73;go_wp2_with fail;refine HC.out.mono ?_;rintro e w1 ⟨⟨v,rfl,hv⟩,h1,h2⟩;have hv:v=.string x:=hv;subst hv;have HM:=HN _ h1.below;have HF:=aa h1.below;clear h2 HC HN;have HS:=aa h1.below.size;clear h1;go_wp2_with fail;refine HM.out.mono ?_;rintro e w2 ⟨rfl,hb⟩;have HG:=aa (HF.out.trans (hb.mono HS.out));clear hb HM HF HS;go_wp2_with fail;refine (eZ _ _).mono ?_;rintro e w3 ⟨rfl,rfl⟩;exact ⟨rfl,rfl,HG.out⟩
theorem Qf (hU:∀u,Below w0.heap.size w0 u->iW u):Calls Tryz.prog 36 #[.pointer (some ⟨p,0,none⟩)] w (bw w0 p s c en k n xu w (nu s en i)):=by
 have HC:=aa (Dv w0 p s c en k i n w h);have hlen:=h.len;have hbig:=h.big;clear h;unfold nu;cases hx:lU s en i with
 | error z =>
  rw [hx] at HC;rw [bg];clear hx;go_enter Tryz.func36,Tryz.ntmps36;go_wp2_with fail;refine HC.out.mono ?_;rintro e w1 ⟨rfl,hb⟩;exact ⟨rfl,rfl,hb⟩
 | ok v =>
  obtain ⟨x,j⟩:=v;have hxs:=GY hlen hx;rw [hx] at HC;rw [aM];clear hx;have HN:∀u,Below w0.heap.size w0 u->Hid (Calls Tryz.prog 67 #[.string x] u fun e w'=>e=.returned (.bool (Lib.validD x.data.toList))/\Below u.heap.size u w'):=fun u hb=>aa (Any.utf8_ValidString Tryz.laysValid x u (by omega) (hU u hb));generalize Lib.validD x.data.toList=y at HN ⊢;clear hU hxs hlen hbig;cases y with
  | true =>
   rw [if_pos rfl];go_enter Tryz.func36,Tryz.ntmps36;go_wp2_with fail;refine HC.out.mono ?_;rintro e w1 ⟨⟨v,rfl,hv⟩,h1,h2⟩;have hv:v=.string x:=hv;subst hv;have HM:=HN _ h1.below;have HF:=aa (⟨h1,h2⟩:_/\_);clear h1 h2 HC HN;go_wp2_with fail;refine HM.out.mono ?_;rintro e w2 ⟨rfl,hb⟩;have HG:=aa (⟨HF.out.1.on hb,HF.out.2.trans (But.of p hb)⟩:_/\_);clear hb HM HF;go_wp2_with fail;refine (bH _ _).mono ?_;rintro e w3 ⟨rfl,rfl⟩;have c2:=HG.out.1.cell 2 _ rfl;have c1:=HG.out.1.cell 1 _ rfl;have f1:=HG.out.1.ag 1;have HE:Hid (∀u,Below w3.heap.size w3 u->RS w0 p s c en k en n (u.setCell ⟨p,1,none⟩ (.int .i64 en))/\But p w (u.setCell ⟨p,1,none⟩ (.int .i64 en))):=aa (fun u hb=>⟨(HG.out.1.on hb).at_ (Nat.le_refl _),(HG.out.2.trans (But.of p hb)).trans (But.set p 1 u _)⟩);clear HG;go_wp2_with fail;go_end0;exact ⟨⟨_,rfl,rfl⟩,(HE.out _ (Below.refl _ _)).1,(HE.out _ (Below.refl _ _)).2⟩
  | false =>
   rw [if_neg (by simp)];go_enter Tryz.func36,Tryz.ntmps36;go_wp2_with fail;refine HC.out.mono ?_;rintro e w1 ⟨⟨v,rfl,hv⟩,h1,h2⟩;have hv:v=.string x:=hv;subst hv;have HM:=HN _ h1.below;have HF:=aa h1.below;clear h2 HC HN;have HS:=aa h1.below.size;clear h1;go_wp2_with fail;refine HM.out.mono ?_;rintro e w2 ⟨rfl,hb⟩;have HG:=aa (HF.out.trans (hb.mono HS.out));clear hb HM HF HS;go_wp2_with fail;refine (eZ _ _).mono ?_;rintro e w3 ⟨rfl,rfl⟩;exact ⟨rfl,rfl,HG.out⟩
end
end Go.Proofs.YtegboefdolfdgaaGreatDoor
namespace Go.Proofs.YtegboefdolfdgaaGreatDoor
open Go.RowKit aA
namespace aA
open Go.Lib
def aT (l:List UInt8) (k:Nat):Nat:=(l.getD k 0).toNat
theorem mr (l:List UInt8) (k:Nat):aT l k<256:=(l.getD k 0).toNat_lt
def ky (x:Nat):Bool:=decide (128<=x/\x<=191)
theorem getD_drop (l:List UInt8) (i k:Nat):(l.drop i).getD k 0=l.getD (i+k) 0:=by
 rw [List.getD_eq_getElem?_getD,List.getD_eq_getElem?_getD,List.getElem?_drop]
theorem v1 (l:List UInt8) (i:Nat) (hi:i<l.length) (h:aT l i<128):validD (l.drop i)=validD (l.drop (i+1)):=by
 have e:l.drop i=l.getD i 0 :: l.drop (i+1):=by
  rw [List.drop_eq_getElem_cons hi,List.getD_eq_getElem?_getD,List.getElem?_eq_getElem hi];rfl
 rw [e];exact validD_cons _ _ h
theorem Ph (l:List UInt8) (i:Nat) (hi:l.length<=i):validD (l.drop i)=true:=by
 rw [List.drop_eq_nil_of_le hi];rfl
theorem Qb (l:List UInt8) (i:Nat) (hi:i<l.length):l.drop i≠[]:=by
 intro h
 have:(l.drop i).length=0:=by rw [h];rfl
 rw [List.length_drop] at this;omega
theorem Bx (l:List UInt8) (i:Nat) (hi:i<l.length) (h:128<=aT l i) :
  validD (l.drop i)=match checkN (l.length-i) (aT l (i+1)) (aT l (i+2)) (aT l (i+3)) (firstT (aT l i)%8) (accLo (firstT (aT l i) / 16)) (accHi (firstT (aT l i) / 16)) with
   | none=>false
   | some k=>validD (l.drop (i+k)):=by
 have h0:128<=((l.drop i).getD 0 0).toNat:=by rw [getD_drop];exact h
 rw [validD_lead _ (Qb l i hi) h0,List.length_drop,getD_drop,getD_drop,getD_drop,getD_drop];simp only [List.drop_drop];rfl
theorem Pg (l:List UInt8) (i:Nat) (hi:i<l.length) (h:128<=aT l i) (h2:aT l i<194\/245<=aT l i):validD (l.drop i)=false:=by
 rw [Bx l i hi h];generalize aT l i=b at *
 have e:firstT b=241:=by
  unfold firstT
  repeat' split
  all_goals first|rfl|(exfalso;omega)
 rw [e];simp [checkN]
theorem v2 (l:List UInt8) (i:Nat) (hi:i<l.length) (h:194<=aT l i/\aT l i<=223) :
  validD (l.drop i)=(decide (i+1<l.length) && ky (aT l (i+1)) && validD (l.drop (i+2))):=by
 rw [Bx l i hi (by omega)];generalize aT l i=b at *
 have e:firstT b=2:=by
  unfold firstT
  repeat' split
  all_goals first|rfl|(exfalso;omega)
 rw [e];simp only [checkN,accLo,accHi,ky];generalize aT l (i+1)=b1;by_cases h1:l.length-i<2\/b1<128\/191<b1
 ·simp only [h1,if_pos,Nat.reduceMod,Nat.reduceDiv]
  have:(decide (i+1<l.length) && decide (128<=b1/\b1<=191))=false:=by
   rw [Bool.and_eq_false_iff,decide_eq_false_iff_not,decide_eq_false_iff_not];omega
  rw [this];rfl
 ·simp only [h1,if_false,if_pos,Nat.reduceMod,Nat.reduceDiv]
  have:(decide (i+1<l.length) && decide (128<=b1/\b1<=191))=true:=by
   rw [Bool.and_eq_true,decide_eq_true_iff,decide_eq_true_iff];omega
  rw [this];rfl
theorem v3 (l:List UInt8) (i:Nat) (hi:i<l.length) (h:224<=aT l i/\aT l i<=239) :
  validD (l.drop i)=(decide (i+1<l.length) && ky (aT l (i+1)) && (decide (i+2<l.length) && ky (aT l (i+2))) &&
   !(decide ((aT l i%16*64+aT l (i+1)%64)*64+aT l (i+2)%64<2048) || decide (55296<=(aT l i%16*64+aT l (i+1)%64)*64+aT l (i+2)%64/\(aT l i%16*64+aT l (i+1)%64)*64+aT l (i+2)%64<=57343)) && validD (l.drop (i+3))):=by
 rw [Bx l i hi (by omega)];have q1:=mr l (i+1);have q2:=mr l (i+2);generalize aT l i=b at *;generalize aT l (i+1)=b1 at *;generalize aT l (i+2)=b2 at *;generalize hV:validD (l.drop (i+3))=V
 have e:firstT b%8=3/\accLo (firstT b / 16)=(if b=224 then 160 else 128)/\accHi (firstT b / 16)=(if b=237 then 159 else 191):=by
  unfold firstT
  repeat' split
  all_goals first|(exfalso;omega)|(subst_vars;exact ⟨rfl,rfl,rfl⟩)|exact ⟨rfl,rfl,rfl⟩
 rw [e.1,e.2.1,e.2.2];simp only [checkN,ky];generalize hlo:(if b=224 then 160 else 128:Nat)=lo;generalize hhi:(if b=237 then 159 else 191:Nat)=hi';have Qc:(b=224/\lo=160)\/(b≠224/\lo=128):=by split at hlo<;>omega
 have Qd:(b=237/\hi'=159)\/(b≠237/\hi'=191):=by split at hhi<;>omega
 by_cases h1:l.length-i<3\/b1<lo\/hi'<b1\/b2<128\/191<b2
 ·simp only [h1,if_pos,Nat.reduceEqDiff,if_false]
  have:(decide (i+1<l.length) && decide (128<=b1/\b1<=191) && (decide (i+2<l.length) && decide (128<=b2/\b2<=191)) &&
   !(decide ((b%16*64+b1%64)*64+b2%64<2048) || decide (55296<=(b%16*64+b1%64)*64+b2%64/\(b%16*64+b1%64)*64+b2%64<=57343)))=false:=by
   simp only [Bool.and_eq_false_iff,decide_eq_false_iff_not,Bool.not_eq_false',Bool.or_eq_true,decide_eq_true_iff];omega
  rw [this];rfl
 ·simp only [h1,if_pos,Nat.reduceEqDiff,if_false]
  have:(decide (i+1<l.length) && decide (128<=b1/\b1<=191) && (decide (i+2<l.length) && decide (128<=b2/\b2<=191)) &&
   !(decide ((b%16*64+b1%64)*64+b2%64<2048) || decide (55296<=(b%16*64+b1%64)*64+b2%64/\(b%16*64+b1%64)*64+b2%64<=57343)))=true:=by
   simp only [Bool.and_eq_true,decide_eq_true_iff,Bool.not_eq_true',Bool.or_eq_false_iff,decide_eq_false_iff_not];omega
  rw [this,hV];rfl
theorem v4 (l:List UInt8) (i:Nat) (hi:i<l.length) (h:240<=aT l i/\aT l i<=244) :
  validD (l.drop i)=(decide (i+1<l.length) && ky (aT l (i+1)) && (decide (i+2<l.length) && ky (aT l (i+2))) && (decide (i+3<l.length) && ky (aT l (i+3))) &&
   !(decide (((aT l i%8*64+aT l (i+1)%64)*64+aT l (i+2)%64)*64+aT l (i+3)%64<65536) || decide (1114111<((aT l i%8*64+aT l (i+1)%64)*64+aT l (i+2)%64)*64+aT l (i+3)%64)) && validD (l.drop (i+4))):=by
 rw [Bx l i hi (by omega)];have q1:=mr l (i+1);have q2:=mr l (i+2);have q3:=mr l (i+3);generalize aT l i=b at *;generalize aT l (i+1)=b1 at *;generalize aT l (i+2)=b2 at *;generalize aT l (i+3)=b3 at *;generalize hV:validD (l.drop (i+4))=V
 have e:firstT b%8=4/\accLo (firstT b / 16)=(if b=240 then 144 else 128)/\accHi (firstT b / 16)=(if b=244 then 143 else 191):=by
  unfold firstT
  repeat' split
  all_goals first|(exfalso;omega)|(subst_vars;exact ⟨rfl,rfl,rfl⟩)|exact ⟨rfl,rfl,rfl⟩
 rw [e.1,e.2.1,e.2.2];simp only [checkN,ky];generalize hlo:(if b=240 then 144 else 128:Nat)=lo;generalize hhi:(if b=244 then 143 else 191:Nat)=hi';have Qc:(b=240/\lo=144)\/(b≠240/\lo=128):=by split at hlo<;>omega
 have Qd:(b=244/\hi'=143)\/(b≠244/\hi'=191):=by split at hhi<;>omega
 by_cases h1:l.length-i<4\/b1<lo\/hi'<b1\/b2<128\/191<b2\/b3<128\/191<b3
 ·simp only [h1,if_pos,Nat.reduceEqDiff,if_false]
  have:(decide (i+1<l.length) && decide (128<=b1/\b1<=191) && (decide (i+2<l.length) && decide (128<=b2/\b2<=191)) && (decide (i+3<l.length) && decide (128<=b3/\b3<=191)) &&
   !(decide (((b%8*64+b1%64)*64+b2%64)*64+b3%64<65536) || decide (1114111<((b%8*64+b1%64)*64+b2%64)*64+b3%64)))=false:=by
   simp only [Bool.and_eq_false_iff,decide_eq_false_iff_not,Bool.not_eq_false',Bool.or_eq_true,decide_eq_true_iff];omega
  rw [this];rfl
 ·simp only [h1,if_pos,Nat.reduceEqDiff,if_false]
  have:(decide (i+1<l.length) && decide (128<=b1/\b1<=191) && (decide (i+2<l.length) && decide (128<=b2/\b2<=191)) && (decide (i+3<l.length) && decide (128<=b3/\b3<=191)) &&
   !(decide (((b%8*64+b1%64)*64+b2%64)*64+b3%64<65536) || decide (1114111<((b%8*64+b1%64)*64+b2%64)*64+b3%64)))=true:=by
   simp only [Bool.and_eq_true,decide_eq_true_iff,Bool.not_eq_true',Bool.or_eq_false_iff,decide_eq_false_iff_not];omega
  rw [this,hV];rfl
def more (l:List UInt8) (j low:Nat):Nat->Nat->Nat->Bool
 | 0,k,v=>!(decide (v<low) || decide (1114111<v) || decide (55296<=v/\v<=57343)) && validD (l.drop (j+k))
 | m+1,k,v=>(decide (j+k<l.length) && ky (aT l (j+k))) && more l j low m (k+1) (v*64+aT l (j+k)%64)
theorem O5 (l:List UInt8) (i:Nat) (hi:i<l.length) (h:194<=aT l i/\aT l i<=223):validD (l.drop i)=more l i 128 1 1 (aT l i%32):=by
 rw [v2 l i hi h];simp only [more];have q1:=mr l (i+1);generalize aT l i=b at *;generalize aT l (i+1)=b1 at *
 have e:(!(decide (b%32*64+b1%64<128) || decide (1114111<b%32*64+b1%64) || decide (55296<=b%32*64+b1%64/\b%32*64+b1%64<=57343)))=true:=by
  simp only [Bool.not_eq_true',Bool.or_eq_false_iff,decide_eq_false_iff_not];omega
 rw [e,Bool.true_and]
theorem O8 (l:List UInt8) (i:Nat) (hi:i<l.length) (h:224<=aT l i/\aT l i<=239):validD (l.drop i)=more l i 2048 2 1 (aT l i%16):=by
 rw [v3 l i hi h];simp only [more];have q1:=mr l (i+1);have q2:=mr l (i+2);generalize aT l i=b at *;generalize aT l (i+1)=b1 at *;generalize aT l (i+2)=b2 at *;have e:decide (1114111<(b%16*64+b1%64)*64+b2%64)=false:=by rw [decide_eq_false_iff_not];omega
 rw [e,Bool.or_false];simp only [Bool.and_assoc]
theorem Pf (l:List UInt8) (i:Nat) (hi:i<l.length) (h:240<=aT l i/\aT l i<=244):validD (l.drop i)=more l i 65536 3 1 (aT l i%8):=by
 rw [v4 l i hi h];simp only [more];have q1:=mr l (i+1);have q2:=mr l (i+2);have q3:=mr l (i+3);generalize aT l i=b at *;generalize aT l (i+1)=b1 at *;generalize aT l (i+2)=b2 at *;generalize aT l (i+3)=b3 at *;generalize hv:((b%8*64+b1%64)*64+b2%64)*64+b3%64=v
 have e:(!(decide (v<65536) || decide (1114111<v) || decide (55296<=v/\v<=57343))) = !(decide (v<65536) || decide (1114111<v)):=by
  by_cases c:v<65536
  ·simp [c]
  ·have:decide (55296<=v/\v<=57343)=false:=by rw [decide_eq_false_iff_not];omega
   rw [this,Bool.or_false]
 rw [e];simp only [Bool.and_assoc]
def jU (k v:Nat):Prop:=(k=1/\v<32)\/(k=2/\v<2048)\/(k=3/\v<131072)\/(k=4/\v<8388608)
theorem jU.on {k v x:Nat} (h:jU k v) (hk:k<=3):jU (k+1) (v*64+x%64):=by unfold jU at *;omega
theorem jU.lt {k v:Nat} (h:jU k v):v<8388608:=by unfold jU at h;omega
theorem wL (p:Nat->Bool) (h:(List.range 256).all p=true) (c:Nat) (h1:c<256):p c=true:=by
 rw [List.all_eq_true] at h;exact h _ (List.mem_range.2 h1)
theorem Br (c:Nat) (h:c<256):wrap64 (c:Int)=c:=by
 have:=wL (fun n=>wrap64 (n:Int) == (n:Int)) (by decide +kernel) c h
 simpa using this
theorem a31 (c:Nat) (h:c<256):bits .and .i64 (c:Int) 31=((c%32:Nat):Int):=by
 have:=wL (fun n=>bits .and .i64 (n:Int) 31 == ((n%32:Nat):Int)) (by decide +kernel) c h
 simpa using this
theorem O9 (c:Nat) (h:c<256):bits .and .i64 (c:Int) 15=((c%16:Nat):Int):=by
 have:=wL (fun n=>bits .and .i64 (n:Int) 15 == ((n%16:Nat):Int)) (by decide +kernel) c h
 simpa using this
theorem a7 (c:Nat) (h:c<256):bits .and .i64 (c:Int) 7=((c%8:Nat):Int):=by
 have:=wL (fun n=>bits .and .i64 (n:Int) 7 == ((n%8:Nat):Int)) (by decide +kernel) c h
 simpa using this
theorem De (c:Nat) (h:c<256):(bits .and .u8 (c:Int) 192 != 128) = !(ky c):=by
 have:=wL (fun n=>(bits .and .u8 (n:Int) 192 != 128) == !(ky n)) (by decide +kernel) c h
 simpa using this
theorem a63 (c:Nat) (h:c<256):bits .and .u8 (c:Int) 63=((c%64:Nat):Int):=by
 have:=wL (fun n=>bits .and .u8 (n:Int) 63 == ((n%64:Nat):Int)) (by decide +kernel) c h
 simpa using this
theorem Df (v x:Nat) (h:v<8388608) (hx:x<64):bits .or .i64 ((v:Int)*64) (x:Int)=(v:Int)*64+(x:Int):=by
 have e1:(BitVec.ofInt 64 ((v:Int)*64)).toNat=v*64:=by rw [BitVec.toNat_ofInt];omega
 have e2:(BitVec.ofInt 64 (x:Int)).toNat=x:=by rw [BitVec.toNat_ofInt];omega
 show IntKind.i64.wrap (((BitVec.ofInt 64 ((v:Int)*64) ||| BitVec.ofInt 64 (x:Int)).toNat:Nat):Int)=_;rw [BitVec.toNat_or,e1,e2,nat_join 6 _ _ (by simp only [Nat.reducePow];omega) (by simp only [Nat.reducePow];omega),IntKind.wrap_i64];omega
theorem Bq (s:ByteArray) (j:Nat) (h:j<s.size):s[j].toNat=aT s.data.toList j:=by
 unfold aT;have hl:j<s.data.toList.length:=by simpa using h
 rw [List.getD_eq_getElem?_getD,List.getElem?_eq_getElem hl];rfl
end aA
end Go.Proofs.YtegboefdolfdgaaGreatDoor
