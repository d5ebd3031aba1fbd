/- Texts that the claim needs. -/
import Derived.Test.YtegboefdolfdgaaGreatDoorQDM0
import Derived.Test.YtegboefdolfdgaaGreatDoorQDM1
import Derived.Test.YtegboefdolfdgaaGreatDoorQDM2
import Derived.Test.YtegboefdolfdgaaGreatDoorQDM5
import Derived.Deep.RegionLaw
import Derived.Laws.EntriesVeiled
namespace Go.Proofs.YtegboefdolfdgaaGreatDoor
open Go.RowKit aA ai
set_option linter.unusedVariables false
set_option maxRecDepth 100000
set_option maxHeartbeats 4000000
namespace ai
structure RS (w0:World) (p:Nat) (s:ByteArray) (c:Nat->Value) (en k i n:Nat) (w:World):Prop where
 below:Below w0.heap.size w0 w
 base:w0.heap.size<=p
 blk:w.heap[p]?=some (.cells #[.string s,.int .i64 i,.int .i64 en,c 0,c 1,c 2,c 3,c 4,c 5,c 6,c 7,c 8,c 9,.int .i64 k,.int .i64 n] 50 (0,0))
 le:i<=en
 len:en<=s.size
 big:s.size<=262144
section
variable {w0 w w':World} {p:Nat} {s:ByteArray} {c:Nat->Value} {en k i n:Nat}
theorem RS.cell (h:RS w0 p s c en k i n w) (j:Nat) (v:Value) (hv:#[Value.string s,.int .i64 i,.int .i64 en,c 0,c 1,c 2,c 3,c 4,c 5,c 6,c 7,c 8,c 9,.int .i64 k,.int .i64 n][j]?=some v):w.cell? ⟨p,j,none⟩=some v:=by
 unfold World.cell?;rw [h.blk];exact hv
theorem RS.ag (h:RS w0 p s c en k i n w) (j:Nat):w.frozen? ⟨p,j,none⟩=false:=by unfold World.frozen?;rw [h.blk];simp
theorem RS.lt (h:RS w0 p s c en k i n w):p<w.heap.size:=(Array.getElem?_eq_some_iff.1 h.blk).1
theorem RS.on (h:RS w0 p s c en k i n w) (hb:Below w.heap.size w w'):RS w0 p s c en k i n w' :=
 ⟨h.below.trans (hb.mono h.below.size),h.base,by rw [hb.block p h.lt];exact h.blk,h.le,h.len,h.big⟩
theorem RS.at_ (h:RS w0 p s c en k i n w) {j:Nat} (hj:j<=en):RS w0 p s c en k j n (w.setCell ⟨p,1,none⟩ (.int .i64 j)) :=
 ⟨h.below.setCell h.base _,h.base,heap_setCell_same w p 1 _ _ _ h.blk,hj,h.len,h.big⟩
theorem RS.num (h:RS w0 p s c en k i n w) (m:Nat):RS w0 p s c en k i m (w.setCell ⟨p,14,none⟩ (.int .i64 m)) :=
 ⟨h.below.setCell h.base _,h.base,heap_setCell_same w p 14 _ _ _ h.blk,h.le,h.len,h.big⟩
theorem But.refl (p:Nat) (w:World):But p w w:=⟨rfl,rfl,rfl,Nat.le_refl _,fun _ _ _=>rfl⟩
theorem But.of (p:Nat) (hb:Below w.heap.size w w'):But p w w':=⟨hb.os,hb.tape,hb.output,hb.size,fun k hk _=>hb.block k hk⟩
theorem But.trans {u:World} (h:But p w w') (h':But p w' u):But p w u :=
 ⟨h'.os.trans h.os,h'.tape.trans h.tape,h'.output.trans h.output,Nat.le_trans h.size h'.size,fun k hk hp=>(h'.block k (Nat.lt_of_lt_of_le hk h.size) hp).trans (h.block k hk hp)⟩
theorem But.set (p j:Nat) (w:World) (v:Value):But p w (w.setCell ⟨p,j,none⟩ v) :=
 ⟨rfl,rfl,rfl,by simp,fun k hk hp=>Below.heap_setCell _ _ _ _ (fun e=>hp (by rw [e]))⟩
end
def bw {α:Type} (w0:World) (p:Nat) (s:ByteArray) (c:Nat->Value) (en k n:Nat) (V:α->Value->World->Prop) (w:World) (x:R α) (e:Ending) (w':World):Prop :=
 match x with
 | .ok (a,j)=>(∃v,e=.returned v/\V a v w')/\RS w0 p s c en k j n w'/\But p w w'
 | .error z=>e=.panicked (gave z)/\Below w0.heap.size w0 w'
def fS (a:Int) (v:Value) (_:World):Prop:=v=.int .i64 a
def xu (_:Unit) (v:Value) (_:World):Prop:=v=.tuple #[]
end ai
theorem Jy (c:Bool) (k:Int) (w:World):Calls Tryz.prog 11 #[.bool c,.int .i64 k] w fun e w'=>xS c k e/\w'=w:=by
 cases c
 ·go_enter Tryz.func11,Tryz.ntmps11;go_wp2;exact ⟨rfl,.inr ⟨rfl,rfl⟩,rfl⟩
 ·go_enter Tryz.func11,Tryz.ntmps11;go_wp2;go_end0;exact ⟨.inl ⟨rfl,rfl⟩,rfl⟩
theorem bH (k:Int) (w:World):Calls Tryz.prog 11 #[.bool true,.int .i64 k] w fun e w'=>e=.returned (.tuple #[])/\w'=w :=
 (Jy true k w).mono fun e w' h=>⟨h.1.yes,h.2⟩
theorem eZ (k:Int) (w:World):Calls Tryz.prog 11 #[.bool false,.int .i64 k] w fun e w'=>e=.panicked (gave k)/\w'=w :=
 (Jy false k w).mono fun e w' h=>⟨h.1.no,h.2⟩
def nG (p i en:Nat):Nat->Value
 | 0=>.pointer (some ⟨p,0,none⟩)
 | 1=>.pointer (some ⟨p,0,none⟩)
 | 2=>.pointer (some ⟨p,1,none⟩)
 | 3=>.int .i64 i
 | 4=>.pointer (some ⟨p,0,none⟩)
 | 5=>.pointer (some ⟨p,0,none⟩)
 | 6=>.pointer (some ⟨p,2,none⟩)
 | 7=>.int .i64 en
 | _=>.bool false
theorem rf (w0:World) (p:Nat) (s:ByteArray) (c:Nat->Value) (en k i n:Nat) (w:World) (h:RS w0 p s c en k i n w) :
  Calls Tryz.prog 25 #[.pointer (some ⟨p,0,none⟩)] w (bw w0 p s c en k n fS w (nx s en i)):=by
 have c0:=h.cell 0 _ rfl;have c1:=h.cell 1 _ rfl;have c2:=h.cell 2 _ rfl;have f1:=h.ag 1;have H:=aa h;have hle:=h.len;have hbig:=h.big;by_cases hi:i<en
 ·have e:nx s en i=.ok (ae.bt s i,i+1):=by unfold nx;rw [if_pos hi]
  rw [e];have hl:decide ((i:Int)<(en:Int))=true:=decide_eq_true (by omega);have hg:=ae.get_bt s;have HF:Hid (∀u,Below w.heap.size w u->RS w0 p s c en k (i+1) n (u.setCell ⟨p,1,none⟩ (.int .i64 ((i:Int)+1)))/\But p w (u.setCell ⟨p,1,none⟩ (.int .i64 ((i:Int)+1)))):=aa (fun u hb=>⟨(H.out.on hb).at_ (j:=i+1) (by omega),(But.of p hb).trans (But.set p 1 u _)⟩);have his:i<s.size:=by omega
  clear e h;go_enter Tryz.func25,Tryz.ntmps25;go_wp2_with fail;go_quiet (first|(go_at_call 11;exact Calls.quiet_of_same (bH _ _)))
  go_wp2_with fail;go_quiet (fail);go_wp2;go_ret;have hw:wrap64 (ae.bt s i)=ae.bt s i:=by have:=ae.lQ s i;unfold wrap64;omega
  exact ⟨⟨_,rfl,by show Value.int .i64 (wrap64 (ae.bt s i))=_;rw [hw]⟩,(HF.out _ (bN w _)).1,(HF.out _ (bN w _)).2⟩
 ·have e:nx s en i=.error 50:=by unfold nx;rw [if_neg hi]
  rw [e];have hl:decide ((i:Int)<(en:Int))=false:=decide_eq_false (by omega);clear e h;go_enter Tryz.func25,Tryz.ntmps25;go_wp2_with fail;refine af.yF 9 (fun i=>4+i) (fun j v _=>v=nG p i en j) (by kernel_rfl) (by kernel_rfl) (fun i j h1 h2 h=>by have h':4+i=4+j:=h;omega) (af.tP (size:=32) (by kernel_rfl)) (fun i v w w' _ h _=>h) ?hstep ?fu
  case hstep =>
   intro j o a u hj ho hF hB hd;have f0:a.tmps[0]?.getD undef=.pointer (some ⟨p,0,none⟩):=af.av (hF.eval 0 (fun i hi=>by show 4+i≠0;omega));have d1:=aF hB c1;have d2:=aF hB c2;have hcase:j=0\/j=1\/j=2\/j=3\/j=4\/j=5\/j=6\/j=7\/j=8:=by omega
   clear hj c0 c1 c2 f1;rcases hcase with rfl|rfl|rfl|rfl|rfl|rfl|rfl|rfl|rfl
   all_goals (simp only [List.getElem?_toArray,List.getElem?_cons_succ,List.getElem?_cons_zero,Option.some.injEq] at ho;subst ho;refine af.aR fun K hK=>?_)
   ·go_simp;exact hK _ _ ⟨_,rfl,Below.refl _ _,rfl⟩
   ·have q:a.tmps[4]?.getD undef=.pointer (some ⟨p,0,none⟩):=af.av (hd 0 (by decide));go_simp;exact hK _ _ ⟨_,rfl,Below.refl _ _,rfl⟩
   ·have q:a.tmps[5]?.getD undef=.pointer (some ⟨p,0,none⟩):=af.av (hd 1 (by decide));go_simp;exact hK _ _ ⟨_,rfl,Below.refl _ _,rfl⟩
   ·have q:a.tmps[6]?.getD undef=.pointer (some ⟨p,1,none⟩):=af.av (hd 2 (by decide));go_simp;exact hK _ _ ⟨_,rfl,Below.refl _ _,rfl⟩
   ·go_simp;exact hK _ _ ⟨_,rfl,Below.refl _ _,rfl⟩
   ·have q:a.tmps[8]?.getD undef=.pointer (some ⟨p,0,none⟩):=af.av (hd 4 (by decide));go_simp;exact hK _ _ ⟨_,rfl,Below.refl _ _,rfl⟩
   ·have q:a.tmps[9]?.getD undef=.pointer (some ⟨p,0,none⟩):=af.av (hd 5 (by decide));go_simp;exact hK _ _ ⟨_,rfl,Below.refl _ _,rfl⟩
   ·have q:a.tmps[10]?.getD undef=.pointer (some ⟨p,2,none⟩):=af.av (hd 6 (by decide));go_simp;exact hK _ _ ⟨_,rfl,Below.refl _ _,rfl⟩
   ·have q:a.tmps[7]?.getD undef=.int .i64 i:=af.av (hd 3 (by decide));have q2:a.tmps[11]?.getD undef=.int .i64 en:=af.av (hd 7 (by decide));go_simp;exact hK _ _ ⟨_,rfl,Below.refl _ _,rfl⟩
  case fu =>
   intro a u hF hB hG;have q:a.tmps[12]?.getD undef=.bool false:=af.av (hG 8 (by decide));simp only [List.drop_succ_cons,List.drop_zero];refine wpList_plain rfl fun K hK=>?_;go_simp;refine (eZ _ _).mono ?_;rintro e u2 ⟨rfl,rfl⟩;exact ⟨hF.defers,rfl,H.out.below.trans (hB.mono H.out.below.size)⟩
section
variable (w0:World) (p:Nat) (s:ByteArray) (c:Nat->Value) (en k i n:Nat) (w:World) (h:RS w0 p s c en k i n w)
include h
theorem oo (b:Int):Calls Tryz.prog 70 #[.pointer (some ⟨p,0,none⟩),.int .i64 b] w (bw w0 p s c en k n xu w (must s en b i)):=by
 have HC:=aa (rf w0 p s c en k i n w h);clear h;unfold must;cases hx:nx s en i with
 | error z =>
  rw [hx] at HC;rw [bg];clear hx;go_enter Tryz.func70,Tryz.ntmps70;go_wp2_with fail;refine HC.out.mono ?_;rintro e w1 ⟨rfl,hb⟩;exact ⟨rfl,rfl,hb⟩
 | ok v =>
  obtain ⟨x,j⟩:=v;rw [hx] at HC;rw [aM];clear hx;by_cases gT:x=b
  ·rw [if_pos gT];subst gT;go_enter Tryz.func70,Tryz.ntmps70;go_wp2_with fail;refine HC.out.mono ?_;rintro e w1 ⟨⟨v,rfl,hv⟩,h1,h2⟩;have hv:v=.int .i64 x:=hv;subst hv;have HF:=aa (⟨h1,h2⟩:_/\_);clear h1 h2 HC;go_wp2_with fail;refine (bH _ _).mono ?_;rintro e w2 ⟨rfl,rfl⟩;go_wp2;go_end0;exact ⟨⟨_,rfl,rfl⟩,HF.out.1,HF.out.2⟩
  ·rw [if_neg gT];have hq:(x == b)=false:=by rw [beq_eq_false_iff_ne];exact gT
   go_enter Tryz.func70,Tryz.ntmps70;go_wp2_with fail;refine HC.out.mono ?_;rintro e w1 ⟨⟨v,rfl,hv⟩,h1,h2⟩;have hv:v=.int .i64 x:=hv;subst hv;have HF:=aa h1.below;clear h1 h2 HC;go_wp2_with fail;refine (eZ _ _).mono ?_;rintro e w2 ⟨rfl,rfl⟩;exact ⟨rfl,rfl,HF.out⟩
theorem gh:Calls Tryz.prog 35 #[.pointer (some ⟨p,0,none⟩)] w (bw w0 p s c en k n fS w (ru s en i)):=by
 have c0:=h.cell 0 _ rfl;have c1:=h.cell 1 _ rfl;have c2:=h.cell 2 _ rfl;have hle:=h.len;have hz:(s.extract 0 en).size=en:=by rw [ByteArray.size_extract];omega
 have HU:=fun u=>aa (c14 (s.extract 0 en) i 32 u (by have:=h.big;omega));have H:=aa h;have ht:((en:Int).toNat)=en:=by omega
 unfold ru;obtain ⟨N,hN⟩:∃N,N=(ae.fF (s.extract 0 en) i 32).1:=⟨_,rfl⟩;obtain ⟨J,hJ⟩:∃J,J=(ae.fF (s.extract 0 en) i 32).2.1:=⟨_,rfl⟩;obtain ⟨E,hE⟩:∃E,E=(ae.fF (s.extract 0 en) i 32).2.2:=⟨_,rfl⟩;have hok:=El (s.extract 0 en) i;rw [<- hN,<- hJ,<- hE,hz] at hok;rw [<- hN,<- hJ,<- hE];simp only [<- hN,<- hJ,<- hE] at HU;clear hN hJ hE h;by_cases he:E=0
 ·rw [if_pos he];obtain ⟨b1,b2,b3,b4⟩:=hok he;obtain ⟨j,rfl⟩:∃j:Nat,J=(j:Int):=⟨J.toNat,by omega⟩;subst he;have hw:wrap64 N=N:=by unfold wrap64;omega
  have pg:((j:Int).toNat)=j:=by omega
  rw [pg];have HB:Hid (j<=en):=aa (by omega);clear hok hz pg b1 b2;go_enter Tryz.func35,Tryz.ntmps35;go_wp2_with fail;go_region_with (first|(go_at_call 66;refine (HU _).out.mono ?_;rintro e u ⟨rfl,hb⟩))
  all_goals (
   have HB1:=aa hb;have HR:=aa ((H.out.on (bN w 1)).on hb);have f1:=HR.out.ag 1;have d1:=HR.out.cell 1 _ rfl;have vn:Hid (But p w u):=aa ((But.of p (gV w)).trans (But.of p hb));clear hb HU HB1;go_wp2_with fail;refine (bH _ _).mono ?_;rintro e u2 ⟨rfl,rfl⟩;go_wp2;go_ret;exact ⟨⟨_,rfl,rfl⟩,HR.out.at_ HB.out,vn.out.trans (But.set p 1 _ _)⟩)
 ·rw [if_neg he];have hq:(E == 0)=false:=by rw [beq_eq_false_iff_ne];exact he
  clear hok hz;go_enter Tryz.func35,Tryz.ntmps35;go_wp2_with fail;go_region_with (first|(go_at_call 66;refine (HU _).out.mono ?_;rintro e u ⟨rfl,hb⟩))
  all_goals (
   have HB1:=aa ((H.out.below.drew).trans (hb.mono (by have:=H.out.below.size;simp;omega)));clear hb HU;go_wp2_with fail;refine (eZ _ _).mono ?_;rintro e u2 ⟨rfl,rfl⟩;exact ⟨rfl,rfl,HB1.out⟩)
end
namespace ai
def Bz (w0:World) (b:Int) (w:World) (e:Ending) (w':World):Prop :=
 w'=w/\match kz b 0 with
 | .ok (a,_)=>e=.returned (.int .i64 a)
 | .error z=>e=.panicked (gave z)
theorem GZ (b:Int) (i:Nat):kz b i=bd (kz b 0) fun a _=>.ok (a,i):=by
 unfold kz;split
 ·rfl
 split
 ·rfl
 ·rfl
end ai
theorem G0 (w0:World) (b:Int) (w:World):Calls Tryz.prog 87 #[.int .i64 b] w (Bz w0 b w):=by
 unfold Bz;by_cases h1:b=124\/b=125
 ·have e:kz b 0=.error 51:=by unfold kz;rw [if_pos h1]
  rw [e];rcases h1 with rfl|rfl
  all_goals
   clear e;go_enter Tryz.func87,Tryz.ntmps87;go_wp2_with fail;refine (eZ _ _).mono ?_;rintro e u ⟨rfl,rfl⟩;exact ⟨rfl,rfl,rfl⟩
 have q1:(b != 124)=true:=by simp;omega
 have q2:(b != 125)=true:=by simp;omega
 by_cases h2:b=127\/b=126
 ·have e:kz b 0=.ok (b,0):=by unfold kz;rw [if_neg h1,if_pos h2]
  rw [e];rcases h2 with rfl|rfl
  all_goals
   clear e h1 q1 q2;go_enter Tryz.func87,Tryz.ntmps87;go_wp2_with fail;refine (bH _ _).mono ?_;rintro e u ⟨rfl,rfl⟩;go_wp2_with fail;refine (bH _ _).mono ?_;rintro e u ⟨rfl,rfl⟩;go_wp2;go_ret;exact ⟨rfl,rfl⟩
 ·have e:kz b 0=.error 50:=by unfold kz;rw [if_neg h1,if_neg h2]
  rw [e];have q3:(b == 127)=false:=by simp;omega
  have q4:(b == 126)=false:=by simp;omega
  clear e h1 h2;go_enter Tryz.func87,Tryz.ntmps87;go_wp2_with fail;refine (bH _ _).mono ?_;rintro e u ⟨rfl,rfl⟩;go_wp2_with fail;refine (eZ _ _).mono ?_;rintro e u ⟨rfl,rfl⟩;exact ⟨rfl,rfl,rfl⟩
section
variable (w0:World) (p:Nat) (s:ByteArray) (c:Nat->Value) (en k i n:Nat) (w:World) (h:RS w0 p s c en k i n w)
include h
theorem OW:Calls Tryz.prog 113 #[.pointer (some ⟨p,0,none⟩)] w (bw w0 p s c en k n fS w (jh s en i)):=by
 have HC:=aa (rf w0 p s c en k i n w h);clear h;unfold jh;cases hx:nx s en i with
 | error z =>
  rw [hx] at HC;rw [bg];clear hx;go_enter Tryz.func113,Tryz.ntmps113;go_wp2_with fail;refine HC.out.mono ?_;rintro e w1 ⟨rfl,hb⟩;exact ⟨rfl,rfl,hb⟩
 | ok v =>
  obtain ⟨b,j⟩:=v;rw [hx] at HC;rw [aM];clear hx;by_cases h6:b=64
  ·rw [if_pos h6];subst h6;go_enter Tryz.func113,Tryz.ntmps113;go_wp2_with fail;refine HC.out.mono ?_;rintro e w1 ⟨⟨v,rfl,hv⟩,h1,h2⟩;have hv:v=.int .i64 64:=hv;subst hv;have HF:=aa (⟨h1,h2⟩:_/\_);clear h1 h2 HC;go_wp2;go_ret;exact ⟨⟨_,rfl,rfl⟩,HF.out.1,HF.out.2⟩
  ·rw [if_neg h6];have hq:(b == 64)=false:=by rw [beq_eq_false_iff_ne];exact h6
   rw [GZ];have HV:=fun u=>aa (G0 w0 b u);unfold Bz at HV;cases hv0:kz b 0 with
   | error z =>
    rw [bg];rw [hv0] at HV;clear hv0;go_enter Tryz.func113,Tryz.ntmps113;go_wp2_with fail;refine HC.out.mono ?_;rintro e w1 ⟨⟨v,rfl,hv⟩,h1,h2⟩;have hv:v=.int .i64 b:=hv;subst hv;have HF:=aa h1.below;clear h1 h2 HC;go_wp2_with fail;refine (HV _).out.mono ?_;rintro e w2 ⟨rfl,rfl⟩;exact ⟨rfl,rfl,HF.out⟩
   | ok v =>
    obtain ⟨a,i0⟩:=v;rw [aM];rw [hv0] at HV;clear hv0;go_enter Tryz.func113,Tryz.ntmps113;go_wp2_with fail;refine HC.out.mono ?_;rintro e w1 ⟨⟨v,rfl,hv⟩,h1,h2⟩;have hv:v=.int .i64 b:=hv;subst hv;have HF:=aa (⟨h1,h2⟩:_/\_);clear h1 h2 HC;go_wp2_with fail;refine (HV _).out.mono ?_;rintro e w2 ⟨rfl,rfl⟩;go_wp2;go_ret;exact ⟨⟨_,rfl,rfl⟩,HF.out.1,HF.out.2⟩
theorem nQ:Calls Tryz.prog 69 #[.pointer (some ⟨p,0,none⟩)] w (bw w0 p s c en k n fS w (rc s en i)):=by
 have HC:=aa (gh w0 p s c en k i n w h);clear h;unfold rc;cases hx:ru s en i with
 | error z =>
  rw [hx] at HC;rw [bg];clear hx;go_enter Tryz.func69,Tryz.ntmps69;go_wp2_with fail;refine HC.out.mono ?_;rintro e w1 ⟨rfl,hb⟩;exact ⟨rfl,rfl,hb⟩
 | ok v =>
  obtain ⟨x,j⟩:=v;rw [hx] at HC;rw [aM];clear hx;by_cases gT:x<=4096
  ·rw [if_pos gT];have hd:decide (x<=(4096:Int))=true:=decide_eq_true gT;go_enter Tryz.func69,Tryz.ntmps69;go_wp2_with fail;refine HC.out.mono ?_;rintro e w1 ⟨⟨v,rfl,hv⟩,h1,h2⟩;have hv:v=.int .i64 x:=hv;subst hv;have HF:=aa (⟨h1,h2⟩:_/\_);clear h1 h2 HC;go_wp2_with fail;refine (bH _ _).mono ?_;rintro e w2 ⟨rfl,rfl⟩;go_wp2;go_ret;exact ⟨⟨_,rfl,rfl⟩,HF.out.1,HF.out.2⟩
  ·rw [if_neg gT];have hq:decide (x<=(4096:Int))=false:=decide_eq_false gT;go_enter Tryz.func69,Tryz.ntmps69;go_wp2_with fail;refine HC.out.mono ?_;rintro e w1 ⟨⟨v,rfl,hv⟩,h1,h2⟩;have hv:v=.int .i64 x:=hv;subst hv;have HF:=aa h1.below;clear h1 h2 HC;go_wp2_with fail;refine (eZ _ _).mono ?_;rintro e w2 ⟨rfl,rfl⟩;exact ⟨rfl,rfl,HF.out⟩
end
namespace ai
theorem fA {w w':World} {B p:Nat} {e:TypeId} {size:Nat} {v:Value} {n:Nat} {xs:List Value} (h:w.ownsRow B e size v n xs) (hp:p<B) (hb:But p w w'):w'.ownsRow B e size v n xs :=
 ⟨h.1,h.2.imp id fun ⟨g,cap,cur,h1,h2,h3,h4⟩=>⟨g,cap,cur,h1,h2,by rw [hb.block g (Array.getElem?_eq_some_iff.1 h3).1 (fun e=>by injection e with e;omega)];exact h3,h4⟩⟩
theorem qU (w:World) (x:Value) (t:TypeId):∀(j:Nat) (u:Value),[x][j]?=some u->(w.alloc (.cells #[x] t)).cell? ((⟨w.heap.size,0,none⟩:Addr).add j)=some u:=fun j u hj=>by
 match j,hj with
 | 0,hj =>
  have:x=u:=by simpa using hj
  subst this;rw [ry,World.cell?_alloc_at _ t _ _ rfl];rfl
 | j+1,hj=>simp at hj
theorem But.grown {w wr w9:World} {p:Nat} {o:Option Nat} (h:But p w wr) (hg:wr.grownBy w9 o) (ho:∀k,o=some k->w.heap.size<=k):But p w w9 :=
 ⟨hg.os.trans h.os,hg.tape.trans h.tape,hg.output.trans h.output,Nat.le_trans h.size hg.size,fun k hk hp=>(hg.block k (Nat.lt_of_lt_of_le hk h.size) (fun e=>by have:=ho k e.symm;omega)).trans (h.block k hk hp)⟩
theorem RS.grown {w0 w w9:World} {p:Nat} {s:ByteArray} {c:Nat->Value} {en k i n:Nat} {o:Option Nat} (h:RS w0 p s c en k i n w) (hg:w.grownBy w9 o) (ho:∀q,o=some q->p<q):RS w0 p s c en k i n w9 :=
 ⟨h.below.grown hg h.below.size (fun q hq=>by have:=ho q hq;have:=h.base;omega),h.base,by rw [hg.block p h.lt (fun e=>by have:=ho p e.symm;omega)];exact h.blk,h.le,h.len,h.big⟩
def jN (B:Nat) (a:List Int) (v:Value) (w:World):Prop:=aH w (Since B w none) v a
end ai
theorem Bp (w0:World) (p:Nat) (s:ByteArray) (c:Nat->Value) (en k i n:Nat) (w:World) (h:RS w0 p s c en k i n w) :
  Calls Tryz.prog 71 #[.pointer (some ⟨p,0,none⟩),.func (.func 35) #[.pointer (some ⟨p,0,none⟩)] #[]] w (bw w0 p s c en k n (jN w.heap.size) w (rl s en i)):=by
 have HC:=aa (nQ w0 p s c en k i n w h);have hpw:=h.lt;have hlen:=h.len;have hle:=h.le;clear h;unfold rl;cases hx:rc s en i with
 | error z =>
  rw [hx] at HC;rw [bg];clear hx;go_enter Tryz.func71,Tryz.ntmps71;go_wp2_with fail;refine HC.out.mono ?_;rintro e w1 ⟨rfl,hb⟩;exact ⟨rfl,rfl,hb⟩
 | ok v =>
  obtain ⟨x,j⟩:=v;have hrc:=jl hlen hx;rw [hx] at HC;rw [aM];obtain ⟨m,rfl⟩:∃m:Nat,x=(m:Int):=⟨x.toNat,by omega⟩;have hm:m<=4096:=by omega
  rw [show ((m:Int).toNat)=m by omega];obtain ⟨R,hR⟩:∃R,R=rep (ru s en) m j:=⟨_,rfl⟩;rw [<- hR];have HR:=aa hR;clear hx hrc hR hlen hle;go_enter Tryz.func71,Tryz.ntmps71;go_wp2_with fail;refine HC.out.mono ?_;rintro e w1 ⟨⟨v,rfl,hv⟩,h1,h2⟩;have hv:v=.int .i64 m:=hv;subst hv;have H1:=aa h1;have H2:=aa h2;clear h1 h2 HC;go_wp2_with fail;go_loopw [5,8] (fun t u wr=>∃(q:Nat) (l:List Int) (jq:Nat),q<=m/\u=.int .i64 q/\l.length=q/\(∃o c,t=.slice o q c)/\Hid (R=pre l (rep (ru s en) (m-q) jq))/\Hid (RS w0 p s c en k jq n wr)/\Hid (But p w wr)/\Hid (wr.ownsRow w.heap.size 3 1 t q (l.map fun z=>Value.int .i64 z))) (fun _ u _=>m-(RowKit.intOf u).toNat)
  case atStart=>exact ⟨0,[],j,by omega,rfl,rfl,⟨none,0,rfl⟩,aa (by rw [HR.out,pre_nil];rfl),H1,H2,aa (World.ownsRow_nil _ _ _ _)⟩
  case round =>
   obtain ⟨q,l,jq,hq,rfl,hl,⟨oT,cT,rfl⟩,HP,HS,HB,HO⟩:=hrel;by_cases hgo:q<m
   ·have hU:=gh w0 p s c en k jq n wr HS.out;obtain ⟨r,hr⟩:∃r,m-q=r+1:=⟨m-q-1,by omega⟩;cases hu:ru s en jq with
    | error z =>
     rw [hu] at hU;have HU:=aa hU;have HZ:Hid (R=.error z):=aa (by rw [HP.out,hr];exact mS l _ r jq z hu);clear hU hu HP HO;go_wp2_with fail;refine HU.out.mono ?_;rintro e w2 ⟨rfl,hb⟩;exact ⟨rfl,by rw [HZ.out];exact ⟨rfl,hb⟩⟩
    | ok v =>
     obtain ⟨y,j2⟩:=v;rw [hu] at hU;have HU:=aa hU;have HZ:Hid (R=pre (l++[y]) (rep (ru s en) (m-(q+1)) j2)):=aa (by rw [HP.out,hr,pre_on l _ r jq y j2 hu,show m-(q+1)=r by omega]);clear hU hu HP;go_wp2_with fail;refine HU.out.mono ?_;rintro e w2 ⟨⟨v,rfl,hv⟩,h1,h2⟩;have hv:v=.int .i64 y:=hv;subst hv;have aU:=aa ((fA HO.out hpw h2).alloc (.cells #[.int .i64 y] 3));have HN:=aa (qU w2 (.int .i64 y) 3);have HB2:=aa ((HB.out.trans h2).trans (But.of p (aD w2 (.cells #[.int .i64 y] 3))));have az:=aa (h1.on (aD w2 (.cells #[.int .i64 y] 3)));have bY:Hid (w.heap.size<=w2.heap.size):=aa (Nat.le_trans HB.out.size h2.size);clear h1 h2 HU HO HS HB;obtain ⟨i0,hi,hz0,hz1,hz2⟩:=info_parts qV;go_wp2_with (first|(at_builtin;refine iN rfl _ _ 29 rfl w.heap.size 3 i0 _ 1 8 Tryz.underlying29 hi hz0 hz1 hz2 rfl (by decide) _ _ _ rfl aU.out (some ⟨w2.heap.size,0,none⟩) 1 1 [.int .i64 y] rfl ?c6 ?c0 ?c1 ?c2 ?c3 ?c4 ?c5 ?_))
     case c6=>intro h;cases h
     case c0=>rfl
     case c1=>exact fun ad h=>by injection h with h;subst h;exact HN.out
     case c2=>exact fun u hu=>by rw [List.mem_singleton.1 hu];rfl
     case c3=>unfold maxLen;omega
     case c4=>omega
     case c5=>have:=bY.out;simp;omega
     intro v9 w9 aW aP _;have aS:∀q',(Value.slice oT q cT).ownBlock=some q'->w.heap.size<=q':=fun q' hq'=>(aU.out.lt q' hq').1;have bP:=aa (az.out.grown aP (fun q' hq'=>Nat.lt_of_lt_of_le hpw (aS q' hq')));have cG:=aa (But.grown (p:=p) HB2.out aP aS);have dF:Hid (w9.ownsRow w.heap.size 3 1 v9 (q+1) ((l++[y]).map fun z=>Value.int .i64 z)):=aa (by rw [List.map_append];exact aW);have hsl:=fU aW;clear aW aP aS aU HN HB2 az;obtain ⟨oN,cN,rfl⟩:=hsl;go_wp2;go_roundw
     case rel=>exact ⟨q+1,l++[y],j2,by omega,by go_num,by simp [hl],⟨_,_,rfl⟩,HZ,bP,cG,dF⟩
     case measure=>simp [RowKit.intOf];omega
   ·obtain rfl:q=m:=by omega
    have HZ:Hid (R=.ok (l,jq)):=aa (by rw [HP.out,Nat.sub_self];exact mU l _ jq);have HV:Hid (jN w.heap.size l (.slice oT q cT) wr):=aa (vZ (l:=l) (by rw [hl];exact HO.out) (by omega));clear HP HO;go_wp2;go_ret;rw [HZ.out];exact ⟨⟨_,rfl,HV.out⟩,HS.out,HB.out⟩
section
variable (w0:World) (p:Nat) (s:ByteArray) (c:Nat->Value) (en k i n:Nat) (w:World) (h:RS w0 p s c en k i n w)
include h
theorem F4 (bits:Int) (hbt:bits=32\/bits=64):Calls Tryz.prog 102 #[.pointer (some ⟨p,0,none⟩),.int .i64 bits] w (bw w0 p s c en k n fS w (rs s en bits i)):=by
 have c0:=h.cell 0 _ rfl;have c1:=h.cell 1 _ rfl;have c2:=h.cell 2 _ rfl;have hle:=h.len;have hz:(s.extract 0 en).size=en:=by rw [ByteArray.size_extract];omega
 have HU:=fun u=>aa (c16 (s.extract 0 en) i bits u (by have:=h.big;omega));have H:=aa h;have ht:((en:Int).toNat)=en:=by omega
 unfold rs;obtain ⟨N,hN⟩:∃N,N=(ae.eU (s.extract 0 en) i bits).1:=⟨_,rfl⟩;obtain ⟨J,hJ⟩:∃J,J=(ae.eU (s.extract 0 en) i bits).2.1:=⟨_,rfl⟩;obtain ⟨E,hE⟩:∃E,E=(ae.eU (s.extract 0 en) i bits).2.2:=⟨_,rfl⟩;have hok:=CO (s.extract 0 en) i bits;rw [<- hN,<- hJ,<- hE,hz] at hok;rw [<- hN,<- hJ,<- hE];simp only [<- hN,<- hJ,<- hE] at HU;clear hN hJ hE h;by_cases he:E=0
 ·rw [if_pos he];obtain ⟨b1,b2,b3,b4,_⟩:=hok he;obtain ⟨j,rfl⟩:∃j:Nat,J=(j:Int):=⟨J.toNat,by omega⟩;subst he;have pg:((j:Int).toNat)=j:=by omega
  rw [pg];have HB:Hid (j<=en):=aa (by omega);clear hok hz pg b1 b2;go_enter Tryz.func102,Tryz.ntmps102;go_wp2_with fail;go_region_with (first|(go_at_call 108;refine (HU _).out.mono ?_;rintro e u ⟨rfl,hb⟩))
  all_goals (
   have HB1:=aa hb;have HR:=aa ((H.out.on (bN w 1)).on hb);have f1:=HR.out.ag 1;have d1:=HR.out.cell 1 _ rfl;have vn:Hid (But p w u):=aa ((But.of p (gV w)).trans (But.of p hb));clear hb HU HB1;go_wp2_with fail;refine (bH _ _).mono ?_;rintro e u2 ⟨rfl,rfl⟩;go_wp2;go_ret;exact ⟨⟨_,rfl,rfl⟩,HR.out.at_ HB.out,vn.out.trans (But.set p 1 _ _)⟩)
 ·rw [if_neg he];have hq:(E == 0)=false:=by rw [beq_eq_false_iff_ne];exact he
  clear hok hz;go_enter Tryz.func102,Tryz.ntmps102;go_wp2_with fail;go_region_with (first|(go_at_call 108;refine (HU _).out.mono ?_;rintro e u ⟨rfl,hb⟩))
  all_goals (
   have HB1:=aa ((H.out.below.drew).trans (hb.mono (by have:=H.out.below.size;simp;omega)));clear hb HU;go_wp2_with fail;refine (eZ _ _).mono ?_;rintro e u2 ⟨rfl,rfl⟩;exact ⟨rfl,rfl,HB1.out⟩)
end
end Go.Proofs.YtegboefdolfdgaaGreatDoor
