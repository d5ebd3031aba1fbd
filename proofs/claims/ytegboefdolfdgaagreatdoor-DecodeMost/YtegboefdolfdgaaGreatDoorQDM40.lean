/- Texts that the claim needs. -/
import Derived.Test.YtegboefdolfdgaaGreatDoorQDM37
import Derived.Test.YtegboefdolfdgaaGreatDoorQDM39
import Derived.Test.YtegboefdolfdgaaGreatDoorQDM29
import Derived.Deep.MidRow
import Derived.Test.YtegboefdolfdgaaGreatDoorRows
import Derived.Test.YtegboefdolfdgaaGreatDoorQDM0
import Derived.Test.YtegboefdolfdgaaGreatDoorQDM1
import Derived.Test.YtegboefdolfdgaaGreatDoorQDM2
import Derived.WalkKit
import Derived.WalkSpells
import Derived.BigQuiet
import Derived.Deep.QuietTactic
import Derived.Laws.BytesArg
import Derived.Deep.RegionLaw
import Derived.Test.YtegboefdolfdgaaGreatDoorQDM12
import Derived.Lib.LaidIn
import Derived.Lib.LaidU8T
import Derived.ProofKit
namespace Go.Proofs.YtegboefdolfdgaaGreatDoor
open Go.RowKit aA ai
set_option linter.unusedVariables false
namespace ai
theorem LG {s:ByteArray} {id:Int} {st st':Sg} {en i j:Nat} (h0:0<=id) (h1:id<=11) (he:en<=s.size) (hf:st.m.funcs.length<=4096) (h:bB s id st en i=.ok (st',j)):st'.m.funcs.length<=4096:=by
 by_cases h10:id=10
 ·subst h10
  have h':(match gQ s en st.m.funcs.length i st.cnt with
   | .ok (fs,j,n)=>(.ok (⟨{ st.m with funcs:=List.zipWith nY st.m.funcs fs },st.m.funcs.length,n⟩,j):R Sg)
   | .error z=>.error z)=.ok (st',j):=h
  cases hr:gQ s en st.m.funcs.length i st.cnt with
  | error z=>rw [hr] at h';cases h'
  | ok v =>
   obtain ⟨fs,k,n⟩:=v;rw [hr] at h';cases h';show (List.zipWith nY st.m.funcs fs).length<=4096;rw [List.length_zipWith];omega
 ·by_cases h3:id=3
  ·subst h3;obtain ⟨a,k,h2,h3⟩:=fJ (show bd _ _=_ from h);cases h3;show (a.map uI).length<=4096;rw [List.length_map];exact Fz he h2
  ·rw [(FA h0 h1 h).2.2 h10 h3];exact hf
theorem FC (s:ByteArray):∀(f:Nat) (last:Int) (st:Sg) (i:Nat) (st':Sg) (j:Nat),st.m.funcs.length<=4096->wh s f last st i=some (.ok (st',j))->st'.m.funcs.length<=4096
 | 0,last,st,i,st',j,hf,h=>by cases h
 | f+1,last,st,i,st',j,hf,h=>by
  unfold wh lg at h;by_cases hi:i<s.size
  ·rw [if_pos hi] at h;have hn:nx s s.size i=.ok (ae.bt s i,i+1):=by unfold nx;rw [if_pos hi]
   have hb:=ae.lQ s i;rw [hn] at h;simp only [] at h;by_cases h1:11<ae.bt s i
   ·rw [if_pos h1] at h;cases h
   ·rw [if_neg h1] at h;by_cases h2:ae.bt s i≠0/\¬ last<ae.bt s i
    ·rw [if_pos h2] at h;cases h
    ·rw [if_neg h2,if_pos (show uJ (ae.bt s i)=true from decide_eq_true ⟨by omega,by omega⟩)] at h;cases hz:dZ (bB s (ae.bt s i)) s st s.size (i+1) with
     | error z=>rw [hz] at h;cases h
     | ok v =>
      obtain ⟨st2,m⟩:=v;rw [hz] at h;refine FC s f _ st2 m st' j ?_ h;unfold dZ at hz;obtain ⟨z,j,h3,h4⟩:=fJ hz;obtain ⟨VA,m2,h5,h6⟩:=fJ h4;by_cases hm:m2=j+z.toNat
      ·rw [if_pos hm] at h6;cases h6;exact LG (by omega) (by omega) (Nat.min_le_left _ _) hf h5
      ·rw [if_neg hm] at h6;cases h6
  ·rw [if_neg hi] at h;by_cases hc:Sg.codes st=qi st
   ·rw [if_pos hc] at h;cases h;exact hf
   ·rw [if_neg hc] at h;cases h
theorem LH {s:ByteArray} {st:Sg} {j:Nat} (h:lh s=.ok (st,j)):st.m.funcs.length<=4096:=by
 have hr:=Cr s;rw [h] at hr;by_cases h1:262144<s.size
 ·rw [if_pos h1] at hr;cases hr
 ·rw [if_neg h1] at hr;by_cases h2:pfx s=false
  ·rw [if_pos h2] at hr;cases hr
  ·rw [if_neg h2] at hr;exact FC s _ _ _ _ _ _ (by decide) hr
def zX:R Sg->Int
 | .error z=>z
 | .ok _=>0
def mX:R Sg->Mod 81
 | .error _=>AZ
 | .ok (st,_)=>st.m
theorem LJ (w:World):pX w 81 (.slice none 0 0) (.slice none 0 0) (.slice none 0 0) (.slice none 0 0) (.slice none 0 0) (.slice none 0 0) (.slice none 0 0) (.slice none 0 0) (.slice none 0 0) (.slice none 0 0) AZ:=FD (Cs 0 w) (by decide)
theorem LK {w u:World} {s:ByteArray} {e:Ending} (h:qj MM w (lh s) e u):∃v0 v1 v2 v3 v4 v5 v6 v7 v8 v9,e=.returned (.tuple #[.agg #[v0,v1,v2,v3,v4,v5,v6,v7,v8,v9],.int .i64 (zX (lh s))])/\pX u 81 v0 v1 v2 v3 v4 v5 v6 v7 v8 v9 (mX (lh s))/\Below w.heap.size w u:=by
 obtain ⟨hb,h⟩:=h;cases hr:lh s with
 | error z=>rw [hr] at h;exact ⟨_,_,_,_,_,_,_,_,_,_,h,LJ u,hb⟩
 | ok v =>
  obtain ⟨st,j⟩:=v;rw [hr] at h;obtain ⟨p,c,k,n,hM,he⟩:=h;exact ⟨_,_,_,_,_,_,_,_,_,_,he,FD hM (by have:=LH hr;omega),hb⟩
theorem FE (u:World) (vs:Array Value):(u.alloc (.cells vs 33)).heap[u.heap.size]?=some (.cells vs 33 (0,0))/\Below u.heap.size u (u.alloc (.cells vs 33)):=⟨fB _ _ rfl,aD _ _⟩
theorem FF {u u2:World} {g:Nat} {vs:Array Value} (h:u.heap[g]?=some (.cells vs 33 (0,0))) (hb:Below u.heap.size u u2):u2.heap[g]?=some (.cells vs 33 (0,0)):=by
 rw [hb.block _ (Array.getElem?_eq_some_iff.1 h).1];exact h
end ai
end Go.Proofs.YtegboefdolfdgaaGreatDoor
namespace Go.Proofs.YtegboefdolfdgaaGreatDoor
open Go.RowKit
set_option maxRecDepth 100000
set_option maxHeartbeats 1000000
theorem Gs:(Tryz.prog.info? 5).map (fun i=>(i.zero,i.size,i.bytes))=some (some (.int .u8 0),1,1):=by kernel_rfl
theorem Gt {w:World} {base:Nat} {v:Value} {n:Nat} {xs:List Int} (h:w.ownsRow base 5 1 v n (xs.map (Value.int .u8))) (hn:0<n) :
  ∃g cap,v=.slice (some ⟨g,0,none⟩) n cap/\(convert 41 9 (.slice (some ⟨g,0,none⟩) n cap)).run Tryz.prog w=.ok (.string (strOfNums xs)) w:=by
 have hl:=h.1;simp only [List.length_map,Nat.mul_one] at hl;rcases h.2 with ⟨_,h0⟩|⟨g,cap,cur,hv,_⟩
 ·omega
 ·refine ⟨g,cap,hv,?_⟩;subst hv;refine run_convert_bytes_arg w 41 5 Tryz.underlying41 Tryz.underlying5 g 0 n cap xs hl (fun i hi=>?_) 9 Tryz.underlying9
  have:=h.cellAt i (by omega)
  rw [Nat.zero_add,this];have hi':i<xs.length:=by omega
  simp [List.getElem?_eq_getElem hi',List.getD]
theorem yc {w wr w1:World} {base B:Nat} {v v':Value} {bs:List Int} {x:Int} {o:Obj} (hown:wr.ownsRow base 5 1 v bs.length (bs.map (Value.int .u8)))
  (hown':w1.ownsRow base 5 1 v' (bs.length+1) (bs.map (Value.int .u8)++[.int .u8 x])) (hgrow:(wr.alloc o).grownBy w1 v.ownBlock) (hbel:Below B w wr) (hB:B<=base) (hs:B<=wr.heap.size) :
  w1.ownsRow base 5 1 v' (bs++[x]).length ((bs++[x]).map (Value.int .u8))/\Below B w w1 :=
 ⟨by simpa using hown',(hbel.alloc hs o).grown hgrow (by simp;omega) (fun j hj=>by have:=(hown.lt j hj).1;omega)⟩
theorem s5 (w:World) (x:Value) (t:TypeId):∀(j:Nat) (u:Value),[x][j]?=some u->(w.alloc (.cells #[x] t)).cell? ((⟨w.heap.size,0,none⟩:Addr).add j)=some u:=by
 intro j u hj
 match j,hj with
 | 0,hj=>simp at hj;subst hj;simp [Addr.add]
theorem OX (w:World) (x y:Value) (t:TypeId):∀(j:Nat) (u:Value),[x,y][j]?=some u->(w.alloc (.cells #[x,y] t)).cell? ((⟨w.heap.size,0,none⟩:Addr).add j)=some u:=by
 intro j u hj
 match j,hj with
 | 0,hj=>simp at hj;subst hj;simp [Addr.add]
 | 1,hj=>simp at hj;subst hj;simp [Addr.add]
theorem OY {w wr w1:World} {base B:Nat} {v v':Value} {bs:List Int} {x y:Int} {o:Obj} (hown:wr.ownsRow base 5 1 v bs.length (bs.map (Value.int .u8)))
  (hown':w1.ownsRow base 5 1 v' (bs.length+2) (bs.map (Value.int .u8)++[.int .u8 x,.int .u8 y])) (hgrow:(wr.alloc o).grownBy w1 v.ownBlock) (hbel:Below B w wr) (hB:B<=base) (hs:B<=wr.heap.size) :
  w1.ownsRow base 5 1 v' (bs++[x,y]).length ((bs++[x,y]).map (Value.int .u8))/\Below B w w1 :=
 ⟨by simpa using hown',(hbel.alloc hs o).grown hgrow (by simp;omega) (fun j hj=>by have:=(hown.lt j hj).1;omega)⟩
theorem OZ (w:World) (x:Int):(w.alloc (.cells #[.int .u8 x] 5)).ownsRow w.heap.size 5 1 (.slice (some ⟨w.heap.size,0,none⟩) 1 1) [x].length ([x].map (Value.int .u8)) :=
 ⟨rfl,.inr ⟨_,1,_,rfl,Nat.le_refl _,fB _ _ rfl,Nat.le_refl _,by unfold maxLen;omega,rfl,rfl⟩⟩
theorem Gu (n:Int) (w:World) (h0:0<=n) (h1:n<=18446744073709551615) :
  Calls Tryz.prog 9 #[.int .u64 n] w fun e w'=>e=.returned (.string (strOfNums (ae.uB n)))/\Below w.heap.size w w':=by
 obtain ⟨i0,hi,hz0,hz1,hz2⟩:=info_parts Gs;go_enter Tryz.func9,Tryz.ntmps9;go_wp2
 go_loopw [0,3] (fun x v wr=>∃(m:Int) (bs:List Int),0<=m/\m<=18446744073709551615/\x=.int .u64 m/\bs++ae.uB m=ae.uB n/\wr.ownsRow w.heap.size 5 1 v bs.length (bs.map (Value.int .u8))/\Below w.heap.size w wr)
  (fun x _ _=>(RowKit.intOf x).toNat)
 case atStart=>exact ⟨n,[],h0,h1,rfl,rfl,World.ownsRow_nil _ _ _ _,Below.refl _ _⟩
 case round =>
  obtain ⟨m,bs,hm0,hm1,rfl,hbs,hown,hbel⟩:=hrel;have hlen:bs.length+(ae.uB m).length<=10:=by rw [<- List.length_append,hbs];exact ae.C9 h0 h1
  have hpos:=ae.Gr m;have HB:Hid (bs++ae.uB m=ae.uB n):=hbs;clear hbs;have hsz:=hbel.size;by_cases hlt:m<128
  ·go_wp2_with (first|(at_builtin;refine wpList_append_own _ rfl _ _ 41 rfl w.heap.size 5 i0 (.int .u8 0) 1 1 Tryz.underlying41 hi hz0 hz1 hz2 rfl (by decide) _ _ _ rfl (hown.alloc _) ⟨wr.heap.size,0,none⟩ 1 1 [.int .u8 m] rfl rfl (s5 _ _ _) ?c2 ?c3 ?c4 ?c5 ?_))
   case c2=>intro u hu;simp at hu;subst hu;rfl
   case c3=>unfold maxLen;omega
   case c4=>omega
   case c5=>first|omega|(simp;omega)
   intro v' w1 hown' hgrow _;obtain ⟨ho,hb⟩:=yc hown hown' hgrow hbel (Nat.le_refl _) hsz;have hfin:bs++[m]=ae.uB n:=by rw [<- HB.out,ae.C8 hm0 hlt]
   rw [hfin] at ho;clear HB hown hown' hgrow hbel hfin;obtain ⟨g,cap,rfl,hcv⟩:=Gt ho (ae.Gr n);clear ho;go_wp2;go_ret;exact ⟨rfl,hb⟩
  ·have oZ:bits .or .u8 (m%256) 128=m%128+128:=by rw [ae.O0 _ (by omega) (by omega)];omega
   go_wp2_with (first|(at_builtin;refine wpList_append_own _ rfl _ _ 41 rfl w.heap.size 5 i0 (.int .u8 0) 1 1 Tryz.underlying41 hi hz0 hz1 hz2 rfl (by decide) _ _ _ rfl (hown.alloc _) ⟨wr.heap.size,0,none⟩ 1 1 [.int .u8 (m%128+128)] rfl rfl (s5 _ _ _) ?d2 ?d3 ?d4 ?d5 ?_))
   case d2=>first|rfl|(intro u hu;simp at hu;subst hu;rfl)
   case d3=>unfold maxLen;omega
   case d4=>omega
   case d5=>first|omega|(simp;omega)
   intro v' w1 hown' hgrow _;obtain ⟨ho,hb⟩:=yc hown hown' hgrow hbel (Nat.le_refl _) hsz;have hfin:(bs++[m%128+128])++ae.uB (m / 128)=ae.uB n:=by rw [<- HB.out,ae.Gp (by omega:128<=m)];simp
   have O1:Hid ((bs++[m%128+128])++ae.uB (m / 128)=ae.uB n):=hfin;clear HB hown hown' hgrow hbel hfin;go_wp2;go_roundw
   case rel=>exact ⟨m / 128,bs++[m%128+128],by omega,by omega,rfl,O1.out,ho,hb⟩
   case measure=>simp [RowKit.intOf];omega
end Go.Proofs.YtegboefdolfdgaaGreatDoor
namespace Go.Proofs.YtegboefdolfdgaaGreatDoor
open Go.RowKit aA ai
set_option linter.unusedVariables false
set_option maxRecDepth 100000
set_option maxHeartbeats 16000000
namespace ai
def CB (w:World) (v:Value) (L:Nat) (wr:World):Prop:=∃bs:List Int,bs.length=L/\wr.ownsRow w.heap.size 5 1 v bs.length (bs.map (Value.int .u8))/\Below w.heap.size w wr
def mG (o:Option Addr) (L cap:Nat) (A C:ByteArray):Nat->Value
 | 0=>.slice o L cap
 | 1=>.int .i64 (L:Int)
 | 2=>.int .u64 (L:Int)
 | 3=>.string A
 | 4=>.slice o L cap
 | 5=>.string C
 | _=>.string (A++C)
theorem SK {z:Nat} (h:z<=70010):IntKind.u64.wrap ((z:Int)+1)=(z:Int)+1:=by unfold IntKind.wrap;simp [IntKind.bits];omega
theorem SN {z:Nat} (h:z<=70010):wrap64 ((z:Int)+1)=(z:Int)+1:=by unfold wrap64;omega
theorem BL {z:Nat} (h:z<=70010):0<=(z:Int)+1/\(z:Int)+1<=18446744073709551615:=by omega
theorem SQ {z:Nat} (h:z<=70010):(strOfNums (ae.uB ((z:Int)+1))).size<=10:=by rw [strOfNums_size];exact ae.C9 (BL h).1 (BL h).2
theorem SR {B I:ByteArray} (hB:B.size<=10) (hI:I.size<=70010):(⟨#[0,97,115,109,1,0,0,0,1,4,1,96,0,0,3,2,1,0,10]⟩++B++⟨#[1]⟩++I:ByteArray).size<=200000:=by
 rw [ByteArray.size_append,ByteArray.size_append,ByteArray.size_append]
 have:(⟨#[0,97,115,109,1,0,0,0,1,4,1,96,0,0,3,2,1,0,10]⟩:ByteArray).size=19:=rfl
 have:(⟨#[1]⟩:ByteArray).size=1:=rfl
 omega
theorem SS {B I:ByteArray} (hB:B.size<=10) (hI:I.size<=70010):¬ 9223372036854775807<19+B.size+1+I.size:=by omega
theorem SU {x:List Value} (h:x.length=7):∃x0 x1 x2 x3 x4 x5 x6,x = [x0,x1,x2,x3,x4,x5,x6]:=by
 match x,h with
 | [x0,x1,x2,x3,x4,x5,x6],_=>exact ⟨x0,x1,x2,x3,x4,x5,x6,rfl⟩
end ai
theorem SV (n0 d0 b0:Int) (w:World) (hI:iW w) (hb0:0<=b0) (hb1:b0<=255) :
  Calls Tryz.prog 4 #[.int .i64 n0,.int .i64 d0,.int .u8 b0] w fun e w'=>e=.returned (.bool true)/\Below w.heap.size w w':=by
 have HI:=aa hI;clear hI;obtain ⟨i0,hi,hz0,hz1,hz2⟩:=info_parts Gs;by_cases hw:n0<0\/66000<n0\/d0<0\/80<d0
 ·have VU:=HI;by_cases a1:n0<0
  ·have q1:decide (n0<0)=true:=decide_eq_true a1;go_enter Tryz.func4,Tryz.ntmps4;go_wp2_with fail;refine (Ab _ HI.out).mono ?_;rintro e u3 ⟨rfl,hb3⟩;have bQ:=aa hb3;clear hb3;go_wp2;go_ret;exact ⟨rfl,bQ.out⟩
  by_cases a2:66000<n0
  ·have q1:decide (n0<0)=false:=decide_eq_false a1;have q2:decide (n0 > 66000)=true:=decide_eq_true a2;go_enter Tryz.func4,Tryz.ntmps4;go_wp2_with fail;refine (Ab _ HI.out).mono ?_;rintro e u3 ⟨rfl,hb3⟩;have bQ:=aa hb3;clear hb3;go_wp2;go_ret;exact ⟨rfl,bQ.out⟩
  by_cases a3:d0<0
  ·have q1:decide (n0<0)=false:=decide_eq_false a1;have q2:decide (n0 > 66000)=false:=decide_eq_false a2;have q3:decide (d0<0)=true:=decide_eq_true a3;go_enter Tryz.func4,Tryz.ntmps4;go_wp2_with fail;refine (Ab _ HI.out).mono ?_;rintro e u3 ⟨rfl,hb3⟩;have bQ:=aa hb3;clear hb3;go_wp2;go_ret;exact ⟨rfl,bQ.out⟩
  have q1:decide (n0<0)=false:=decide_eq_false a1;have q2:decide (n0 > 66000)=false:=decide_eq_false a2;have q3:decide (d0<0)=false:=decide_eq_false a3;have q4:decide (d0 > 80)=true:=decide_eq_true (by omega);go_enter Tryz.func4,Tryz.ntmps4;go_wp2_with fail;refine (Ab _ HI.out).mono ?_;rintro e u3 ⟨rfl,hb3⟩;have bQ:=aa hb3;clear hb3;go_wp2;go_ret;exact ⟨rfl,bQ.out⟩
 obtain ⟨n,rfl⟩:∃n:Nat,n0=(n:Int):=⟨n0.toNat,by omega⟩;obtain ⟨d,rfl⟩:∃d:Nat,d0=(d:Int):=⟨d0.toNat,by omega⟩;have q1:decide ((n:Int)<0)=false:=decide_eq_false (by omega);have q2:decide ((n:Int) > 66000)=false:=decide_eq_false (by omega);have q3:decide ((d:Int)<0)=false:=decide_eq_false (by omega);have q4:decide ((d:Int) > 80)=false:=decide_eq_false (by omega);have hn:n<=66000:=by omega
 have hd:d<=80:=by omega
 clear hw;have pU:Hid (CB w (.slice (some ⟨w.heap.size,0,none⟩) 1 1) 1 (w.alloc (.cells #[.int .u8 0] 5))):=aa ⟨[0],rfl,OZ w 0,aD _ _⟩;go_enter Tryz.func4,Tryz.ntmps4;go_wp2_with fail;generalize hv0:(Value.slice (some ⟨w.heap.size,0,none⟩) 1 1)=v0 at *;clear hv0;generalize w.alloc (.cells #[.int .u8 0] 5)=wc at *;go_loopw [7,8] (fun v x wr=>∃k:Nat,k<=n/\x=.int .i64 k/\Hid (CB w v (1+k) wr)) (fun _ x _=>n-(RowKit.intOf x).toNat)
 case atStart=>exact ⟨0,by omega,rfl,pU⟩
 case round =>
  clear pU;obtain ⟨k,hk,rfl,HC⟩:=hrel;obtain ⟨bs,hbl,hown,hbel⟩:=HC.out;have HO:=aa hown;have bh:=aa hbel;have HL:=aa hbl;obtain ⟨ov,cv,rfl⟩:=fU hown;clear hown hbel hbl HC;by_cases hkn:k<n
  ·have dl:decide ((k:Int)<(n:Int))=true:=decide_eq_true (by omega);have hwk:wrap64 ((k:Int)+1)=(k:Int)+1:=by unfold wrap64;omega
   have hlb:bs.length<=70000:=by have:=HL.out;omega
   have hsz:=bh.out.size;go_wp2_with (first|(at_builtin;refine wpList_append_own _ rfl _ _ 41 rfl w.heap.size 5 i0 (.int .u8 0) 1 1 Tryz.underlying41 hi hz0 hz1 hz2 rfl (by decide) _ _ _ rfl (HO.out.alloc _) ⟨wr.heap.size,0,none⟩ 1 1 [.int .u8 1] rfl rfl (s5 _ _ _) ?c2 ?c3 ?c4 ?c5 ?_))
   case c2=>first|rfl|(intro u hu;simp at hu;rcases hu with rfl|rfl<;>rfl)|(intro u hu;simp at hu;subst hu;rfl)
   case c3=>unfold maxLen;omega
   case c4=>omega
   case c5=>first|omega|(simp;omega)
   intro v1 w1 hown1 hgrow _;have mL:=yc HO.out hown1 hgrow bh.out (Nat.le_refl _) bh.out.size;have mM:=aa mL.1;have HB1:=aa mL.2;clear hown1 hgrow mL HO bh;have HN:Hid (CB w v1 (1+(k+1)) w1):=aa ⟨bs++[1],by rw [List.length_append,HL.out];rfl,mM.out,HB1.out⟩;clear mM HB1 HL hlb hsz;go_wp2;go_roundw
   case rel=>exact ⟨k+1,by omega,by first|rfl|go_num,HN⟩
   case measure=>simp [RowKit.intOf];omega
  ·obtain rfl:k=n:=by omega
   have dl:decide ((k:Int)<(k:Int))=false:=by simp
   have tT:Hid (CB w (.slice ov bs.length cv) (1+k) wr):=aa ⟨bs,HL.out,HO.out,bh.out⟩;obtain ⟨L,hL⟩:∃L,bs.length=L:=⟨_,rfl⟩;rw [hL] at tT ⊢;clear HO bh HL hL bs;go_wp2_with fail;generalize hv0:(Value.slice ov L cv)=v0 at *;clear hv0;go_loopw [7,9] (fun v x wr=>∃j:Nat,j<=d/\x=.int .i64 j/\Hid (CB w v (1+k+2*j) wr)) (fun _ x _=>d-(RowKit.intOf x).toNat)
   case atStart=>exact ⟨0,by omega,rfl,tT⟩
   case round =>
    clear tT;obtain ⟨j,hj,rfl,HC⟩:=hrel;obtain ⟨bs,hbl,hown,hbel⟩:=HC.out;have HO:=aa hown;have bh:=aa hbel;have HL:=aa hbl;obtain ⟨ov,cv,rfl⟩:=fU hown;have hlb:bs.length<=70000:=by omega
    clear hown hbel hbl HC;by_cases hjd:j<d
    ·have dl:decide ((j:Int)<(d:Int))=true:=decide_eq_true (by omega);have hwk:wrap64 ((j:Int)+1)=(j:Int)+1:=by unfold wrap64;omega
     have hsz:=bh.out.size;go_wp2_with (first|(at_builtin;refine wpList_append_own _ rfl _ _ 41 rfl w.heap.size 5 i0 (.int .u8 0) 1 1 Tryz.underlying41 hi hz0 hz1 hz2 rfl (by decide) _ _ _ rfl (HO.out.alloc _) ⟨wr.heap.size,0,none⟩ 2 2 [.int .u8 2,.int .u8 64] rfl rfl (OX _ _ _ _) ?c2 ?c3 ?c4 ?c5 ?_))
     case c2=>first|rfl|(intro u hu;simp at hu;rcases hu with rfl|rfl<;>rfl)|(intro u hu;simp at hu;subst hu;rfl)
     case c3=>unfold maxLen;omega
     case c4=>omega
     case c5=>first|omega|(simp;omega)
     intro v1 w1 hown1 hgrow _;have mL:=OY HO.out hown1 hgrow bh.out (Nat.le_refl _) bh.out.size;have mM:=aa mL.1;have HB1:=aa mL.2;clear hown1 hgrow mL HO bh;have HN:Hid (CB w v1 (1+k+2*(j+1)) w1):=aa ⟨bs++[2,64],by rw [List.length_append,HL.out];simp;omega,mM.out,HB1.out⟩;clear mM HB1 HL hlb hsz;go_wp2;go_roundw
     case rel=>exact ⟨j+1,by omega,by first|rfl|go_num,HN⟩
     case measure=>simp [RowKit.intOf];omega
    ·obtain rfl:j=d:=by omega
     have dl:decide ((j:Int)<(j:Int))=false:=by simp
     have hsz:=bh.out.size;go_wp2_with (first|(at_builtin;refine wpList_append_own _ rfl _ _ 41 rfl w.heap.size 5 i0 (.int .u8 0) 1 1 Tryz.underlying41 hi hz0 hz1 hz2 rfl (by decide) _ _ _ rfl (HO.out.alloc _) ⟨wr.heap.size,0,none⟩ 1 1 [.int .u8 b0] rfl rfl (s5 _ _ _) ?c2 ?c3 ?c4 ?c5 ?_))
     case c2=>first|rfl|(intro u hu;simp at hu;rcases hu with rfl|rfl<;>rfl)|(intro u hu;simp at hu;subst hu;rfl)
     case c3=>unfold maxLen;omega
     case c4=>omega
     case c5=>first|omega|(simp;omega)
     intro v1 w1 hown1 hgrow _;have mL:=yc HO.out hown1 hgrow bh.out (Nat.le_refl _) bh.out.size;have mM:=aa mL.1;have HB1:=aa mL.2;clear hown1 hgrow mL HO bh;have cJ:Hid (CB w v1 (2+k+2*j) w1):=aa ⟨bs++[b0],by rw [List.length_append,HL.out];simp;omega,mM.out,HB1.out⟩;clear mM HB1 HL hlb hsz;go_wp2_with fail;go_loopw [7,10] (fun v x wr=>∃m:Nat,m<=j+1/\x=.int .i64 m/\Hid (CB w v (2+k+2*j+m) wr)) (fun _ x _=>j+1-(RowKit.intOf x).toNat)
     case atStart=>exact ⟨0,by omega,rfl,cJ⟩
     case round =>
      clear cJ;obtain ⟨m,hm,rfl,HC⟩:=hrel;obtain ⟨bs,hbl,hown,hbel⟩:=HC.out;have HO:=aa hown;have bh:=aa hbel;have HL:=aa hbl;obtain ⟨ov,cv,rfl⟩:=fU hown;have hlb:bs.length<=70000:=by omega
      clear hown hbel hbl HC;by_cases hmd:m<=j
      ·have dl:decide ((m:Int)<=(j:Int))=true:=decide_eq_true (by omega);have hwk:wrap64 ((m:Int)+1)=(m:Int)+1:=by unfold wrap64;omega
       have hsz:=bh.out.size;go_wp2_with (first|(at_builtin;refine wpList_append_own _ rfl _ _ 41 rfl w.heap.size 5 i0 (.int .u8 0) 1 1 Tryz.underlying41 hi hz0 hz1 hz2 rfl (by decide) _ _ _ rfl (HO.out.alloc _) ⟨wr.heap.size,0,none⟩ 1 1 [.int .u8 11] rfl rfl (s5 _ _ _) ?c2 ?c3 ?c4 ?c5 ?_))
       case c2=>first|rfl|(intro u hu;simp at hu;rcases hu with rfl|rfl<;>rfl)|(intro u hu;simp at hu;subst hu;rfl)
       case c3=>unfold maxLen;omega
       case c4=>omega
       case c5=>first|omega|(simp;omega)
       intro v1 w1 hown1 hgrow _;have mL:=yc HO.out hown1 hgrow bh.out (Nat.le_refl _) bh.out.size;have mM:=aa mL.1;have HB1:=aa mL.2;clear hown1 hgrow mL HO bh;have HN:Hid (CB w v1 (2+k+2*j+(m+1)) w1):=aa ⟨bs++[11],by rw [List.length_append,HL.out];rfl,mM.out,HB1.out⟩;clear mM HB1 HL hlb hsz;go_wp2;go_roundw
       case rel=>exact ⟨m+1,by omega,by first|rfl|go_num,HN⟩
       case measure=>simp [RowKit.intOf];omega
      ·have dl:decide ((m:Int)<=(j:Int))=false:=decide_eq_false (by omega);have hpos:0<bs.length:=by have:=HL.out;omega
       clear HL;obtain ⟨L,hL⟩:∃L,bs.length=L:=⟨_,rfl⟩;rw [hL] at hlb hpos ⊢
       have JC:Hid (∀u:World,Below wr.heap.size wr u->(convert 41 9 (.slice ov L cv)).run Tryz.prog u=.ok (.string (strOfNums bs)) u):=aa fun u hb=>by
        obtain ⟨g,cap,h1,h2⟩:=Gt (Ei HO.out hb) (by omega);rw [hL] at h1 h2;rw [h1];exact h2
       have JD:(strOfNums bs).size=L:=by rw [strOfNums_size,hL]
       have hAs:(strOfNums (ae.uB (L:Int))).size<=10:=by rw [strOfNums_size];exact ae.C9 (by omega) (by omega)
       have Ac:=aa (fun u=>Gu (L:Int) u (by omega) (by omega));clear HO hL;generalize strOfNums bs=C at *;generalize strOfNums (ae.uB (L:Int))=A at *;clear bs;go_wp2_with fail;refine af.yF 7 (fun i=>61+i) (fun i v _=>v=mG ov L cv A C i) (by kernel_rfl) (by kernel_rfl) (fun i j h1 h2 h=>by have h':61+i=61+j:=h;omega) (af.tP (size:=98) (by kernel_rfl)) (fun i v w w' _ h _=>h) ?hstep ?fu
       case hstep =>
        intro i o a u hi ho hF hB hd;have f7:a.tmps[7]?.getD undef=.slice ov L cv:=af.av (hF.eval 7 (fun i hi=>by show 61+i≠7;omega));have hcase:i=0\/i=1\/i=2\/i=3\/i=4\/i=5\/i=6:=by omega
        clear hi;rcases hcase with rfl|rfl|rfl|rfl|rfl|rfl|rfl
        all_goals (simp only [List.getElem?_toArray,List.getElem?_cons_succ,List.getElem?_cons_zero,Option.some.injEq] at ho;subst ho;refine af.aR fun K hK=>?_)
        ·go_simp;exact hK _ _ ⟨_,rfl,Below.refl _ _,rfl⟩
        ·have q:a.tmps[61]?.getD undef=.slice ov L cv:=af.av (hd 0 (by decide));go_simp;exact hK _ _ ⟨_,rfl,Below.refl _ _,rfl⟩
        ·have q:a.tmps[62]?.getD undef=.int .i64 (L:Int):=af.av (hd 1 (by decide));have hu:IntKind.u64.wrap (L:Int)=(L:Int):=by unfold IntKind.wrap;simp [IntKind.bits];omega
         go_simp;exact hK _ _ ⟨_,rfl,Below.refl _ _,by first|rfl|(show Value.int .u64 _=Value.int .u64 _;congr 1;omega)⟩
        ·have q:a.tmps[63]?.getD undef=.int .u64 (L:Int):=af.av (hd 2 (by decide));have aL:=aa hK;clear hK;go_simp;refine (Ac.out _).mono ?_;rintro e w3 ⟨rfl,hb3⟩;exact aL.out _ _ ⟨_,rfl,hb3,rfl⟩
        ·go_simp;exact hK _ _ ⟨_,rfl,Below.refl _ _,rfl⟩
        ·have q:a.tmps[65]?.getD undef=.slice ov L cv:=af.av (hd 4 (by decide));have hcv:=JC.out u hB;go_simp;exact hK _ _ ⟨_,rfl,Below.refl _ _,rfl⟩
        ·have q:a.tmps[64]?.getD undef=.string A:=af.av (hd 3 (by decide));have q2:a.tmps[66]?.getD undef=.string C:=af.av (hd 5 (by decide));have hno:¬ 9223372036854775807<A.size+L:=by omega
         go_simp;exact hK _ _ ⟨_,rfl,Below.refl _ _,rfl⟩
       case fu =>
        intro a u hF hB hG;obtain ⟨xl,hxl,rfl,hev⟩:=hF.lit (by simp);obtain ⟨x0,x1,x2,x3,x4,x5,x6,rfl⟩:=SU hxl;have e6:x6=.string (A++C):=(hev 6 (by decide)).symm.trans (hG 6 (by decide));subst e6;have HB2:=aa (cu bh.out hB);have hIs:(A++C).size=A.size+L:=by rw [ByteArray.size_append,JD]
        clear hev hxl hF hG hB bh JC Ac JD;simp only [List.take_succ_cons,List.take_zero,List.drop_succ_cons,List.drop_zero,List.cons_append,List.nil_append];generalize A++C=I at *;have vM:I.size<=70010:=by omega
        have JE:=aa vM;obtain ⟨zI,SW⟩:∃z:Nat,I.size=z:=⟨_,rfl⟩;have JF:=SN vM;have JG:=SK vM;have Ac:=aa (fun u=>Gu ((I.size:Int)+1) u (BL vM).1 (BL vM).2);have Ej:=SQ vM;generalize strOfNums (ae.uB ((I.size:Int)+1))=B at *;clear hIs hAs vM SW hlb hpos hmd hm hjd hj hkn hk hn hd q1 q2 q3 q4 dl hb0 hb1;go_wp2_with fail
        try rw [JF]
        try rw [JG]
        refine (Ac.out _).mono ?_;rintro e u1 ⟨rfl,hb1⟩;have bQ:=aa (cu HB2.out hb1);clear hb1 HB2 Ac;have SZ:=SR Ej JE.out;have S0:=SS Ej JE.out;go_upto_region 19 with fail;generalize (⟨#[0,97,115,109,1,0,0,0,1,4,1,96,0,0,3,2,1,0,10]⟩++B++⟨#[1]⟩++I:ByteArray)=s at *;have H1:=aa (S5 s u1 (by omega) (BM HI.out bQ.out));have H2:=aa (fun u=>RQ s u (by omega));have Ek:=aa (fun w u e=>LK (w:=w) (u:=u) (s:=s) (e:=e));clear SZ Ej JF JG S0;generalize lh s=X at *;generalize zX X=z at *;generalize mX X=md at *;go_wp2_with fail;refine H1.out.mono ?_;intro e u4 Ad;obtain ⟨v0,v1,v2,v3,v4,v5,v6,v7,v8,v9,rfl,hm,hb⟩:=Ek.out _ _ _ Ad;obtain ⟨o0,k0,rfl⟩:=Row.len hm.types;obtain ⟨o1,k1,rfl⟩:=Row.len hm.imports;obtain ⟨o2,k2,rfl⟩:=Row.len hm.funcs;obtain ⟨o3,k3,rfl⟩:=Row.len hm.tables;obtain ⟨o4,k4,rfl⟩:=Row.len hm.dU;obtain ⟨o5,k5,rfl⟩:=Row.len hm.globals;obtain ⟨o6,k6,rfl⟩:=Row.len hm.exports;obtain ⟨o7,k7,rfl⟩:=Row.len hm.start;obtain ⟨o8,k8,rfl⟩:=Row.len hm.elems;obtain ⟨o9,k9,rfl⟩:=Row.len hm.dV;have HM:=aa hm;have HB:=aa (cu bQ.out hb);obtain ⟨n0,hn0⟩:∃n,md.types.length=n:=⟨_,rfl⟩;obtain ⟨n1,pY⟩:∃n,md.imports.length=n:=⟨_,rfl⟩;obtain ⟨n2,jP⟩:∃n,md.funcs.length=n:=⟨_,rfl⟩;obtain ⟨n3,xz⟩:∃n,md.tables.length=n:=⟨_,rfl⟩;obtain ⟨n4,uA⟩:∃n,md.dU.length=n:=⟨_,rfl⟩;obtain ⟨n5,uC⟩:∃n,md.globals.length=n:=⟨_,rfl⟩;obtain ⟨n6,xA⟩:∃n,md.exports.length=n:=⟨_,rfl⟩;obtain ⟨n7,xB⟩:∃n,md.start.length=n:=⟨_,rfl⟩;obtain ⟨n8,xC⟩:∃n,md.elems.length=n:=⟨_,rfl⟩;obtain ⟨n9,xD⟩:∃n,md.dV.length=n:=⟨_,rfl⟩;rw [hn0,pY,jP,xz,uA,uC,xA,xB,xC,xD] at HM ⊢;clear hm hb Ad H1 bQ;obtain ⟨g4,gB⟩:=FE u4 #[.slice o0 n0 k0,.slice o1 n1 k1,.slice o2 n2 k2,.slice o3 n3 k3,.slice o4 n4 k4,.slice o5 n5 k5,.slice o6 n6 k6,.slice o7 n7 k7,.slice o8 n8 k8,.slice o9 n9 k9];have JH:=aa g4;have JI:=aa (HM.out.on gB);have qy:=aa (cu HB.out gB);clear g4 gB HM HB;go_wp2_with fail;generalize u4.alloc (.cells #[.slice o0 n0 k0,.slice o1 n1 k1,.slice o2 n2 k2,.slice o3 n3 k3,.slice o4 n4 k4,.slice o5 n5 k5,.slice o6 n6 k6,.slice o7 n7 k7,.slice o8 n8 k8,.slice o9 n9 k9] 33)=W2 at *;generalize u4.heap.size=g at *;refine (H2.out W2).mono ?_;intro e u2 Ad;obtain ⟨x0,x1,x2,x3,x4,x5,x6,x7,x8,x9,rfl,hm,hb⟩:=Ek.out _ _ _ Ad;obtain ⟨p0,j0,rfl⟩:=Row.len hm.types;obtain ⟨p1,j1,rfl⟩:=Row.len hm.imports;obtain ⟨p2,j2,rfl⟩:=Row.len hm.funcs;obtain ⟨p3,j3,rfl⟩:=Row.len hm.tables;obtain ⟨p4,j4,rfl⟩:=Row.len hm.dU;obtain ⟨p5,j5,rfl⟩:=Row.len hm.globals;obtain ⟨p6,j6,rfl⟩:=Row.len hm.exports;obtain ⟨p7,j7,rfl⟩:=Row.len hm.start;obtain ⟨p8,j8,rfl⟩:=Row.len hm.elems;obtain ⟨p9,j9,rfl⟩:=Row.len hm.dV;have bD:=aa hm;have JJ:=aa (JI.out.on hb);have JK:=aa (FF JH.out hb);have JL:=aa (cu qy.out hb);rw [hn0,pY,jP,xz,uA,uC,xA,xB,xC,xD] at bD ⊢;clear hm hb Ad H2 Ek JI qy JH hn0 pY jP xz uA uC xA xB xC xD;obtain ⟨g4,gB⟩:=FE u2 #[.slice p0 n0 j0,.slice p1 n1 j1,.slice p2 n2 j2,.slice p3 n3 j3,.slice p4 n4 j4,.slice p5 n5 j5,.slice p6 n6 j6,.slice p7 n7 j7,.slice p8 n8 j8,.slice p9 n9 j9];have JM:=aa (bD.out.on gB);have JN:=aa (JJ.out.on gB);have BD:=aa (cu JL.out gB);obtain ⟨c0,c1,c2,c3,c4,c5,c6,c7,c8,c9⟩:=pO (FF JK.out gB);obtain ⟨e0,e1,e2,e3,e4,e5,e6,e7,e8,e9⟩:=pO g4;clear g4 gB bD JJ JK JL;go_upto_region 21 with fail;generalize u2.alloc (.cells #[.slice p0 n0 j0,.slice p1 n1 j1,.slice p2 n2 j2,.slice p3 n3 j3,.slice p4 n4 j4,.slice p5 n5 j5,.slice p6 n6 j6,.slice p7 n7 j7,.slice p8 n8 j8,.slice p9 n9 j9] 33)=W3 at *;generalize u2.heap.size=g3 at *;go_wp2_with fail;refine (S9 81 _ _ _ _ _ _ _ _ _ _ _ _ _ _ _ _ _ _ _ _ md W3 JN.out JM.out).mono ?_;rintro e u3 ⟨rfl,hb3⟩;have bQ:=aa (cu BD.out hb3);clear hb3 BD JN JM c0 c1 c2 c3 c4 c5 c6 c7 c8 c9 e0 e1 e2 e3 e4 e5 e6 e7 e8 e9;go_wp2_with fail;refine (Ab _ (BM HI.out bQ.out)).mono ?_;rintro e u5 ⟨rfl,hb4⟩;have kK:=aa (cu bQ.out hb4);clear hb4 bQ;go_wp2;go_ret;exact ⟨rfl,kK.out⟩
end Go.Proofs.YtegboefdolfdgaaGreatDoor
namespace Go.Proofs.YtegboefdolfdgaaGreatDoor
open Go.RowKit Go.Shelf Go.Lib aA
theorem own:ownKnob Tryz.prog.godebug=none:=by kernel_rfl
theorem Ki:(Rows.laid_unicode_utf8_acceptRanges:DataW Unit)=Lib.acceptData:=by kernel_rfl
theorem Kj:Rows.laid_unicode_utf8_first=Lib.firstData:=by kernel_rfl
theorem Tg {W : World} (hL : laidMetH Tryz.prog [("unicode/utf8.acceptRanges", Rows.laid_unicode_utf8_acceptRanges), ("unicode/utf8.first", Rows.laid_unicode_utf8_first)] W) : iW W := by
 rw [Ki,Kj] at hL;have hM : laidMet Tryz.prog [("unicode/utf8.acceptRanges", Lib.acceptData), ("unicode/utf8.first", Lib.firstData)] W := hL
 exact utf8Tabs_of_readsT (U8Types.of196 Tryz.laysValid) ⟨by kernel_rfl,by kernel_rfl,by kernel_rfl,by kernel_rfl,by kernel_rfl,by kernel_rfl,by kernel_rfl⟩ (Lib.laidMet.reads hM (.tail _ (.head _))) (Lib.laidMet.reads hM (.head _))
noncomputable def En (os:Os):World :=
 let w0:=World.holding Tryz.prog os ⟨#[],#[],[]⟩
 let put (h:Array Obj) (g:Nat) (cs:Array Value):Array Obj:=h.modify g fun
  | .cells _ t frozen=>.cells cs t frozen
  | o=>o
 let h1:=put w0.heap 0 (Lib.firstTab.map fun z=>Value.int .u8 z).toArray
 let h2:=put h1 1 ((List.range 16).flatMap fun i=>[Value.int .u8 (Lib.accLo i),Value.int .u8 (Lib.accHi i)]).toArray
 { w0 with heap:=h2 }
theorem Ti (os : Os) (args : Array Value) : laidMet Tryz.prog [("unicode/utf8.acceptRanges", Rows.laid_unicode_utf8_acceptRanges), ("unicode/utf8.first", Rows.laid_unicode_utf8_first)] ((En os).forCall (fun _ _ => 0) ⟨#[], args, []⟩).memory := by
 rw [Ki,Kj];exact (LaidIn.of_run (l := [("unicode/utf8.acceptRanges", Lib.acceptData), ("unicode/utf8.first", Lib.firstData)]) [1, 0] 8 (by kernel_rfl) (by kernel_rfl) (by kernel_rfl) (by kernel_rfl)).met
end Go.Proofs.YtegboefdolfdgaaGreatDoor
