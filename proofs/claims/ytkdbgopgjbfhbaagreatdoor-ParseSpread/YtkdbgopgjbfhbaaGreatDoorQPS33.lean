/- Texts that the claim needs. -/
import Derived.Test.YtkdbgopgjbfhbaaGreatDoorQPS14
import Derived.Test.YtkdbgopgjbfhbaaGreatDoorQPS32
import Derived.Test.YtkdbgopgjbfhbaaGreatDoorQPS31
import Derived.Test.YtkdbgopgjbfhbaaGreatDoorQPS0
import Derived.Lib.ItoaNum
namespace Go.Proofs.YtkdbgopgjbfhbaaGreatDoor
open Go.RowKit bb
set_option linter.unusedVariables false
namespace ag
def qb (L:List Value) (i:Nat) (v:Value) (_:World):Prop:=v=L.getD i undef
section
variable {P:Program} {ops:Array Oper} {Q:Exit->Act->World->Prop} {id:Nat} {a0:Act} {w0:World}
theorem ad1 {a:Act} {lo j:Nat} {L:List Value} (h:a.eval (.tmp (lo+j))=L.getD j undef):a.tmps[j+lo]?.getD undef=L.getD j undef:=by
 rw [Nat.add_comm];exact au h
theorem sJ (n lo size:Nat) (L:List Value) (hm:P.follows .mixedOrders=true) (hT:yL ops n=true) (hd:Kw ops n (fun i=>lo+i) size=true) (hs:a0.tmps.size=size)
  (hstep:∀i o a w,i<n->ops[i]?=some o->Fr a0 (fun i=>lo+i) n a->Below w0.heap.size w0 w->(∀j ∈ deps o,a.tmps[j+lo]?.getD undef=L.getD j undef)->Does P ops Q (qb L i) o a w)
  (hend:∀a w,Fr a0 (fun i=>lo+i) n a->Below w0.heap.size w0 w->(∀i,i<n->a.eval (.tmp (lo+i))=L.getD i undef)->Q .normal a w) :
  (Code.region id ops true).wp P Q a0 w0 :=
 Sf n (fun i=>lo+i) (qb L) hm hT (fun i j _ _ h=>by have h':lo+i=lo+j:=h;omega) (fun i hi=>by rw [hs];exact Se hd i hi) (fun _ _ _ _ _ h _=>h)
  (fun i o a w hi ho hF hB hG=>hstep i o a w hi ho hF hB fun j hj=>ad1 (hG j hj)) (fun a w hF hB hG=>hend a w hF hB fun i hi=>hG i hi)
theorem vN {p:Value->World->Prop} {o oj:Oper} {a:Act} {w:World} {j lo:Nat} {b:Bool} {L:List Value} (hg:o.guard=some (j,b)) (hj:ops[j]?=some oj) (hk:oj.dst=some (j+lo)) (hb:L.getD j undef=.bool b) (hd:a.tmps[j+lo]?.getD undef=L.getD j undef) (h:o.wp P a w (fun a' w'=>∃v,a'=a.put o.dst v/\Below w.heap.size w w'/\p v w') Q):Does P ops Q p o a w :=
 Does.wanted hg hj hk (by show a.tmps.getD (j+lo) undef=_;rw [Array.getD_eq_getD_getElem?,hd,hb]) h
end
end ag
end Go.Proofs.YtkdbgopgjbfhbaaGreatDoor
namespace Go.Proofs.YtkdbgopgjbfhbaaGreatDoor
open Go.RowKit Lx Pz bb
set_option linter.unusedVariables false
namespace Pz
def dF {α:Type} (f:α->α->Bool):List α->List α->Bool
 | [],[]=>true
 | a :: l,b :: k=>f a b && dF f l k
 | _,_=>false
section
variable {α:Type} {f:α->α->Bool}
theorem uo:∀ {l k:List α},l.length≠k.length->dF f l k=false
 | [],[],h=>absurd rfl h
 | [],_ :: _,_=>rfl
 | _ :: _,[],_=>rfl
 | a :: l,b :: k,h=>by unfold dF;rw [uo (l:=l) (k:=k) (fun e=>h (by simp [e])),Bool.and_false]
theorem vK {l k:List α} {i:Nat} {a b:α} (ha:l[i]?=some a) (hb:k[i]?=some b):dF f (l.drop i) (k.drop i)=(f a b && dF f (l.drop (i+1)) (k.drop (i+1))):=by
 have h1:=List.getElem?_eq_some_iff.1 ha;have h2:=List.getElem?_eq_some_iff.1 hb;rw [List.drop_eq_getElem_cons h1.1,List.drop_eq_getElem_cons h2.1,h1.2,h2.2,dF]
theorem vO {l k:List α} {i:Nat} (hl:l.length<=i) (hk:k.length<=i):dF f (l.drop i) (k.drop i)=true:=by
 rw [List.drop_eq_nil_of_le hl,List.drop_eq_nil_of_le hk];rfl
end
end Pz
end Go.Proofs.YtkdbgopgjbfhbaaGreatDoor
namespace Go.Proofs.YtkdbgopgjbfhbaaGreatDoor
open Go.RowKit
set_option linter.unusedVariables false
namespace Lx
def yH (n:Int):List UInt8:=if n<0 then 126 :: Lib.decDigits n.natAbs else Lib.decDigits n.toNat
def nW (n:Int):ByteArray:=⟨(yH n).toArray⟩
def iS (k:Int) (x:ByteArray) (n:Int):ByteArray:=if k=3 then ⟨#[39]⟩++x else if k=4 then nW n else x
def yx (w:ByteArray) (k:Int) (x:ByteArray) (n:Int):Bool :=
 decide (0<w.size) && (match one w 0 with | .error _=>false | .ok (k',x',n',e)=>decide (e=w.size) && decide (k'=k/\x'=x/\n'=n))
def wd (s:ByteArray) (low:Bool):Bool :=
 decide (1<=s.size) && decide (s.size<=32) && (if low=true then sm (bt s 0) else cp (bt s 0)) && decide (en s pt 1=s.size)
def dJ (k:Int) (x:ByteArray) (n:Int):Bool :=
 if k≠4/\n≠0 then false
 else if k=1 then wd x true && !bN x keys
 else if k=2 then wd x false
 else if k=3 then wd x true
 else if k=4 then decide (x.size=0) && bV n
 else if k=5 then bN x keys
 else if k=6 then bN x signs
 else false
theorem Ar {w:ByteArray} {k:Int} {x:ByteArray} {n:Int}:yx w k x n=true↔0<w.size/\one w 0=.ok (k,x,n,w.size):=by
 unfold yx;rw [Bool.and_eq_true,decide_eq_true_eq];refine and_congr_right fun h=>?_;cases ho:one w 0 with
 | error z=>simp
 | ok r =>
  obtain ⟨k',x',n',e⟩:=r;simp only [Bool.and_eq_true,decide_eq_true_eq,Except.ok.injEq,Prod.mk.injEq];constructor
  ·rintro ⟨rfl,rfl,rfl,rfl⟩;exact ⟨rfl,rfl,rfl,rfl⟩
  ·rintro ⟨rfl,rfl,rfl,rfl⟩;exact ⟨rfl,rfl,rfl,rfl⟩
theorem wm {s:ByteArray} {low:Bool}:wd s low=true↔1<=s.size/\s.size<=32/\(if low=true then sm (bt s 0) else cp (bt s 0))=true/\en s pt 1=s.size:=by
 unfold wd;simp only [Bool.and_eq_true,decide_eq_true_eq,and_assoc]
theorem X3 {c:Int} (h:sm c=true):cp c=false:=by
 unfold sm at h;unfold cp;simp only [Bool.and_eq_true,decide_eq_true_eq] at h;rw [Bool.and_eq_false_iff,decide_eq_false_iff_not,decide_eq_false_iff_not];omega
theorem CX (s:ByteArray):s.extract 0 s.size=s:=by simp
theorem Fh {x:ByteArray} (h0:0<x.size) (hc:sm (bt x 0)=true\/cp (bt x 0)=true):one x 0=if 32<en x pt 1 then .error 2 else .ok (if cp (bt x 0)=true then 2 else if bN (x.extract 0 (en x pt 1)) keys=true then 5 else 1,x.extract 0 (en x pt 1),0,en x pt 1):=by
 unfold one;have hp:pt (bt x 0)=true:=by rcases hc with hc|hc;exact yo hc;exact I2 hc
 rw [if_pos hc,oO x pt h0 hp,Nat.zero_add,Nat.sub_zero]
theorem Jj {x:ByteArray} (hc:¬ (sm (bt x 0)=true\/cp (bt x 0)=true)) {k:Int} {y:ByteArray} {n:Int} {e:Nat} (h:one x 0=.ok (k,y,n,e)) :
  (k=3/\bt x 0=39/\n=0/\1≠x.size/\sm (bt x 1)=true/\e=en x pt 1/\en x pt 1-1<=32/\y=x.extract 1 e)
  \/ (k=4/\y=⟨#[]⟩/\∃f,num x 0 f=some (n,e))
  \/ (k=6/\n=0/\bN y signs=true/\y=x.extract 0 e):=by
 unfold one at h;rw [if_neg hc] at h;split at h
 ·rename_i iz;split at h
  ·cases h
  ·rename_i hn;split at h
   ·cases h
   ·rename_i h32;injection h with h;injection h with h1 h;injection h with h2 h;injection h with h3 h4;refine .inl ⟨h1.symm,iz,h3.symm,fun e=>hn (.inl (by omega)),?_,h4.symm,by simpa using h32,?_⟩
    ·cases hs:sm (bt x 1);exact absurd (.inr hs) hn;rfl
    ·rw [<- h2,<- h4]
 ·split at h
  ·split at h
   ·rename_i n' e' hn;injection h with h;injection h with h1 h;injection h with h2 h;injection h with h3 h4;subst h3;subst h4;exact .inr (.inl ⟨h1.symm,h2.symm,_,hn⟩)
   ·cases h
  ·split at h
   ·rename_i hs;injection h with h;injection h with h1 h;injection h with h2 h;injection h with h3 h4;subst h4;subst h2;exact .inr (.inr ⟨h1.symm,h3.symm,hs.2,rfl⟩)
   ·split at h
    ·rename_i hs;injection h with h;injection h with h1 h;injection h with h2 h;injection h with h3 h4;subst h4;subst h2;exact .inr (.inr ⟨h1.symm,h3.symm,hs.2,rfl⟩)
    ·cases h
theorem Pk {s:ByteArray} {a f:Nat} {n:Int} {e:Nat} (h:num s a f=some (n,e)):bV n=true:=by
 unfold num at h;obtain ⟨V,hV⟩:∃V,(if a<f then -bG s (en s dg f-f) f 0 else bG s (en s dg f-f) f 0)=V:=⟨_,rfl⟩;rw [hV] at h;split at h
 ·cases h
 ·split at h
  ·rename_i hi;injection h with h;injection h with h1 h2;rw [<- h1];exact hi
  ·cases h
theorem Pm (x:ByteArray):bt (⟨#[39]⟩++x) 0=39:=by
 unfold bt;rw [dif_pos (by rw [ByteArray.size_append];show 0<1+x.size;omega)];rw [ByteArray.getElem_append_left (by decide)];rfl
theorem Fj (x:ByteArray) (i:Nat):bt (⟨#[39]⟩++x) (i+1)=bt x i:=by
 unfold bt;by_cases h:i<x.size
 ·rw [dif_pos (by rw [ByteArray.size_append];show i+1<1+x.size;omega),dif_pos h,ByteArray.getElem_append_right (by show 1<=i+1;omega)];rfl
 ·rw [dif_neg (by rw [ByteArray.size_append];show ¬ i+1<1+x.size;omega),dif_neg h]
theorem yB (x:ByteArray):(⟨#[39]⟩++x:ByteArray).size=x.size+1:=by rw [ByteArray.size_append];show 1+x.size=_;omega
theorem Pn (x:ByteArray) (p:Int->Bool) {i:Nat} (hi:i<=x.size):en (⟨#[39]⟩++x) p (i+1)=en x p i+1:=by
 have h0:=mh x p i;have h1:=ji x p hi;refine CY _ p (by omega) (by rw [yB];omega) (fun j hj hj'=>?_) (fun h=>?_)
 ·obtain ⟨j,rfl⟩:∃a,j=a+1:=⟨j-1,by omega⟩;rw [Fj];exact mR x p (i:=i) (by omega) (by omega)
 ·rw [Fj];exact qY x p (by rw [yB] at h;omega)
theorem X4 (x:ByteArray):(⟨#[39]⟩++x:ByteArray).extract 1 (x.size+1)=x:=by
 apply ByteArray.ext;apply Array.ext';simp [ByteArray.data_extract,ByteArray.data_append];exact List.take_of_length_le (by rw [Array.length_toList];exact Nat.le_refl _)
theorem Aq {s:ByteArray}:∀ {l:List ByteArray},bN s l=true->s ∈ l
 | [],h=>by cases h
 | x :: l,h=>by
  rw [bN] at h;split at h
  ·rename_i e;subst e;exact List.mem_cons_self ..
  ·exact List.mem_cons_of_mem _ (Aq h)
theorem X5 {x:ByteArray} (h:bN x keys=true):yx x 5 x 0=true:=by
 have:=Aq h
 simp only [keys,List.mem_cons,List.not_mem_nil,or_false] at this;rcases this with rfl|rfl|rfl|rfl|rfl|rfl|rfl|rfl|rfl|rfl|rfl|rfl<;>decide +kernel
theorem X6 {x:ByteArray} (h:bN x signs=true):yx x 6 x 0=true:=by
 have:=Aq h
 simp only [signs,qV,nT,List.cons_append,List.nil_append,List.mem_cons,List.not_mem_nil,or_false] at this;rcases this with rfl|rfl|rfl|rfl|rfl|rfl|rfl|rfl|rfl|rfl|rfl|rfl|rfl|rfl<;>decide +kernel
theorem AF (l:List UInt8) (i:Nat):bt ⟨l.toArray⟩ i=((l[i]?.map (fun b=>(b.toNat:Int))).getD 0):=by
 unfold bt;by_cases h:i<l.length
 ·rw [dif_pos (show i<(⟨l.toArray⟩:ByteArray).size by show i<l.toArray.size;simpa using h),List.getElem?_eq_getElem h];show ((l.toArray[i]'_).toNat:Int)=_;simp
 ·rw [dif_neg (show ¬ i<(⟨l.toArray⟩:ByteArray).size by show ¬ i<l.toArray.size;simpa using h),List.getElem?_eq_none (by omega)];rfl
theorem AJ (l:List UInt8):(⟨l.toArray⟩:ByteArray).size=l.length:=by show l.toArray.size=_;simp
theorem uw {u:Nat} (h:u<10):Lib.decDigits u = [UInt8.ofNat (48+u)]:=by rw [Lib.decDigits,dif_pos h]
theorem yI {u:Nat} (h:¬ u<10):Lib.decDigits u=Lib.decDigits (u / 10)++[UInt8.ofNat (48+u%10)]:=by rw [Lib.decDigits,dif_neg h]
theorem CZ {d:Nat} (h:d<10):((UInt8.ofNat (48+d)).toNat:Int)=48+d:=by
 rw [UInt8.toNat_ofNat'];omega
theorem Jk (u:Nat):0<(Lib.decDigits u).length:=by
 by_cases h:u<10
 ·rw [uw h];exact Nat.zero_lt_one
 ·rw [yI h,List.length_append];simp
theorem Jl:∀(m u:Nat),u<=m->∀(pre oZ:List UInt8) (i:Nat),i<(Lib.decDigits u).length->dg (bt ⟨(pre++Lib.decDigits u++oZ).toArray⟩ (pre.length+i))=true
 | m,u,hm,pre,oZ,i,hi=>by
  rw [AF,List.append_assoc,List.getElem?_append_right (by omega),show pre.length+i-pre.length=i by omega,List.getElem?_append_left hi];by_cases h:u<10
  ·rw [uw h] at hi ⊢;obtain rfl:i=0:=by simpa using hi
   rw [List.getElem?_cons_zero,Option.map_some,Option.getD_some,CZ h];unfold dg;rw [decide_eq_true (by omega),decide_eq_true (by omega)];rfl
  ·rw [yI h] at hi ⊢;rw [List.length_append,List.length_singleton] at hi;rcases Nat.lt_or_ge i (Lib.decDigits (u / 10)).length with hl|hl
   ·match m,hm with
    | 0,hm=>omega
    | m+1,hm =>
     have:=Jl m (u / 10) (by omega) [] [] i hl
     rw [AF,List.append_nil,List.nil_append,List.length_nil,Nat.zero_add] at this;rw [List.getElem?_append_left hl];exact this
   ·rw [List.getElem?_append_right hl,show i-(Lib.decDigits (u / 10)).length=0 by omega,List.getElem?_cons_zero,Option.map_some,Option.getD_some,CZ (by omega)];unfold dg;rw [decide_eq_true (by omega),decide_eq_true (by omega)];rfl
theorem Po:∀(m u:Nat),u<=m->∀(pre oZ:List UInt8),bG ⟨(pre++Lib.decDigits u++oZ).toArray⟩ (Lib.decDigits u).length pre.length 0=(u:Int)
 | m,u,hm,pre,oZ=>by
  by_cases h:u<10
  ·have e:(pre++Lib.decDigits u++oZ)[pre.length]?=some (UInt8.ofNat (48+u)):=by
    rw [uw h,List.append_assoc,List.getElem?_append_right (Nat.le_refl _),Nat.sub_self];rfl
   have b:bt ⟨(pre++Lib.decDigits u++oZ).toArray⟩ pre.length=48+(u:Int):=by rw [AF,e,Option.map_some,Option.getD_some,CZ h]
   generalize (⟨(pre++Lib.decDigits u++oZ).toArray⟩:ByteArray)=S at b;rw [uw h,List.length_singleton,bG,bG,b];omega
  ·match m,hm with
   | 0,hm=>omega
   | m+1,hm =>
    have ih:=Po m (u / 10) (by omega) pre ([UInt8.ofNat (48+u%10)]++oZ);have e2:pre++Lib.decDigits u++oZ=pre++Lib.decDigits (u / 10)++([UInt8.ofNat (48+u%10)]++oZ):=by rw [yI h];simp
    have e3:(pre++Lib.decDigits (u / 10)++([UInt8.ofNat (48+u%10)]++oZ))[pre.length+(Lib.decDigits (u / 10)).length]?=some (UInt8.ofNat (48+u%10)):=by
     rw [List.getElem?_append_right (by rw [List.length_append];omega),List.length_append,Nat.sub_self];rfl
    have b:bt ⟨(pre++Lib.decDigits (u / 10)++([UInt8.ofNat (48+u%10)]++oZ)).toArray⟩ (pre.length+(Lib.decDigits (u / 10)).length)=48+((u%10:Nat):Int):=by rw [AF,e3,Option.map_some,Option.getD_some,CZ (by omega)]
    rw [e2,yI h,List.length_append,List.length_singleton,ym,ih,b];omega
theorem Pp:∀(m u:Nat),u<=m->0<u->∃b l,Lib.decDigits u=b :: l/\(b.toNat:Int)≠48
 | m,u,hm,h0=>by
  by_cases h:u<10
  ·exact ⟨_,_,uw h,by rw [CZ h];omega⟩
  ·match m,hm with
   | 0,hm=>omega
   | m+1,hm =>
    obtain ⟨b,l,e,hb⟩:=Pp m (u / 10) (by omega) (by omega);exact ⟨b,l++[UInt8.ofNat (48+u%10)],by rw [yI h,e];rfl,hb⟩
theorem AK:∀(k u:Nat),u<10 ^ (k+1)->(Lib.decDigits u).length<=k+1
 | 0,u,h=>by rw [uw (by simpa using h)];simp
 | k+1,u,h=>by
  by_cases h1:u<10
  ·rw [uw h1];simp
  ·rw [yI h1,List.length_append,List.length_singleton]
   have:=AK k (u / 10) (by rw [Nat.pow_succ] at h;omega)
   omega
theorem Pq (u:Nat) (pre:List UInt8) (hp:pre.length<=1) (hu:bV (if pre.length=1 then -(u:Int) else u)=true) :
  num ⟨(pre++Lib.decDigits u).toArray⟩ 0 pre.length=some (if pre.length=1 then -(u:Int) else u,pre.length+(Lib.decDigits u).length):=by
 have hd:=Jl u u (Nat.le_refl _) pre [];have hv:=Po u u (Nat.le_refl _) pre [];rw [List.append_nil] at hv;simp only [List.append_nil] at hd;have hpos:=Jk u
 have X7:u<10 ^ (9+1):=by
  unfold bV at hu;rw [Bool.and_eq_true,decide_eq_true_eq,decide_eq_true_eq] at hu;split at hu<;>omega
 have hl:=AK 9 u X7;have hsz:(⟨(pre++Lib.decDigits u).toArray⟩:ByteArray).size=pre.length+(Lib.decDigits u).length:=by rw [AJ,List.length_append]
 have hen:en ⟨(pre++Lib.decDigits u).toArray⟩ dg pre.length=pre.length+(Lib.decDigits u).length:=by
  refine CY _ dg (by omega) (by omega) (fun j h1 h2=>?_) (fun h=>by omega)
  have:=hd (j-pre.length) (by omega)
  rw [show pre.length+(j-pre.length)=j by omega] at this;exact this
 have h48:¬ (1<(Lib.decDigits u).length/\bt ⟨(pre++Lib.decDigits u).toArray⟩ pre.length=48):=by
  rintro ⟨h1,h2⟩
  have hu0:0<u:=by
   rcases Nat.eq_zero_or_pos u with h|h
   ·subst h;rw [uw (by decide)] at h1;simp at h1
   ·exact h
  obtain ⟨b,l,e,hb⟩:=Pp u u (Nat.le_refl _) hu0;rw [AF,List.getElem?_append_right (Nat.le_refl _),Nat.sub_self,e,List.getElem?_cons_zero,Option.map_some,Option.getD_some] at h2;exact hb h2
 unfold num;rw [hen,show pre.length+(Lib.decDigits u).length-pre.length=(Lib.decDigits u).length by omega,hv];rw [if_neg (by rintro (h|h|h);omega;exact h48 h;omega)]
 have e:(if 0<pre.length then -(u:Int) else u)=if pre.length=1 then -(u:Int) else u:=by
  by_cases h:pre.length=1
  ·rw [if_pos h,if_pos (by omega)]
  ·rw [if_neg h,if_neg (by omega)]
 rw [e,if_pos hu]
theorem X8 {n:Int} (hn:bV n=true):yx (nW n) 4 ⟨#[]⟩ n=true:=by
 rw [Ar];by_cases h:n<0
 ·have hit:nW n=⟨([126]++Lib.decDigits n.natAbs).toArray⟩:=by unfold nW yH;rw [if_pos h];rfl
  have e:(if ([126]:List UInt8).length=1 then -((n.natAbs:Nat):Int) else (n.natAbs:Nat))=n:=by rw [if_pos (show ([126]:List UInt8).length=1 from rfl)];omega
  have hN:=Pq n.natAbs [126] (Nat.le_refl _) (by rw [e];exact hn);rw [e] at hN;rw [hit];have b0:bt ⟨([126]++Lib.decDigits n.natAbs).toArray⟩ 0=126:=by rw [AF];rfl
  have hsz:(⟨([126]++Lib.decDigits n.natAbs).toArray⟩:ByteArray).size=1+(Lib.decDigits n.natAbs).length:=by rw [AJ,List.length_append];rfl
  generalize (⟨([126]++Lib.decDigits n.natAbs).toArray⟩:ByteArray)=S at *;refine ⟨by omega,?_⟩;unfold one;rw [b0,if_neg (by decide),if_neg (by decide),if_pos (.inl rfl),if_pos rfl,Nat.zero_add];have hN':num S 0 1=some (n,1+(Lib.decDigits n.natAbs).length):=hN;rw [hN',hsz]
 ·have hit:nW n=⟨([]++Lib.decDigits n.toNat).toArray⟩:=by unfold nW yH;rw [if_neg h];rfl
  have e:(if ([]:List UInt8).length=1 then -((n.toNat:Nat):Int) else (n.toNat:Nat))=n:=by rw [if_neg (by decide)];omega
  have hN:=Pq n.toNat [] (Nat.zero_le _) (by rw [e];exact hn);rw [e] at hN;rw [hit];have b0:=Jl n.toNat n.toNat (Nat.le_refl _) [] [] 0 (Jk _);rw [List.append_nil] at b0;have hp:=Jk n.toNat;have hsz:(⟨([]++Lib.decDigits n.toNat).toArray⟩:ByteArray).size=(Lib.decDigits n.toNat).length:=by rw [AJ];rfl
  have Ps:dg (bt ⟨([]++Lib.decDigits n.toNat).toArray⟩ 0)=true:=b0;have hN':num ⟨([]++Lib.decDigits n.toNat).toArray⟩ 0 0=some (n,(Lib.decDigits n.toNat).length):=by rw [show (Lib.decDigits n.toNat).length=0+(Lib.decDigits n.toNat).length by omega];exact hN
  clear b0 hN;generalize (⟨([]++Lib.decDigits n.toNat).toArray⟩:ByteArray)=S at *;refine ⟨by omega,?_⟩;have hb:=iK Ps;unfold one;rw [if_neg (by unfold sm cp;simp only [Bool.and_eq_true,decide_eq_true_eq];omega),if_neg (by omega),if_pos (.inr Ps),if_neg (by omega),hN',hsz]
theorem XB (k:Int) (x:ByteArray) (n:Int):yx (iS k x n) k x n=dJ k x n:=by
 rw [Bool.eq_iff_iff];constructor
 ·intro h;obtain ⟨h0,ho⟩:=Ar.1 h;by_cases h3:k=3
  ·subst h3;have hw:iS 3 x n=⟨#[39]⟩++x:=if_pos rfl;rw [hw] at h0 ho;have hc:¬ (sm (bt (⟨#[39]⟩++x) 0)=true\/cp (bt (⟨#[39]⟩++x) 0)=true):=by rw [Pm];decide
   rcases Jj hc ho with ⟨_,_,hn,h1,hs,he,h32,hy⟩|⟨hk,_⟩|⟨hk,_⟩
   ·rw [yB] at h1 he;have hen:=Pn x pt (i:=0) (Nat.zero_le _);rw [Nat.zero_add] at hen;have hs':sm (bt x 0)=true:=by rw [<- Fj x 0];exact hs
    have hx:0<x.size:=by omega
    have h1':=oO x pt hx (yo hs');unfold dJ;rw [if_neg (by rintro ⟨_,h⟩;exact h hn),if_neg (by decide),if_neg (by decide),if_pos rfl,wm];rw [hen] at he h32;exact ⟨by omega,by omega,hs',by rw [<- Nat.zero_add 1,<- h1'];omega⟩
   ·cases hk
   ·cases hk
  ·by_cases h4:k=4
   ·subst h4
    have hc:x.size=0/\bV n=true:=by
     by_cases hc:sm (bt (iS 4 x n) 0)=true\/cp (bt (iS 4 x n) 0)=true
     ·rw [Fh h0 hc] at ho;split at ho
      ·cases ho
      ·injection ho with ho;injection ho with ho _;split at ho
       ·cases ho
       ·split at ho<;>cases ho
     ·rcases Jj hc ho with ⟨hk,_⟩|⟨_,hy,f,hf⟩|⟨hk,_⟩
      ·cases hk
      ·exact ⟨by rw [hy];rfl,Pk hf⟩
      ·cases hk
    unfold dJ;rw [if_neg (by rintro ⟨h,_⟩;exact h rfl),if_neg (by decide),if_neg (by decide),if_neg (by decide),if_pos rfl,hc.2,decide_eq_true hc.1];rfl
   ·have hw:iS k x n=x:=by unfold iS;rw [if_neg h3,if_neg h4]
    rw [hw] at h0 ho;by_cases hc:sm (bt x 0)=true\/cp (bt x 0)=true
    ·rw [Fh h0 hc] at ho;split at ho
     ·cases ho
     ·rename_i h32;injection ho with ho;injection ho with e1 ho;injection ho with e2 ho;injection ho with e3 e4;have hn:¬ (k≠4/\n≠0):=by rintro ⟨_,h⟩;exact h e3.symm
      rw [e4,CX] at e1;unfold dJ;rw [if_neg hn];by_cases hcp:cp (bt x 0)=true
      ·rw [if_pos hcp] at e1;subst e1;rw [if_neg (by decide),if_pos rfl,wm];exact ⟨h0,by omega,hcp,e4⟩
      ·rw [if_neg hcp] at e1;have hsm:sm (bt x 0)=true:=by rcases hc with h|h;exact h;exact absurd h hcp
       by_cases hk:bN x keys=true
       ·rw [if_pos hk] at e1;subst e1;rw [if_neg (by decide),if_neg (by decide),if_neg (by decide),if_neg (by decide),if_pos rfl];exact hk
       ·rw [if_neg hk] at e1;subst e1;rw [if_pos rfl,Bool.and_eq_true,wm];refine ⟨⟨h0,by omega,hsm,e4⟩,?_⟩;cases ha:bN x keys;rfl;exact absurd ha hk
    ·rcases Jj hc ho with ⟨hk,_⟩|⟨hk,_⟩|⟨hk,hn,ha,_⟩
     ·exact absurd hk h3
     ·exact absurd hk h4
     ·subst hk;subst hn;unfold dJ;rw [if_neg (by rintro ⟨_,h⟩;exact h rfl),if_neg (by decide),if_neg (by decide),if_neg (by decide),if_neg (by decide),if_neg (by decide),if_pos rfl];exact ha
 ·intro h;unfold dJ at h;split at h
  ·cases h
  ·rename_i hn
   have hn0:k≠4->n=0:=fun h4=>by
    by_cases h0:n=0
    ·exact h0
    ·exact absurd ⟨h4,h0⟩ hn
   split at h
   ·rename_i hk;subst hk;obtain rfl:=hn0 (by decide);rw [Bool.and_eq_true,wm] at h;obtain ⟨⟨a,b,c,d⟩,hk⟩:=h;have hw:iS 1 x 0=x:=rfl;rw [hw,Ar,Fh a (.inl c),d,if_neg (by omega),CX,if_neg (by rw [X3 c];decide)];refine ⟨a,?_⟩;rw [if_neg (by cases ha:bN x keys;decide;rw [ha] at hk;cases hk)]
   ·split at h
    ·rename_i hk;subst hk;obtain rfl:=hn0 (by decide);rw [wm] at h;obtain ⟨a,b,c,d⟩:=h;have hw:iS 2 x 0=x:=rfl;have c':cp (bt x 0)=true:=c;rw [hw,Ar,Fh a (.inr c'),d,if_neg (by omega),CX,if_pos c'];exact ⟨a,rfl⟩
    ·split at h
     ·rename_i hk;subst hk;obtain rfl:=hn0 (by decide);rw [wm] at h;obtain ⟨a,b,c,d⟩:=h;have c':sm (bt x 0)=true:=c;have hw:iS 3 x 0=⟨#[39]⟩++x:=rfl;have hen:=Pn x pt (i:=0) (Nat.zero_le _);rw [Nat.zero_add] at hen;have h1':=oO x pt a (yo c');rw [hw,Ar];refine ⟨by rw [yB];omega,?_⟩;unfold one;rw [Pm,if_neg (by decide),if_pos rfl,Nat.zero_add,Fj x 0,c',yB,hen,h1',Nat.zero_add,d,if_neg (by rintro (h|h);omega;cases h),if_neg (by omega),X4]
     ·split at h
      ·rename_i hk;subst hk;rw [Bool.and_eq_true,decide_eq_true_eq] at h;have hx:x=⟨#[]⟩:=by apply ByteArray.ext;exact Array.eq_empty_of_size_eq_zero h.1
       subst hx;exact X8 h.2
      ·split at h
       ·rename_i hk;subst hk;obtain rfl:=hn0 (by decide);exact X5 h
       ·split at h
        ·rename_i hk;subst hk;obtain rfl:=hn0 (by decide);exact X6 h
        ·cases h
end Lx
end Go.Proofs.YtkdbgopgjbfhbaaGreatDoor
