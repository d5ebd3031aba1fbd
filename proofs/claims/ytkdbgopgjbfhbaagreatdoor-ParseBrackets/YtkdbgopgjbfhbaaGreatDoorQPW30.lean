/- Texts that the claim needs. -/
import Derived.Test.YtkdbgopgjbfhbaaGreatDoorQPW11
import Derived.Test.YtkdbgopgjbfhbaaGreatDoorQPW29
import Derived.Test.YtkdbgopgjbfhbaaGreatDoorQPW28
import Derived.Test.YtkdbgopgjbfhbaaGreatDoorQPW0
import Derived.Lib.ItoaNum
namespace Go.Proofs.YtkdbgopgjbfhbaaGreatDoor
open Go.RowKit bq
set_option linter.unusedVariables false
namespace aj
def iH (L:List Value) (i:Nat) (v:Value) (_:World):Prop:=v=L.getD i undef
section
variable {P:Program} {ops:Array Oper} {Q:Exit->Act->World->Prop} {id:Nat} {a0:Act} {w0:World}
theorem adN {a:Act} {lo j:Nat} {L:List Value} (h:a.eval (.tmp (lo+j))=L.getD j undef):a.tmps[j+lo]?.getD undef=L.getD j undef:=by
 rw [Nat.add_comm];exact ay h
theorem kT (n lo size:Nat) (L:List Value) (hm:P.follows .mixedOrders=true) (hT:yR ops n=true) (hd:Kz ops n (fun i=>lo+i) size=true) (hs:a0.tmps.size=size)
  (hstep:∀i o a w,i<n->ops[i]?=some o->Fr a0 (fun i=>lo+i) n a->Below w0.heap.size w0 w->(∀j ∈ deps o,a.tmps[j+lo]?.getD undef=L.getD j undef)->Does P ops Q (iH L i) o a w)
  (hend:∀a w,Fr a0 (fun i=>lo+i) n a->Below w0.heap.size w0 w->(∀i,i<n->a.eval (.tmp (lo+i))=L.getD i undef)->Q .normal a w) :
  (Code.region id ops true).wp P Q a0 w0 :=
 aaI n (fun i=>lo+i) (iH L) hm hT (fun i j _ _ h=>by have h':lo+i=lo+j:=h;omega) (fun i hi=>by rw [hs];exact aaG hd i hi) (fun _ _ _ _ _ h _=>h)
  (fun i o a w hi ho hF hB hG=>hstep i o a w hi ho hF hB fun j hj=>adN (hG j hj)) (fun a w hF hB hG=>hend a w hF hB fun i hi=>hG i hi)
theorem l9 {p:Value->World->Prop} {o oj:Oper} {a:Act} {w:World} {j lo:Nat} {b:Bool} {L:List Value} (hg:o.guard=some (j,b)) (hj:ops[j]?=some oj) (hk:oj.dst=some (j+lo)) (hb:L.getD j undef=.bool b) (hd:a.tmps[j+lo]?.getD undef=L.getD j undef) (h:o.wp P a w (fun a' w'=>∃v,a'=a.put o.dst v/\Below w.heap.size w w'/\p v w') Q):Does P ops Q p o a w :=
 Does.wanted hg hj hk (by show a.tmps.getD (j+lo) undef=_;rw [Array.getD_eq_getD_getElem?,hd,hb]) h
end
end aj
end Go.Proofs.YtkdbgopgjbfhbaaGreatDoor
namespace Go.Proofs.YtkdbgopgjbfhbaaGreatDoor
open Go.RowKit Lx Pz bq
set_option linter.unusedVariables false
namespace Pz
def dL {α:Type} (f:α->α->Bool):List α->List α->Bool
 | [],[]=>true
 | a :: l,b :: k=>f a b && dL f l k
 | _,_=>false
section
variable {α:Type} {f:α->α->Bool}
theorem uH:∀ {l k:List α},l.length≠k.length->dL f l k=false
 | [],[],h=>absurd rfl h
 | [],_ :: _,_=>rfl
 | _ :: _,[],_=>rfl
 | a :: l,b :: k,h=>by unfold dL;rw [uH (l:=l) (k:=k) (fun e=>h (by simp [e])),Bool.and_false]
theorem wm {l k:List α} {i:Nat} {a b:α} (ha:l[i]?=some a) (hb:k[i]?=some b):dL f (l.drop i) (k.drop i)=(f a b && dL f (l.drop (i+1)) (k.drop (i+1))):=by
 have h1:=List.getElem?_eq_some_iff.1 ha;have h2:=List.getElem?_eq_some_iff.1 hb;rw [List.drop_eq_getElem_cons h1.1,List.drop_eq_getElem_cons h2.1,h1.2,h2.2,dL]
theorem wu {l k:List α} {i:Nat} (hl:l.length<=i) (hk:k.length<=i):dL f (l.drop i) (k.drop i)=true:=by
 rw [List.drop_eq_nil_of_le hl,List.drop_eq_nil_of_le hk];rfl
end
end Pz
end Go.Proofs.YtkdbgopgjbfhbaaGreatDoor
namespace Go.Proofs.YtkdbgopgjbfhbaaGreatDoor
open Go.RowKit
set_option linter.unusedVariables false
namespace Lx
def wd (s:ByteArray) (low:Bool):Bool :=
 decide (1<=s.size) && decide (s.size<=32) && (if low=true then sm (bt s 0) else cp (bt s 0)) && decide (en s pt 1=s.size)
def nI (k:Int) (x:ByteArray) (n:Int):Bool :=
 if k≠4/\n≠0 then false
 else if k=1 then wd x true && !cK x keys
 else if k=2 then wd x false
 else if k=3 then wd x true
 else if k=4 then decide (x.size=0) && ez n
 else if k=5 then cK x keys
 else if k=6 then cK x signs
 else false
theorem O2 {s:ByteArray} {low:Bool}:wd s low=true↔1<=s.size/\s.size<=32/\(if low=true then sm (bt s 0) else cp (bt s 0))=true/\en s pt 1=s.size:=by
 unfold wd;simp only [Bool.and_eq_true,decide_eq_true_eq,and_assoc]
theorem O3 (s:ByteArray):s.extract 0 s.size=s:=by simp
theorem XL {s:ByteArray} {a f:Nat} {n:Int} {e:Nat} (h:num s a f=some (n,e)):ez n=true:=by
 unfold num at h;obtain ⟨V,hV⟩:∃V,(if a<f then -eO s (en s dg f-f) f 0 else eO s (en s dg f-f) f 0)=V:=⟨_,rfl⟩;rw [hV] at h;split at h
 ·cases h
 ·split at h
  ·rename_i hi;injection h with h;injection h with h1 h2;rw [<- h1];exact hi
  ·cases h
theorem Jd {s:ByteArray}:∀ {l:List ByteArray},cK s l=true->s ∈ l
 | [],h=>by cases h
 | x :: l,h=>by
  rw [cK] at h;split at h
  ·rename_i e;subst e;exact List.mem_cons_self ..
  ·exact List.mem_cons_of_mem _ (Jd h)
end Lx
end Go.Proofs.YtkdbgopgjbfhbaaGreatDoor
