/- Texts that the claim needs. -/
import Derived.Test.YtkdbgopgjbfhbaaGreatDoorQPS0
import Derived.Laws.Strings
import Derived.LoopTactic
namespace Go.Proofs.YtkdbgopgjbfhbaaGreatDoor
open Go.RowKit
set_option linter.unusedVariables false
namespace Pz
open Lx
def nd (k:Int) (x y:ByteArray) (n:Int) (es ps:List Value) (a:Int):Value:=.agg #[.int .i64 k,.string x,.string y,.int .i64 n,.agg es.toArray,.agg ps.toArray,.int .i64 a]
abbrev e0:ByteArray:=⟨#[]⟩
def ju:Value->Int
 | .agg c=>match (c:Array Value)[6]? with
  | some (Value.int _ a)=>a
  | _=>0
 | _=>0
theorem abF (k:Int) (x y:ByteArray) (n:Int) (es ps:List Value) (a:Int):ju (nd k x y n es ps a)=a:=rfl
def jG:Value->Int
 | .agg c=>match (c:Array Value)[0]? with
  | some (Value.int _ a)=>a
  | _=>0
 | _=>0
theorem vH (k:Int) (x y:ByteArray) (n:Int) (es ps:List Value) (a:Int):jG (nd k x y n es ps a)=k:=rfl
theorem Dg {k k':Int} {x x' y y':ByteArray} {n n':Int} {es es' ps ps':List Value} {a a':Int} (h:nd k x y n es ps a=nd k' x' y' n' es' ps' a'):k=k'/\x=x'/\y=y'/\n=n'/\es=es'/\ps=ps'/\a=a':=by
 unfold nd at h;simpa using h
-- words
abbrev gy:ByteArray:=⟨#[102,117,110]⟩
abbrev gG:ByteArray:=⟨#[108,101,116]⟩
abbrev ub:ByteArray:=⟨#[114,101,99]⟩
abbrev tZ:ByteArray:=⟨#[105,110]⟩
abbrev gM:ByteArray:=⟨#[105,102]⟩
abbrev Aj:ByteArray:=⟨#[116,104,101,110]⟩
abbrev Ak:ByteArray:=⟨#[101,108,115,101]⟩
abbrev ig:ByteArray:=⟨#[99,97,115,101]⟩
abbrev Al:ByteArray:=⟨#[111,102]⟩
abbrev xZ:ByteArray:=⟨#[101,110,100]⟩
abbrev ic:ByteArray:=⟨#[112,114,105,110,116]⟩
abbrev oI:ByteArray:=⟨#[116,121,112,101]⟩
abbrev rX:ByteArray:=⟨#[105,110,116]⟩
abbrev xM:ByteArray:=⟨#[84,114,117,101]⟩
abbrev xN:ByteArray:=⟨#[70,97,108,115,101]⟩
abbrev mr:ByteArray:=⟨#[85,110,105,116]⟩
abbrev jC:ByteArray:=⟨#[45,62]⟩
abbrev tL:ByteArray:=⟨#[61,61]⟩
abbrev kZ:ByteArray:=⟨#[124]⟩
abbrev pQ:ByteArray:=⟨#[61]⟩
abbrev sL:ByteArray:=⟨#[40]⟩
abbrev sR:ByteArray:=⟨#[41]⟩
abbrev lI:ByteArray:=⟨#[59]⟩
abbrev rT:ByteArray:=⟨#[43]⟩
abbrev rU:ByteArray:=⟨#[45]⟩
abbrev rQ:ByteArray:=⟨#[42]⟩
abbrev rR:ByteArray:=⟨#[47]⟩
abbrev rS:ByteArray:=⟨#[37]⟩
abbrev tK:ByteArray:=⟨#[60]⟩
abbrev dK:ByteArray:=⟨#[95]⟩
section
variable (L:List Tk) (en:Int)
def tk (i:Nat):Tk:=match L[i]? with
 | some t=>t
 | none=>⟨0,e0,0,en⟩
theorem Bp {i:Nat} {t:Tk} (h:L[i]?=some t):tk L en i=t:=by unfold tk;rw [h]
theorem GF {i:Nat} (h:L.length<=i):tk L en i=⟨0,e0,0,en⟩:=by unfold tk;rw [List.getElem?_eq_none h]
theorem CM {i:Nat} (h:(tk L en i).k≠0):i<L.length:=by
 rcases Nat.lt_or_ge i L.length with hl|hl
 ·exact hl
 ·rw [GF L en hl] at h;exact absurd rfl h
end
def bE (t:Tk) (s:ByteArray):Bool:=(t.k == 5 || t.k == 6) && decide (t.x=s)
theorem qX {t:Tk} {s:ByteArray} (h:bE t s=true):t.k=5\/t.k=6:=by
 unfold bE at h;rw [Bool.and_eq_true,Bool.or_eq_true,beq_iff_eq,beq_iff_eq] at h;exact h.1
abbrev Rd (α:Type):=Except Int (α × Nat)
section
variable (L:List Tk) (en:Int)
def aX (s:ByteArray) (i:Nat):Except Int Nat:=if bE (tk L en i) s=true then .ok (i+1) else .error (tk L en i).a
def bM (k:Int) (i:Nat):Rd Tk:=if (tk L en i).k=k then .ok (tk L en i,i+1) else .error (tk L en i).a
def brk (E:Nat->Rd Value) (i:Nat):Rd Value:=match aX L en sL i with
 | .error z=>.error z
 | .ok i=>match E i with
  | .error z=>.error z
  | .ok (e,j)=>match aX L en sR j with
   | .error z=>.error z
   | .ok j=>.ok (e,j)
def dE (nx:Tk->Bool) (A:Nat->Rd Value):Nat->Nat->List Value->Rd (List Value)
 | 0,i,acc=>.ok (acc,i)
 | f+1,i,acc=>if nx (tk L en i)=true then (match A i with
   | .error z=>.error z
   | .ok (e,j)=>dE nx A f j (acc++[e])) else .ok (acc,i)
-- types
def pX (t:Tk):Bool:=t.k == 1 || t.k == 3 || bE t sL
def qF (x:ByteArray):Value:=if x=rX then nd 1 e0 e0 0 [] [] 0 else nd 4 x e0 0 [] [] 0
def iQ (T:Nat->Rd Value) (i:Nat):Rd Value :=
 if (tk L en i).k=1 then .ok (qF (tk L en i).x,i+1)
 else if (tk L en i).k=3 then .ok (nd 2 (tk L en i).x e0 0 [] [] 0,i+1)
 else brk L en T i
def mg (T:Nat->Rd Value) (i:Nat):Rd Value:=match iQ L en T i with
 | .error z=>.error z
 | .ok (t,j)=>if (tk L en i).k=1/\(tk L en i).x≠rX then (match dE L en pX (iQ L en T) (L.length+1) j [] with
   | .error z=>.error z
   | .ok (ts,j)=>.ok (nd 4 (tk L en i).x e0 0 ts [] 0,j)) else .ok (t,j)
def jr:Nat->Nat->Rd Value
 | 0,i=>.error 0
 | f+1,i=>match mg L en (jr f) i with
  | .error z=>.error z
  | .ok (t,j)=>match aX L en jC j with
   | .error _=>.ok (t,j)
   | .ok j=>match jr f j with
    | .error z=>.error z
    | .ok (u,j)=>.ok (nd 3 e0 e0 0 [t,u] [] 0,j)
-- patterns
def qP (t:Tk):Bool:=t.k == 1 || bE t dK || t.k == 4 || t.k == 2 || bE t sL
def jq (P:Nat->Rd Value) (i:Nat):Rd Value :=
 if (tk L en i).k=1 then .ok (nd 2 (tk L en i).x e0 0 [] [] (tk L en i).a,i+1)
 else if bE (tk L en i) dK=true then .ok (nd 1 e0 e0 0 [] [] (tk L en i).a,i+1)
 else if (tk L en i).k=4 then .ok (nd 3 e0 e0 (tk L en i).n [] [] (tk L en i).a,i+1)
 else if (tk L en i).k=2 then .ok (nd 4 (tk L en i).x e0 0 [] [] (tk L en i).a,i+1)
 else brk L en P i
def gD:Nat->Nat->Rd Value
 | 0,i=>.error 0
 | f+1,i=>if (tk L en i).k=2 then (match dE L en qP (jq L en (gD f)) (L.length+1) (i+1) [] with
   | .error z=>.error z
   | .ok (ps,j)=>.ok (nd 4 (tk L en i).x e0 0 ps [] (tk L en i).a,j)) else jq L en (gD f) i
-- expressions
def oM (t:Tk):Bool:=t.k == 1 || t.k == 4 || t.k == 2 || bE t sL
def fI (E:Nat->Rd Value) (i:Nat):Rd Value :=
 if (tk L en i).k=1 then .ok (nd 1 (tk L en i).x e0 0 [] [] (tk L en i).a,i+1)
 else if (tk L en i).k=4 then .ok (nd 2 e0 e0 (tk L en i).n [] [] (tk L en i).a,i+1)
 else if (tk L en i).k=2 then .ok (nd 8 (tk L en i).x e0 0 [] [] (tk L en i).a,i+1)
 else brk L en E i
def lj (E:Nat->Rd Value):Nat->Nat->Value->Rd Value
 | 0,i,e=>.ok (e,i)
 | f+1,i,e=>if oM (tk L en i)=true then (match fI L en E i with
   | .error z=>.error z
   | .ok (a,j)=>lj E f j (nd 4 e0 e0 0 [e,a] [] (ju e))) else .ok (e,i)
def jD (E:Nat->Rd Value) (i:Nat):Rd Value :=
 if bE (tk L en i) ic=true then (match fI L en E (i+1) with
  | .error z=>.error z
  | .ok (e,j)=>.ok (nd 10 e0 e0 0 [e] [] (tk L en i).a,j))
 else if (tk L en i).k=2 then (match dE L en oM (fI L en E) (L.length+1) (i+1) [] with
  | .error z=>.error z
  | .ok (es,j)=>.ok (nd 8 (tk L en i).x e0 0 es [] (tk L en i).a,j))
 else match fI L en E i with
  | .error z=>.error z
  | .ok (e,j)=>lj L en E (L.length+1) j e
def fw (sg:Tk->Bool) (A:Nat->Rd Value):Nat->Nat->Value->Rd Value
 | 0,i,e=>.ok (e,i)
 | f+1,i,e=>if sg (tk L en i)=true then (match A (i+1) with
   | .error z=>.error z
   | .ok (a,j)=>fw sg A f j (nd 9 (tk L en i).x e0 0 [e,a] [] (ju e))) else .ok (e,i)
def tH (t:Tk):Bool:=bE t rQ || bE t rR || bE t rS
def tJ (t:Tk):Bool:=bE t rT || bE t rU
def tN (t:Tk):Bool:=bE t tK || bE t tL
def jE (E:Nat->Rd Value) (i:Nat):Rd Value:=match jD L en E i with
 | .error z=>.error z
 | .ok (e,j)=>fw L en tH (jD L en E) (L.length+1) j e
def jF (E:Nat->Rd Value) (i:Nat):Rd Value:=match jE L en E i with
 | .error z=>.error z
 | .ok (e,j)=>fw L en tJ (jE L en E) (L.length+1) j e
def lS (E:Nat->Rd Value) (i:Nat):Rd Value:=match jF L en E i with
 | .error z=>.error z
 | .ok (e,j)=>fw L en tN (jF L en E) 1 j e
def mM (E:Nat->Rd Value) (i:Nat):Rd Value:=match lS L en E i with
 | .error z=>.error z
 | .ok (e,j)=>match aX L en lI j with
  | .error _=>.ok (e,j)
  | .ok j=>match E j with
   | .error z=>.error z
   | .ok (u,j)=>.ok (nd 7 e0 e0 0 [e,u] [nd 4 mr e0 0 [] [] (ju e)] (ju e),j)
def jW (E:Nat->Rd Value) (i:Nat):Rd (Value × Value):=match gD L en (L.length+1) i with
 | .error z=>.error z
 | .ok (p,j)=>match aX L en jC j with
  | .error z=>.error z
  | .ok j=>match E j with
   | .error z=>.error z
   | .ok (e,j)=>.ok ((p,e),j)
def kN (E:Nat->Rd Value):Nat->Nat->List Value->List Value->Rd (List Value × List Value)
 | 0,i,ps,es=>.ok ((ps,es),i)
 | f+1,i,ps,es=>match aX L en kZ i with
  | .error _=>.ok ((ps,es),i)
  | .ok i=>match jW L en E i with
   | .error z=>.error z
   | .ok ((p,e),j)=>kN E f j (ps++[p]) (es++[e])
def nO (E:Nat->Rd Value) (i:Nat):Rd Value:=match bM L en 1 (i+1) with
 | .error z=>.error z
 | .ok (t,j)=>match aX L en jC j with
  | .error z=>.error z
  | .ok j=>match E j with
   | .error z=>.error z
   | .ok (e,j)=>.ok (nd 3 t.x e0 0 [e] [] (tk L en i).a,j)
def jX (E:Nat->Rd Value) (k:Int) (x y:ByteArray) (a:Int) (i:Nat):Rd Value:=match aX L en pQ i with
 | .error z=>.error z
 | .ok j=>match E j with
  | .error z=>.error z
  | .ok (b,j)=>match aX L en tZ j with
   | .error z=>.error z
   | .ok j=>match E j with
    | .error z=>.error z
    | .ok (e,j)=>.ok (nd k x y 0 [b,e] [] a,j)
def nP (E:Nat->Rd Value) (i:Nat):Rd Value:=match aX L en ub (i+1) with
 | .error _=>(match bM L en 1 (i+1) with
  | .error z=>.error z
  | .ok (t,j)=>jX L en E 5 t.x e0 (tk L en i).a j)
 | .ok j=>match bM L en 1 j with
  | .error z=>.error z
  | .ok (t,j)=>match bM L en 1 j with
   | .error z=>.error z
   | .ok (u,j)=>jX L en E 6 t.x u.x (tk L en i).a j
def nQ (E:Nat->Rd Value) (i:Nat):Rd Value:=match E (i+1) with
 | .error z=>.error z
 | .ok (c,j)=>match aX L en Aj j with
  | .error z=>.error z
  | .ok j=>match E j with
   | .error z=>.error z
   | .ok (t,j)=>match aX L en Ak j with
    | .error z=>.error z
    | .ok j=>match E j with
     | .error z=>.error z
     | .ok (u,j)=>.ok (nd 7 e0 e0 0 [c,t,u] [nd 4 xM e0 0 [] [] (tk L en i).a,nd 4 xN e0 0 [] [] (tk L en i).a] (tk L en i).a,j)
def mN (E:Nat->Rd Value) (i:Nat):Rd Value:=match E (i+1) with
 | .error z=>.error z
 | .ok (c,j)=>match aX L en Al j with
  | .error z=>.error z
  | .ok j=>match jW L en E j with
   | .error z=>.error z
   | .ok ((p,e),j)=>match kN L en E (L.length+1) j [p] [c,e] with
    | .error z=>.error z
    | .ok ((ps,es),j)=>match aX L en xZ j with
     | .error z=>.error z
     | .ok j=>.ok (nd 7 e0 e0 0 es ps (tk L en i).a,j)
def fR:Nat->Nat->Rd Value
 | 0,i=>.error 0
 | f+1,i =>
  if bE (tk L en i) gy=true then nO L en (fR f) i
  else if bE (tk L en i) gG=true then nP L en (fR f) i
  else if bE (tk L en i) gM=true then nQ L en (fR f) i
  else if bE (tk L en i) ig=true then mN L en (fR f) i
  else mM L en (fR f) i
-- declared types: a constructor is its name and its fields;a declared type its name,parameters,constructors,place
def sx (x:ByteArray) (ts:List Value):Value:=.agg #[.string x,.agg ts.toArray]
def oH (x:ByteArray) (ps:List ByteArray) (cs:List Value) (a:Int):Value:=.agg #[.string x,.agg (ps.map Value.string).toArray,.agg cs.toArray,.int .i64 a]
def iR (i:Nat):Rd Value:=match bM L en 2 i with
 | .error z=>.error z
 | .ok (t,j)=>match dE L en pX (iQ L en (jr L en (L.length+1))) (L.length+1) j [] with
  | .error z=>.error z
  | .ok (ts,j)=>.ok (sx t.x ts,j)
def jT:Nat->Nat->List ByteArray->List ByteArray × Nat
 | 0,i,acc=>(acc,i)
 | f+1,i,acc=>if (tk L en i).k=3 then jT f (i+1) (acc++[(tk L en i).x]) else (acc,i)
def jY:Nat->Nat->List Value->Rd (List Value)
 | 0,i,acc=>.ok (acc,i)
 | f+1,i,acc=>match aX L en kZ i with
  | .error _=>.ok (acc,i)
  | .ok i=>match iR L en i with
   | .error z=>.error z
   | .ok (c,j)=>jY f j (acc++[c])
def mO (i:Nat):Rd Value:=match bM L en 1 (i+1) with
 | .error z=>.error z
 | .ok (t,j)=>match aX L en pQ (jT L en (L.length+1) j []).2 with
  | .error z=>.error z
  | .ok j'=>match iR L en j' with
   | .error z=>.error z
   | .ok (c,j2)=>match jY L en (L.length+1) j2 [c] with
    | .error z=>.error z
    | .ok (cs,j3)=>match aX L en lI j3 with
     | .error z=>.error z
     | .ok j4=>.ok (oH t.x (jT L en (L.length+1) j []).1 cs (tk L en i).a,j4)
def mG:Nat->Nat->List Value->Rd (List Value)
 | 0,i,acc=>.ok (acc,i)
 | f+1,i,acc=>if bE (tk L en i) oI=true then (match mO L en i with
   | .error z=>.error z
   | .ok (d,j)=>mG f j (acc++[d])) else .ok (acc,i)
end
end Pz
theorem rO {k:IntKind} {a b:Int} (h:a=b):Ending.returned (.int k a)=.returned (.int k b):=by rw [h]
theorem ae {p:Prop} (h:p):Hid p:=h
theorem ba {a b:Bool} (h:a=b):Ending.returned (.bool a)=.returned (.bool b):=by rw [h]
theorem q8 {t s:ByteArray} (h:¬ t=s):(t.toList == s.toList)=false:=by
 rw [beq_eq_false_iff_ne];intro e;rw [ByteArray.toList_eq,ByteArray.toList_eq] at e;exact h (ByteArray.ext (Array.toList_inj.1 e))
end Go.Proofs.YtkdbgopgjbfhbaaGreatDoor
namespace Go.Proofs.YtkdbgopgjbfhbaaGreatDoor
open Go.RowKit Lx
set_option linter.unusedVariables false
set_option maxHeartbeats 4000000
theorem az {w u v:World} (h:Below w.heap.size w u) (k:Below u.heap.size u v):Below w.heap.size w v:=h.trans (k.mono h.size)
theorem wI (c:Int) (w:World):Calls Tryz.prog 115 #[.int .i32 c] w fun e w'=>e=.returned (.bool (sm c))/\w'=w:=by
 have hB:sm c=(decide (97<=c) && decide (c<=122)):=rfl;generalize sm c=B at hB ⊢;by_cases h1:97<=c
 ·rw [decide_eq_true h1,Bool.true_and] at hB;have q1:decide (97<=c)=true:=decide_eq_true h1;by_cases h2:c<=122
  ·rw [decide_eq_true h2] at hB;have q2:decide (c<=122)=true:=decide_eq_true h2;subst hB;clear h1 h2;go_enter Tryz.func115,Tryz.ntmps115;go_wp2;go_ret;exact ⟨rfl,rfl⟩
  ·rw [decide_eq_false h2] at hB;have q2:decide (c<=122)=false:=decide_eq_false h2;subst hB;clear h1 h2;go_enter Tryz.func115,Tryz.ntmps115;go_wp2;go_ret;exact ⟨rfl,rfl⟩
 ·rw [decide_eq_false h1,Bool.false_and] at hB;have q1:decide (97<=c)=false:=decide_eq_false h1;subst hB;clear h1;go_enter Tryz.func115,Tryz.ntmps115;go_wp2;go_ret;exact ⟨rfl,rfl⟩
theorem zh (c:Int) (w:World):Calls Tryz.prog 117 #[.int .i32 c] w fun e w'=>e=.returned (.bool (cp c))/\w'=w:=by
 have hB:cp c=(decide (65<=c) && decide (c<=90)):=rfl;generalize cp c=B at hB ⊢;by_cases h1:65<=c
 ·rw [decide_eq_true h1,Bool.true_and] at hB;have q1:decide (65<=c)=true:=decide_eq_true h1;by_cases h2:c<=90
  ·rw [decide_eq_true h2] at hB;have q2:decide (c<=90)=true:=decide_eq_true h2;subst hB;clear h1 h2;go_enter Tryz.func117,Tryz.ntmps117;go_wp2;go_ret;exact ⟨rfl,rfl⟩
  ·rw [decide_eq_false h2] at hB;have q2:decide (c<=90)=false:=decide_eq_false h2;subst hB;clear h1 h2;go_enter Tryz.func117,Tryz.ntmps117;go_wp2;go_ret;exact ⟨rfl,rfl⟩
 ·rw [decide_eq_false h1,Bool.false_and] at hB;have q1:decide (65<=c)=false:=decide_eq_false h1;subst hB;clear h1;go_enter Tryz.func117,Tryz.ntmps117;go_wp2;go_ret;exact ⟨rfl,rfl⟩
theorem gU (c:Int) (w:World):Calls Tryz.prog 113 #[.int .i32 c] w fun e w'=>e=.returned (.bool (dg c))/\w'=w:=by
 have hB:dg c=(decide (48<=c) && decide (c<=57)):=rfl;generalize dg c=B at hB ⊢;by_cases h1:48<=c
 ·rw [decide_eq_true h1,Bool.true_and] at hB;have q1:decide (48<=c)=true:=decide_eq_true h1;by_cases h2:c<=57
  ·rw [decide_eq_true h2] at hB;have q2:decide (c<=57)=true:=decide_eq_true h2;subst hB;clear h1 h2;go_enter Tryz.func113,Tryz.ntmps113;go_wp2;go_ret;exact ⟨rfl,rfl⟩
  ·rw [decide_eq_false h2] at hB;have q2:decide (c<=57)=false:=decide_eq_false h2;subst hB;clear h1 h2;go_enter Tryz.func113,Tryz.ntmps113;go_wp2;go_ret;exact ⟨rfl,rfl⟩
 ·rw [decide_eq_false h1,Bool.false_and] at hB;have q1:decide (48<=c)=false:=decide_eq_false h1;subst hB;clear h1;go_enter Tryz.func113,Tryz.ntmps113;go_wp2;go_ret;exact ⟨rfl,rfl⟩
theorem uG (c:Int) (w:World):Calls Tryz.prog 93 #[.int .u8 c] w fun e w'=>e=.returned (.bool (sm c))/\w'=w:=by
 have hB:sm c=(decide (97<=c) && decide (c<=122)):=rfl;generalize sm c=B at hB ⊢;by_cases h1:97<=c
 ·rw [decide_eq_true h1,Bool.true_and] at hB;have q1:decide (c>=97)=true:=decide_eq_true h1;by_cases h2:c<=122
  ·rw [decide_eq_true h2] at hB;have q2:decide (c<=122)=true:=decide_eq_true h2;subst hB;clear h1 h2;go_enter Tryz.func93,Tryz.ntmps93;go_wp2;go_ret;exact ⟨rfl,rfl⟩
  ·rw [decide_eq_false h2] at hB;have q2:decide (c<=122)=false:=decide_eq_false h2;subst hB;clear h1 h2;go_enter Tryz.func93,Tryz.ntmps93;go_wp2;go_ret;exact ⟨rfl,rfl⟩
 ·rw [decide_eq_false h1,Bool.false_and] at hB;have q1:decide (c>=97)=false:=decide_eq_false h1;subst hB;clear h1;go_enter Tryz.func93,Tryz.ntmps93;go_wp2;go_ret;exact ⟨rfl,rfl⟩
theorem wD (c:Int) (w:World):Calls Tryz.prog 94 #[.int .u8 c] w fun e w'=>e=.returned (.bool (cp c))/\w'=w:=by
 have hB:cp c=(decide (65<=c) && decide (c<=90)):=rfl;generalize cp c=B at hB ⊢;by_cases h1:65<=c
 ·rw [decide_eq_true h1,Bool.true_and] at hB;have q1:decide (c>=65)=true:=decide_eq_true h1;by_cases h2:c<=90
  ·rw [decide_eq_true h2] at hB;have q2:decide (c<=90)=true:=decide_eq_true h2;subst hB;clear h1 h2;go_enter Tryz.func94,Tryz.ntmps94;go_wp2;go_ret;exact ⟨rfl,rfl⟩
  ·rw [decide_eq_false h2] at hB;have q2:decide (c<=90)=false:=decide_eq_false h2;subst hB;clear h1 h2;go_enter Tryz.func94,Tryz.ntmps94;go_wp2;go_ret;exact ⟨rfl,rfl⟩
 ·rw [decide_eq_false h1,Bool.false_and] at hB;have q1:decide (c>=65)=false:=decide_eq_false h1;subst hB;clear h1;go_enter Tryz.func94,Tryz.ntmps94;go_wp2;go_ret;exact ⟨rfl,rfl⟩
theorem FA (c:Int) (w:World):Calls Tryz.prog 108 #[.int .u8 c] w fun e w'=>e=.returned (.bool (dg c))/\w'=w:=by
 have hB:dg c=(decide (48<=c) && decide (c<=57)):=rfl;generalize dg c=B at hB ⊢;by_cases h1:48<=c
 ·rw [decide_eq_true h1,Bool.true_and] at hB;have q1:decide (c>=48)=true:=decide_eq_true h1;by_cases h2:c<=57
  ·rw [decide_eq_true h2] at hB;have q2:decide (c<=57)=true:=decide_eq_true h2;subst hB;clear h1 h2;go_enter Tryz.func108,Tryz.ntmps108;go_wp2;go_ret;exact ⟨rfl,rfl⟩
  ·rw [decide_eq_false h2] at hB;have q2:decide (c<=57)=false:=decide_eq_false h2;subst hB;clear h1 h2;go_enter Tryz.func108,Tryz.ntmps108;go_wp2;go_ret;exact ⟨rfl,rfl⟩
 ·rw [decide_eq_false h1,Bool.false_and] at hB;have q1:decide (c>=48)=false:=decide_eq_false h1;subst hB;clear h1;go_enter Tryz.func108,Tryz.ntmps108;go_wp2;go_ret;exact ⟨rfl,rfl⟩
theorem UL (c:Int) (w:World):Calls Tryz.prog 112 #[.int .i32 c] w fun e w'=>e=.returned (.bool (bl c))/\w'=w:=by
 have hB:bl c=(c == 9 || c == 10 || c == 13 || c == 32):=rfl;generalize bl c=B at hB ⊢;cases q0:c == 9 with
 | true =>
  have hB:B=true:=by rw [hB,q0];cases (c == 10)<;>cases (c == 13)<;>cases (c == 32)<;>rfl
  go_enter Tryz.func112,Tryz.ntmps112;go_wp2;go_ret;exact ⟨ba hB.symm,rfl⟩
 | false =>
  cases q1:c == 10 with
  | true =>
   have hB:B=true:=by rw [hB,q0,q1];cases (c == 10)<;>cases (c == 13)<;>cases (c == 32)<;>rfl
   go_enter Tryz.func112,Tryz.ntmps112;go_wp2;go_ret;exact ⟨ba hB.symm,rfl⟩
  | false =>
   cases q2:c == 13 with
   | true =>
    have hB:B=true:=by rw [hB,q0,q1,q2];cases (c == 10)<;>cases (c == 13)<;>cases (c == 32)<;>rfl
    go_enter Tryz.func112,Tryz.ntmps112;go_wp2;go_ret;exact ⟨ba hB.symm,rfl⟩
   | false =>
    cases q3:c == 32 with
    | true =>
     have hB:B=true:=by rw [hB,q0,q1,q2,q3];rfl
     go_enter Tryz.func112,Tryz.ntmps112;go_wp2;go_ret;exact ⟨ba hB.symm,rfl⟩
    | false =>
     have hB:B=false:=by rw [hB,q0,q1,q2,q3];rfl
     go_enter Tryz.func112,Tryz.ntmps112;go_wp2;go_ret;exact ⟨ba hB.symm,rfl⟩
theorem KD (c:Int) (w:World):Calls Tryz.prog 95 #[.int .u8 c] w fun e w'=>e=.returned (.bool (pt c))/\w'=w:=by
 have hB:pt c=(sm c || cp c || dg c || c == 95):=rfl;have H1:=ae (uG c w);have H2:=ae (wD c w);have H3:=ae (FA c w);generalize pt c=B at hB ⊢;generalize sm c=b1 at *;generalize cp c=b2 at *;generalize dg c=b3 at *;cases q4:c == 95<;>cases b1<;>cases b2<;>cases b3 <;>
 ·rw [q4] at hB;go_enter Tryz.func95,Tryz.ntmps95
  repeat
   first
   | (go_wp2_with fail;refine H1.out.mono ?_;rintro e u ⟨rfl,rfl⟩)
   | (go_wp2_with fail;refine H2.out.mono ?_;rintro e u ⟨rfl,rfl⟩)
   | (go_wp2_with fail;refine H3.out.mono ?_;rintro e u ⟨rfl,rfl⟩)
  go_wp2;go_ret;exact ⟨ba (by rw [hB];rfl),rfl⟩
theorem Pt (n:Int):bV n=((n+1073741824)%2147483648-1073741824 == n):=by
 unfold bV;rw [Bool.eq_iff_iff];simp only [Bool.and_eq_true,decide_eq_true_eq,beq_iff_eq];omega
theorem adk (n:Int) (w:World) (h0:-9223372036854775808<=n) (h1:n<=9223372036854775807):Calls Tryz.prog 172 #[.int .i64 n] w fun e w'=>e=.returned (.int .i64 ((n+1073741824)%2147483648-1073741824))/\w'=w:=by
 go_enter Tryz.func172,Tryz.ntmps172;go_wp2;go_ret;exact ⟨rO (by unfold wrap64;omega),rfl⟩
theorem mI (n:Int) (w:World) (h0:-9223372036854775808<=n) (h1:n<=9223372036854775807):Calls Tryz.prog 144 #[.int .i64 n] w fun e w'=>e=.returned (.bool (bV n))/\w'=w:=by
 rw [Pt];have H:=ae (adk n w h0 h1);generalize (n+1073741824)%2147483648-1073741824=m at *;go_enter Tryz.func144,Tryz.ntmps144;go_wp2_with fail;refine H.out.mono ?_;rintro e u ⟨rfl,rfl⟩;go_wp2;go_ret;exact ⟨rfl,rfl⟩
theorem uV (c:Int) (w:World):Calls Tryz.prog 111 #[.int .i64 c] w fun e w'=>e=.returned (.bool (bV c))/\w'=w:=by
 have hB:bV c=(decide (-1073741824<=c) && decide (c<=1073741823)):=rfl;generalize bV c=B at hB ⊢;by_cases h1:-1073741824<=c
 ·rw [decide_eq_true h1,Bool.true_and] at hB;have q1:decide (c>=-1073741824)=true:=decide_eq_true h1;by_cases h2:c<=1073741823
  ·rw [decide_eq_true h2] at hB;have q2:decide (c<=1073741823)=true:=decide_eq_true h2;subst hB;clear h1 h2;go_enter Tryz.func111,Tryz.ntmps111;go_wp2;go_ret;exact ⟨rfl,rfl⟩
  ·rw [decide_eq_false h2] at hB;have q2:decide (c<=1073741823)=false:=decide_eq_false h2;subst hB;clear h1 h2;go_enter Tryz.func111,Tryz.ntmps111;go_wp2;go_ret;exact ⟨rfl,rfl⟩
 ·rw [decide_eq_false h1,Bool.false_and] at hB;have q1:decide (c>=-1073741824)=false:=decide_eq_false h1;subst hB;clear h1;go_enter Tryz.func111,Tryz.ntmps111;go_wp2;go_ret;exact ⟨rfl,rfl⟩
theorem iC (w:World) (s:ByteArray) (pos:Nat):Below w.heap.size w (w.iter s pos):=(Below.refl _ w).alloc (Nat.le_refl _) _
theorem KC {P:Program} (w:World) (s:ByteArray) (pos:Nat) (h:pos<s.size) (hb:bt s pos<128) (ty:TypeId) :
  (Instr.next (.pointer (some ⟨w.heap.size,0,none⟩)) true ty).run P (w.iter s pos)=.ok (.tuple #[.bool true,.int .i64 pos,.int .i32 (bt s pos)]) (w.iter s (pos+1)):=by
 rw [run_next_any w s pos ty h,Zm s pos h hb]
 have:=uJ s pos
 rw [show (((bt s pos).toNat:Nat):Int)=bt s pos by omega]
theorem Vp {c:Int} (h:128<=c):bl c=false:=by
 unfold bl;rw [beq_eq_false_iff_ne.2 (by omega:c≠9),beq_eq_false_iff_ne.2 (by omega:c≠10),beq_eq_false_iff_ne.2 (by omega:c≠13),beq_eq_false_iff_ne.2 (by omega:c≠32)];rfl
theorem ad7 {c:Int} (h:128<=c):sm c=false:=by unfold sm;rw [decide_eq_false (by omega:¬ c<=122),Bool.and_false]
theorem ad8 {c:Int} (h:128<=c):cp c=false:=by unfold cp;rw [decide_eq_false (by omega:¬ c<=90),Bool.and_false]
theorem pM {c:Int} (h:128<=c):dg c=false:=by unfold dg;rw [decide_eq_false (by omega:¬ c<=57),Bool.and_false]
theorem Sg {c:Int} (h:128<=c):pt c=false:=by unfold pt;rw [ad7 h,ad8 h,pM h,beq_eq_false_iff_ne.2 (by omega:c≠95)];rfl
theorem TV (s:ByteArray) (w:World):Calls Tryz.prog 56 #[.string s] w fun e w'=>e=.returned (.int .i64 (sk s false 0:Nat))/\Below w.heap.size w w':=by
 obtain ⟨R,hR⟩:∃R,R=sk s false 0:=⟨_,rfl⟩;have st0:=ae hR.symm;rw [<- hR];clear hR;go_enter Tryz.func56,Tryz.ntmps56;go_wp2;go_loopw [3] (fun n w'=>∃(pos:Nat) (c:Bool),w'=w.iter s pos/\n=.bool c/\pos<=s.size/\Hid (sk s c pos=R)) (fun _ w'=>s.size-w'.iterPos w.heap.size)
 case atStart=>exact ⟨0,false,rfl,rfl,Nat.zero_le _,st0⟩
 case round =>
  obtain ⟨pos,cm,rfl,rfl,hle,hR⟩:=hrel;clear st0;by_cases hp:pos<s.size
  ·have hs:=qZ s cm hp;rw [hR.out] at hs;by_cases hb:bt s pos<128
   ·have hnx:∀ty,(Instr.next (.pointer (some ⟨w.heap.size,0,none⟩)) true ty).run Tryz.prog (w.iter s pos)=_:=fun ty=>KC w s pos hp hb ty;have HB:=ae (fun (c:Int)=>UL c (w.iter s (pos+1)));generalize bt s pos=c at *;clear hb hR;cases q1:c == 10 with
    | true =>
     rw [if_pos (by simpa using q1)] at hs;have HS:=ae hs;clear hs;go_wp2;go_roundw
     case rel=>exact ⟨pos+1,false,rfl,rfl,hp,ae HS.out.symm⟩
     case measure=>simp;omega
    | false =>
     rw [if_neg (by simpa using q1)] at hs;cases cm with
     | true =>
      rw [if_pos rfl] at hs;have HS:=ae hs;clear hs;go_wp2;go_roundw
      case rel=>exact ⟨pos+1,true,rfl,rfl,hp,ae HS.out.symm⟩
      case measure=>simp;omega
     | false =>
      rw [if_neg (by decide)] at hs;cases q2:c == 35 with
      | true =>
       rw [if_pos (by simpa using q2)] at hs;have HS:=ae hs;clear hs;go_wp2;go_roundw
       case rel=>exact ⟨pos+1,true,rfl,rfl,hp,ae HS.out.symm⟩
       case measure=>simp;omega
      | false =>
       rw [if_neg (by simpa using q2)] at hs;have HC:=ae (HB.out c);clear HB;cases q3:bl c with
       | true =>
        rw [q3,if_pos rfl] at hs;rw [q3] at HC;have HS:=ae hs;clear hs;go_wp2_with fail;refine HC.out.mono ?_;rintro e u ⟨rfl,rfl⟩;go_wp2;go_roundw
        case rel=>exact ⟨pos+1,false,rfl,rfl,hp,ae HS.out.symm⟩
        case measure=>simp;omega
       | false =>
        rw [q3,if_neg (by decide)] at hs;rw [q3] at HC;have HS:=ae hs;clear hs;go_wp2_with fail;refine HC.out.mono ?_;rintro e u ⟨rfl,rfl⟩;go_wp2;go_ret;exact ⟨rO (by rw [HS.out]),iC w s _⟩
   ·obtain ⟨d1,d2,d3,d4⟩:=om s pos hp hb;have hnx:∀ty,(Instr.next (.pointer (some ⟨w.heap.size,0,none⟩)) true ty).run Tryz.prog (w.iter s pos)=_:=fun ty=>run_next_any w s pos ty hp
    have hrm:cm=true->R=sk s true (pos+(Utf8.decode s pos).2):=fun h=>by
     subst h;rw [<- hR.out];exact QB s _ pos d3 fun j h1 h2 h3=>by have:=d4 j h1 h2;omega
    have HN:=ae (show cm=false->R=pos from fun h=>by
     subst h;rw [hs,if_neg (by omega),if_neg (by decide),if_neg (by omega),Vp (by omega),if_neg (by decide)])
    have Mq:=ae hrm;generalize (Utf8.decode s pos).2=wd at *;generalize ((Utf8.decode s pos).1:Int)=c at *;have q1:(c == 10)=false:=beq_eq_false_iff_ne.2 (by omega);have q2:(c == 35)=false:=beq_eq_false_iff_ne.2 (by omega);have HC:=ae (UL c (w.iter s (pos+wd)));rw [Vp d1] at HC;have D2:=ae d2;have D3:=ae d3;clear d1 d4 hs hb hR hrm d2 d3;cases cm with
    | true =>
     have ad9:=ae (Mq.out rfl);clear HN Mq;go_wp2;go_roundw
     case rel=>exact ⟨pos+wd,true,rfl,rfl,D3.out,ae ad9.out.symm⟩
     case measure=>have:=D2.out;have:=D3.out;simp;omega
    | false =>
     have bZ:=ae (HN.out rfl);clear HN Mq;go_wp2_with fail;refine HC.out.mono ?_;rintro e u ⟨rfl,rfl⟩;go_wp2;go_ret;exact ⟨rO (by rw [bZ.out]),iC w s _⟩
  ·have hnx:∀ty,(Instr.next (.pointer (some ⟨w.heap.size,0,none⟩)) true ty).run Tryz.prog (w.iter s pos)=_:=fun ty=>run_next_end w s pos ty hp;have hs:=AU s cm hp;rw [hR.out] at hs;have HS:=ae (show R=s.size by omega);clear hs hR;go_wp2;go_ret;exact ⟨rO (by rw [HS.out]),iC w s _⟩
theorem KA (s:ByteArray) (w:World):Calls Tryz.prog 116 #[.string s] w fun e w'=>e=.returned (.int .i64 (en s pt 0:Nat))/\Below w.heap.size w w':=by
 obtain ⟨R,hR⟩:∃R,R=en s pt 0:=⟨_,rfl⟩;have st0:=ae hR.symm;rw [<- hR];clear hR;go_enter Tryz.func116,Tryz.ntmps116;go_wp2;go_loopw [2] (fun n w'=>∃(pos:Nat),w'=w.iter s pos/\n=.int .i64 0/\pos<=s.size/\Hid (en s pt pos=R)) (fun _ w'=>s.size-w'.iterPos w.heap.size)
 case atStart=>exact ⟨0,rfl,rfl,Nat.zero_le _,st0⟩
 case round =>
  obtain ⟨pos,rfl,rfl,hle,hR⟩:=hrel;clear st0;by_cases hp:pos<s.size
  ·have key:∃(wd:Nat) (c:Int),(∀ty,(Instr.next (.pointer (some ⟨w.heap.size,0,none⟩)) true ty).run Tryz.prog (w.iter s pos)=.ok (.tuple #[.bool true,.int .i64 pos,.int .i32 c]) (w.iter s (pos+wd)))/\1<=wd/\pos+wd<=s.size/\(pt c=true->R=en s pt (pos+wd))/\(pt c=false->R=pos):=by
    by_cases hb:bt s pos<128
    ·refine ⟨1,bt s pos,fun ty=>KC w s pos hp hb ty,Nat.le_refl _,hp,fun h=>?_,fun h=>?_⟩
     ·rw [<- hR.out,oO s pt hp h]
     ·rw [<- hR.out,zf s pt h]
    ·obtain ⟨d1,d2,d3,d4⟩:=om s pos hp hb;refine ⟨_,_,fun ty=>run_next_any w s pos ty hp,d2,d3,fun h=>?_,fun h=>?_⟩
     ·rw [Sg d1] at h;cases h
     ·rw [<- hR.out];exact zf s pt (Sg (by omega))
   obtain ⟨wd,c,hnx,d2,d3,hY,hN⟩:=key;have D2:=ae d2;have D3:=ae d3;have HY:=ae hY;have HN:=ae hN;have hB:pt c=(sm c || cp c || dg c || c == 95):=rfl;have H1:=ae (wI c (w.iter s (pos+wd)));have H2:=ae (zh c (w.iter s (pos+wd)));have H3:=ae (gU c (w.iter s (pos+wd)));clear hY hN d2 d3 hR;generalize pt c=B at *;generalize sm c=b1 at *;generalize cp c=b2 at *;generalize dg c=b3 at *;cases b1 with
   | true =>
    have HR:=ae (HY.out (by rw [hB];rfl));clear HY HN hB;go_wp2_with fail;refine H1.out.mono ?_;rintro e u ⟨rfl,rfl⟩;go_wp2;go_roundw
    case rel=>exact ⟨pos+wd,rfl,rfl,D3.out,ae HR.out.symm⟩
    case measure=>have:=D2.out;have:=D3.out;simp;omega
   | false =>
    cases b2 with
    | true =>
     have HR:=ae (HY.out (by rw [hB];rfl));clear HY HN hB;go_wp2_with fail;refine H1.out.mono ?_;rintro e u ⟨rfl,rfl⟩;go_wp2_with fail;refine H2.out.mono ?_;rintro e u ⟨rfl,rfl⟩;go_wp2;go_roundw
     case rel=>exact ⟨pos+wd,rfl,rfl,D3.out,ae HR.out.symm⟩
     case measure=>have:=D2.out;have:=D3.out;simp;omega
    | false =>
     cases b3 with
     | true =>
      have HR:=ae (HY.out (by rw [hB];rfl));clear HY HN hB;go_wp2_with fail;refine H1.out.mono ?_;rintro e u ⟨rfl,rfl⟩;go_wp2_with fail;refine H2.out.mono ?_;rintro e u ⟨rfl,rfl⟩;go_wp2_with fail;refine H3.out.mono ?_;rintro e u ⟨rfl,rfl⟩;go_wp2;go_roundw
      case rel=>exact ⟨pos+wd,rfl,rfl,D3.out,ae HR.out.symm⟩
      case measure=>have:=D2.out;have:=D3.out;simp;omega
     | false =>
      cases q4:c == 95 with
      | true =>
       have HR:=ae (HY.out (by rw [hB,q4];rfl));have q5:(c != 95)=false:=by unfold bne;rw [q4];rfl
       clear HY HN hB q4;go_wp2_with fail;refine H1.out.mono ?_;rintro e u ⟨rfl,rfl⟩;go_wp2_with fail;refine H2.out.mono ?_;rintro e u ⟨rfl,rfl⟩;go_wp2_with fail;refine H3.out.mono ?_;rintro e u ⟨rfl,rfl⟩;go_wp2;go_roundw
       case rel=>exact ⟨pos+wd,rfl,rfl,D3.out,ae HR.out.symm⟩
       case measure=>have:=D2.out;have:=D3.out;simp;omega
      | false =>
       have HR:=ae (HN.out (by rw [hB,q4];rfl));have q5:(c != 95)=true:=by unfold bne;rw [q4];rfl
       clear HY HN hB q4;go_wp2_with fail;refine H1.out.mono ?_;rintro e u ⟨rfl,rfl⟩;go_wp2_with fail;refine H2.out.mono ?_;rintro e u ⟨rfl,rfl⟩;go_wp2_with fail;refine H3.out.mono ?_;rintro e u ⟨rfl,rfl⟩;go_wp2;go_ret;exact ⟨rO (by rw [HR.out]),iC w s _⟩
  ·have hnx:∀ty,(Instr.next (.pointer (some ⟨w.heap.size,0,none⟩)) true ty).run Tryz.prog (w.iter s pos)=_:=fun ty=>run_next_end w s pos ty hp;have hs:=Bb s pt hp;rw [hR.out] at hs;have HS:=ae (show R=s.size by omega);clear hs hR;go_wp2;go_ret;exact ⟨rO (by rw [HS.out]),iC w s _⟩
theorem jP (s:ByteArray) (i:Nat) (hi:i<s.size) (w:World) {P:Program} (t:TypeId) (h:P.underlying t=some .string):(Instr.index t (.string s) (.int .i64 i)).run P w=.ok (.int .u8 (bt s i)) w:=by
 rw [run_index_string w t s .i64 i h,dif_pos ⟨by omega,by omega⟩];congr 2;exact get_bt s i hi
theorem JA (s:ByteArray) (i:Nat) (hi:i<=s.size) (h63:s.size<9223372036854775807) (w:World):Calls Tryz.prog 107 #[.string s,.int .i64 i] w fun e w'=>e=.returned (.int .i64 (en s pt i:Nat))/\w'=w:=by
 obtain ⟨R,hR⟩:∃R,R=en s pt i:=⟨_,rfl⟩;have st0:=ae hR.symm;rw [<- hR];clear hR;go_enter Tryz.func107,Tryz.ntmps107;go_wp2_with fail
 go_loop [1] (fun a=>∃k:Nat,a=.int .i64 k/\k<=s.size/\Hid (en s pt k=R)) (fun a=>match a with | .int _ k=>s.size-k.toNat|_=>0)
 case atStart=>exact ⟨i,rfl,hi,st0⟩
 case round =>
  obtain ⟨k,rfl,hk,hR⟩:=hrel;clear st0 hi;by_cases hp:k<s.size
  ·have q1:decide ((k:Int)<(s.size:Int))=true:=decide_eq_true (by omega);have hx:=fun (w:World)=>jP s k hp w (P:=Tryz.prog) 9 Tryz.underlying9;have hw1:wrap64 ((k:Int)+1)=((k+1:Nat):Int):=by unfold wrap64;omega
   have HC:=ae (KD (bt s k) w);cases hb:pt (bt s k) with
   | true =>
    have HR:=ae (hR.out.symm.trans (oO s pt hp hb));rw [hb] at HC;generalize bt s k=c at *;clear hb hR;go_wp2_with fail;refine HC.out.mono ?_;rintro e u ⟨rfl,rfl⟩;go_wp2
    go_round
    case rel=>exact ⟨k+1,by first|rfl|(congr 1),hp,ae HR.out.symm⟩
    case measure=>simp;omega
   | false =>
    have HR:=ae (hR.out.symm.trans (zf s pt hb));rw [hb] at HC;generalize bt s k=c at *;clear hb hR;go_wp2_with fail;refine HC.out.mono ?_;rintro e u ⟨rfl,rfl⟩;go_wp2;go_ret;exact ⟨rO (by rw [HR.out]),rfl⟩
  ·have q1:decide ((k:Int)<(s.size:Int))=false:=decide_eq_false (by omega);have HR:=ae (hR.out.symm.trans (Bb s pt hp));clear hR;go_wp2;go_ret;exact ⟨rO (by rw [HR.out]),rfl⟩
end Go.Proofs.YtkdbgopgjbfhbaaGreatDoor
