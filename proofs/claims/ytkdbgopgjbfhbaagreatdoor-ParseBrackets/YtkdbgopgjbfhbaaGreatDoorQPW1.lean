/- Texts that the claim needs. -/
import Derived.Test.YtkdbgopgjbfhbaaGreatDoorQPW0
import Derived.Laws.Strings
import Derived.LoopTactic
import Derived.Deep.MidRow
import Derived.Shelf.LaysM
import Derived.Shelf.Lay
import Derived.Shelf.Strconv.Clone
namespace Go.Proofs.YtkdbgopgjbfhbaaGreatDoor
open Go.RowKit
set_option linter.unusedVariables false
namespace Pz
open Lx
def nd (k:Int) (x y:ByteArray) (n:Int) (es ps:List Value) (a:Int):Value:=.agg #[.int .i64 k,.string x,.string y,.int .i64 n,.agg es.toArray,.agg ps.toArray,.int .i64 a]
abbrev e0:ByteArray:=⟨#[]⟩
def iS:Value->Int
 | .agg c=>match (c:Array Value)[6]? with
  | some (Value.int _ a)=>a
  | _=>0
 | _=>0
theorem aa8 (k:Int) (x y:ByteArray) (n:Int) (es ps:List Value) (a:Int):iS (nd k x y n es ps a)=a:=rfl
def jE:Value->Int
 | .agg c=>match (c:Array Value)[0]? with
  | some (Value.int _ a)=>a
  | _=>0
 | _=>0
theorem vZ (k:Int) (x y:ByteArray) (n:Int) (es ps:List Value) (a:Int):jE (nd k x y n es ps a)=k:=rfl
theorem Ba {k k':Int} {x x' y y':ByteArray} {n n':Int} {es es' ps ps':List Value} {a a':Int} (h:nd k x y n es ps a=nd k' x' y' n' es' ps' a'):k=k'/\x=x'/\y=y'/\n=n'/\es=es'/\ps=ps'/\a=a':=by
 unfold nd at h;simpa using h
-- words
abbrev eY:ByteArray:=⟨#[102,117,110]⟩
abbrev fA:ByteArray:=⟨#[108,101,116]⟩
abbrev qG:ByteArray:=⟨#[114,101,99]⟩
abbrev lq:ByteArray:=⟨#[105,110]⟩
abbrev gI:ByteArray:=⟨#[105,102]⟩
abbrev AB:ByteArray:=⟨#[116,104,101,110]⟩
abbrev AF:ByteArray:=⟨#[101,108,115,101]⟩
abbrev gX:ByteArray:=⟨#[99,97,115,101]⟩
abbrev AJ:ByteArray:=⟨#[111,102]⟩
abbrev yD:ByteArray:=⟨#[101,110,100]⟩
abbrev gW:ByteArray:=⟨#[112,114,105,110,116]⟩
abbrev nZ:ByteArray:=⟨#[116,121,112,101]⟩
abbrev sO:ByteArray:=⟨#[105,110,116]⟩
abbrev yl:ByteArray:=⟨#[84,114,117,101]⟩
abbrev ym:ByteArray:=⟨#[70,97,108,115,101]⟩
abbrev mP:ByteArray:=⟨#[85,110,105,116]⟩
abbrev gU:ByteArray:=⟨#[45,62]⟩
abbrev rW:ByteArray:=⟨#[61,61]⟩
abbrev lg:ByteArray:=⟨#[124]⟩
abbrev jJ:ByteArray:=⟨#[61]⟩
abbrev sL:ByteArray:=⟨#[40]⟩
abbrev sR:ByteArray:=⟨#[41]⟩
abbrev kD:ByteArray:=⟨#[59]⟩
abbrev qR:ByteArray:=⟨#[43]⟩
abbrev qU:ByteArray:=⟨#[45]⟩
abbrev qN:ByteArray:=⟨#[42]⟩
abbrev qO:ByteArray:=⟨#[47]⟩
abbrev qP:ByteArray:=⟨#[37]⟩
abbrev rV:ByteArray:=⟨#[60]⟩
abbrev dP:ByteArray:=⟨#[95]⟩
section
variable (L:List Tk) (en:Int)
def tk (i:Nat):Tk:=match L[i]? with
 | some t=>t
 | none=>⟨0,e0,0,en⟩
theorem jO {i:Nat} {t:Tk} (h:L[i]?=some t):tk L en i=t:=by unfold tk;rw [h]
theorem AY {i:Nat} (h:L.length<=i):tk L en i=⟨0,e0,0,en⟩:=by unfold tk;rw [List.getElem?_eq_none h]
theorem CM {i:Nat} (h:(tk L en i).k≠0):i<L.length:=by
 rcases Nat.lt_or_ge i L.length with hl|hl
 ·exact hl
 ·rw [AY L en hl] at h;exact absurd rfl h
end
def bn (t:Tk) (s:ByteArray):Bool:=(t.k == 5 || t.k == 6) && decide (t.x=s)
theorem pV {t:Tk} {s:ByteArray} (h:bn t s=true):t.k=5\/t.k=6:=by
 unfold bn at h;rw [Bool.and_eq_true,Bool.or_eq_true,beq_iff_eq,beq_iff_eq] at h;exact h.1
abbrev Rd (α:Type):=Except Int (α × Nat)
section
variable (L:List Tk) (en:Int)
def aY (s:ByteArray) (i:Nat):Except Int Nat:=if bn (tk L en i) s=true then .ok (i+1) else .error (tk L en i).a
def bN (k:Int) (i:Nat):Rd Tk:=if (tk L en i).k=k then .ok (tk L en i,i+1) else .error (tk L en i).a
def brk (E:Nat->Rd Value) (i:Nat):Rd Value:=match aY L en sL i with
 | .error z=>.error z
 | .ok i=>match E i with
  | .error z=>.error z
  | .ok (e,j)=>match aY L en sR j with
   | .error z=>.error z
   | .ok j=>.ok (e,j)
def dK (nx:Tk->Bool) (A:Nat->Rd Value):Nat->Nat->List Value->Rd (List Value)
 | 0,i,acc=>.ok (acc,i)
 | f+1,i,acc=>if nx (tk L en i)=true then (match A i with
   | .error z=>.error z
   | .ok (e,j)=>dK nx A f j (acc++[e])) else .ok (acc,i)
-- types
def qF (t:Tk):Bool:=t.k == 1 || t.k == 3 || bn t sL
def rD (x:ByteArray):Value:=if x=sO then nd 1 e0 e0 0 [] [] 0 else nd 4 x e0 0 [] [] 0
def iO (T:Nat->Rd Value) (i:Nat):Rd Value :=
 if (tk L en i).k=1 then .ok (rD (tk L en i).x,i+1)
 else if (tk L en i).k=3 then .ok (nd 2 (tk L en i).x e0 0 [] [] 0,i+1)
 else brk L en T i
def mF (T:Nat->Rd Value) (i:Nat):Rd Value:=match iO L en T i with
 | .error z=>.error z
 | .ok (t,j)=>if (tk L en i).k=1/\(tk L en i).x≠sO then (match dK L en qF (iO L en T) (L.length+1) j [] with
   | .error z=>.error z
   | .ok (ts,j)=>.ok (nd 4 (tk L en i).x e0 0 ts [] 0,j)) else .ok (t,j)
def jv:Nat->Nat->Rd Value
 | 0,i=>.error 0
 | f+1,i=>match mF L en (jv f) i with
  | .error z=>.error z
  | .ok (t,j)=>match aY L en gU j with
   | .error _=>.ok (t,j)
   | .ok j=>match jv f j with
    | .error z=>.error z
    | .ok (u,j)=>.ok (nd 3 e0 e0 0 [t,u] [] 0,j)
-- patterns
def rR (t:Tk):Bool:=t.k == 1 || bn t dP || t.k == 4 || t.k == 2 || bn t sL
def ju (P:Nat->Rd Value) (i:Nat):Rd Value :=
 if (tk L en i).k=1 then .ok (nd 2 (tk L en i).x e0 0 [] [] (tk L en i).a,i+1)
 else if bn (tk L en i) dP=true then .ok (nd 1 e0 e0 0 [] [] (tk L en i).a,i+1)
 else if (tk L en i).k=4 then .ok (nd 3 e0 e0 (tk L en i).n [] [] (tk L en i).a,i+1)
 else if (tk L en i).k=2 then .ok (nd 4 (tk L en i).x e0 0 [] [] (tk L en i).a,i+1)
 else brk L en P i
def gG:Nat->Nat->Rd Value
 | 0,i=>.error 0
 | f+1,i=>if (tk L en i).k=2 then (match dK L en rR (ju L en (gG f)) (L.length+1) (i+1) [] with
   | .error z=>.error z
   | .ok (ps,j)=>.ok (nd 4 (tk L en i).x e0 0 ps [] (tk L en i).a,j)) else ju L en (gG f) i
-- expressions
def mG (t:Tk):Bool:=t.k == 1 || t.k == 4 || t.k == 2 || bn t sL
def fG (E:Nat->Rd Value) (i:Nat):Rd Value :=
 if (tk L en i).k=1 then .ok (nd 1 (tk L en i).x e0 0 [] [] (tk L en i).a,i+1)
 else if (tk L en i).k=4 then .ok (nd 2 e0 e0 (tk L en i).n [] [] (tk L en i).a,i+1)
 else if (tk L en i).k=2 then .ok (nd 8 (tk L en i).x e0 0 [] [] (tk L en i).a,i+1)
 else brk L en E i
def jW (E:Nat->Rd Value):Nat->Nat->Value->Rd Value
 | 0,i,e=>.ok (e,i)
 | f+1,i,e=>if mG (tk L en i)=true then (match fG L en E i with
   | .error z=>.error z
   | .ok (a,j)=>jW E f j (nd 4 e0 e0 0 [e,a] [] (iS e))) else .ok (e,i)
def jd (E:Nat->Rd Value) (i:Nat):Rd Value :=
 if bn (tk L en i) gW=true then (match fG L en E (i+1) with
  | .error z=>.error z
  | .ok (e,j)=>.ok (nd 10 e0 e0 0 [e] [] (tk L en i).a,j))
 else if (tk L en i).k=2 then (match dK L en mG (fG L en E) (L.length+1) (i+1) [] with
  | .error z=>.error z
  | .ok (es,j)=>.ok (nd 8 (tk L en i).x e0 0 es [] (tk L en i).a,j))
 else match fG L en E i with
  | .error z=>.error z
  | .ok (e,j)=>jW L en E (L.length+1) j e
def eZ (sg:Tk->Bool) (A:Nat->Rd Value):Nat->Nat->Value->Rd Value
 | 0,i,e=>.ok (e,i)
 | f+1,i,e=>if sg (tk L en i)=true then (match A (i+1) with
   | .error z=>.error z
   | .ok (a,j)=>eZ sg A f j (nd 9 (tk L en i).x e0 0 [e,a] [] (iS e))) else .ok (e,i)
def qM (t:Tk):Bool:=bn t qN || bn t qO || bn t qP
def qQ (t:Tk):Bool:=bn t qR || bn t qU
def qV (t:Tk):Bool:=bn t rV || bn t rW
def je (E:Nat->Rd Value) (i:Nat):Rd Value:=match jd L en E i with
 | .error z=>.error z
 | .ok (e,j)=>eZ L en qM (jd L en E) (L.length+1) j e
def jf (E:Nat->Rd Value) (i:Nat):Rd Value:=match je L en E i with
 | .error z=>.error z
 | .ok (e,j)=>eZ L en qQ (je L en E) (L.length+1) j e
def kP (E:Nat->Rd Value) (i:Nat):Rd Value:=match jf L en E i with
 | .error z=>.error z
 | .ok (e,j)=>eZ L en qV (jf L en E) 1 j e
def mH (E:Nat->Rd Value) (i:Nat):Rd Value:=match kP L en E i with
 | .error z=>.error z
 | .ok (e,j)=>match aY L en kD j with
  | .error _=>.ok (e,j)
  | .ok j=>match E j with
   | .error z=>.error z
   | .ok (u,j)=>.ok (nd 7 e0 e0 0 [e,u] [nd 4 mP e0 0 [] [] (iS e)] (iS e),j)
def jX (E:Nat->Rd Value) (i:Nat):Rd (Value × Value):=match gG L en (L.length+1) i with
 | .error z=>.error z
 | .ok (p,j)=>match aY L en gU j with
  | .error z=>.error z
  | .ok j=>match E j with
   | .error z=>.error z
   | .ok (e,j)=>.ok ((p,e),j)
def kQ (E:Nat->Rd Value):Nat->Nat->List Value->List Value->Rd (List Value × List Value)
 | 0,i,ps,es=>.ok ((ps,es),i)
 | f+1,i,ps,es=>match aY L en lg i with
  | .error _=>.ok ((ps,es),i)
  | .ok i=>match jX L en E i with
   | .error z=>.error z
   | .ok ((p,e),j)=>kQ E f j (ps++[p]) (es++[e])
def nu (E:Nat->Rd Value) (i:Nat):Rd Value:=match bN L en 1 (i+1) with
 | .error z=>.error z
 | .ok (t,j)=>match aY L en gU j with
  | .error z=>.error z
  | .ok j=>match E j with
   | .error z=>.error z
   | .ok (e,j)=>.ok (nd 3 t.x e0 0 [e] [] (tk L en i).a,j)
def jL (E:Nat->Rd Value) (k:Int) (x y:ByteArray) (a:Int) (i:Nat):Rd Value:=match aY L en jJ i with
 | .error z=>.error z
 | .ok j=>match E j with
  | .error z=>.error z
  | .ok (b,j)=>match aY L en lq j with
   | .error z=>.error z
   | .ok j=>match E j with
    | .error z=>.error z
    | .ok (e,j)=>.ok (nd k x y 0 [b,e] [] a,j)
def ny (E:Nat->Rd Value) (i:Nat):Rd Value:=match aY L en qG (i+1) with
 | .error _=>(match bN L en 1 (i+1) with
  | .error z=>.error z
  | .ok (t,j)=>jL L en E 5 t.x e0 (tk L en i).a j)
 | .ok j=>match bN L en 1 j with
  | .error z=>.error z
  | .ok (t,j)=>match bN L en 1 j with
   | .error z=>.error z
   | .ok (u,j)=>jL L en E 6 t.x u.x (tk L en i).a j
def oG (E:Nat->Rd Value) (i:Nat):Rd Value:=match E (i+1) with
 | .error z=>.error z
 | .ok (c,j)=>match aY L en AB j with
  | .error z=>.error z
  | .ok j=>match E j with
   | .error z=>.error z
   | .ok (t,j)=>match aY L en AF j with
    | .error z=>.error z
    | .ok j=>match E j with
     | .error z=>.error z
     | .ok (u,j)=>.ok (nd 7 e0 e0 0 [c,t,u] [nd 4 yl e0 0 [] [] (tk L en i).a,nd 4 ym e0 0 [] [] (tk L en i).a] (tk L en i).a,j)
def nz (E:Nat->Rd Value) (i:Nat):Rd Value:=match E (i+1) with
 | .error z=>.error z
 | .ok (c,j)=>match aY L en AJ j with
  | .error z=>.error z
  | .ok j=>match jX L en E j with
   | .error z=>.error z
   | .ok ((p,e),j)=>match kQ L en E (L.length+1) j [p] [c,e] with
    | .error z=>.error z
    | .ok ((ps,es),j)=>match aY L en yD j with
     | .error z=>.error z
     | .ok j=>.ok (nd 7 e0 e0 0 es ps (tk L en i).a,j)
def dD:Nat->Nat->Rd Value
 | 0,i=>.error 0
 | f+1,i =>
  if bn (tk L en i) eY=true then nu L en (dD f) i
  else if bn (tk L en i) fA=true then ny L en (dD f) i
  else if bn (tk L en i) gI=true then oG L en (dD f) i
  else if bn (tk L en i) gX=true then nz L en (dD f) i
  else mH L en (dD f) i
-- declared types: a constructor is its name and its fields;a declared type its name,parameters,constructors,place
def sZ (x:ByteArray) (ts:List Value):Value:=.agg #[.string x,.agg ts.toArray]
def pM (x:ByteArray) (ps:List ByteArray) (cs:List Value) (a:Int):Value:=.agg #[.string x,.agg (ps.map Value.string).toArray,.agg cs.toArray,.int .i64 a]
def iP (i:Nat):Rd Value:=match bN L en 2 i with
 | .error z=>.error z
 | .ok (t,j)=>match dK L en qF (iO L en (jv L en (L.length+1))) (L.length+1) j [] with
  | .error z=>.error z
  | .ok (ts,j)=>.ok (sZ t.x ts,j)
def jT:Nat->Nat->List ByteArray->List ByteArray × Nat
 | 0,i,acc=>(acc,i)
 | f+1,i,acc=>if (tk L en i).k=3 then jT f (i+1) (acc++[(tk L en i).x]) else (acc,i)
def jY:Nat->Nat->List Value->Rd (List Value)
 | 0,i,acc=>.ok (acc,i)
 | f+1,i,acc=>match aY L en lg i with
  | .error _=>.ok (acc,i)
  | .ok i=>match iP L en i with
   | .error z=>.error z
   | .ok (c,j)=>jY f j (acc++[c])
def nA (i:Nat):Rd Value:=match bN L en 1 (i+1) with
 | .error z=>.error z
 | .ok (t,j)=>match aY L en jJ (jT L en (L.length+1) j []).2 with
  | .error z=>.error z
  | .ok j'=>match iP L en j' with
   | .error z=>.error z
   | .ok (c,j2)=>match jY L en (L.length+1) j2 [c] with
    | .error z=>.error z
    | .ok (cs,j3)=>match aY L en kD j3 with
     | .error z=>.error z
     | .ok j4=>.ok (pM t.x (jT L en (L.length+1) j []).1 cs (tk L en i).a,j4)
def jC:Nat->Nat->List Value->Rd (List Value)
 | 0,i,acc=>.ok (acc,i)
 | f+1,i,acc=>if bn (tk L en i) nZ=true then (match nA L en i with
   | .error z=>.error z
   | .ok (d,j)=>jC f j (acc++[d])) else .ok (acc,i)
end
end Pz
theorem zW {k:IntKind} {a b:Int} (h:a=b):Ending.returned (.int k a)=.returned (.int k b):=by rw [h]
theorem ae {p:Prop} (h:p):Hid p:=h
theorem bf {a b:Bool} (h:a=b):Ending.returned (.bool a)=.returned (.bool b):=by rw [h]
theorem tN {t s:ByteArray} (h:¬ t=s):(t.toList == s.toList)=false:=by
 rw [beq_eq_false_iff_ne];intro e;rw [ByteArray.toList_eq,ByteArray.toList_eq] at e;exact h (ByteArray.ext (Array.toList_inj.1 e))
end Go.Proofs.YtkdbgopgjbfhbaaGreatDoor
namespace Go.Proofs.YtkdbgopgjbfhbaaGreatDoor
open Go.RowKit Lx
set_option linter.unusedVariables false
set_option maxHeartbeats 4000000
theorem aB {w u v:World} (h:Below w.heap.size w u) (k:Below u.heap.size u v):Below w.heap.size w v:=h.trans (k.mono h.size)
theorem wW (c:Int) (w:World):Calls Tryz.prog 115 #[.int .i32 c] w fun e w'=>e=.returned (.bool (sm c))/\w'=w:=by
 have hB:sm c=(decide (97<=c) && decide (c<=122)):=rfl;generalize sm c=B at hB ⊢;by_cases h1:97<=c
 ·rw [decide_eq_true h1,Bool.true_and] at hB;have q1:decide (97<=c)=true:=decide_eq_true h1;by_cases h2:c<=122
  ·rw [decide_eq_true h2] at hB;have q2:decide (c<=122)=true:=decide_eq_true h2;subst hB;clear h1 h2;go_enter Tryz.func115,Tryz.ntmps115;go_wp2;go_ret;exact ⟨rfl,rfl⟩
  ·rw [decide_eq_false h2] at hB;have q2:decide (c<=122)=false:=decide_eq_false h2;subst hB;clear h1 h2;go_enter Tryz.func115,Tryz.ntmps115;go_wp2;go_ret;exact ⟨rfl,rfl⟩
 ·rw [decide_eq_false h1,Bool.false_and] at hB;have q1:decide (97<=c)=false:=decide_eq_false h1;subst hB;clear h1;go_enter Tryz.func115,Tryz.ntmps115;go_wp2;go_ret;exact ⟨rfl,rfl⟩
theorem zw (c:Int) (w:World):Calls Tryz.prog 117 #[.int .i32 c] w fun e w'=>e=.returned (.bool (cp c))/\w'=w:=by
 have hB:cp c=(decide (65<=c) && decide (c<=90)):=rfl;generalize cp c=B at hB ⊢;by_cases h1:65<=c
 ·rw [decide_eq_true h1,Bool.true_and] at hB;have q1:decide (65<=c)=true:=decide_eq_true h1;by_cases h2:c<=90
  ·rw [decide_eq_true h2] at hB;have q2:decide (c<=90)=true:=decide_eq_true h2;subst hB;clear h1 h2;go_enter Tryz.func117,Tryz.ntmps117;go_wp2;go_ret;exact ⟨rfl,rfl⟩
  ·rw [decide_eq_false h2] at hB;have q2:decide (c<=90)=false:=decide_eq_false h2;subst hB;clear h1 h2;go_enter Tryz.func117,Tryz.ntmps117;go_wp2;go_ret;exact ⟨rfl,rfl⟩
 ·rw [decide_eq_false h1,Bool.false_and] at hB;have q1:decide (65<=c)=false:=decide_eq_false h1;subst hB;clear h1;go_enter Tryz.func117,Tryz.ntmps117;go_wp2;go_ret;exact ⟨rfl,rfl⟩
theorem gZ (c:Int) (w:World):Calls Tryz.prog 113 #[.int .i32 c] w fun e w'=>e=.returned (.bool (dg c))/\w'=w:=by
 have hB:dg c=(decide (48<=c) && decide (c<=57)):=rfl;generalize dg c=B at hB ⊢;by_cases h1:48<=c
 ·rw [decide_eq_true h1,Bool.true_and] at hB;have q1:decide (48<=c)=true:=decide_eq_true h1;by_cases h2:c<=57
  ·rw [decide_eq_true h2] at hB;have q2:decide (c<=57)=true:=decide_eq_true h2;subst hB;clear h1 h2;go_enter Tryz.func113,Tryz.ntmps113;go_wp2;go_ret;exact ⟨rfl,rfl⟩
  ·rw [decide_eq_false h2] at hB;have q2:decide (c<=57)=false:=decide_eq_false h2;subst hB;clear h1 h2;go_enter Tryz.func113,Tryz.ntmps113;go_wp2;go_ret;exact ⟨rfl,rfl⟩
 ·rw [decide_eq_false h1,Bool.false_and] at hB;have q1:decide (48<=c)=false:=decide_eq_false h1;subst hB;clear h1;go_enter Tryz.func113,Tryz.ntmps113;go_wp2;go_ret;exact ⟨rfl,rfl⟩
theorem UJ (c:Int) (w:World):Calls Tryz.prog 112 #[.int .i32 c] w fun e w'=>e=.returned (.bool (bl c))/\w'=w:=by
 have hB:bl c=(c == 9 || c == 10 || c == 13 || c == 32):=rfl;generalize bl c=B at hB ⊢;cases q0:c == 9 with
 | true =>
  have hB:B=true:=by rw [hB,q0];cases (c == 10)<;>cases (c == 13)<;>cases (c == 32)<;>rfl
  go_enter Tryz.func112,Tryz.ntmps112;go_wp2;go_ret;exact ⟨bf hB.symm,rfl⟩
 | false =>
  cases q1:c == 10 with
  | true =>
   have hB:B=true:=by rw [hB,q0,q1];cases (c == 10)<;>cases (c == 13)<;>cases (c == 32)<;>rfl
   go_enter Tryz.func112,Tryz.ntmps112;go_wp2;go_ret;exact ⟨bf hB.symm,rfl⟩
  | false =>
   cases q2:c == 13 with
   | true =>
    have hB:B=true:=by rw [hB,q0,q1,q2];cases (c == 10)<;>cases (c == 13)<;>cases (c == 32)<;>rfl
    go_enter Tryz.func112,Tryz.ntmps112;go_wp2;go_ret;exact ⟨bf hB.symm,rfl⟩
   | false =>
    cases q3:c == 32 with
    | true =>
     have hB:B=true:=by rw [hB,q0,q1,q2,q3];rfl
     go_enter Tryz.func112,Tryz.ntmps112;go_wp2;go_ret;exact ⟨bf hB.symm,rfl⟩
    | false =>
     have hB:B=false:=by rw [hB,q0,q1,q2,q3];rfl
     go_enter Tryz.func112,Tryz.ntmps112;go_wp2;go_ret;exact ⟨bf hB.symm,rfl⟩
theorem O4 (n:Int):ez n=((n+1073741824)%2147483648-1073741824 == n):=by
 unfold ez;rw [Bool.eq_iff_iff];simp only [Bool.and_eq_true,decide_eq_true_eq,beq_iff_eq];omega
theorem ac4 (n:Int) (w:World) (h0:-9223372036854775808<=n) (h1:n<=9223372036854775807):Calls Tryz.prog 172 #[.int .i64 n] w fun e w'=>e=.returned (.int .i64 ((n+1073741824)%2147483648-1073741824))/\w'=w:=by
 go_enter Tryz.func172,Tryz.ntmps172;go_wp2;go_ret;exact ⟨zW (by unfold wrap64;omega),rfl⟩
theorem mY (n:Int) (w:World) (h0:-9223372036854775808<=n) (h1:n<=9223372036854775807):Calls Tryz.prog 144 #[.int .i64 n] w fun e w'=>e=.returned (.bool (ez n))/\w'=w:=by
 rw [O4];have H:=ae (ac4 n w h0 h1);generalize (n+1073741824)%2147483648-1073741824=m at *;go_enter Tryz.func144,Tryz.ntmps144;go_wp2_with fail;refine H.out.mono ?_;rintro e u ⟨rfl,rfl⟩;go_wp2;go_ret;exact ⟨rfl,rfl⟩
theorem iB (w:World) (s:ByteArray) (pos:Nat):Below w.heap.size w (w.iter s pos):=(Below.refl _ w).alloc (Nat.le_refl _) _
theorem KE {P:Program} (w:World) (s:ByteArray) (pos:Nat) (h:pos<s.size) (hb:bt s pos<128) (ty:TypeId) :
  (Instr.next (.pointer (some ⟨w.heap.size,0,none⟩)) true ty).run P (w.iter s pos)=.ok (.tuple #[.bool true,.int .i64 pos,.int .i32 (bt s pos)]) (w.iter s (pos+1)):=by
 rw [run_next_any w s pos ty h,YS s pos h hb]
 have:=wS s pos
 rw [show (((bt s pos).toNat:Nat):Int)=bt s pos by omega]
theorem Vm {c:Int} (h:128<=c):bl c=false:=by
 unfold bl;rw [beq_eq_false_iff_ne.2 (by omega:c≠9),beq_eq_false_iff_ne.2 (by omega:c≠10),beq_eq_false_iff_ne.2 (by omega:c≠13),beq_eq_false_iff_ne.2 (by omega:c≠32)];rfl
theorem adQ {c:Int} (h:128<=c):sm c=false:=by unfold sm;rw [decide_eq_false (by omega:¬ c<=122),Bool.and_false]
theorem adR {c:Int} (h:128<=c):cp c=false:=by unfold cp;rw [decide_eq_false (by omega:¬ c<=90),Bool.and_false]
theorem qo {c:Int} (h:128<=c):dg c=false:=by unfold dg;rw [decide_eq_false (by omega:¬ c<=57),Bool.and_false]
theorem Rl {c:Int} (h:128<=c):pt c=false:=by unfold pt;rw [adQ h,adR h,qo h,beq_eq_false_iff_ne.2 (by omega:c≠95)];rfl
theorem TQ (s:ByteArray) (w:World):Calls Tryz.prog 56 #[.string s] w fun e w'=>e=.returned (.int .i64 (sk s false 0:Nat))/\Below w.heap.size w w':=by
 obtain ⟨R,hR⟩:∃R,R=sk s false 0:=⟨_,rfl⟩;have st0:=ae hR.symm;rw [<- hR];clear hR;go_enter Tryz.func56,Tryz.ntmps56;go_wp2;go_loopw [3] (fun n w'=>∃(pos:Nat) (c:Bool),w'=w.iter s pos/\n=.bool c/\pos<=s.size/\Hid (sk s c pos=R)) (fun _ w'=>s.size-w'.iterPos w.heap.size)
 case atStart=>exact ⟨0,false,rfl,rfl,Nat.zero_le _,st0⟩
 case round =>
  obtain ⟨pos,cm,rfl,rfl,hle,hR⟩:=hrel;clear st0;by_cases hp:pos<s.size
  ·have hs:=oO s cm hp;rw [hR.out] at hs;by_cases hb:bt s pos<128
   ·have hnx:∀ty,(Instr.next (.pointer (some ⟨w.heap.size,0,none⟩)) true ty).run Tryz.prog (w.iter s pos)=_:=fun ty=>KE w s pos hp hb ty;have HB:=ae (fun (c:Int)=>UJ c (w.iter s (pos+1)));generalize bt s pos=c at *;clear hb hR;cases q1:c == 10 with
    | true =>
     rw [if_pos (by simpa using q1)] at hs;have HS:=ae hs;clear hs;go_wp2;go_roundw
     case rel=>exact ⟨pos+1,false,rfl,rfl,hp,ae HS.out.symm⟩
     case measure=>simp;omega
    | false =>
     rw [if_neg (by simpa using q1)] at hs;cases cm with
     | true =>
      rw [if_pos rfl] at hs;have HS:=ae hs;clear hs;go_wp2;go_roundw
      case rel=>exact ⟨pos+1,true,rfl,rfl,hp,ae HS.out.symm⟩
      case measure=>simp;omega
     | false =>
      rw [if_neg (by decide)] at hs;cases q2:c == 35 with
      | true =>
       rw [if_pos (by simpa using q2)] at hs;have HS:=ae hs;clear hs;go_wp2;go_roundw
       case rel=>exact ⟨pos+1,true,rfl,rfl,hp,ae HS.out.symm⟩
       case measure=>simp;omega
      | false =>
       rw [if_neg (by simpa using q2)] at hs;have HC:=ae (HB.out c);clear HB;cases q3:bl c with
       | true =>
        rw [q3,if_pos rfl] at hs;rw [q3] at HC;have HS:=ae hs;clear hs;go_wp2_with fail;refine HC.out.mono ?_;rintro e u ⟨rfl,rfl⟩;go_wp2;go_roundw
        case rel=>exact ⟨pos+1,false,rfl,rfl,hp,ae HS.out.symm⟩
        case measure=>simp;omega
       | false =>
        rw [q3,if_neg (by decide)] at hs;rw [q3] at HC;have HS:=ae hs;clear hs;go_wp2_with fail;refine HC.out.mono ?_;rintro e u ⟨rfl,rfl⟩;go_wp2;go_ret;exact ⟨zW (by rw [HS.out]),iB w s _⟩
   ·obtain ⟨d1,d2,d3,d4⟩:=o9 s pos hp hb;have hnx:∀ty,(Instr.next (.pointer (some ⟨w.heap.size,0,none⟩)) true ty).run Tryz.prog (w.iter s pos)=_:=fun ty=>run_next_any w s pos ty hp
    have hrm:cm=true->R=sk s true (pos+(Utf8.decode s pos).2):=fun h=>by
     subst h;rw [<- hR.out];exact Qe s _ pos d3 fun j h1 h2 h3=>by have:=d4 j h1 h2;omega
    have HN:=ae (show cm=false->R=pos from fun h=>by
     subst h;rw [hs,if_neg (by omega),if_neg (by decide),if_neg (by omega),Vm (by omega),if_neg (by decide)])
    have MJ:=ae hrm;generalize (Utf8.decode s pos).2=wd at *;generalize ((Utf8.decode s pos).1:Int)=c at *;have q1:(c == 10)=false:=beq_eq_false_iff_ne.2 (by omega);have q2:(c == 35)=false:=beq_eq_false_iff_ne.2 (by omega);have HC:=ae (UJ c (w.iter s (pos+wd)));rw [Vm d1] at HC;have D2:=ae d2;have D3:=ae d3;clear d1 d4 hs hb hR hrm d2 d3;cases cm with
    | true =>
     have adS:=ae (MJ.out rfl);clear HN MJ;go_wp2;go_roundw
     case rel=>exact ⟨pos+wd,true,rfl,rfl,D3.out,ae adS.out.symm⟩
     case measure=>have:=D2.out;have:=D3.out;simp;omega
    | false =>
     have cG:=ae (HN.out rfl);clear HN MJ;go_wp2_with fail;refine HC.out.mono ?_;rintro e u ⟨rfl,rfl⟩;go_wp2;go_ret;exact ⟨zW (by rw [cG.out]),iB w s _⟩
  ·have hnx:∀ty,(Instr.next (.pointer (some ⟨w.heap.size,0,none⟩)) true ty).run Tryz.prog (w.iter s pos)=_:=fun ty=>run_next_end w s pos ty hp;have hs:=JM s cm hp;rw [hR.out] at hs;have HS:=ae (show R=s.size by omega);clear hs hR;go_wp2;go_ret;exact ⟨zW (by rw [HS.out]),iB w s _⟩
theorem KD (s:ByteArray) (w:World):Calls Tryz.prog 116 #[.string s] w fun e w'=>e=.returned (.int .i64 (en s pt 0:Nat))/\Below w.heap.size w w':=by
 obtain ⟨R,hR⟩:∃R,R=en s pt 0:=⟨_,rfl⟩;have st0:=ae hR.symm;rw [<- hR];clear hR;go_enter Tryz.func116,Tryz.ntmps116;go_wp2;go_loopw [2] (fun n w'=>∃(pos:Nat),w'=w.iter s pos/\n=.int .i64 0/\pos<=s.size/\Hid (en s pt pos=R)) (fun _ w'=>s.size-w'.iterPos w.heap.size)
 case atStart=>exact ⟨0,rfl,rfl,Nat.zero_le _,st0⟩
 case round =>
  obtain ⟨pos,rfl,rfl,hle,hR⟩:=hrel;clear st0;by_cases hp:pos<s.size
  ·have key:∃(wd:Nat) (c:Int),(∀ty,(Instr.next (.pointer (some ⟨w.heap.size,0,none⟩)) true ty).run Tryz.prog (w.iter s pos)=.ok (.tuple #[.bool true,.int .i64 pos,.int .i32 c]) (w.iter s (pos+wd)))/\1<=wd/\pos+wd<=s.size/\(pt c=true->R=en s pt (pos+wd))/\(pt c=false->R=pos):=by
    by_cases hb:bt s pos<128
    ·refine ⟨1,bt s pos,fun ty=>KE w s pos hp hb ty,Nat.le_refl _,hp,fun h=>?_,fun h=>?_⟩
     ·rw [<- hR.out,AK s pt hp h]
     ·rw [<- hR.out,JL s pt h]
    ·obtain ⟨d1,d2,d3,d4⟩:=o9 s pos hp hb;refine ⟨_,_,fun ty=>run_next_any w s pos ty hp,d2,d3,fun h=>?_,fun h=>?_⟩
     ·rw [Rl d1] at h;cases h
     ·rw [<- hR.out];exact JL s pt (Rl (by omega))
   obtain ⟨wd,c,hnx,d2,d3,hY,hN⟩:=key;have D2:=ae d2;have D3:=ae d3;have HY:=ae hY;have HN:=ae hN;have hB:pt c=(sm c || cp c || dg c || c == 95):=rfl;have H1:=ae (wW c (w.iter s (pos+wd)));have H2:=ae (zw c (w.iter s (pos+wd)));have H3:=ae (gZ c (w.iter s (pos+wd)));clear hY hN d2 d3 hR;generalize pt c=B at *;generalize sm c=b1 at *;generalize cp c=b2 at *;generalize dg c=b3 at *;cases b1 with
   | true =>
    have HR:=ae (HY.out (by rw [hB];rfl));clear HY HN hB;go_wp2_with fail;refine H1.out.mono ?_;rintro e u ⟨rfl,rfl⟩;go_wp2;go_roundw
    case rel=>exact ⟨pos+wd,rfl,rfl,D3.out,ae HR.out.symm⟩
    case measure=>have:=D2.out;have:=D3.out;simp;omega
   | false =>
    cases b2 with
    | true =>
     have HR:=ae (HY.out (by rw [hB];rfl));clear HY HN hB;go_wp2_with fail;refine H1.out.mono ?_;rintro e u ⟨rfl,rfl⟩;go_wp2_with fail;refine H2.out.mono ?_;rintro e u ⟨rfl,rfl⟩;go_wp2;go_roundw
     case rel=>exact ⟨pos+wd,rfl,rfl,D3.out,ae HR.out.symm⟩
     case measure=>have:=D2.out;have:=D3.out;simp;omega
    | false =>
     cases b3 with
     | true =>
      have HR:=ae (HY.out (by rw [hB];rfl));clear HY HN hB;go_wp2_with fail;refine H1.out.mono ?_;rintro e u ⟨rfl,rfl⟩;go_wp2_with fail;refine H2.out.mono ?_;rintro e u ⟨rfl,rfl⟩;go_wp2_with fail;refine H3.out.mono ?_;rintro e u ⟨rfl,rfl⟩;go_wp2;go_roundw
      case rel=>exact ⟨pos+wd,rfl,rfl,D3.out,ae HR.out.symm⟩
      case measure=>have:=D2.out;have:=D3.out;simp;omega
     | false =>
      cases q4:c == 95 with
      | true =>
       have HR:=ae (HY.out (by rw [hB,q4];rfl));have q5:(c != 95)=false:=by unfold bne;rw [q4];rfl
       clear HY HN hB q4;go_wp2_with fail;refine H1.out.mono ?_;rintro e u ⟨rfl,rfl⟩;go_wp2_with fail;refine H2.out.mono ?_;rintro e u ⟨rfl,rfl⟩;go_wp2_with fail;refine H3.out.mono ?_;rintro e u ⟨rfl,rfl⟩;go_wp2;go_roundw
       case rel=>exact ⟨pos+wd,rfl,rfl,D3.out,ae HR.out.symm⟩
       case measure=>have:=D2.out;have:=D3.out;simp;omega
      | false =>
       have HR:=ae (HN.out (by rw [hB,q4];rfl));have q5:(c != 95)=true:=by unfold bne;rw [q4];rfl
       clear HY HN hB q4;go_wp2_with fail;refine H1.out.mono ?_;rintro e u ⟨rfl,rfl⟩;go_wp2_with fail;refine H2.out.mono ?_;rintro e u ⟨rfl,rfl⟩;go_wp2_with fail;refine H3.out.mono ?_;rintro e u ⟨rfl,rfl⟩;go_wp2;go_ret;exact ⟨zW (by rw [HR.out]),iB w s _⟩
  ·have hnx:∀ty,(Instr.next (.pointer (some ⟨w.heap.size,0,none⟩)) true ty).run Tryz.prog (w.iter s pos)=_:=fun ty=>run_next_end w s pos ty hp;have hs:=P8 s pt hp;rw [hR.out] at hs;have HS:=ae (show R=s.size by omega);clear hs hR;go_wp2;go_ret;exact ⟨zW (by rw [HS.out]),iB w s _⟩
theorem Rm (s:ByteArray) (i:Nat) (hi:i<s.size) (w:World) {P:Program} (t:TypeId) (h:P.underlying t=some .string):(Instr.index t (.string s) (.int .i64 i)).run P w=.ok (.int .u8 (bt s i)) w:=by
 rw [run_index_string w t s .i64 i h,dif_pos ⟨by omega,by omega⟩];congr 2;exact get_bt s i hi
set_option linter.unusedVariables false
namespace Lx
end Lx
namespace Lx
theorem Dq (g:Nat) (t:TypeId):∀(vs:List Value) (o:Nat) (w:World) (cur:Array Value),w.heap[g]?=some (.cells cur t (0,0))->o+vs.length<=cur.size ->
  (w.setCells g o vs).heap[g]?=some (.cells (cur.toList.take o++vs++cur.toList.drop (o+vs.length)).toArray t (0,0))
 | [],o,w,cur,h,_=>by simpa [World.setCells] using h
 | v :: r,o,w,cur,h,hl=>by
  simp only [List.length_cons] at hl;have h1:=Dq g t r (o+1) (w.setCell ⟨g,o,none⟩ v) (cur.setIfInBounds o v) (heap_setCell_same w g o cur t v h) (by rw [Array.size_setIfInBounds];omega);rw [World.setCells,h1,Array.toList_setIfInBounds];have hs:o<cur.toList.length:=by rw [Array.length_toList];omega
  have e1:(cur.toList.set o v).take (o+1)=cur.toList.take o++[v]:=by
   rw [List.take_add_one,List.take_set_of_le (Nat.le_refl o),List.getElem?_set_self hs];rfl
  have e2:(cur.toList.set o v).drop (o+1+r.length)=cur.toList.drop (o+1+r.length):=List.drop_set_of_lt (by omega);rw [e1,e2];simp only [List.length_cons,List.append_assoc,List.cons_append,List.nil_append];rw [show o+1+r.length=o+(r.length+1) by omega]
theorem nL (B g:Nat) (hg:B<=g):∀(vs:List Value) (o:Nat) (w u:World),Below B w u->Below B w (u.setCells g o vs)
 | [],_,w,u,h=>h
 | v :: r,o,w,u,h=>nL B g hg r (o+1) w _ (h.setCell hg _)
theorem adm {w:World} {b:Nat} {t:TypeId} {cs vs:Array Value} (h:w.heap[b]?=some (.cells cs t (0,0))) (hc:cs.size=4) (hv:vs.size=4):(w.setCells b 0 vs.toList).heap[b]?=some (.cells vs t (0,0)):=by
 rw [Dq b t vs.toList 0 w cs h (by simp;omega)];have hd:List.drop 4 cs.toList = []:=List.drop_eq_nil_of_le (by simp [hc]);simp [hv,hd]
theorem adn {w:World} {b:Nat} {t:TypeId} {cs:Array Value} (h:w.heap[b]?=some (.cells cs t (0,0))) (hc:cs.size=4):w.there b 0 4:=fun j hj=>by
 refine ⟨?_,?_⟩
 ·unfold World.cell?;rw [h,Nat.zero_add];show (cs[j]?).isSome=true;rw [Array.getElem?_eq_getElem (by omega)];rfl
 ·unfold World.frozen?;rw [h];simp
theorem fI:(Tryz.prog.info? 47).map (·.size)=some 4:=by kernel_rfl
def wA (w:World):World:=w.alloc (.cells #[.int .i64 0,.string ⟨#[]⟩,.int .i64 0,.int .i64 0] 47)
theorem uU (w:World):(wA w).heap.size=w.heap.size+1:=by unfold wA;simp
theorem ado (w:World):(wA w).heap[w.heap.size]?=some (.cells #[.int .i64 0,.string ⟨#[]⟩,.int .i64 0,.int .i64 0] 47 (0,0)):=heap_alloc_new w _
theorem wP (w:World):Below w.heap.size w (wA w):=(Below.refl _ w).alloc (Nat.le_refl _) _
structure An (w u:World):Prop where
 blk:u.heap[w.heap.size]?=some (.cells #[.int .i64 0,.string ⟨#[]⟩,.int .i64 0,.int .i64 0] 47 (0,0))
 eG:Below w.heap.size w u
theorem An.start (w:World):An w (wA w):=⟨ado w,wP w⟩
theorem An.on {w u u':World} (h:An w u) (hb:Below u.heap.size u u'):An w u' :=
 ⟨by rw [hb.block _ (Array.getElem?_eq_some_iff.1 h.blk).1];exact h.blk,aB h.eG hb⟩
theorem An.put {w u:World} (h:An w u) (a0 a1 a2 a3:Value):∃W2,u.setCells w.heap.size 0 (#[a0,a1,a2,a3]:Array Value).toList=W2/\u.there w.heap.size 0 4/\W2.cell? ⟨w.heap.size,0,none⟩=some a0/\W2.cell? ⟨w.heap.size,1,none⟩=some a1
  /\ W2.cell? ⟨w.heap.size,2,none⟩=some a2/\W2.cell? ⟨w.heap.size,3,none⟩=some a3/\Below w.heap.size w W2:=by
 have hh:=adm h.blk rfl (vs:=#[a0,a1,a2,a3]) rfl;refine ⟨_,rfl,adn h.blk rfl,?_,?_,?_,?_,nL _ _ (Nat.le_refl _) _ 0 w u h.eG⟩
 all_goals (unfold World.cell?;rw [hh];rfl)
end Lx
end Go.Proofs.YtkdbgopgjbfhbaaGreatDoor
namespace Go.Proofs.YtkdbgopgjbfhbaaGreatDoor
open Go.RowKit Go.Shelf Lx
set_option linter.unusedVariables false
def Tryz.ac0:Go.Shelf.Ren:=⟨fun|316=>150|n=>n,fun|9=>9|3=>3|4=>4|37=>90|0=>0|127=>182|5=>5|n=>n,fun|n=>n⟩
theorem Tryz.ac1:Go.Proofs.LaysM.n316 Tryz.prog Tryz.ac0:={
 mixed:=by kernel_rfl
 f316:=Tryz.func150.trans (congrArg some (by kernel_rfl))
 t0:=Tryz.underlying0
 a0:=Tryz.isAgg0
 z0:=Tryz.sizeOf0
 v0:=Tryz.zeroValue0
 t3:=Tryz.underlying3
 a3:=Tryz.isAgg3
 z3:=Tryz.sizeOf3
 v3:=Tryz.zeroValue3
 t4:=Tryz.underlying4
 a4:=Tryz.isAgg4
 z4:=Tryz.sizeOf4
 v4:=Tryz.zeroValue4
 t9:=Tryz.underlying9
 a9:=Tryz.isAgg9
 z9:=Tryz.sizeOf9
 v9:=Tryz.zeroValue9
 t37:=Tryz.underlying90
 a37:=Tryz.isAgg90
 z37:=Tryz.sizeOf90
 v37:=Tryz.zeroValue90
 t127:=Tryz.underlying182
 a127:=Tryz.isAgg182
 z127:=Tryz.sizeOf182
 v127:=Tryz.zeroValue182
 t5:=Tryz.underlying5
 a5:=Tryz.isAgg5
 z5:=Tryz.sizeOf5
 v5:=Tryz.zeroValue5
 i0:=by kernel_rfl
 i3:=by kernel_rfl
 i4:=by kernel_rfl
 i5:=by kernel_rfl
 i9:=by kernel_rfl
 i37:=by kernel_rfl
 i127:=by kernel_rfl }
theorem ac2 (s:ByteArray) (w:World) (h:s.size<=281474976710656):Calls Tryz.prog 150 #[.string s] w fun e w'=>e=.returned (.string s)/\Below w.heap.size w w' :=
 Any.stringslite_Clone Tryz.ac1 s w h
theorem FR (s:ByteArray) (w:World) (h:s.size<=281474976710656):Calls Tryz.prog 119 #[.string s] w fun e w'=>e=.returned (.string s)/\Below w.heap.size w w':=by
 have H:=ae (ac2 s w h);go_enter Tryz.func119,Tryz.ntmps119;go_wp2_with fail;refine H.out.mono ?_;rintro e u ⟨rfl,hb⟩;have HB:=ae hb;clear hb;go_wp2;go_ret;exact ⟨rfl,HB.out⟩
theorem uJ {t s:ByteArray} (h:t=s):(t.toList == s.toList)=true:=by rw [h];simp
theorem ac3 (t x:ByteArray) (w:World):Calls Tryz.prog 149 #[.string t,.string x] w fun e w'=>e=.returned (.bool (pfx t x))/\w'=w:=by
 have hB:pfx t x=(decide (x.size<=t.size) && decide (t.extract 0 x.size=x)):=rfl;generalize pfx t x=B at hB ⊢;by_cases h1:x.size<=t.size
 ·have q1:decide ((t.size:Int)>=(x.size:Int))=true:=decide_eq_true (by omega);by_cases h2:t.extract 0 x.size=x
  ·rw [decide_eq_true h1,decide_eq_true h2] at hB;have q2:=uJ h2;clear h2;subst hB;go_enter Tryz.func149,Tryz.ntmps149;go_wp2
   all_goals first|(go_ret;exact ⟨rfl,rfl⟩)|skip
  ·rw [decide_eq_true h1,decide_eq_false h2] at hB;have q2:=tN h2;clear h2;subst hB;go_enter Tryz.func149,Tryz.ntmps149;go_wp2
   all_goals first|(go_ret;exact ⟨rfl,rfl⟩)|skip
 ·rw [decide_eq_false h1] at hB;have q1:decide ((t.size:Int)>=(x.size:Int))=false:=decide_eq_false (by omega);subst hB;go_enter Tryz.func149,Tryz.ntmps149;go_wp2;go_ret;exact ⟨rfl,rfl⟩
theorem Zc (t x:ByteArray) (w:World):Calls Tryz.prog 118 #[.string t,.string x] w fun e w'=>e=.returned (.bool (pfx t x))/\w'=w:=by
 have H:=ae (ac3 t x w);go_enter Tryz.func118,Tryz.ntmps118;go_wp2_with fail;refine H.out.mono ?_;rintro e u ⟨rfl,rfl⟩;go_wp2;go_ret;exact ⟨rfl,rfl⟩
namespace Lx
theorem TK (s:ByteArray) (l:List ByteArray) (k:Nat) (x:ByteArray) (h:l[k]?=some x):cK s (l.drop k)=if x=s then true else cK s (l.drop (k+1)):=by
 obtain ⟨hk,hx⟩:=List.getElem?_eq_some_iff.1 h;rw [List.drop_eq_getElem_cons hk,cK,hx]
end Lx
end Go.Proofs.YtkdbgopgjbfhbaaGreatDoor
