/- Texts that the claim needs. -/
import Derived.Test.YtkdbgopgjbfhbaaGreatDoorQPV19
import Derived.Test.YtkdbgopgjbfhbaaGreatDoorQPV22
import Derived.Test.YtkdbgopgjbfhbaaGreatDoorQPV23
import Derived.Test.YtkdbgopgjbfhbaaGreatDoorQPV24
import Derived.Test.YtkdbgopgjbfhbaaGreatDoorQPV13
import Derived.Test.YtkdbgopgjbfhbaaGreatDoorQPV14
import Derived.Test.YtkdbgopgjbfhbaaGreatDoorQPV25
namespace Go.Proofs.YtkdbgopgjbfhbaaGreatDoor
open Go.RowKit Lx Pz bw
set_option linter.unusedVariables false
namespace Pz
def Ag (t:Tk):Prop:=(t.k=5->dG t.x keys=true)/\(t.k=6->dG t.x signs=true)
def Gd (L:List Tk):Prop:=∀t ∈ L,Ag t
theorem Gd.tk {L:List Tk} (h:Gd L) (en:Int) (i:Nat):Ag (tk L en i):=by
 cases hi:L[i]? with
 | none=>unfold Pz.tk;rw [hi];exact ⟨fun h=>(by cases h),fun h=>(by cases h)⟩
 | some t=>rw [Kk L en hi];exact h t (List.mem_of_getElem? hi)
theorem lf {K:Int} {t:Tk} (hK:(K == 0)=false):bg K e0 t=(t.k == K):=by
 unfold bg;rw [hK,Bool.false_or,decide_eq_true (rfl:e0=e0),Bool.true_or,Bool.and_true];exact BEq.comm
theorem Kl (t:Tk):bg 0 e0 t=true:=rfl
theorem DK {s:ByteArray} {t:Tk} (hG:Ag t) (h0:s≠e0) (hs:dG s signs=false):bg 5 s t=cJ t s:=by
 unfold bg cJ;rw [show ((5:Int) == 0)=false from rfl,Bool.false_or,decide_eq_false h0,Bool.false_or];by_cases h5:t.k=5
 ·rw [h5];simp only [beq_self_eq_true,Bool.true_and,Bool.true_or];exact decide_eq_decide.2 ⟨fun h=>h.symm,fun h=>h.symm⟩
 ·rw [show ((5:Int) == t.k)=false from beq_eq_false_iff_ne.2 (fun e=>h5 e.symm),Bool.false_and,show (t.k == 5)=false from beq_eq_false_iff_ne.2 h5,Bool.false_or];by_cases h6:t.k=6
  ·have:=hG.2 h6
   rw [decide_eq_false (fun e=>by rw [e,hs] at this;cases this),Bool.and_false]
  ·rw [show (t.k == 6)=false from beq_eq_false_iff_ne.2 h6,Bool.false_and]
theorem xu {s:ByteArray} {t:Tk} (hG:Ag t) (h0:s≠e0) (hs:dG s keys=false):bg 6 s t=cJ t s:=by
 unfold bg cJ;rw [show ((6:Int) == 0)=false from rfl,Bool.false_or,decide_eq_false h0,Bool.false_or];by_cases h6:t.k=6
 ·rw [h6];simp only [beq_self_eq_true,Bool.true_and,Bool.or_true];exact decide_eq_decide.2 ⟨fun h=>h.symm,fun h=>h.symm⟩
 ·rw [show ((6:Int) == t.k)=false from beq_eq_false_iff_ne.2 (fun e=>h6 e.symm),Bool.false_and,show (t.k == 6)=false from beq_eq_false_iff_ne.2 h6,Bool.or_false];by_cases h5:t.k=5
  ·have:=hG.1 h5
   rw [decide_eq_false (fun e=>by rw [e,hs] at this;cases this),Bool.and_false]
  ·rw [show (t.k == 5)=false from beq_eq_false_iff_ne.2 h5,Bool.false_and]
theorem ZU {s:ByteArray} {t:Tk} (hG:Ag t) (hs:dG s keys=false) (h:cJ t s=true):t.k=6:=by
 rcases NP h with h5|h6
 ·have hx:t.x=s:=by unfold cJ at h;rw [Bool.and_eq_true] at h;exact of_decide_eq_true h.2
  have:=hG.1 h5;rw [hx,hs] at this;cases this
 ·exact h6
theorem AV:sL≠e0:=by decide
theorem AX:dG sL keys=false:=by decide
section
variable {L:List Tk} {en:Int}
theorem Gu {nx nx':Tk->Bool} {A:Nat->Rd Value} (h:∀i,nx (tk L en i)=nx' (tk L en i)):∀(f i:Nat) (acc:List Value),dZ L en nx A f i acc=dZ L en nx' A f i acc
 | 0,_,_=>rfl
 | f+1,i,acc=>by
  rw [dZ,dZ,h i];split
  ·cases A i with
   | error z=>rfl
   | ok r=>exact Gu h f r.2 _
  ·rfl
theorem Gv {sg QW:Tk->Bool} {A:Nat->Rd Value} (h:∀i,sg (tk L en i)=QW (tk L en i)):∀(f i:Nat) (e:Value),gU L en sg A f i e=gU L en QW A f i e
 | 0,_,_=>rfl
 | f+1,i,e=>by
  rw [gU,gU,h i];split
  ·cases A (i+1) with
   | error z=>rfl
   | ok r=>exact Gv h f r.2 _
  ·rfl
theorem QX {E:Nat->Rd Value} {nx:Tk->Bool} (h:∀i,nx (tk L en i)=uf (tk L en i)):∀(f i:Nat) (e:Value),ui L en nx (iy L en E) f i e=ub L en E f i e
 | 0,_,_=>rfl
 | f+1,i,e=>by
  rw [ui,ub,h i];split
  ·cases iy L en E i with
   | error z=>rfl
   | ok r=>exact QX h f r.2 _
  ·rfl
theorem zI {s:ByteArray} {i:Nat} (h:cJ (tk L en i) s=true):bf L en s i=.ok (i+1):=if_pos h
theorem ZV {s:ByteArray} {i:Nat} (h:cJ (tk L en i) s=false):bf L en s i=.error (tk L en i).a:=if_neg (by rw [h];decide)
theorem Km {E:Nat->Rd Value} {i:Nat} (h:cJ (tk L en i) sL=false):brk L en E i=.error (tk L en i).a:=by unfold brk;rw [ZV h]
theorem QY (hG:Gd L) (E:Nat->Rd Value) (i:Nat):bA (tk L en i) [(1,e0,iJ (fun t=>nd 1 t.x e0 0 [] [] t.a) (bU L en 1 i)),(4,e0,iJ (fun t=>nd 2 e0 e0 t.n [] [] t.a) (bU L en 4 i)),(2,e0,iJ (fun t=>nd 8 t.x e0 0 [] [] t.a) (bU L en 2 i)),(6,sL,brk L en E i)]=iy L en E i:=by
 simp only [bA,lf (show ((1:Int) == 0)=false from rfl),lf (show ((4:Int) == 0)=false from rfl),lf (show ((2:Int) == 0)=false from rfl),xu (hG.tk en i) AV AX];unfold iy;by_cases h1:(tk L en i).k=1
 ·rw [if_pos h1,h1,ng h1];rfl
 ·rw [if_neg h1,show ((tk L en i).k == 1)=false from beq_eq_false_iff_ne.2 h1,if_neg (by decide)];by_cases h4:(tk L en i).k=4
  ·rw [if_pos h4,h4,ng h4];rfl
  ·rw [if_neg h4,show ((tk L en i).k == 4)=false from beq_eq_false_iff_ne.2 h4,if_neg (by decide)];by_cases h2:(tk L en i).k=2
   ·rw [if_pos h2,h2,ng h2];rfl
   ·rw [if_neg h2,show ((tk L en i).k == 2)=false from beq_eq_false_iff_ne.2 h2,if_neg (by decide)];cases hs:cJ (tk L en i) sL with
    | true=>rw [if_pos rfl]
    | false=>rw [if_neg (by decide),Km hs]
theorem QZ (hG:Gd L) (i:Nat):jW (tk L en i)=uf (tk L en i):=by
 unfold jW uf;rw [lf (show ((1:Int) == 0)=false from rfl),lf (show ((4:Int) == 0)=false from rfl),lf (show ((2:Int) == 0)=false from rfl),xu (hG.tk en i) AV AX]
theorem Q0 (hG:Gd L) (P:Nat->Rd Value) (i:Nat):bA (tk L en i) [(1,e0,iJ (fun t=>nd 2 t.x e0 0 [] [] t.a) (bU L en 1 i)),(6,eB,iJ (fun t:Int=>nd 1 e0 e0 0 [] [] t) (AY L en eB i)),(4,e0,iJ (fun t=>nd 3 e0 e0 t.n [] [] t.a) (bU L en 4 i)),(2,e0,iJ (fun t=>nd 4 t.x e0 0 [] [] t.a) (bU L en 2 i)),(6,sL,brk L en P i)]=mE L en P i:=by
 simp only [bA,lf (show ((1:Int) == 0)=false from rfl),lf (show ((4:Int) == 0)=false from rfl),lf (show ((2:Int) == 0)=false from rfl),xu (hG.tk en i) AV AX,xu (hG.tk en i) (show eB≠e0 by decide) (show dG eB keys=false by decide)];unfold mE;by_cases h1:(tk L en i).k=1
 ·rw [if_pos h1,h1,ng h1];rfl
 ·rw [if_neg h1,show ((tk L en i).k == 1)=false from beq_eq_false_iff_ne.2 h1,if_neg (by decide)];by_cases ha:cJ (tk L en i) eB=true
  ·rw [if_pos ha,if_pos ha];unfold AY;rw [zI ha];rfl
  ·rw [if_neg ha,if_neg ha];by_cases h4:(tk L en i).k=4
   ·rw [if_pos h4,h4,ng h4];rfl
   ·rw [if_neg h4,show ((tk L en i).k == 4)=false from beq_eq_false_iff_ne.2 h4,if_neg (by decide)];by_cases h2:(tk L en i).k=2
    ·rw [if_pos h2,h2,ng h2];rfl
    ·rw [if_neg h2,show ((tk L en i).k == 2)=false from beq_eq_false_iff_ne.2 h2,if_neg (by decide)];cases hs:cJ (tk L en i) sL with
     | true=>rw [if_pos rfl]
     | false=>rw [if_neg (by decide),Km hs]
theorem ZW (hG:Gd L) (i:Nat):mh (tk L en i)=vR (tk L en i):=by
 unfold mh vR;rw [lf (show ((1:Int) == 0)=false from rfl),lf (show ((4:Int) == 0)=false from rfl),lf (show ((2:Int) == 0)=false from rfl),xu (hG.tk en i) AV AX,xu (hG.tk en i) (show eB≠e0 by decide) (show dG eB keys=false by decide)]
theorem ZX (hG:Gd L) (T:Nat->Rd Value) (i:Nat):bA (tk L en i) [(1,e0,iJ (fun t:Tk=>qG t.x) (bU L en 1 i)),(3,e0,iJ (fun t:Tk=>nd 2 t.x e0 0 [] [] 0) (bU L en 3 i)),(6,sL,brk L en T i)]=lF L en T i:=by
 simp only [bA,lf (show ((1:Int) == 0)=false from rfl),lf (show ((3:Int) == 0)=false from rfl),xu (hG.tk en i) AV AX];unfold lF;by_cases h1:(tk L en i).k=1
 ·rw [if_pos h1,h1,ng h1];rfl
 ·rw [if_neg h1,show ((tk L en i).k == 1)=false from beq_eq_false_iff_ne.2 h1,if_neg (by decide)];by_cases h3:(tk L en i).k=3
  ·rw [if_pos h3,h3,ng h3];rfl
  ·rw [if_neg h3,show ((tk L en i).k == 3)=false from beq_eq_false_iff_ne.2 h3,if_neg (by decide)];cases hs:cJ (tk L en i) sL with
   | true=>rw [if_pos rfl]
   | false=>rw [if_neg (by decide),Km hs]
theorem ZY (hG:Gd L) (i:Nat):nY (tk L en i)=tZ (tk L en i):=by
 unfold nY tZ;rw [lf (show ((1:Int) == 0)=false from rfl),lf (show ((3:Int) == 0)=false from rfl),xu (hG.tk en i) AV AX]
theorem ZZ (t:Tk):gN [tF,tG,tH] t=DL t:=by unfold gN DL;simp [List.any,Bool.or_assoc]
theorem Z0 (t:Tk):gN [tJ,tK] t=DN t:=by unfold gN DN;simp [List.any]
theorem Z1 (t:Tk):gN [ve,vg] t=DR t:=by unfold gN DR;simp [List.any]
theorem Kn (hG:Gd L) {xs:List ByteArray} (hx:∀s ∈ xs,dG s keys=false) (j:Nat) (h:gN xs (tk L en j)=true):(tk L en j).k=6:=by
 unfold gN at h;obtain ⟨s,hs,hh⟩:=List.any_eq_true.1 h;exact ZU (hG.tk en j) (hx s hs) hh
end
def Cx (w0:World) (p:Nat) (L:List Tk) (vL:Value) (en:Int) (fn:FuncId) (O:Nat->Value->Value->World->Prop) (X:Rd Value) (i:Nat):Prop:=∀u,PR w0 p L vL en i u->Calls Tryz.prog fn #[.pointer (some ⟨p,0,none⟩)] u (Rp w0 p L vL en (O u.heap.size) u X)
section
variable {w0:World} {p:Nat} {L:List Tk} {vL:Value} {en:Int} {E:Nat->Rd Value} {i:Nat}
-- types
theorem Q3 (hG:Gd L) (HE:∀j,i<j->Cx w0 p L vL en 185 eu (E j) j) (j:Nat) (hij:i<=j) (g:Nat) (u:World) (hu:PR w0 p L vL en j u) (hg:u.heap[g]?=some (.cells lj 187 (0,0))):Calls Tryz.prog 175 #[.pointer (some ⟨p,0,none⟩),.slice (some ⟨g,0,none⟩) 3 3] u (Rp w0 p L vL en (eu u.heap.size) u (lF L en E j)):=by
 rw [<- ZX hG];exact Z2 w0 p L vL en j _ (fun u hu=>Z3 w0 p L vL en j u hu) _ (fun u hu=>Z4 w0 p L vL en j u hu) _ (fun u hu=>Zu w0 p L vL en j E (fun j' u' h' hp'=>HE j' (by omega) u' hp') u hu) g u hu hg
theorem Q4 (hG:Gd L) (hA:cz E) (HE:∀j,i<j->Cx w0 p L vL en 185 eu (E j) j) (j:Nat) (hij:i<=j) (g:Nat) (u:World) (hu:PR w0 p L vL en j u) (hg:u.heap[g]?=some (.cells lj 187 (0,0))) (nZ:g≠p):Calls Tryz.prog 151 #[.pointer (some ⟨p,0,none⟩),.slice (some ⟨g,0,none⟩) 3 3] u (Rp w0 p L vL en (fun (ts:List Value) v u'=>∃d,Row 4 (dw u.heap.size u' d) v ts) u (dZ L en tZ (lF L en E) (L.length+1) j [])):=by
 rw [<- Gu (fun k=>ZY hG k)];exact Z5 w0 p L vL en g _ j (fun j' u' h' hp' hg'=>Q3 hG HE j' (by omega) g u' hp' hg') (fun j' t k _ h=>EC hA _ _ _ h) u hu hg nZ
theorem Z6 (i:Nat):Gw L en (lF L en E) (fun j=>dZ L en tZ (lF L en E) (L.length+1) j []) i=tY L en E i:=rfl
theorem Z7 (hG:Gd L) (hA:cz E) (HE:∀j,i<j->Cx w0 p L vL en 185 eu (E j) j):Cx w0 p L vL en 185 eu (match tY L en E i with
  | .error z=>.error z
  | .ok (t,j)=>match bf L en jE j with
   | .error _=>.ok (t,j)
   | .ok j=>match E j with
    | .error z=>.error z
    | .ok (u,j)=>.ok (nd 3 e0 e0 0 [t,u] [] 0,j)) i:=fun u hu =>
 Z8 w0 p L vL en i (tY L en E) E (Nf hA) (fun u hu=>by
  rw [<- Z6];exact Z9 w0 p L vL en i _ _ (fun h1=>if_pos h1) (fun g u' hp' hg'=>Q3 hG HE i (Nat.le_refl _) g u' hp' hg') (fun g j u' h' hp' hg' hne=>Q4 hG hA HE j (by omega) g u' hp' hg' hne) u hu) (fun j u' h' hp'=>HE j h' u' hp') u hu
end
section
variable {w0:World} {p:Nat} {L:List Tk} {vL:Value} {en:Int}
theorem Q5 (hG:Gd L):∀(f i:Nat),L.length<i+f->Cx w0 p L vL en 185 eu (oH L en f i) i
 | 0,i,h=>fun u hu=>absurd hu.le (by omega)
 | f+1,i,h=>Z7 hG (BS f) (fun j hj=>Q5 hG f j (by omega))
end
-- patterns
section
variable {w0:World} {p:Nat} {L:List Tk} {vL:Value} {en:Int} {E:Nat->Rd Value} {i:Nat}
theorem Q6 (HE:∀j,i<j->Cx w0 p L vL en 186 bV (E j) j) (j:Nat) (hij:i<=j):Cx w0 p L vL en 234 bV (brk L en E j) j:=fun u hu =>
 Zr w0 p L vL en j E (fun j' u' h' hp'=>HE j' (by omega) u' hp') u hu
theorem aaa (hG:Gd L) (HE:∀j,i<j->Cx w0 p L vL en 186 bV (E j) j) (j:Nat) (hij:i<=j) (g:Nat) (u:World) (hu:PR w0 p L vL en j u) (hg:u.heap[g]?=some (.cells nO 207 (0,0))):Calls Tryz.prog 197 #[.pointer (some ⟨p,0,none⟩),.slice (some ⟨g,0,none⟩) 5 5] u (Rp w0 p L vL en (bV u.heap.size) u (mE L en E j)):=by
 rw [<- Q0 hG];exact N7 w0 p L vL en j _ (fun u hu=>Q7 w0 p L vL en j u hu) _ (fun u hu=>Q8 w0 p L vL en j u hu) _ (fun u hu=>Q9 w0 p L vL en j u hu) _ (fun u hu=>Jr w0 p L vL en j u hu) _ (Q6 HE j hij) g u hu hg
theorem aab (hG:Gd L) (hA:cz E) (HE:∀j,i<j->Cx w0 p L vL en 186 bV (E j) j) (j:Nat) (hij:i<=j) (g:Nat) (u:World) (hu:PR w0 p L vL en j u) (hg:u.heap[g]?=some (.cells nO 207 (0,0))) (nZ:g≠p):Calls Tryz.prog 220 #[.pointer (some ⟨p,0,none⟩),.slice (some ⟨g,0,none⟩) 5 5] u (Rp w0 p L vL en (fun (ts:List Value) v u'=>∃d,Row 5 (bR u.heap.size u' d) v ts) u (dZ L en vR (mE L en E) (L.length+1) j [])):=by
 rw [<- Gu (fun k=>ZW hG k)];exact aac w0 p L vL en g _ j (fun j' u' h' hp' hg'=>aaa hG HE j' (by omega) g u' hp' hg') (fun j' t k _ h=>Ie hA _ _ _ h) u hu hg nZ
theorem aad (f i:Nat) (M:Nat->Rd (List Value)) (hM:∀j,M j=dZ L en vR (mE L en (ju L en f)) (L.length+1) j []):bA (tk L en i) [(2,e0,(match bU L en 2 i with | .error z=>.error z | .ok (t,j)=>match M j with | .error z=>.error z | .ok (ts,j)=>.ok (nd 4 t.x e0 0 ts [] t.a,j):Rd Value)),(0,e0,mE L en (ju L en f) i)]=ju L en (f+1) i:=by
 simp only [bA,lf (show ((2:Int) == 0)=false from rfl),Kl];rw [ju];by_cases h2:(tk L en i).k=2
 ·rw [if_pos h2,h2,ng h2];simp only [beq_self_eq_true,if_true,hM];generalize dZ L en vR (mE L en (ju L en f)) (L.length+1) (i+1) []=X;cases X<;>rfl
 ·rw [if_neg h2,show ((tk L en i).k == 2)=false from beq_eq_false_iff_ne.2 h2,if_neg (by decide),if_pos trivial]
end
section
variable {w0:World} {p:Nat} {L:List Tk} {vL:Value} {en:Int}
theorem Ra (hG:Gd L):∀(f i:Nat),L.length<i+f->Cx w0 p L vL en 186 bV (ju L en f i) i
 | 0,i,h=>fun u hu=>absurd hu.le (by omega)
 | f+1,i,h=>fun u hu=>by
  have HE:∀j,i<j->Cx w0 p L vL en 186 bV (ju L en f j) j:=fun j hj=>Ra hG f j (by omega);rw [<- aad f i (fun j=>dZ L en vR (mE L en (ju L en f)) (L.length+1) j []) (fun _=>rfl)]
  exact V6 w0 p L vL en i _ (fun u' hu'=>Xh w0 p L vL en i _ (fun g j Ko h' hp' hg' hne=>aab hG (BU f) HE j (by omega) g Ko hp' hg' hne) u' hu') _ (fun u' hu'=>by
   rw [<- Q0 hG];exact V5 w0 p L vL en i _ (fun u hu=>Q7 w0 p L vL en i u hu) _ (fun u hu=>Q8 w0 p L vL en i u hu) _ (fun u hu=>Q9 w0 p L vL en i u hu) _ (fun u hu=>Jr w0 p L vL en i u hu) _ (Q6 HE i (Nat.le_refl _)) u' hu') u hu
end
end Pz
namespace Pz
section
variable {w0:World} {p:Nat} {L:List Tk} {vL:Value} {en:Int} {E:Nat->Rd Value} {i:Nat}
abbrev pM (w0:World) (p:Nat) (L:List Tk) (vL:Value) (en:Int) (E:Nat->Rd Value) (i:Nat):Prop:=∀j,i<j->Cx w0 p L vL en 60 aW (E j) j
theorem pM.mono (h:pM w0 p L vL en E i) {j:Nat} (hij:i<=j):pM w0 p L vL en E j:=fun k hk=>h k (by omega)
theorem Sk (HE:pM w0 p L vL en E i):Cx w0 p L vL en 247 aW (brk L en E i) i:=fun u hu =>
 Zq w0 p L vL en i E (fun j' u' h' hp'=>HE j' h' u' hp') u hu
theorem Sl (hG:Gd L) (HE:pM w0 p L vL en E i):Cx w0 p L vL en 240 aW (iy L en E i) i:=fun u hu=>by
 rw [<- QY hG];exact VV w0 p L vL en i _ (fun u hu=>Sm w0 p L vL en i u hu) _ (fun u hu=>Sn w0 p L vL en i u hu) _ (fun u hu=>Jm w0 p L vL en i u hu) _ (Sk HE) u hu
theorem aba (hG:Gd L) (HE:pM w0 p L vL en E i) (g:Nat) (u:World) (hu:PR w0 p L vL en i u) (hg:u.heap[g]?=some (.cells mG 163 (0,0))):Calls Tryz.prog 123 #[.pointer (some ⟨p,0,none⟩),.slice (some ⟨g,0,none⟩) 4 4] u (Rp w0 p L vL en (aW u.heap.size) u (iy L en E i)):=by
 rw [<- QY hG];exact NY w0 p L vL en i _ (fun u hu=>Sm w0 p L vL en i u hu) _ (fun u hu=>Sn w0 p L vL en i u hu) _ (fun u hu=>Jm w0 p L vL en i u hu) _ (Sk HE) g u hu hg
theorem abb (hG:Gd L) (hA:cz E) (HE:pM w0 p L vL en E i) (g:Nat) (u:World) (hu:PR w0 p L vL en i u) (hg:u.heap[g]?=some (.cells mG 163 (0,0))) (nZ:g≠p):Calls Tryz.prog 242 #[.pointer (some ⟨p,0,none⟩),.slice (some ⟨g,0,none⟩) 4 4] u (Rp w0 p L vL en (fun (ts:List Value) v u'=>∃d,Row 7 (cf u.heap.size u' d) v ts) u (dZ L en uf (iy L en E) (L.length+1) i [])):=by
 rw [<- Gu (fun k=>QZ hG k)];exact aaD w0 p L vL en g _ i (fun j' u' h' hp' hg'=>aba hG (HE.mono h') g u' hp' hg') (fun j' t k _ h=>zX hA _ _ _ h) u hu hg nZ
theorem abd (hG:Gd L) (i:Nat):bA (tk L en i) [(5,iV,(match bf L en iV i with | .error z=>.error z | .ok j=>match iy L en E j with | .error z=>.error z | .ok (e,j)=>.ok (nd 10 e0 e0 0 [e] [] (tk L en i).a,j):Rd Value)),(2,e0,(match bU L en 2 i with | .error z=>.error z | .ok (t,j)=>match dZ L en uf (iy L en E) (L.length+1) j [] with | .error z=>.error z | .ok (ts,j)=>.ok (nd 8 t.x e0 0 ts [] t.a,j):Rd Value)),(0,e0,(match iy L en E i with | .error z=>.error z | .ok (e,j)=>ui L en jW (iy L en E) (L.length+1) j e:Rd Value))]=nz L en E i:=by
 simp only [bA,lf (show ((2:Int) == 0)=false from rfl),Kl,DK (hG.tk en i) (show iV≠e0 by decide) (show dG iV signs=false by decide)];unfold nz;by_cases h1:cJ (tk L en i) iV=true
 ·rw [if_pos h1,if_pos h1,zI h1];dsimp only;generalize iy L en E (i+1)=X;cases X<;>rfl
 ·rw [if_neg h1,if_neg h1];by_cases h2:(tk L en i).k=2
  ·rw [if_pos h2,h2,ng h2];simp only [beq_self_eq_true,if_true];generalize dZ L en uf (iy L en E) (L.length+1) (i+1) []=X;cases X<;>rfl
  ·rw [if_neg h2,show ((tk L en i).k == 2)=false from beq_eq_false_iff_ne.2 h2,if_neg (by decide),if_pos trivial];cases iy L en E i with
   | error z=>rfl
   | ok r=>exact QX (fun k=>QZ hG k) _ _ _
theorem abe (hG:Gd L) (hA:cz E) (HE:pM w0 p L vL en E i):Cx w0 p L vL en 209 aW (nz L en E i) i:=fun u hu=>by
 rw [<- abd hG];exact VW w0 p L vL en i _ (fun u hu=>abf w0 p L vL en i (iy L en E) (fun j' u' h' hp'=>Sl hG (HE.mono (Nat.le_of_lt h')) u' hp') u hu) _ (fun u hu=>Xd w0 p L vL en i _ (fun g j u' h' hp' hg' hne=>abb hG hA (HE.mono (Nat.le_of_lt h')) g u' hp' hg' hne) u hu) _ (fun u hu=>Vn w0 p L vL en i (iy L en E) (zX hA) (fun j' u' h' hp'=>Sl hG (HE.mono h') u' hp') u hu) u hu
theorem abg (hG:Gd L) (hA:cz E) (HE:pM w0 p L vL en E i):Cx w0 p L vL en 199 aW (nA L en E i) i:=fun u hu=>by
 have h:=abh w0 p L vL en i (nz L en E) (Ig hA) (fun j hj=>Kn hG (by decide) j hj) (fun j' u' h' hp'=>abe hG hA (HE.mono h') u' hp') u hu
 have e:(match nz L en E i with | .error z=>.error z | .ok (e,j)=>gU L en (gN [tF,tG,tH]) (nz L en E) (L.length+1) j e:Rd Value)=nA L en E i:=by
  unfold nA;cases nz L en E i with
  | error z=>rfl
  | ok r=>exact Gv (fun k=>ZZ _) _ _ _
 rw [<- e];exact h
theorem abj (hG:Gd L) (hA:cz E) (HE:pM w0 p L vL en E i):Cx w0 p L vL en 187 aW (nC L en E i) i:=fun u hu=>by
 have h:=abk w0 p L vL en i (nA L en E) (Ih hA) (fun j hj=>Kn hG (by decide) j hj) (fun j' u' h' hp'=>abg hG hA (HE.mono h') u' hp') u hu
 have e:(match nA L en E i with | .error z=>.error z | .ok (e,j)=>gU L en (gN [tJ,tK]) (nA L en E) (L.length+1) j e:Rd Value)=nC L en E i:=by
  unfold nC;cases nA L en E i with
  | error z=>rfl
  | ok r=>exact Gv (fun k=>Z0 _) _ _ _
 rw [<- e];exact h
theorem abl (hG:Gd L) (hA:cz E) (HE:pM w0 p L vL en E i):Cx w0 p L vL en 180 aW (sG L en E i) i:=fun u hu=>by
 have h:=abm w0 p L vL en i (nC L en E) (Ii hA) (fun j hj=>Kn hG (by decide) j hj) (fun j' u' h' hp'=>abj hG hA (HE.mono h') u' hp') u hu
 have e:(match nC L en E i with | .error z=>.error z | .ok (e,j)=>gU L en (gN [ve,vg]) (nC L en E) 1 j e:Rd Value)=sG L en E i:=by
  unfold sG;cases nC L en E i with
  | error z=>rfl
  | ok r=>exact Gv (fun k=>Z1 _) _ _ _
 rw [<- e];exact h
theorem abn (hG:Gd L) (hA:cz E) (HE:pM w0 p L vL en E i):Cx w0 p L vL en 158 aW (vS L en E i) i:=fun u hu =>
 X0 w0 p L vL en i (sG L en E) E (Nh hA) (abl hG hA HE) (fun j' u' h' hp'=>HE j' h' u' hp') u hu
theorem Sq:∀(f i:Nat) (ps es:List Value),zL L en (ju L en (L.length+1)) E f i ps es=sH L en E f i ps es
 | 0,_,_,_=>rfl
 | f+1,i,ps,es=>by
  rw [zL,sH];cases bf L en kR i with
  | error z=>rfl
  | ok j =>
   dsimp only;have hb:sw L en (ju L en (L.length+1)) E j=pW L en E j:=rfl;rw [hb];cases pW L en E j with
   | error z=>rfl
   | ok r=>exact Sq f _ _ _
theorem abo (hG:Gd L) (i:Nat) {R0 R1 R2 R3 R4:Rd Value} (h0:cJ (tk L en i) ic=true->R0=xW L en E i) (h1:cJ (tk L en i) iB=true->R1=xX L en E i) (h2:cJ (tk L en i) iF=true->R2=xY L en E i) (h3:cJ (tk L en i) iW=true->R3=vT L en E i) (h4:R4=vS L en E i):bA (tk L en i) [(5,ic,R0),(5,iB,R1),(5,iF,R2),(5,iW,R3),(0,e0,R4)]=(if cJ (tk L en i) ic=true then xW L en E i
  else if cJ (tk L en i) iB=true then xX L en E i
  else if cJ (tk L en i) iF=true then xY L en E i
  else if cJ (tk L en i) iW=true then vT L en E i
  else vS L en E i):=by
 have g:=hG.tk en i;simp only [bA,Kl,DK g (show ic≠e0 by decide) (show dG ic signs=false by decide),DK g (show iB≠e0 by decide) (show dG iB signs=false by decide),DK g (show iF≠e0 by decide) (show dG iF signs=false by decide),DK g (show iW≠e0 by decide) (show dG iW signs=false by decide),if_true];split
 ·rename_i h;exact h0 h
 ·split
  ·rename_i h;exact h1 h
  ·split
   ·rename_i h;exact h2 h
   ·split
    ·rename_i h;exact h3 h
    ·exact h4
end
section
variable {w0:World} {p:Nat} {L:List Tk} {vL:Value} {en:Int}
theorem RH (hG:Gd L):∀(f i:Nat),L.length<i+f->Cx w0 p L vL en 60 aW (iT L en f i) i
 | 0,i,h=>fun u hu=>absurd hu.le (by omega)
 | f+1,i,h=>fun u hu=>by
  have HE:pM w0 p L vL en (iT L en f) i:=fun j hj=>RH hG f j (by omega);have hA:cz (iT L en f):=yc f;have hP:∀j u,i<j->PR w0 p L vL en j u->Calls Tryz.prog 186 #[.pointer (some ⟨p,0,none⟩)] u (Rp w0 p L vL en (bV u.heap.size) u (ju L en (L.length+1) j)):=fun j u' _ hu'=>Ra hG (L.length+1) j (by omega) u' hu';have hE':∀j u,i<j->PR w0 p L vL en j u->Calls Tryz.prog 60 #[.pointer (some ⟨p,0,none⟩)] u (Rp w0 p L vL en (aW u.heap.size) u (iT L en f j)):=fun j u' hj hu'=>HE j hj u' hu';have hr:=VZ w0 p L vL en i _ (fun u' hu'=>abp w0 p L vL en i (iT L en f) hA hE' u' hu') _ (fun u' hu'=>Yc w0 p L vL en i (iT L en f) hA hE' u' hu') _ (fun u' hu'=>abq w0 p L vL en i (iT L en f) hA hE' u' hu') _ (fun u' hu'=>abr w0 p L vL en i (ju L en (L.length+1)) (iT L en f) (BU _) hA hP hE' u' hu') _ (abn hG hA HE) u hu;rw [abo (E:=iT L en f) hG i ?a0 ?a1 ?a2 ?a3 rfl] at hr;exact hr
  case a0=>intro h0;rw [zI h0];rfl
  case a1=>intro h0;rw [zI h0];rfl
  case a2=>intro h0;rw [zI h0];rfl
  case a3 =>
   intro h0;unfold GL vT;rw [zI h0];dsimp only;cases iT L en f (i+1) with
   | error z=>rfl
   | ok r =>
    dsimp only;cases bf L en Ab r.2 with
    | error z=>rfl
    | ok j =>
     dsimp only;have hb:sw L en (ju L en (L.length+1)) (iT L en f) j=pW L en (iT L en f) j:=rfl;rw [hb];cases pW L en (iT L en f) j with
     | error z=>rfl
     | ok r2=>dsimp only;rw [Sq];rfl
end
end Pz
namespace Pz
section
variable {w0:World} {p:Nat} {L:List Tk} {vL:Value} {en:Int}
theorem aaL (hG:Gd L) (i:Nat):Cx w0 p L vL en 122 iw (kV L en i) i:=fun u hu=>by
 have e:kV L en i=El L en (fun j=>dZ L en tZ (lF L en (oH L en (L.length+1))) (L.length+1) j []) i:=rfl;rw [e];exact T9 w0 p L vL en i _ (fun g j u' h' hp' hg' hne=>Q4 (i:=0) hG (BS _) (fun j' _=>Q5 hG (L.length+1) j' (by omega)) j (Nat.zero_le _) g u' hp' hg' hne) u hu
theorem RE:∀(f i:Nat) (acc:List Value),xQ L en (kV L en) f i acc=qW L en f i acc
 | 0,_,_=>rfl
 | f+1,i,acc=>by
  rw [xQ,qW];cases bf L en kR i with
  | error z=>rfl
  | ok j =>
   dsimp only;cases kV L en j with
   | error z=>rfl
   | ok r=>exact RE f _ _
theorem decl_eq (i:Nat) (h:cJ (tk L en i) qN=true):sD L en (kV L en) i=vU L en i:=by
 unfold sD vU Bl;rw [zI h];dsimp only;cases bU L en 1 (i+1) with
 | error z=>rfl
 | ok r =>
  dsimp only;cases bf L en pO (ou L en (L.length+1) r.2 []).2 with
  | error z=>rfl
  | ok j =>
   dsimp only;cases kV L en j with
   | error z=>rfl
   | ok r2 =>
    dsimp only;rw [RE];cases qW L en (L.length+1) r2.2 [r2.1] with
    | error z=>rfl
    | ok r3 =>
     dsimp only;cases bf L en lg r3.2 with
     | error z=>rfl
     | ok j4=>rfl
theorem RF:∀(f i:Nat) (acc:List Value),xe L en (sD L en (kV L en)) f i acc=zK L en f i acc
 | 0,_,_=>rfl
 | f+1,i,acc=>by
  rw [xe,zK];by_cases h:cJ (tk L en i) qN=true
  ·rw [if_pos h,if_pos h,decl_eq i h];cases vU L en i with
   | error z=>rfl
   | ok r=>exact RF f _ _
  ·rw [if_neg h,if_neg h]
theorem aaM:cz (sD L en (kV L en)):=by
 intro i t j h;unfold sD at h;cases h0:bf L en qN i with
 | error z=>rw [h0] at h;cases h
 | ok j0 =>
  have hs:cJ (tk L en i) qN=true:=by
   unfold bf at h0;split at h0
   ·assumption
   ·cases h0
  have e:=decl_eq (L:=L) (en:=en) i hs;unfold sD at e;rw [e] at h;exact Vh _ _ _ h
def mM (L:List Tk) (en:Int):Rd (List Value × Value):=Dq L en (iT L en (L.length+1)) (zK L en (L.length+1) 0 [])
theorem RG (hG:Gd L) (u:World) (hu:PR w0 p L vL en 0 u):Calls Tryz.prog 24 #[.pointer (some ⟨p,0,none⟩)] u (Rp w0 p L vL en (fw u.heap.size) u (mM L en)):=by
 have h:=Zj w0 p L vL en 0 (sD L en (kV L en)) (iT L en (L.length+1)) aaM (yc _) (fun j u' _ hu'=>Ua w0 p L vL en j (kV L en) Ij (fun j' Ko _ aaN=>aaL hG j' Ko aaN) u' hu') (fun j u' _ hu'=>RH hG (L.length+1) j (by omega) u' hu') u hu;rw [RF] at h;exact h
end
end Pz
end Go.Proofs.YtkdbgopgjbfhbaaGreatDoor
