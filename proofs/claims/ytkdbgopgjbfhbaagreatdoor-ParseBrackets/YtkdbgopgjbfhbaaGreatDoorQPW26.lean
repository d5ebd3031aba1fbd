/- Texts that the claim needs. -/
import Derived.Test.YtkdbgopgjbfhbaaGreatDoorQPW19
import Derived.Test.YtkdbgopgjbfhbaaGreatDoorQPW22
import Derived.Test.YtkdbgopgjbfhbaaGreatDoorQPW23
import Derived.Test.YtkdbgopgjbfhbaaGreatDoorQPW24
import Derived.Test.YtkdbgopgjbfhbaaGreatDoorQPW13
import Derived.Test.YtkdbgopgjbfhbaaGreatDoorQPW14
import Derived.Test.YtkdbgopgjbfhbaaGreatDoorQPW25
namespace Go.Proofs.YtkdbgopgjbfhbaaGreatDoor
open Go.RowKit Lx Pz bq
set_option linter.unusedVariables false
namespace Pz
def AR (t:Tk):Prop:=(t.k=5->cK t.x keys=true)/\(t.k=6->cK t.x signs=true)
def Gd (L:List Tk):Prop:=∀t ∈ L,AR t
theorem Gd.tk {L:List Tk} (h:Gd L) (en:Int) (i:Nat):AR (tk L en i):=by
 cases hi:L[i]? with
 | none=>unfold Pz.tk;rw [hi];exact ⟨fun h=>(by cases h),fun h=>(by cases h)⟩
 | some t=>rw [jO L en hi];exact h t (List.mem_of_getElem? hi)
theorem lG {K:Int} {t:Tk} (hK:(K == 0)=false):bg K e0 t=(t.k == K):=by
 unfold bg;rw [hK,Bool.false_or,decide_eq_true (rfl:e0=e0),Bool.true_or,Bool.and_true];exact BEq.comm
theorem KF (t:Tk):bg 0 e0 t=true:=rfl
theorem DY {s:ByteArray} {t:Tk} (hG:AR t) (h0:s≠e0) (hs:cK s signs=false):bg 5 s t=bn t s:=by
 unfold bg bn;rw [show ((5:Int) == 0)=false from rfl,Bool.false_or,decide_eq_false h0,Bool.false_or];by_cases h5:t.k=5
 ·rw [h5];simp only [beq_self_eq_true,Bool.true_and,Bool.true_or];exact decide_eq_decide.2 ⟨fun h=>h.symm,fun h=>h.symm⟩
 ·rw [show ((5:Int) == t.k)=false from beq_eq_false_iff_ne.2 (fun e=>h5 e.symm),Bool.false_and,show (t.k == 5)=false from beq_eq_false_iff_ne.2 h5,Bool.false_or];by_cases h6:t.k=6
  ·have:=hG.2 h6
   rw [decide_eq_false (fun e=>by rw [e,hs] at this;cases this),Bool.and_false]
  ·rw [show (t.k == 6)=false from beq_eq_false_iff_ne.2 h6,Bool.false_and]
theorem xJ {s:ByteArray} {t:Tk} (hG:AR t) (h0:s≠e0) (hs:cK s keys=false):bg 6 s t=bn t s:=by
 unfold bg bn;rw [show ((6:Int) == 0)=false from rfl,Bool.false_or,decide_eq_false h0,Bool.false_or];by_cases h6:t.k=6
 ·rw [h6];simp only [beq_self_eq_true,Bool.true_and,Bool.or_true];exact decide_eq_decide.2 ⟨fun h=>h.symm,fun h=>h.symm⟩
 ·rw [show ((6:Int) == t.k)=false from beq_eq_false_iff_ne.2 (fun e=>h6 e.symm),Bool.false_and,show (t.k == 6)=false from beq_eq_false_iff_ne.2 h6,Bool.or_false];by_cases h5:t.k=5
  ·have:=hG.1 h5
   rw [decide_eq_false (fun e=>by rw [e,hs] at this;cases this),Bool.and_false]
  ·rw [show (t.k == 5)=false from beq_eq_false_iff_ne.2 h5,Bool.false_and]
theorem aaM {s:ByteArray} {t:Tk} (hG:AR t) (hs:cK s keys=false) (h:bn t s=true):t.k=6:=by
 rcases pV h with h5|h6
 ·have hx:t.x=s:=by unfold bn at h;rw [Bool.and_eq_true] at h;exact of_decide_eq_true h.2
  have:=hG.1 h5;rw [hx,hs] at this;cases this
 ·exact h6
theorem Bu:sL≠e0:=by decide
theorem Bv:cK sL keys=false:=by decide
section
variable {L:List Tk} {en:Int}
theorem GG {nx nx':Tk->Bool} {A:Nat->Rd Value} (h:∀i,nx (tk L en i)=nx' (tk L en i)):∀(f i:Nat) (acc:List Value),dK L en nx A f i acc=dK L en nx' A f i acc
 | 0,_,_=>rfl
 | f+1,i,acc=>by
  rw [dK,dK,h i];split
  ·cases A i with
   | error z=>rfl
   | ok r=>exact GG h f r.2 _
  ·rfl
theorem GH {sg Rn:Tk->Bool} {A:Nat->Rd Value} (h:∀i,sg (tk L en i)=Rn (tk L en i)):∀(f i:Nat) (e:Value),eZ L en sg A f i e=eZ L en Rn A f i e
 | 0,_,_=>rfl
 | f+1,i,e=>by
  rw [eZ,eZ,h i];split
  ·cases A (i+1) with
   | error z=>rfl
   | ok r=>exact GH h f r.2 _
  ·rfl
theorem Ro {E:Nat->Rd Value} {nx:Tk->Bool} (h:∀i,nx (tk L en i)=mG (tk L en i)):∀(f i:Nat) (e:Value),uy L en nx (fG L en E) f i e=jW L en E f i e
 | 0,_,_=>rfl
 | f+1,i,e=>by
  rw [uy,jW,h i];split
  ·cases fG L en E i with
   | error z=>rfl
   | ok r=>exact Ro h f r.2 _
  ·rfl
theorem zX {s:ByteArray} {i:Nat} (h:bn (tk L en i) s=true):aY L en s i=.ok (i+1):=if_pos h
theorem aaN {s:ByteArray} {i:Nat} (h:bn (tk L en i) s=false):aY L en s i=.error (tk L en i).a:=if_neg (by rw [h];decide)
theorem KG {E:Nat->Rd Value} {i:Nat} (h:bn (tk L en i) sL=false):brk L en E i=.error (tk L en i).a:=by unfold brk;rw [aaN h]
theorem Rq (hG:Gd L) (E:Nat->Rd Value) (i:Nat):bC (tk L en i) [(1,e0,iJ (fun t=>nd 1 t.x e0 0 [] [] t.a) (bN L en 1 i)),(4,e0,iJ (fun t=>nd 2 e0 e0 t.n [] [] t.a) (bN L en 4 i)),(2,e0,iJ (fun t=>nd 8 t.x e0 0 [] [] t.a) (bN L en 2 i)),(6,sL,brk L en E i)]=fG L en E i:=by
 simp only [bC,lG (show ((1:Int) == 0)=false from rfl),lG (show ((4:Int) == 0)=false from rfl),lG (show ((2:Int) == 0)=false from rfl),xJ (hG.tk en i) Bu Bv];unfold fG;by_cases h1:(tk L en i).k=1
 ·rw [if_pos h1,h1,oq h1];rfl
 ·rw [if_neg h1,show ((tk L en i).k == 1)=false from beq_eq_false_iff_ne.2 h1,if_neg (by decide)];by_cases h4:(tk L en i).k=4
  ·rw [if_pos h4,h4,oq h4];rfl
  ·rw [if_neg h4,show ((tk L en i).k == 4)=false from beq_eq_false_iff_ne.2 h4,if_neg (by decide)];by_cases h2:(tk L en i).k=2
   ·rw [if_pos h2,h2,oq h2];rfl
   ·rw [if_neg h2,show ((tk L en i).k == 2)=false from beq_eq_false_iff_ne.2 h2,if_neg (by decide)];cases hs:bn (tk L en i) sL with
    | true=>rw [if_pos rfl]
    | false=>rw [if_neg (by decide),KG hs]
theorem Rs (hG:Gd L) (i:Nat):jZ (tk L en i)=mG (tk L en i):=by
 unfold jZ mG;rw [lG (show ((1:Int) == 0)=false from rfl),lG (show ((4:Int) == 0)=false from rfl),lG (show ((2:Int) == 0)=false from rfl),xJ (hG.tk en i) Bu Bv]
theorem Ru (hG:Gd L) (P:Nat->Rd Value) (i:Nat):bC (tk L en i) [(1,e0,iJ (fun t=>nd 2 t.x e0 0 [] [] t.a) (bN L en 1 i)),(6,dP,iJ (fun t:Int=>nd 1 e0 e0 0 [] [] t) (Bw L en dP i)),(4,e0,iJ (fun t=>nd 3 e0 e0 t.n [] [] t.a) (bN L en 4 i)),(2,e0,iJ (fun t=>nd 4 t.x e0 0 [] [] t.a) (bN L en 2 i)),(6,sL,brk L en P i)]=ju L en P i:=by
 simp only [bC,lG (show ((1:Int) == 0)=false from rfl),lG (show ((4:Int) == 0)=false from rfl),lG (show ((2:Int) == 0)=false from rfl),xJ (hG.tk en i) Bu Bv,xJ (hG.tk en i) (show dP≠e0 by decide) (show cK dP keys=false by decide)];unfold ju;by_cases h1:(tk L en i).k=1
 ·rw [if_pos h1,h1,oq h1];rfl
 ·rw [if_neg h1,show ((tk L en i).k == 1)=false from beq_eq_false_iff_ne.2 h1,if_neg (by decide)];by_cases ha:bn (tk L en i) dP=true
  ·rw [if_pos ha,if_pos ha];unfold Bw;rw [zX ha];rfl
  ·rw [if_neg ha,if_neg ha];by_cases h4:(tk L en i).k=4
   ·rw [if_pos h4,h4,oq h4];rfl
   ·rw [if_neg h4,show ((tk L en i).k == 4)=false from beq_eq_false_iff_ne.2 h4,if_neg (by decide)];by_cases h2:(tk L en i).k=2
    ·rw [if_pos h2,h2,oq h2];rfl
    ·rw [if_neg h2,show ((tk L en i).k == 2)=false from beq_eq_false_iff_ne.2 h2,if_neg (by decide)];cases hs:bn (tk L en i) sL with
     | true=>rw [if_pos rfl]
     | false=>rw [if_neg (by decide),KG hs]
theorem aaO (hG:Gd L) (i:Nat):mW (tk L en i)=rR (tk L en i):=by
 unfold mW rR;rw [lG (show ((1:Int) == 0)=false from rfl),lG (show ((4:Int) == 0)=false from rfl),lG (show ((2:Int) == 0)=false from rfl),xJ (hG.tk en i) Bu Bv,xJ (hG.tk en i) (show dP≠e0 by decide) (show cK dP keys=false by decide)]
theorem aaP (hG:Gd L) (T:Nat->Rd Value) (i:Nat):bC (tk L en i) [(1,e0,iJ (fun t:Tk=>rD t.x) (bN L en 1 i)),(3,e0,iJ (fun t:Tk=>nd 2 t.x e0 0 [] [] 0) (bN L en 3 i)),(6,sL,brk L en T i)]=iO L en T i:=by
 simp only [bC,lG (show ((1:Int) == 0)=false from rfl),lG (show ((3:Int) == 0)=false from rfl),xJ (hG.tk en i) Bu Bv];unfold iO;by_cases h1:(tk L en i).k=1
 ·rw [if_pos h1,h1,oq h1];rfl
 ·rw [if_neg h1,show ((tk L en i).k == 1)=false from beq_eq_false_iff_ne.2 h1,if_neg (by decide)];by_cases h3:(tk L en i).k=3
  ·rw [if_pos h3,h3,oq h3];rfl
  ·rw [if_neg h3,show ((tk L en i).k == 3)=false from beq_eq_false_iff_ne.2 h3,if_neg (by decide)];cases hs:bn (tk L en i) sL with
   | true=>rw [if_pos rfl]
   | false=>rw [if_neg (by decide),KG hs]
theorem aaQ (hG:Gd L) (i:Nat):pG (tk L en i)=qF (tk L en i):=by
 unfold pG qF;rw [lG (show ((1:Int) == 0)=false from rfl),lG (show ((3:Int) == 0)=false from rfl),xJ (hG.tk en i) Bu Bv]
theorem aaR (t:Tk):ic [qN,qO,qP] t=qM t:=by unfold ic qM;simp [List.any,Bool.or_assoc]
theorem aaS (t:Tk):ic [qR,qU] t=qQ t:=by unfold ic qQ;simp [List.any]
theorem aaT (t:Tk):ic [rV,rW] t=qV t:=by unfold ic qV;simp [List.any]
theorem KH (hG:Gd L) {xs:List ByteArray} (hx:∀s ∈ xs,cK s keys=false) (j:Nat) (h:ic xs (tk L en j)=true):(tk L en j).k=6:=by
 unfold ic at h;obtain ⟨s,hs,hh⟩:=List.any_eq_true.1 h;exact aaM (hG.tk en j) (hx s hs) hh
end
def Cx (w0:World) (p:Nat) (L:List Tk) (vL:Value) (en:Int) (fn:FuncId) (O:Nat->Value->Value->World->Prop) (X:Rd Value) (i:Nat):Prop:=∀u,PR w0 p L vL en i u->Calls Tryz.prog fn #[.pointer (some ⟨p,0,none⟩)] u (Rp w0 p L vL en (O u.heap.size) u X)
section
variable {w0:World} {p:Nat} {L:List Tk} {vL:Value} {en:Int} {E:Nat->Rd Value} {i:Nat}
-- types
theorem Rv (hG:Gd L) (HE:∀j,i<j->Cx w0 p L vL en 185 fE (E j) j) (j:Nat) (hij:i<=j) (g:Nat) (u:World) (hu:PR w0 p L vL en j u) (hg:u.heap[g]?=some (.cells lY 187 (0,0))):Calls Tryz.prog 175 #[.pointer (some ⟨p,0,none⟩),.slice (some ⟨g,0,none⟩) 3 3] u (Rp w0 p L vL en (fE u.heap.size) u (iO L en E j)):=by
 rw [<- aaP hG];exact aaU w0 p L vL en j _ (fun u hu=>aaV w0 p L vL en j u hu) _ (fun u hu=>aaW w0 p L vL en j u hu) _ (fun u hu=>aaw w0 p L vL en j E (fun j' u' h' hp'=>HE j' (by omega) u' hp') u hu) g u hu hg
theorem Rw (hG:Gd L) (hA:cn E) (HE:∀j,i<j->Cx w0 p L vL en 185 fE (E j) j) (j:Nat) (hij:i<=j) (g:Nat) (u:World) (hu:PR w0 p L vL en j u) (hg:u.heap[g]?=some (.cells lY 187 (0,0))) (lH:g≠p):Calls Tryz.prog 151 #[.pointer (some ⟨p,0,none⟩),.slice (some ⟨g,0,none⟩) 3 3] u (Rp w0 p L vL en (fun (ts:List Value) v u'=>∃d,Row 4 (eM u.heap.size u' d) v ts) u (dK L en qF (iO L en E) (L.length+1) j [])):=by
 rw [<- GG (fun k=>aaQ hG k)];exact aaX w0 p L vL en g _ j (fun j' u' h' hp' hg'=>Rv hG HE j' (by omega) g u' hp' hg') (fun j' t k _ h=>EX hA _ _ _ h) u hu hg lH
theorem aaY (i:Nat):GI L en (iO L en E) (fun j=>dK L en qF (iO L en E) (L.length+1) j []) i=mF L en E i:=rfl
theorem aaZ (hG:Gd L) (hA:cn E) (HE:∀j,i<j->Cx w0 p L vL en 185 fE (E j) j):Cx w0 p L vL en 185 fE (match mF L en E i with
  | .error z=>.error z
  | .ok (t,j)=>match aY L en gU j with
   | .error _=>.ok (t,j)
   | .ok j=>match E j with
    | .error z=>.error z
    | .ok (u,j)=>.ok (nd 3 e0 e0 0 [t,u] [] 0,j)) i:=fun u hu =>
 aa0 w0 p L vL en i (mF L en E) E (Ol hA) (fun u hu=>by
  rw [<- aaY];exact aa1 w0 p L vL en i _ _ (fun h1=>if_pos h1) (fun g u' hp' hg'=>Rv hG HE i (Nat.le_refl _) g u' hp' hg') (fun g j u' h' hp' hg' hne=>Rw hG hA HE j (by omega) g u' hp' hg' hne) u hu) (fun j u' h' hp'=>HE j h' u' hp') u hu
end
section
variable {w0:World} {p:Nat} {L:List Tk} {vL:Value} {en:Int}
theorem Rx (hG:Gd L):∀(f i:Nat),L.length<i+f->Cx w0 p L vL en 185 fE (jv L en f i) i
 | 0,i,h=>fun u hu=>absurd hu.le (by omega)
 | f+1,i,h=>aaZ hG (Cy f) (fun j hj=>Rx hG f j (by omega))
end
-- patterns
section
variable {w0:World} {p:Nat} {L:List Tk} {vL:Value} {en:Int} {E:Nat->Rd Value} {i:Nat}
theorem Ry (HE:∀j,i<j->Cx w0 p L vL en 186 cW (E j) j) (j:Nat) (hij:i<=j):Cx w0 p L vL en 234 cW (brk L en E j) j:=fun u hu =>
 aav w0 p L vL en j E (fun j' u' h' hp'=>HE j' (by omega) u' hp') u hu
theorem aa2 (hG:Gd L) (HE:∀j,i<j->Cx w0 p L vL en 186 cW (E j) j) (j:Nat) (hij:i<=j) (g:Nat) (u:World) (hu:PR w0 p L vL en j u) (hg:u.heap[g]?=some (.cells oM 207 (0,0))):Calls Tryz.prog 197 #[.pointer (some ⟨p,0,none⟩),.slice (some ⟨g,0,none⟩) 5 5] u (Rp w0 p L vL en (cW u.heap.size) u (ju L en E j)):=by
 rw [<- Ru hG];exact O8 w0 p L vL en j _ (fun u hu=>Rz w0 p L vL en j u hu) _ (fun u hu=>RA w0 p L vL en j u hu) _ (fun u hu=>RB w0 p L vL en j u hu) _ (fun u hu=>JB w0 p L vL en j u hu) _ (Ry HE j hij) g u hu hg
theorem aa3 (hG:Gd L) (hA:cn E) (HE:∀j,i<j->Cx w0 p L vL en 186 cW (E j) j) (j:Nat) (hij:i<=j) (g:Nat) (u:World) (hu:PR w0 p L vL en j u) (hg:u.heap[g]?=some (.cells oM 207 (0,0))) (lH:g≠p):Calls Tryz.prog 220 #[.pointer (some ⟨p,0,none⟩),.slice (some ⟨g,0,none⟩) 5 5] u (Rp w0 p L vL en (fun (ts:List Value) v u'=>∃d,Row 5 (di u.heap.size u' d) v ts) u (dK L en rR (ju L en E) (L.length+1) j [])):=by
 rw [<- GG (fun k=>aaO hG k)];exact aa4 w0 p L vL en g _ j (fun j' u' h' hp' hg'=>aa2 hG HE j' (by omega) g u' hp' hg') (fun j' t k _ h=>IA hA _ _ _ h) u hu hg lH
theorem aa5 (f i:Nat) (M:Nat->Rd (List Value)) (hM:∀j,M j=dK L en rR (ju L en (gG L en f)) (L.length+1) j []):bC (tk L en i) [(2,e0,(match bN L en 2 i with | .error z=>.error z | .ok (t,j)=>match M j with | .error z=>.error z | .ok (ts,j)=>.ok (nd 4 t.x e0 0 ts [] t.a,j):Rd Value)),(0,e0,ju L en (gG L en f) i)]=gG L en (f+1) i:=by
 simp only [bC,lG (show ((2:Int) == 0)=false from rfl),KF];rw [gG];by_cases h2:(tk L en i).k=2
 ·rw [if_pos h2,h2,oq h2];simp only [beq_self_eq_true,if_true,hM];generalize dK L en rR (ju L en (gG L en f)) (L.length+1) (i+1) []=X;cases X<;>rfl
 ·rw [if_neg h2,show ((tk L en i).k == 2)=false from beq_eq_false_iff_ne.2 h2,if_neg (by decide),if_pos trivial]
end
section
variable {w0:World} {p:Nat} {L:List Tk} {vL:Value} {en:Int}
theorem RE (hG:Gd L):∀(f i:Nat),L.length<i+f->Cx w0 p L vL en 186 cW (gG L en f i) i
 | 0,i,h=>fun u hu=>absurd hu.le (by omega)
 | f+1,i,h=>fun u hu=>by
  have HE:∀j,i<j->Cx w0 p L vL en 186 cW (gG L en f j) j:=fun j hj=>RE hG f j (by omega);rw [<- aa5 f i (fun j=>dK L en rR (ju L en (gG L en f)) (L.length+1) j []) (fun _=>rfl)]
  exact XY w0 p L vL en i _ (fun u' hu'=>YF w0 p L vL en i _ (fun g j KI h' hp' hg' hne=>aa3 hG (Cz f) HE j (by omega) g KI hp' hg' hne) u' hu') _ (fun u' hu'=>by
   rw [<- Ru hG];exact XX w0 p L vL en i _ (fun u hu=>Rz w0 p L vL en i u hu) _ (fun u hu=>RA w0 p L vL en i u hu) _ (fun u hu=>RB w0 p L vL en i u hu) _ (fun u hu=>JB w0 p L vL en i u hu) _ (Ry HE i (Nat.le_refl _)) u' hu') u hu
end
end Pz
namespace Pz
section
variable {w0:World} {p:Nat} {L:List Tk} {vL:Value} {en:Int} {E:Nat->Rd Value} {i:Nat}
abbrev qq (w0:World) (p:Nat) (L:List Tk) (vL:Value) (en:Int) (E:Nat->Rd Value) (i:Nat):Prop:=∀j,i<j->Cx w0 p L vL en 60 aX (E j) j
theorem qq.mono (h:qq w0 p L vL en E i) {j:Nat} (hij:i<=j):qq w0 p L vL en E j:=fun k hk=>h k (by omega)
theorem Uo (HE:qq w0 p L vL en E i):Cx w0 p L vL en 247 aX (brk L en E i) i:=fun u hu =>
 aau w0 p L vL en i E (fun j' u' h' hp'=>HE j' h' u' hp') u hu
theorem Uq (hG:Gd L) (HE:qq w0 p L vL en E i):Cx w0 p L vL en 240 aX (fG L en E i) i:=fun u hu=>by
 rw [<- Rq hG];exact XQ w0 p L vL en i _ (fun u hu=>Ur w0 p L vL en i u hu) _ (fun u hu=>Us w0 p L vL en i u hu) _ (fun u hu=>Ju w0 p L vL en i u hu) _ (Uo HE) u hu
theorem acB (hG:Gd L) (HE:qq w0 p L vL en E i) (g:Nat) (u:World) (hu:PR w0 p L vL en i u) (hg:u.heap[g]?=some (.cells nC 163 (0,0))):Calls Tryz.prog 123 #[.pointer (some ⟨p,0,none⟩),.slice (some ⟨g,0,none⟩) 4 4] u (Rp w0 p L vL en (aX u.heap.size) u (fG L en E i)):=by
 rw [<- Rq hG];exact O6 w0 p L vL en i _ (fun u hu=>Ur w0 p L vL en i u hu) _ (fun u hu=>Us w0 p L vL en i u hu) _ (fun u hu=>Ju w0 p L vL en i u hu) _ (Uo HE) g u hu hg
theorem acC (hG:Gd L) (hA:cn E) (HE:qq w0 p L vL en E i) (g:Nat) (u:World) (hu:PR w0 p L vL en i u) (hg:u.heap[g]?=some (.cells nC 163 (0,0))) (lH:g≠p):Calls Tryz.prog 242 #[.pointer (some ⟨p,0,none⟩),.slice (some ⟨g,0,none⟩) 4 4] u (Rp w0 p L vL en (fun (ts:List Value) v u'=>∃d,Row 7 (dW u.heap.size u' d) v ts) u (dK L en mG (fG L en E) (L.length+1) i [])):=by
 rw [<- GG (fun k=>Rs hG k)];exact abR w0 p L vL en g _ i (fun j' u' h' hp' hg'=>acB hG (HE.mono h') g u' hp' hg') (fun j' t k _ h=>AA hA _ _ _ h) u hu hg lH
theorem acD (hG:Gd L) (i:Nat):bC (tk L en i) [(5,gW,(match aY L en gW i with | .error z=>.error z | .ok j=>match fG L en E j with | .error z=>.error z | .ok (e,j)=>.ok (nd 10 e0 e0 0 [e] [] (tk L en i).a,j):Rd Value)),(2,e0,(match bN L en 2 i with | .error z=>.error z | .ok (t,j)=>match dK L en mG (fG L en E) (L.length+1) j [] with | .error z=>.error z | .ok (ts,j)=>.ok (nd 8 t.x e0 0 ts [] t.a,j):Rd Value)),(0,e0,(match fG L en E i with | .error z=>.error z | .ok (e,j)=>uy L en jZ (fG L en E) (L.length+1) j e:Rd Value))]=jd L en E i:=by
 simp only [bC,lG (show ((2:Int) == 0)=false from rfl),KF,DY (hG.tk en i) (show gW≠e0 by decide) (show cK gW signs=false by decide)];unfold jd;by_cases h1:bn (tk L en i) gW=true
 ·rw [if_pos h1,if_pos h1,zX h1];dsimp only;generalize fG L en E (i+1)=X;cases X<;>rfl
 ·rw [if_neg h1,if_neg h1];by_cases h2:(tk L en i).k=2
  ·rw [if_pos h2,h2,oq h2];simp only [beq_self_eq_true,if_true];generalize dK L en mG (fG L en E) (L.length+1) (i+1) []=X;cases X<;>rfl
  ·rw [if_neg h2,show ((tk L en i).k == 2)=false from beq_eq_false_iff_ne.2 h2,if_neg (by decide),if_pos trivial];cases fG L en E i with
   | error z=>rfl
   | ok r=>exact Ro (fun k=>Rs hG k) _ _ _
theorem acE (hG:Gd L) (hA:cn E) (HE:qq w0 p L vL en E i):Cx w0 p L vL en 209 aX (jd L en E i) i:=fun u hu=>by
 rw [<- acD hG];exact XR w0 p L vL en i _ (fun u hu=>acF w0 p L vL en i (fG L en E) (fun j' u' h' hp'=>Uq hG (HE.mono (Nat.le_of_lt h')) u' hp') u hu) _ (fun u hu=>YB w0 p L vL en i _ (fun g j u' h' hp' hg' hne=>acC hG hA (HE.mono (Nat.le_of_lt h')) g u' hp' hg' hne) u hu) _ (fun u hu=>Xl w0 p L vL en i (fG L en E) (AA hA) (fun j' u' h' hp'=>Uq hG (HE.mono h') u' hp') u hu) u hu
theorem acG (hG:Gd L) (hA:cn E) (HE:qq w0 p L vL en E i):Cx w0 p L vL en 199 aX (je L en E i) i:=fun u hu=>by
 have h:=acH w0 p L vL en i (jd L en E) (IB hA) (fun j hj=>KH hG (by decide) j hj) (fun j' u' h' hp'=>acE hG hA (HE.mono h') u' hp') u hu
 have e:(match jd L en E i with | .error z=>.error z | .ok (e,j)=>eZ L en (ic [qN,qO,qP]) (jd L en E) (L.length+1) j e:Rd Value)=je L en E i:=by
  unfold je;cases jd L en E i with
  | error z=>rfl
  | ok r=>exact GH (fun k=>aaR _) _ _ _
 rw [<- e];exact h
theorem acI (hG:Gd L) (hA:cn E) (HE:qq w0 p L vL en E i):Cx w0 p L vL en 187 aX (jf L en E i) i:=fun u hu=>by
 have h:=acJ w0 p L vL en i (je L en E) (IC hA) (fun j hj=>KH hG (by decide) j hj) (fun j' u' h' hp'=>acG hG hA (HE.mono h') u' hp') u hu
 have e:(match je L en E i with | .error z=>.error z | .ok (e,j)=>eZ L en (ic [qR,qU]) (je L en E) (L.length+1) j e:Rd Value)=jf L en E i:=by
  unfold jf;cases je L en E i with
  | error z=>rfl
  | ok r=>exact GH (fun k=>aaS _) _ _ _
 rw [<- e];exact h
theorem acK (hG:Gd L) (hA:cn E) (HE:qq w0 p L vL en E i):Cx w0 p L vL en 180 aX (kP L en E i) i:=fun u hu=>by
 have h:=acL w0 p L vL en i (jf L en E) (ID hA) (fun j hj=>KH hG (by decide) j hj) (fun j' u' h' hp'=>acI hG hA (HE.mono h') u' hp') u hu
 have e:(match jf L en E i with | .error z=>.error z | .ok (e,j)=>eZ L en (ic [rV,rW]) (jf L en E) 1 j e:Rd Value)=kP L en E i:=by
  unfold kP;cases jf L en E i with
  | error z=>rfl
  | ok r=>exact GH (fun k=>aaT _) _ _ _
 rw [<- e];exact h
theorem acM (hG:Gd L) (hA:cn E) (HE:qq w0 p L vL en E i):Cx w0 p L vL en 158 aX (mH L en E i) i:=fun u hu =>
 Zr w0 p L vL en i (kP L en E) E (Oo hA) (acK hG hA HE) (fun j' u' h' hp'=>HE j' h' u' hp') u hu
theorem Ut:∀(f i:Nat) (ps es:List Value),Ak L en (gG L en (L.length+1)) E f i ps es=kQ L en E f i ps es
 | 0,_,_,_=>rfl
 | f+1,i,ps,es=>by
  rw [Ak,kQ];cases aY L en lg i with
  | error z=>rfl
  | ok j =>
   dsimp only;have hb:sU L en (gG L en (L.length+1)) E j=jX L en E j:=rfl;rw [hb];cases jX L en E j with
   | error z=>rfl
   | ok r=>exact Ut f _ _ _
theorem acN (hG:Gd L) (i:Nat) {R0 R1 R2 R3 R4:Rd Value} (h0:bn (tk L en i) eY=true->R0=nu L en E i) (h1:bn (tk L en i) fA=true->R1=ny L en E i) (h2:bn (tk L en i) gI=true->R2=oG L en E i) (h3:bn (tk L en i) gX=true->R3=nz L en E i) (h4:R4=mH L en E i):bC (tk L en i) [(5,eY,R0),(5,fA,R1),(5,gI,R2),(5,gX,R3),(0,e0,R4)]=(if bn (tk L en i) eY=true then nu L en E i
  else if bn (tk L en i) fA=true then ny L en E i
  else if bn (tk L en i) gI=true then oG L en E i
  else if bn (tk L en i) gX=true then nz L en E i
  else mH L en E i):=by
 have g:=hG.tk en i;simp only [bC,KF,DY g (show eY≠e0 by decide) (show cK eY signs=false by decide),DY g (show fA≠e0 by decide) (show cK fA signs=false by decide),DY g (show gI≠e0 by decide) (show cK gI signs=false by decide),DY g (show gX≠e0 by decide) (show cK gX signs=false by decide),if_true];split
 ·rename_i h;exact h0 h
 ·split
  ·rename_i h;exact h1 h
  ·split
   ·rename_i h;exact h2 h
   ·split
    ·rename_i h;exact h3 h
    ·exact h4
end
section
variable {w0:World} {p:Nat} {L:List Tk} {vL:Value} {en:Int}
theorem Tw (hG:Gd L):∀(f i:Nat),L.length<i+f->Cx w0 p L vL en 60 aX (dD L en f i) i
 | 0,i,h=>fun u hu=>absurd hu.le (by omega)
 | f+1,i,h=>fun u hu=>by
  have HE:qq w0 p L vL en (dD L en f) i:=fun j hj=>Tw hG f j (by omega);have hA:cn (dD L en f):=yE f;have hP:∀j u,i<j->PR w0 p L vL en j u->Calls Tryz.prog 186 #[.pointer (some ⟨p,0,none⟩)] u (Rp w0 p L vL en (cW u.heap.size) u (gG L en (L.length+1) j)):=fun j u' _ hu'=>RE hG (L.length+1) j (by omega) u' hu';have hE':∀j u,i<j->PR w0 p L vL en j u->Calls Tryz.prog 60 #[.pointer (some ⟨p,0,none⟩)] u (Rp w0 p L vL en (aX u.heap.size) u (dD L en f j)):=fun j u' hj hu'=>HE j hj u' hu';have hr:=XU w0 p L vL en i _ (fun u' hu'=>acO w0 p L vL en i (dD L en f) hA hE' u' hu') _ (fun u' hu'=>ZE w0 p L vL en i (dD L en f) hA hE' u' hu') _ (fun u' hu'=>acP w0 p L vL en i (dD L en f) hA hE' u' hu') _ (fun u' hu'=>acQ w0 p L vL en i (gG L en (L.length+1)) (dD L en f) (Cz _) hA hP hE' u' hu') _ (acM hG hA HE) u hu;rw [acN (E:=dD L en f) hG i ?a0 ?a1 ?a2 ?a3 rfl] at hr;exact hr
  case a0=>intro h0;rw [zX h0];rfl
  case a1=>intro h0;rw [zX h0];rfl
  case a2=>intro h0;rw [zX h0];rfl
  case a3 =>
   intro h0;unfold G8 nz;rw [zX h0];dsimp only;cases dD L en f (i+1) with
   | error z=>rfl
   | ok r =>
    dsimp only;cases aY L en AJ r.2 with
    | error z=>rfl
    | ok j =>
     dsimp only;have hb:sU L en (gG L en (L.length+1)) (dD L en f) j=jX L en (dD L en f) j:=rfl;rw [hb];cases jX L en (dD L en f) j with
     | error z=>rfl
     | ok r2=>dsimp only;rw [Ut];rfl
end
end Pz
namespace Pz
section
variable {w0:World} {p:Nat} {L:List Tk} {vL:Value} {en:Int}
theorem abZ (hG:Gd L) (i:Nat):Cx w0 p L vL en 122 jU (iP L en i) i:=fun u hu=>by
 have e:iP L en i=EE L en (fun j=>dK L en qF (iO L en (jv L en (L.length+1))) (L.length+1) j []) i:=rfl;rw [e];exact VU w0 p L vL en i _ (fun g j u' h' hp' hg' hne=>Rw (i:=0) hG (Cy _) (fun j' _=>Rx hG (L.length+1) j' (by omega)) j (Nat.zero_le _) g u' hp' hg' hne) u hu
theorem Tt:∀(f i:Nat) (acc:List Value),yu L en (iP L en) f i acc=jY L en f i acc
 | 0,_,_=>rfl
 | f+1,i,acc=>by
  rw [yu,jY];cases aY L en lg i with
  | error z=>rfl
  | ok j =>
   dsimp only;cases iP L en j with
   | error z=>rfl
   | ok r=>exact Tt f _ _
theorem decl_eq (i:Nat) (h:bn (tk L en i) nZ=true):tj L en (iP L en) i=nA L en i:=by
 unfold tj nA BQ;rw [zX h];dsimp only;cases bN L en 1 (i+1) with
 | error z=>rfl
 | ok r =>
  dsimp only;cases aY L en jJ (jT L en (L.length+1) r.2 []).2 with
  | error z=>rfl
  | ok j =>
   dsimp only;cases iP L en j with
   | error z=>rfl
   | ok r2 =>
    dsimp only;rw [Tt];cases jY L en (L.length+1) r2.2 [r2.1] with
    | error z=>rfl
    | ok r3 =>
     dsimp only;cases aY L en kD r3.2 with
     | error z=>rfl
     | ok j4=>rfl
theorem Tu:∀(f i:Nat) (acc:List Value),xy L en (tj L en (iP L en)) f i acc=jC L en f i acc
 | 0,_,_=>rfl
 | f+1,i,acc=>by
  rw [xy,jC];by_cases h:bn (tk L en i) nZ=true
  ·rw [if_pos h,if_pos h,decl_eq i h];cases nA L en i with
   | error z=>rfl
   | ok r=>exact Tu f _ _
  ·rw [if_neg h,if_neg h]
theorem ab0:cn (tj L en (iP L en)):=by
 intro i t j h;unfold tj at h;cases h0:aY L en nZ i with
 | error z=>rw [h0] at h;cases h
 | ok j0 =>
  have hs:bn (tk L en i) nZ=true:=by
   unfold aY at h0;split at h0
   ·assumption
   ·cases h0
  have e:=decl_eq (L:=L) (en:=en) i hs;unfold tj at e;rw [e] at h;exact Xj _ _ _ h
def jQ (L:List Tk) (en:Int):Rd (List Value × Value):=xz L en (dD L en (L.length+1)) (jC L en (L.length+1) 0 [])
theorem Tv (hG:Gd L) (u:World) (hu:PR w0 p L vL en 0 u):Calls Tryz.prog 24 #[.pointer (some ⟨p,0,none⟩)] u (Rp w0 p L vL en (lD u.heap.size) u (jQ L en)):=by
 have h:=aao w0 p L vL en 0 (tj L en (iP L en)) (dD L en (L.length+1)) ab0 (yE _) (fun j u' _ hu'=>VV w0 p L vL en j (iP L en) IE (fun j' KI _ ab1=>abZ hG j' KI ab1) u' hu') (fun j u' _ hu'=>Tw hG (L.length+1) j (by omega) u' hu') u hu;rw [Tu] at h;exact h
end
end Pz
end Go.Proofs.YtkdbgopgjbfhbaaGreatDoor
