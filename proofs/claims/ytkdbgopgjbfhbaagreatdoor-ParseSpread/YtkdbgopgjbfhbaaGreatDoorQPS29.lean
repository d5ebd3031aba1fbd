/- Texts that the claim needs. -/
import Derived.Test.YtkdbgopgjbfhbaaGreatDoorQPS22
import Derived.Test.YtkdbgopgjbfhbaaGreatDoorQPS25
import Derived.Test.YtkdbgopgjbfhbaaGreatDoorQPS26
import Derived.Test.YtkdbgopgjbfhbaaGreatDoorQPS27
import Derived.Test.YtkdbgopgjbfhbaaGreatDoorQPS16
import Derived.Test.YtkdbgopgjbfhbaaGreatDoorQPS17
import Derived.Test.YtkdbgopgjbfhbaaGreatDoorQPS28
namespace Go.Proofs.YtkdbgopgjbfhbaaGreatDoor
open Go.RowKit Lx Pz bb
set_option linter.unusedVariables false
namespace Pz
def Av (t:Tk):Prop:=(t.k=5->bN t.x keys=true)/\(t.k=6->bN t.x signs=true)
def Gd (L:List Tk):Prop:=∀t ∈ L,Av t
theorem Gd.tk {L:List Tk} (h:Gd L) (en:Int) (i:Nat):Av (tk L en i):=by
 cases hi:L[i]? with
 | none=>unfold Pz.tk;rw [hi];exact ⟨fun h=>(by cases h),fun h=>(by cases h)⟩
 | some t=>rw [Bp L en hi];exact h t (List.mem_of_getElem? hi)
theorem lF {K:Int} {t:Tk} (hK:(K == 0)=false):bg K e0 t=(t.k == K):=by
 unfold bg;rw [hK,Bool.false_or,decide_eq_true (rfl:e0=e0),Bool.true_or,Bool.and_true];exact BEq.comm
theorem KE (t:Tk):bg 0 e0 t=true:=rfl
theorem DX {s:ByteArray} {t:Tk} (hG:Av t) (h0:s≠e0) (hs:bN s signs=false):bg 5 s t=bE t s:=by
 unfold bg bE;rw [show ((5:Int) == 0)=false from rfl,Bool.false_or,decide_eq_false h0,Bool.false_or];by_cases h5:t.k=5
 ·rw [h5];simp only [beq_self_eq_true,Bool.true_and,Bool.true_or];exact decide_eq_decide.2 ⟨fun h=>h.symm,fun h=>h.symm⟩
 ·rw [show ((5:Int) == t.k)=false from beq_eq_false_iff_ne.2 (fun e=>h5 e.symm),Bool.false_and,show (t.k == 5)=false from beq_eq_false_iff_ne.2 h5,Bool.false_or];by_cases h6:t.k=6
  ·have:=hG.2 h6
   rw [decide_eq_false (fun e=>by rw [e,hs] at this;cases this),Bool.and_false]
  ·rw [show (t.k == 6)=false from beq_eq_false_iff_ne.2 h6,Bool.false_and]
theorem xw {s:ByteArray} {t:Tk} (hG:Av t) (h0:s≠e0) (hs:bN s keys=false):bg 6 s t=bE t s:=by
 unfold bg bE;rw [show ((6:Int) == 0)=false from rfl,Bool.false_or,decide_eq_false h0,Bool.false_or];by_cases h6:t.k=6
 ·rw [h6];simp only [beq_self_eq_true,Bool.true_and,Bool.or_true];exact decide_eq_decide.2 ⟨fun h=>h.symm,fun h=>h.symm⟩
 ·rw [show ((6:Int) == t.k)=false from beq_eq_false_iff_ne.2 (fun e=>h6 e.symm),Bool.false_and,show (t.k == 6)=false from beq_eq_false_iff_ne.2 h6,Bool.or_false];by_cases h5:t.k=5
  ·have:=hG.1 h5
   rw [decide_eq_false (fun e=>by rw [e,hs] at this;cases this),Bool.and_false]
  ·rw [show (t.k == 5)=false from beq_eq_false_iff_ne.2 h5,Bool.false_and]
theorem aa7 {s:ByteArray} {t:Tk} (hG:Av t) (hs:bN s keys=false) (h:bE t s=true):t.k=6:=by
 rcases qX h with h5|h6
 ·have hx:t.x=s:=by unfold bE at h;rw [Bool.and_eq_true] at h;exact of_decide_eq_true h.2
  have:=hG.1 h5;rw [hx,hs] at this;cases this
 ·exact h6
theorem Bq:sL≠e0:=by decide
theorem Br:bN sL keys=false:=by decide
section
variable {L:List Tk} {en:Int}
theorem Gw {nx nx':Tk->Bool} {A:Nat->Rd Value} (h:∀i,nx (tk L en i)=nx' (tk L en i)):∀(f i:Nat) (acc:List Value),dE L en nx A f i acc=dE L en nx' A f i acc
 | 0,_,_=>rfl
 | f+1,i,acc=>by
  rw [dE,dE,h i];split
  ·cases A i with
   | error z=>rfl
   | ok r=>exact Gw h f r.2 _
  ·rfl
theorem Gx {sg Si:Tk->Bool} {A:Nat->Rd Value} (h:∀i,sg (tk L en i)=Si (tk L en i)):∀(f i:Nat) (e:Value),fw L en sg A f i e=fw L en Si A f i e
 | 0,_,_=>rfl
 | f+1,i,e=>by
  rw [fw,fw,h i];split
  ·cases A (i+1) with
   | error z=>rfl
   | ok r=>exact Gx h f r.2 _
  ·rfl
theorem Sj {E:Nat->Rd Value} {nx:Tk->Bool} (h:∀i,nx (tk L en i)=oM (tk L en i)):∀(f i:Nat) (e:Value),uf L en nx (fI L en E) f i e=lj L en E f i e
 | 0,_,_=>rfl
 | f+1,i,e=>by
  rw [uf,lj,h i];split
  ·cases fI L en E i with
   | error z=>rfl
   | ok r=>exact Sj h f r.2 _
  ·rfl
theorem zN {s:ByteArray} {i:Nat} (h:bE (tk L en i) s=true):aX L en s i=.ok (i+1):=if_pos h
theorem aa8 {s:ByteArray} {i:Nat} (h:bE (tk L en i) s=false):aX L en s i=.error (tk L en i).a:=if_neg (by rw [h];decide)
theorem KF {E:Nat->Rd Value} {i:Nat} (h:bE (tk L en i) sL=false):brk L en E i=.error (tk L en i).a:=by unfold brk;rw [aa8 h]
theorem Sk (hG:Gd L) (E:Nat->Rd Value) (i:Nat):bq (tk L en i) [(1,e0,iN (fun t=>nd 1 t.x e0 0 [] [] t.a) (bM L en 1 i)),(4,e0,iN (fun t=>nd 2 e0 e0 t.n [] [] t.a) (bM L en 4 i)),(2,e0,iN (fun t=>nd 8 t.x e0 0 [] [] t.a) (bM L en 2 i)),(6,sL,brk L en E i)]=fI L en E i:=by
 simp only [bq,lF (show ((1:Int) == 0)=false from rfl),lF (show ((4:Int) == 0)=false from rfl),lF (show ((2:Int) == 0)=false from rfl),xw (hG.tk en i) Bq Br];unfold fI;by_cases h1:(tk L en i).k=1
 ·rw [if_pos h1,h1,nJ h1];rfl
 ·rw [if_neg h1,show ((tk L en i).k == 1)=false from beq_eq_false_iff_ne.2 h1,if_neg (by decide)];by_cases h4:(tk L en i).k=4
  ·rw [if_pos h4,h4,nJ h4];rfl
  ·rw [if_neg h4,show ((tk L en i).k == 4)=false from beq_eq_false_iff_ne.2 h4,if_neg (by decide)];by_cases h2:(tk L en i).k=2
   ·rw [if_pos h2,h2,nJ h2];rfl
   ·rw [if_neg h2,show ((tk L en i).k == 2)=false from beq_eq_false_iff_ne.2 h2,if_neg (by decide)];cases hs:bE (tk L en i) sL with
    | true=>rw [if_pos rfl]
    | false=>rw [if_neg (by decide),KF hs]
theorem Sl (hG:Gd L) (i:Nat):jZ (tk L en i)=oM (tk L en i):=by
 unfold jZ oM;rw [lF (show ((1:Int) == 0)=false from rfl),lF (show ((4:Int) == 0)=false from rfl),lF (show ((2:Int) == 0)=false from rfl),xw (hG.tk en i) Bq Br]
theorem Sn (hG:Gd L) (P:Nat->Rd Value) (i:Nat):bq (tk L en i) [(1,e0,iN (fun t=>nd 2 t.x e0 0 [] [] t.a) (bM L en 1 i)),(6,dK,iN (fun t:Int=>nd 1 e0 e0 0 [] [] t) (Bu L en dK i)),(4,e0,iN (fun t=>nd 3 e0 e0 t.n [] [] t.a) (bM L en 4 i)),(2,e0,iN (fun t=>nd 4 t.x e0 0 [] [] t.a) (bM L en 2 i)),(6,sL,brk L en P i)]=jq L en P i:=by
 simp only [bq,lF (show ((1:Int) == 0)=false from rfl),lF (show ((4:Int) == 0)=false from rfl),lF (show ((2:Int) == 0)=false from rfl),xw (hG.tk en i) Bq Br,xw (hG.tk en i) (show dK≠e0 by decide) (show bN dK keys=false by decide)];unfold jq;by_cases h1:(tk L en i).k=1
 ·rw [if_pos h1,h1,nJ h1];rfl
 ·rw [if_neg h1,show ((tk L en i).k == 1)=false from beq_eq_false_iff_ne.2 h1,if_neg (by decide)];by_cases ha:bE (tk L en i) dK=true
  ·rw [if_pos ha,if_pos ha];unfold Bu;rw [zN ha];rfl
  ·rw [if_neg ha,if_neg ha];by_cases h4:(tk L en i).k=4
   ·rw [if_pos h4,h4,nJ h4];rfl
   ·rw [if_neg h4,show ((tk L en i).k == 4)=false from beq_eq_false_iff_ne.2 h4,if_neg (by decide)];by_cases h2:(tk L en i).k=2
    ·rw [if_pos h2,h2,nJ h2];rfl
    ·rw [if_neg h2,show ((tk L en i).k == 2)=false from beq_eq_false_iff_ne.2 h2,if_neg (by decide)];cases hs:bE (tk L en i) sL with
     | true=>rw [if_pos rfl]
     | false=>rw [if_neg (by decide),KF hs]
theorem aa9 (hG:Gd L) (i:Nat):mF (tk L en i)=qP (tk L en i):=by
 unfold mF qP;rw [lF (show ((1:Int) == 0)=false from rfl),lF (show ((4:Int) == 0)=false from rfl),lF (show ((2:Int) == 0)=false from rfl),xw (hG.tk en i) Bq Br,xw (hG.tk en i) (show dK≠e0 by decide) (show bN dK keys=false by decide)]
theorem aba (hG:Gd L) (T:Nat->Rd Value) (i:Nat):bq (tk L en i) [(1,e0,iN (fun t:Tk=>qF t.x) (bM L en 1 i)),(3,e0,iN (fun t:Tk=>nd 2 t.x e0 0 [] [] 0) (bM L en 3 i)),(6,sL,brk L en T i)]=iQ L en T i:=by
 simp only [bq,lF (show ((1:Int) == 0)=false from rfl),lF (show ((3:Int) == 0)=false from rfl),xw (hG.tk en i) Bq Br];unfold iQ;by_cases h1:(tk L en i).k=1
 ·rw [if_pos h1,h1,nJ h1];rfl
 ·rw [if_neg h1,show ((tk L en i).k == 1)=false from beq_eq_false_iff_ne.2 h1,if_neg (by decide)];by_cases h3:(tk L en i).k=3
  ·rw [if_pos h3,h3,nJ h3];rfl
  ·rw [if_neg h3,show ((tk L en i).k == 3)=false from beq_eq_false_iff_ne.2 h3,if_neg (by decide)];cases hs:bE (tk L en i) sL with
   | true=>rw [if_pos rfl]
   | false=>rw [if_neg (by decide),KF hs]
theorem abb (hG:Gd L) (i:Nat):ou (tk L en i)=pX (tk L en i):=by
 unfold ou pX;rw [lF (show ((1:Int) == 0)=false from rfl),lF (show ((3:Int) == 0)=false from rfl),xw (hG.tk en i) Bq Br]
theorem abd (t:Tk):gY [rQ,rR,rS] t=tH t:=by unfold gY tH;simp [List.any,Bool.or_assoc]
theorem abe (t:Tk):gY [rT,rU] t=tJ t:=by unfold gY tJ;simp [List.any]
theorem abf (t:Tk):gY [tK,tL] t=tN t:=by unfold gY tN;simp [List.any]
theorem KG (hG:Gd L) {xs:List ByteArray} (hx:∀s ∈ xs,bN s keys=false) (j:Nat) (h:gY xs (tk L en j)=true):(tk L en j).k=6:=by
 unfold gY at h;obtain ⟨s,hs,hh⟩:=List.any_eq_true.1 h;exact aa7 (hG.tk en j) (hx s hs) hh
end
def Cx (w0:World) (p:Nat) (L:List Tk) (vL:Value) (en:Int) (fn:FuncId) (O:Nat->Value->Value->World->Prop) (X:Rd Value) (i:Nat):Prop:=∀u,PR w0 p L vL en i u->Calls Tryz.prog fn #[.pointer (some ⟨p,0,none⟩)] u (Rp w0 p L vL en (O u.heap.size) u X)
section
variable {w0:World} {p:Nat} {L:List Tk} {vL:Value} {en:Int} {E:Nat->Rd Value} {i:Nat}
-- types
theorem Sq (hG:Gd L) (HE:∀j,i<j->Cx w0 p L vL en 185 fC (E j) j) (j:Nat) (hij:i<=j) (g:Nat) (u:World) (hu:PR w0 p L vL en j u) (hg:u.heap[g]?=some (.cells lJ 187 (0,0))):Calls Tryz.prog 175 #[.pointer (some ⟨p,0,none⟩),.slice (some ⟨g,0,none⟩) 3 3] u (Rp w0 p L vL en (fC u.heap.size) u (iQ L en E j)):=by
 rw [<- aba hG];exact abg w0 p L vL en j _ (fun u hu=>abh w0 p L vL en j u hu) _ (fun u hu=>abj w0 p L vL en j u hu) _ (fun u hu=>aaT w0 p L vL en j E (fun j' u' h' hp'=>HE j' (by omega) u' hp') u hu) g u hu hg
theorem Sr (hG:Gd L) (hA:bX E) (HE:∀j,i<j->Cx w0 p L vL en 185 fC (E j) j) (j:Nat) (hij:i<=j) (g:Nat) (u:World) (hu:PR w0 p L vL en j u) (hg:u.heap[g]?=some (.cells lJ 187 (0,0))) (oz:g≠p):Calls Tryz.prog 151 #[.pointer (some ⟨p,0,none⟩),.slice (some ⟨g,0,none⟩) 3 3] u (Rp w0 p L vL en (fun (ts:List Value) v u'=>∃d,Row 4 (eG u.heap.size u' d) v ts) u (dE L en pX (iQ L en E) (L.length+1) j [])):=by
 rw [<- Gw (fun k=>abb hG k)];exact abk w0 p L vL en g _ j (fun j' u' h' hp' hg'=>Sq hG HE j' (by omega) g u' hp' hg') (fun j' t k _ h=>EP hA _ _ _ h) u hu hg oz
theorem abl (i:Nat):Gy L en (iQ L en E) (fun j=>dE L en pX (iQ L en E) (L.length+1) j []) i=mg L en E i:=rfl
theorem abm (hG:Gd L) (hA:bX E) (HE:∀j,i<j->Cx w0 p L vL en 185 fC (E j) j):Cx w0 p L vL en 185 fC (match mg L en E i with
  | .error z=>.error z
  | .ok (t,j)=>match aX L en jC j with
   | .error _=>.ok (t,j)
   | .ok j=>match E j with
    | .error z=>.error z
    | .ok (u,j)=>.ok (nd 3 e0 e0 0 [t,u] [] 0,j)) i:=fun u hu =>
 abn w0 p L vL en i (mg L en E) E (NZ hA) (fun u hu=>by
  rw [<- abl];exact abo w0 p L vL en i _ _ (fun h1=>if_pos h1) (fun g u' hp' hg'=>Sq hG HE i (Nat.le_refl _) g u' hp' hg') (fun g j u' h' hp' hg' hne=>Sr hG hA HE j (by omega) g u' hp' hg' hne) u hu) (fun j u' h' hp'=>HE j h' u' hp') u hu
end
section
variable {w0:World} {p:Nat} {L:List Tk} {vL:Value} {en:Int}
theorem Ss (hG:Gd L):∀(f i:Nat),L.length<i+f->Cx w0 p L vL en 185 fC (jr L en f i) i
 | 0,i,h=>fun u hu=>absurd hu.le (by omega)
 | f+1,i,h=>abm hG (Cw f) (fun j hj=>Ss hG f j (by omega))
end
-- patterns
section
variable {w0:World} {p:Nat} {L:List Tk} {vL:Value} {en:Int} {E:Nat->Rd Value} {i:Nat}
theorem Su (HE:∀j,i<j->Cx w0 p L vL en 186 cG (E j) j) (j:Nat) (hij:i<=j):Cx w0 p L vL en 234 cG (brk L en E j) j:=fun u hu =>
 aaS w0 p L vL en j E (fun j' u' h' hp'=>HE j' (by omega) u' hp') u hu
theorem abp (hG:Gd L) (HE:∀j,i<j->Cx w0 p L vL en 186 cG (E j) j) (j:Nat) (hij:i<=j) (g:Nat) (u:World) (hu:PR w0 p L vL en j u) (hg:u.heap[g]?=some (.cells nX 207 (0,0))):Calls Tryz.prog 197 #[.pointer (some ⟨p,0,none⟩),.slice (some ⟨g,0,none⟩) 5 5] u (Rp w0 p L vL en (cG u.heap.size) u (jq L en E j)):=by
 rw [<- Sn hG];exact Px w0 p L vL en j _ (fun u hu=>Sw w0 p L vL en j u hu) _ (fun u hu=>Sy w0 p L vL en j u hu) _ (fun u hu=>Sz w0 p L vL en j u hu) _ (fun u hu=>JL w0 p L vL en j u hu) _ (Su HE j hij) g u hu hg
theorem abq (hG:Gd L) (hA:bX E) (HE:∀j,i<j->Cx w0 p L vL en 186 cG (E j) j) (j:Nat) (hij:i<=j) (g:Nat) (u:World) (hu:PR w0 p L vL en j u) (hg:u.heap[g]?=some (.cells nX 207 (0,0))) (oz:g≠p):Calls Tryz.prog 220 #[.pointer (some ⟨p,0,none⟩),.slice (some ⟨g,0,none⟩) 5 5] u (Rp w0 p L vL en (fun (ts:List Value) v u'=>∃d,Row 5 (cW u.heap.size u' d) v ts) u (dE L en qP (jq L en E) (L.length+1) j [])):=by
 rw [<- Gw (fun k=>aa9 hG k)];exact abr w0 p L vL en g _ j (fun j' u' h' hp' hg'=>abp hG HE j' (by omega) g u' hp' hg') (fun j' t k _ h=>Ir hA _ _ _ h) u hu hg oz
theorem abt (f i:Nat) (M:Nat->Rd (List Value)) (hM:∀j,M j=dE L en qP (jq L en (gD L en f)) (L.length+1) j []):bq (tk L en i) [(2,e0,(match bM L en 2 i with | .error z=>.error z | .ok (t,j)=>match M j with | .error z=>.error z | .ok (ts,j)=>.ok (nd 4 t.x e0 0 ts [] t.a,j):Rd Value)),(0,e0,jq L en (gD L en f) i)]=gD L en (f+1) i:=by
 simp only [bq,lF (show ((2:Int) == 0)=false from rfl),KE];rw [gD];by_cases h2:(tk L en i).k=2
 ·rw [if_pos h2,h2,nJ h2];simp only [beq_self_eq_true,if_true,hM];generalize dE L en qP (jq L en (gD L en f)) (L.length+1) (i+1) []=X;cases X<;>rfl
 ·rw [if_neg h2,show ((tk L en i).k == 2)=false from beq_eq_false_iff_ne.2 h2,if_neg (by decide),if_pos trivial]
end
section
variable {w0:World} {p:Nat} {L:List Tk} {vL:Value} {en:Int}
theorem SA (hG:Gd L):∀(f i:Nat),L.length<i+f->Cx w0 p L vL en 186 cG (gD L en f i) i
 | 0,i,h=>fun u hu=>absurd hu.le (by omega)
 | f+1,i,h=>fun u hu=>by
  have HE:∀j,i<j->Cx w0 p L vL en 186 cG (gD L en f j) j:=fun j hj=>SA hG f j (by omega);rw [<- abt f i (fun j=>dE L en qP (jq L en (gD L en f)) (L.length+1) j []) (fun _=>rfl)]
  exact Yl w0 p L vL en i _ (fun u' hu'=>Zb w0 p L vL en i _ (fun g j KH h' hp' hg' hne=>abq hG (Cy f) HE j (by omega) g KH hp' hg' hne) u' hu') _ (fun u' hu'=>by
   rw [<- Sn hG];exact Yk w0 p L vL en i _ (fun u hu=>Sw w0 p L vL en i u hu) _ (fun u hu=>Sy w0 p L vL en i u hu) _ (fun u hu=>Sz w0 p L vL en i u hu) _ (fun u hu=>JL w0 p L vL en i u hu) _ (Su HE i (Nat.le_refl _)) u' hu') u hu
end
end Pz
namespace Pz
section
variable {w0:World} {p:Nat} {L:List Tk} {vL:Value} {en:Int} {E:Nat->Rd Value} {i:Nat}
abbrev pO (w0:World) (p:Nat) (L:List Tk) (vL:Value) (en:Int) (E:Nat->Rd Value) (i:Nat):Prop:=∀j,i<j->Cx w0 p L vL en 60 aY (E j) j
theorem pO.mono (h:pO w0 p L vL en E i) {j:Nat} (hij:i<=j):pO w0 p L vL en E j:=fun k hk=>h k (by omega)
theorem Uq (HE:pO w0 p L vL en E i):Cx w0 p L vL en 247 aY (brk L en E i) i:=fun u hu =>
 aaR w0 p L vL en i E (fun j' u' h' hp'=>HE j' h' u' hp') u hu
theorem Ur (hG:Gd L) (HE:pO w0 p L vL en E i):Cx w0 p L vL en 240 aY (fI L en E i) i:=fun u hu=>by
 rw [<- Sk hG];exact Yd w0 p L vL en i _ (fun u hu=>Us w0 p L vL en i u hu) _ (fun u hu=>Ut w0 p L vL en i u hu) _ (fun u hu=>JF w0 p L vL en i u hu) _ (Uq HE) u hu
theorem acQ (hG:Gd L) (HE:pO w0 p L vL en E i) (g:Nat) (u:World) (hu:PR w0 p L vL en i u) (hg:u.heap[g]?=some (.cells mP 163 (0,0))):Calls Tryz.prog 123 #[.pointer (some ⟨p,0,none⟩),.slice (some ⟨g,0,none⟩) 4 4] u (Rp w0 p L vL en (aY u.heap.size) u (fI L en E i)):=by
 rw [<- Sk hG];exact Pv w0 p L vL en i _ (fun u hu=>Us w0 p L vL en i u hu) _ (fun u hu=>Ut w0 p L vL en i u hu) _ (fun u hu=>JF w0 p L vL en i u hu) _ (Uq HE) g u hu hg
theorem acR (hG:Gd L) (hA:bX E) (HE:pO w0 p L vL en E i) (g:Nat) (u:World) (hu:PR w0 p L vL en i u) (hg:u.heap[g]?=some (.cells mP 163 (0,0))) (oz:g≠p):Calls Tryz.prog 242 #[.pointer (some ⟨p,0,none⟩),.slice (some ⟨g,0,none⟩) 4 4] u (Rp w0 p L vL en (fun (ts:List Value) v u'=>∃d,Row 7 (dR u.heap.size u' d) v ts) u (dE L en oM (fI L en E) (L.length+1) i [])):=by
 rw [<- Gw (fun k=>Sl hG k)];exact acd w0 p L vL en g _ i (fun j' u' h' hp' hg'=>acQ hG (HE.mono h') g u' hp' hg') (fun j' t k _ h=>Ai hA _ _ _ h) u hu hg oz
theorem acS (hG:Gd L) (i:Nat):bq (tk L en i) [(5,ic,(match aX L en ic i with | .error z=>.error z | .ok j=>match fI L en E j with | .error z=>.error z | .ok (e,j)=>.ok (nd 10 e0 e0 0 [e] [] (tk L en i).a,j):Rd Value)),(2,e0,(match bM L en 2 i with | .error z=>.error z | .ok (t,j)=>match dE L en oM (fI L en E) (L.length+1) j [] with | .error z=>.error z | .ok (ts,j)=>.ok (nd 8 t.x e0 0 ts [] t.a,j):Rd Value)),(0,e0,(match fI L en E i with | .error z=>.error z | .ok (e,j)=>uf L en jZ (fI L en E) (L.length+1) j e:Rd Value))]=jD L en E i:=by
 simp only [bq,lF (show ((2:Int) == 0)=false from rfl),KE,DX (hG.tk en i) (show ic≠e0 by decide) (show bN ic signs=false by decide)];unfold jD;by_cases h1:bE (tk L en i) ic=true
 ·rw [if_pos h1,if_pos h1,zN h1];dsimp only;generalize fI L en E (i+1)=X;cases X<;>rfl
 ·rw [if_neg h1,if_neg h1];by_cases h2:(tk L en i).k=2
  ·rw [if_pos h2,h2,nJ h2];simp only [beq_self_eq_true,if_true];generalize dE L en oM (fI L en E) (L.length+1) (i+1) []=X;cases X<;>rfl
  ·rw [if_neg h2,show ((tk L en i).k == 2)=false from beq_eq_false_iff_ne.2 h2,if_neg (by decide),if_pos trivial];cases fI L en E i with
   | error z=>rfl
   | ok r=>exact Sj (fun k=>Sl hG k) _ _ _
theorem acT (hG:Gd L) (hA:bX E) (HE:pO w0 p L vL en E i):Cx w0 p L vL en 209 aY (jD L en E i) i:=fun u hu=>by
 rw [<- acS hG];exact Ye w0 p L vL en i _ (fun u hu=>acU w0 p L vL en i (fI L en E) (fun j' u' h' hp'=>Ur hG (HE.mono (Nat.le_of_lt h')) u' hp') u hu) _ (fun u hu=>Y7 w0 p L vL en i _ (fun g j u' h' hp' hg' hne=>acR hG hA (HE.mono (Nat.le_of_lt h')) g u' hp' hg' hne) u hu) _ (fun u hu=>Xm w0 p L vL en i (fI L en E) (Ai hA) (fun j' u' h' hp'=>Ur hG (HE.mono h') u' hp') u hu) u hu
theorem acV (hG:Gd L) (hA:bX E) (HE:pO w0 p L vL en E i):Cx w0 p L vL en 199 aY (jE L en E i) i:=fun u hu=>by
 have h:=acW w0 p L vL en i (jD L en E) (Iu hA) (fun j hj=>KG hG (by decide) j hj) (fun j' u' h' hp'=>acT hG hA (HE.mono h') u' hp') u hu
 have e:(match jD L en E i with | .error z=>.error z | .ok (e,j)=>fw L en (gY [rQ,rR,rS]) (jD L en E) (L.length+1) j e:Rd Value)=jE L en E i:=by
  unfold jE;cases jD L en E i with
  | error z=>rfl
  | ok r=>exact Gx (fun k=>abd _) _ _ _
 rw [<- e];exact h
theorem acX (hG:Gd L) (hA:bX E) (HE:pO w0 p L vL en E i):Cx w0 p L vL en 187 aY (jF L en E i) i:=fun u hu=>by
 have h:=acY w0 p L vL en i (jE L en E) (Iv hA) (fun j hj=>KG hG (by decide) j hj) (fun j' u' h' hp'=>acV hG hA (HE.mono h') u' hp') u hu
 have e:(match jE L en E i with | .error z=>.error z | .ok (e,j)=>fw L en (gY [rT,rU]) (jE L en E) (L.length+1) j e:Rd Value)=jF L en E i:=by
  unfold jF;cases jE L en E i with
  | error z=>rfl
  | ok r=>exact Gx (fun k=>abe _) _ _ _
 rw [<- e];exact h
theorem acZ (hG:Gd L) (hA:bX E) (HE:pO w0 p L vL en E i):Cx w0 p L vL en 180 aY (lS L en E i) i:=fun u hu=>by
 have h:=ac0 w0 p L vL en i (jF L en E) (Iw hA) (fun j hj=>KG hG (by decide) j hj) (fun j' u' h' hp'=>acX hG hA (HE.mono h') u' hp') u hu
 have e:(match jF L en E i with | .error z=>.error z | .ok (e,j)=>fw L en (gY [tK,tL]) (jF L en E) 1 j e:Rd Value)=lS L en E i:=by
  unfold lS;cases jF L en E i with
  | error z=>rfl
  | ok r=>exact Gx (fun k=>abf _) _ _ _
 rw [<- e];exact h
theorem ac1 (hG:Gd L) (hA:bX E) (HE:pO w0 p L vL en E i):Cx w0 p L vL en 158 aY (mM L en E i) i:=fun u hu =>
 Z7 w0 p L vL en i (lS L en E) E (N8 hA) (acZ hG hA HE) (fun j' u' h' hp'=>HE j' h' u' hp') u hu
theorem Uu:∀(f i:Nat) (ps es:List Value),zT L en (gD L en (L.length+1)) E f i ps es=kN L en E f i ps es
 | 0,_,_,_=>rfl
 | f+1,i,ps,es=>by
  rw [zT,kN];cases aX L en kZ i with
  | error z=>rfl
  | ok j =>
   dsimp only;have hb:sj L en (gD L en (L.length+1)) E j=jW L en E j:=rfl;rw [hb];cases jW L en E j with
   | error z=>rfl
   | ok r=>exact Uu f _ _ _
theorem ac2 (hG:Gd L) (i:Nat) {R0 R1 R2 R3 R4:Rd Value} (h0:bE (tk L en i) gy=true->R0=nO L en E i) (h1:bE (tk L en i) gG=true->R1=nP L en E i) (h2:bE (tk L en i) gM=true->R2=nQ L en E i) (h3:bE (tk L en i) ig=true->R3=mN L en E i) (h4:R4=mM L en E i):bq (tk L en i) [(5,gy,R0),(5,gG,R1),(5,gM,R2),(5,ig,R3),(0,e0,R4)]=(if bE (tk L en i) gy=true then nO L en E i
  else if bE (tk L en i) gG=true then nP L en E i
  else if bE (tk L en i) gM=true then nQ L en E i
  else if bE (tk L en i) ig=true then mN L en E i
  else mM L en E i):=by
 have g:=hG.tk en i;simp only [bq,KE,DX g (show gy≠e0 by decide) (show bN gy signs=false by decide),DX g (show gG≠e0 by decide) (show bN gG signs=false by decide),DX g (show gM≠e0 by decide) (show bN gM signs=false by decide),DX g (show ig≠e0 by decide) (show bN ig signs=false by decide),if_true];split
 ·rename_i h;exact h0 h
 ·split
  ·rename_i h;exact h1 h
  ·split
   ·rename_i h;exact h2 h
   ·split
    ·rename_i h;exact h3 h
    ·exact h4
end
section
variable {w0:World} {p:Nat} {L:List Tk} {vL:Value} {en:Int}
theorem TD (hG:Gd L):∀(f i:Nat),L.length<i+f->Cx w0 p L vL en 60 aY (fR L en f i) i
 | 0,i,h=>fun u hu=>absurd hu.le (by omega)
 | f+1,i,h=>fun u hu=>by
  have HE:pO w0 p L vL en (fR L en f) i:=fun j hj=>TD hG f j (by omega);have hA:bX (fR L en f):=yc f;have hP:∀j u,i<j->PR w0 p L vL en j u->Calls Tryz.prog 186 #[.pointer (some ⟨p,0,none⟩)] u (Rp w0 p L vL en (cG u.heap.size) u (gD L en (L.length+1) j)):=fun j u' _ hu'=>SA hG (L.length+1) j (by omega) u' hu';have hE':∀j u,i<j->PR w0 p L vL en j u->Calls Tryz.prog 60 #[.pointer (some ⟨p,0,none⟩)] u (Rp w0 p L vL en (aY u.heap.size) u (fR L en f j)):=fun j u' hj hu'=>HE j hj u' hu';have hr:=Yh w0 p L vL en i _ (fun u' hu'=>ac3 w0 p L vL en i (fR L en f) hA hE' u' hu') _ (fun u' hu'=>aae w0 p L vL en i (fR L en f) hA hE' u' hu') _ (fun u' hu'=>ac4 w0 p L vL en i (fR L en f) hA hE' u' hu') _ (fun u' hu'=>ac5 w0 p L vL en i (gD L en (L.length+1)) (fR L en f) (Cy _) hA hP hE' u' hu') _ (ac1 hG hA HE) u hu;rw [ac2 (E:=fR L en f) hG i ?a0 ?a1 ?a2 ?a3 rfl] at hr;exact hr
  case a0=>intro h0;rw [zN h0];rfl
  case a1=>intro h0;rw [zN h0];rfl
  case a2=>intro h0;rw [zN h0];rfl
  case a3 =>
   intro h0;unfold GY mN;rw [zN h0];dsimp only;cases fR L en f (i+1) with
   | error z=>rfl
   | ok r =>
    dsimp only;cases aX L en Al r.2 with
    | error z=>rfl
    | ok j =>
     dsimp only;have hb:sj L en (gD L en (L.length+1)) (fR L en f) j=jW L en (fR L en f) j:=rfl;rw [hb];cases jW L en (fR L en f) j with
     | error z=>rfl
     | ok r2=>dsimp only;rw [Uu];rfl
end
end Pz
namespace Pz
section
variable {w0:World} {p:Nat} {L:List Tk} {vL:Value} {en:Int}
theorem acm (hG:Gd L) (i:Nat):Cx w0 p L vL en 122 jU (iR L en i) i:=fun u hu=>by
 have e:iR L en i=Ey L en (fun j=>dE L en pX (iQ L en (jr L en (L.length+1))) (L.length+1) j []) i:=rfl;rw [e];exact VW w0 p L vL en i _ (fun g j u' h' hp' hg' hne=>Sr (i:=0) hG (Cw _) (fun j' _=>Ss hG (L.length+1) j' (by omega)) j (Nat.zero_le _) g u' hp' hg' hne) u hu
theorem Tx:∀(f i:Nat) (acc:List Value),xS L en (iR L en) f i acc=jY L en f i acc
 | 0,_,_=>rfl
 | f+1,i,acc=>by
  rw [xS,jY];cases aX L en kZ i with
  | error z=>rfl
  | ok j =>
   dsimp only;cases iR L en j with
   | error z=>rfl
   | ok r=>exact Tx f _ _
theorem decl_eq (i:Nat) (h:bE (tk L en i) oI=true):sD L en (iR L en) i=mO L en i:=by
 unfold sD mO BP;rw [zN h];dsimp only;cases bM L en 1 (i+1) with
 | error z=>rfl
 | ok r =>
  dsimp only;cases aX L en pQ (jT L en (L.length+1) r.2 []).2 with
  | error z=>rfl
  | ok j =>
   dsimp only;cases iR L en j with
   | error z=>rfl
   | ok r2 =>
    dsimp only;rw [Tx];cases jY L en (L.length+1) r2.2 [r2.1] with
    | error z=>rfl
    | ok r3 =>
     dsimp only;cases aX L en lI r3.2 with
     | error z=>rfl
     | ok j4=>rfl
theorem Ty:∀(f i:Nat) (acc:List Value),xd L en (sD L en (iR L en)) f i acc=mG L en f i acc
 | 0,_,_=>rfl
 | f+1,i,acc=>by
  rw [xd,mG];by_cases h:bE (tk L en i) oI=true
  ·rw [if_pos h,if_pos h,decl_eq i h];cases mO L en i with
   | error z=>rfl
   | ok r=>exact Ty f _ _
  ·rw [if_neg h,if_neg h]
theorem acn:bX (sD L en (iR L en)):=by
 intro i t j h;unfold sD at h;cases h0:aX L en oI i with
 | error z=>rw [h0] at h;cases h
 | ok j0 =>
  have hs:bE (tk L en i) oI=true:=by
   unfold aX at h0;split at h0
   ·assumption
   ·cases h0
  have e:=decl_eq (L:=L) (en:=en) i hs;unfold sD at e;rw [e] at h;exact Xk _ _ _ h
def kz (L:List Tk) (en:Int):Rd (List Value × Value):=zw L en (fR L en (L.length+1)) (mG L en (L.length+1) 0 [])
theorem Tz (hG:Gd L) (u:World) (hu:PR w0 p L vL en 0 u):Calls Tryz.prog 24 #[.pointer (some ⟨p,0,none⟩)] u (Rp w0 p L vL en (ny u.heap.size) u (kz L en)):=by
 have h:=aaK w0 p L vL en 0 (sD L en (iR L en)) (fR L en (L.length+1)) acn (yc _) (fun j u' _ hu'=>VX w0 p L vL en j (iR L en) Iy (fun j' KH _ aco=>acm hG j' KH aco) u' hu') (fun j u' _ hu'=>TD hG (L.length+1) j (by omega) u' hu') u hu;rw [Ty] at h;exact h
end
end Pz
end Go.Proofs.YtkdbgopgjbfhbaaGreatDoor
