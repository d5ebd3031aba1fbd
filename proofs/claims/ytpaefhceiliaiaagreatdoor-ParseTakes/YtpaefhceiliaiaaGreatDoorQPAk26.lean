/- Texts that the claim needs. -/
import Derived.Test.YtpaefhceiliaiaaGreatDoorQPAk19
import Derived.Test.YtpaefhceiliaiaaGreatDoorQPAk22
import Derived.Test.YtpaefhceiliaiaaGreatDoorQPAk23
import Derived.Test.YtpaefhceiliaiaaGreatDoorQPAk24
import Derived.Test.YtpaefhceiliaiaaGreatDoorQPAk13
import Derived.Test.YtpaefhceiliaiaaGreatDoorQPAk14
import Derived.Test.YtpaefhceiliaiaaGreatDoorQPAk25
namespace Go.Proofs.YtpaefhceiliaiaaGreatDoor
open Go.RowKit Lx Pz bB
set_option linter.unusedVariables false
namespace Pz
def yC (t:Tk):Prop:=(t.k=5->cK t.x keys=true)/\(t.k=6->cK t.x signs=true)
def Gd (L:List Tk):Prop:=∀t ∈ L,yC t
theorem Gd.tk {L:List Tk} (h:Gd L) (en:Int) (i:Nat):yC (tk L en i):=by
 cases hi:L[i]? with
 | none=>unfold Pz.tk;rw [hi];exact ⟨fun h=>(by cases h),fun h=>(by cases h)⟩
 | some t=>rw [EL L en hi];exact h t (List.mem_of_getElem? hi)
theorem ko {K:Int} {t:Tk} (hK:(K == 0)=false):bg K e0 t=(t.k == K):=by
 unfold bg;rw [hK,Bool.false_or,decide_eq_true (rfl:e0=e0),Bool.true_or,Bool.and_true];exact BEq.comm
theorem I9 (t:Tk):bg 0 e0 t=true:=rfl
theorem BQ {s:ByteArray} {t:Tk} (hG:yC t) (h0:s≠e0) (hs:cK s signs=false):bg 5 s t=cn t s:=by
 unfold bg cn;rw [show ((5:Int) == 0)=false from rfl,Bool.false_or,decide_eq_false h0,Bool.false_or];by_cases h5:t.k=5
 ·rw [h5];simp only [beq_self_eq_true,Bool.true_and,Bool.true_or];exact decide_eq_decide.2 ⟨fun h=>h.symm,fun h=>h.symm⟩
 ·rw [show ((5:Int) == t.k)=false from beq_eq_false_iff_ne.2 (fun e=>h5 e.symm),Bool.false_and,show (t.k == 5)=false from beq_eq_false_iff_ne.2 h5,Bool.false_or];by_cases h6:t.k=6
  ·have:=hG.2 h6
   rw [decide_eq_false (fun e=>by rw [e,hs] at this;cases this),Bool.and_false]
  ·rw [show (t.k == 6)=false from beq_eq_false_iff_ne.2 h6,Bool.false_and]
theorem vU {s:ByteArray} {t:Tk} (hG:yC t) (h0:s≠e0) (hs:cK s keys=false):bg 6 s t=cn t s:=by
 unfold bg cn;rw [show ((6:Int) == 0)=false from rfl,Bool.false_or,decide_eq_false h0,Bool.false_or];by_cases h6:t.k=6
 ·rw [h6];simp only [beq_self_eq_true,Bool.true_and,Bool.or_true];exact decide_eq_decide.2 ⟨fun h=>h.symm,fun h=>h.symm⟩
 ·rw [show ((6:Int) == t.k)=false from beq_eq_false_iff_ne.2 (fun e=>h6 e.symm),Bool.false_and,show (t.k == 6)=false from beq_eq_false_iff_ne.2 h6,Bool.or_false];by_cases h5:t.k=5
  ·have:=hG.1 h5
   rw [decide_eq_false (fun e=>by rw [e,hs] at this;cases this),Bool.and_false]
  ·rw [show (t.k == 5)=false from beq_eq_false_iff_ne.2 h5,Bool.false_and]
theorem Zf {s:ByteArray} {t:Tk} (hG:yC t) (hs:cK s keys=false) (h:cn t s=true):t.k=6:=by
 rcases MK h with h5|h6
 ·have hx:t.x=s:=by unfold cn at h;rw [Bool.and_eq_true] at h;exact of_decide_eq_true h.2
  have:=hG.1 h5;rw [hx,hs] at this;cases this
 ·exact h6
theorem zi:sL≠e0:=by decide
theorem zk:cK sL keys=false:=by decide
section
variable {L:List Tk} {en:Int}
theorem EM {nx nx':Tk->Bool} {A:Nat->Rd Value} (h:∀i,nx (tk L en i)=nx' (tk L en i)):∀(f i:Nat) (acc:List Value),dJ L en nx A f i acc=dJ L en nx' A f i acc
 | 0,_,_=>rfl
 | f+1,i,acc=>by
  rw [dJ,dJ,h i];split
  ·cases A i with
   | error z=>rfl
   | ok r=>exact EM h f r.2 _
  ·rfl
theorem EN {sg PT:Tk->Bool} {A:Nat->Rd Value} (h:∀i,sg (tk L en i)=PT (tk L en i)):∀(f i:Nat) (e:Value),fI L en sg A f i e=fI L en PT A f i e
 | 0,_,_=>rfl
 | f+1,i,e=>by
  rw [fI,fI,h i];split
  ·cases A (i+1) with
   | error z=>rfl
   | ok r=>exact EN h f r.2 _
  ·rfl
theorem PW {E:Nat->Rd Value} {nx:Tk->Bool} (h:∀i,nx (tk L en i)=rX (tk L en i)):∀(f i:Nat) (e:Value),sj L en nx (gh L en E) f i e=nT L en E f i e
 | 0,_,_=>rfl
 | f+1,i,e=>by
  rw [sj,nT,h i];split
  ·cases gh L en E i with
   | error z=>rfl
   | ok r=>exact PW h f r.2 _
  ·rfl
theorem xS {s:ByteArray} {i:Nat} (h:cn (tk L en i) s=true):bb L en s i=.ok (i+1):=if_pos h
theorem Zg {s:ByteArray} {i:Nat} (h:cn (tk L en i) s=false):bb L en s i=.error (tk L en i).a:=if_neg (by rw [h];decide)
theorem Ja {E:Nat->Rd Value} {i:Nat} (h:cn (tk L en i) sL=false):brk L en E i=.error (tk L en i).a:=by unfold brk;rw [Zg h]
theorem PX (hG:Gd L) (E:Nat->Rd Value) (i:Nat):bu (tk L en i) [(1,e0,gW (fun t=>nd 1 t.x e0 0 [] [] t.a) (bL L en 1 i)),(4,e0,gW (fun t=>nd 2 e0 e0 t.n [] [] t.a) (bL L en 4 i)),(2,e0,gW (fun t=>nd 8 t.x e0 0 [] [] t.a) (bL L en 2 i)),(6,sL,brk L en E i)]=gh L en E i:=by
 simp only [bu,ko (show ((1:Int) == 0)=false from rfl),ko (show ((4:Int) == 0)=false from rfl),ko (show ((2:Int) == 0)=false from rfl),vU (hG.tk en i) zi zk];unfold gh;by_cases h1:(tk L en i).k=1
 ·rw [if_pos h1,h1,l4 h1];rfl
 ·rw [if_neg h1,show ((tk L en i).k == 1)=false from beq_eq_false_iff_ne.2 h1,if_neg (by decide)];by_cases h4:(tk L en i).k=4
  ·rw [if_pos h4,h4,l4 h4];rfl
  ·rw [if_neg h4,show ((tk L en i).k == 4)=false from beq_eq_false_iff_ne.2 h4,if_neg (by decide)];by_cases h2:(tk L en i).k=2
   ·rw [if_pos h2,h2,l4 h2];rfl
   ·rw [if_neg h2,show ((tk L en i).k == 2)=false from beq_eq_false_iff_ne.2 h2,if_neg (by decide)];cases hs:cn (tk L en i) sL with
    | true=>rw [if_pos rfl]
    | false=>rw [if_neg (by decide),Ja hs]
theorem PY (hG:Gd L) (i:Nat):jk (tk L en i)=rX (tk L en i):=by
 unfold jk rX;rw [ko (show ((1:Int) == 0)=false from rfl),ko (show ((4:Int) == 0)=false from rfl),ko (show ((2:Int) == 0)=false from rfl),vU (hG.tk en i) zi zk]
theorem PZ (hG:Gd L) (P:Nat->Rd Value) (i:Nat):bu (tk L en i) [(1,e0,gW (fun t=>nd 2 t.x e0 0 [] [] t.a) (bL L en 1 i)),(6,dQ,gW (fun t:Int=>nd 1 e0 e0 0 [] [] t) (zl L en dQ i)),(4,e0,gW (fun t=>nd 3 e0 e0 t.n [] [] t.a) (bL L en 4 i)),(2,e0,gW (fun t=>nd 4 t.x e0 0 [] [] t.a) (bL L en 2 i)),(6,sL,brk L en P i)]=kE L en P i:=by
 simp only [bu,ko (show ((1:Int) == 0)=false from rfl),ko (show ((4:Int) == 0)=false from rfl),ko (show ((2:Int) == 0)=false from rfl),vU (hG.tk en i) zi zk,vU (hG.tk en i) (show dQ≠e0 by decide) (show cK dQ keys=false by decide)];unfold kE;by_cases h1:(tk L en i).k=1
 ·rw [if_pos h1,h1,l4 h1];rfl
 ·rw [if_neg h1,show ((tk L en i).k == 1)=false from beq_eq_false_iff_ne.2 h1,if_neg (by decide)];by_cases ha:cn (tk L en i) dQ=true
  ·rw [if_pos ha,if_pos ha];unfold zl;rw [xS ha];rfl
  ·rw [if_neg ha,if_neg ha];by_cases h4:(tk L en i).k=4
   ·rw [if_pos h4,h4,l4 h4];rfl
   ·rw [if_neg h4,show ((tk L en i).k == 4)=false from beq_eq_false_iff_ne.2 h4,if_neg (by decide)];by_cases h2:(tk L en i).k=2
    ·rw [if_pos h2,h2,l4 h2];rfl
    ·rw [if_neg h2,show ((tk L en i).k == 2)=false from beq_eq_false_iff_ne.2 h2,if_neg (by decide)];cases hs:cn (tk L en i) sL with
     | true=>rw [if_pos rfl]
     | false=>rw [if_neg (by decide),Ja hs]
theorem Zh (hG:Gd L) (i:Nat):lv (tk L en i)=uo (tk L en i):=by
 unfold lv uo;rw [ko (show ((1:Int) == 0)=false from rfl),ko (show ((4:Int) == 0)=false from rfl),ko (show ((2:Int) == 0)=false from rfl),vU (hG.tk en i) zi zk,vU (hG.tk en i) (show dQ≠e0 by decide) (show cK dQ keys=false by decide)]
theorem Zi (hG:Gd L) (T:Nat->Rd Value) (i:Nat):bu (tk L en i) [(1,e0,gW (fun t:Tk=>oq t.x) (bL L en 1 i)),(3,e0,gW (fun t:Tk=>nd 2 t.x e0 0 [] [] 0) (bL L en 3 i)),(6,sL,brk L en T i)]=jH L en T i:=by
 simp only [bu,ko (show ((1:Int) == 0)=false from rfl),ko (show ((3:Int) == 0)=false from rfl),vU (hG.tk en i) zi zk];unfold jH;by_cases h1:(tk L en i).k=1
 ·rw [if_pos h1,h1,l4 h1];rfl
 ·rw [if_neg h1,show ((tk L en i).k == 1)=false from beq_eq_false_iff_ne.2 h1,if_neg (by decide)];by_cases h3:(tk L en i).k=3
  ·rw [if_pos h3,h3,l4 h3];rfl
  ·rw [if_neg h3,show ((tk L en i).k == 3)=false from beq_eq_false_iff_ne.2 h3,if_neg (by decide)];cases hs:cn (tk L en i) sL with
   | true=>rw [if_pos rfl]
   | false=>rw [if_neg (by decide),Ja hs]
theorem Zj (hG:Gd L) (i:Nat):mL (tk L en i)=rW (tk L en i):=by
 unfold mL rW;rw [ko (show ((1:Int) == 0)=false from rfl),ko (show ((3:Int) == 0)=false from rfl),vU (hG.tk en i) zi zk]
theorem Zk (t:Tk):fW [rC,rD,rG] t=BR t:=by unfold fW BR;simp [List.any,Bool.or_assoc]
theorem Zl (t:Tk):fW [rH,rJ] t=BS t:=by unfold fW BS;simp [List.any]
theorem Zm (t:Tk):fW [tL,tN] t=BU t:=by unfold fW BU;simp [List.any]
theorem Jb (hG:Gd L) {xs:List ByteArray} (hx:∀s ∈ xs,cK s keys=false) (j:Nat) (h:fW xs (tk L en j)=true):(tk L en j).k=6:=by
 unfold fW at h;obtain ⟨s,hs,hh⟩:=List.any_eq_true.1 h;exact Zf (hG.tk en j) (hx s hs) hh
end
def Cx (w0:World) (p:Nat) (L:List Tk) (vL:Value) (en:Int) (fn:FuncId) (O:Nat->Value->Value->World->Prop) (X:Rd Value) (i:Nat):Prop:=∀u,PR w0 p L vL en i u->Calls Tryz.prog fn #[.pointer (some ⟨p,0,none⟩)] u (Rp w0 p L vL en (O u.heap.size) u X)
section
variable {w0:World} {p:Nat} {L:List Tk} {vL:Value} {en:Int} {E:Nat->Rd Value} {i:Nat}
-- types
theorem P6 (hG:Gd L) (HE:∀j,i<j->Cx w0 p L vL en 185 dX (E j) j) (j:Nat) (hij:i<=j) (g:Nat) (u:World) (hu:PR w0 p L vL en j u) (hg:u.heap[g]?=some (.cells kx 187 (0,0))):Calls Tryz.prog 175 #[.pointer (some ⟨p,0,none⟩),.slice (some ⟨g,0,none⟩) 3 3] u (Rp w0 p L vL en (dX u.heap.size) u (jH L en E j)):=by
 rw [<- Zi hG];exact Zn w0 p L vL en j _ (fun u hu=>Zo w0 p L vL en j u hu) _ (fun u hu=>Zp w0 p L vL en j u hu) _ (fun u hu=>Y1 w0 p L vL en j E (fun j' u' h' hp'=>HE j' (by omega) u' hp') u hu) g u hu hg
theorem P7 (hG:Gd L) (hA:bY E) (HE:∀j,i<j->Cx w0 p L vL en 185 dX (E j) j) (j:Nat) (hij:i<=j) (g:Nat) (u:World) (hu:PR w0 p L vL en j u) (hg:u.heap[g]?=some (.cells kx 187 (0,0))) (mM:g≠p):Calls Tryz.prog 151 #[.pointer (some ⟨p,0,none⟩),.slice (some ⟨g,0,none⟩) 3 3] u (Rp w0 p L vL en (fun (ts:List Value) v u'=>∃d,Row 4 (dN u.heap.size u' d) v ts) u (dJ L en rW (jH L en E) (L.length+1) j [])):=by
 rw [<- EM (fun k=>Zj hG k)];exact Zq w0 p L vL en g _ j (fun j' u' h' hp' hg'=>P6 hG HE j' (by omega) g u' hp' hg') (fun j' t k _ h=>C8 hA _ _ _ h) u hu hg mM
theorem Zr (i:Nat):EO L en (jH L en E) (fun j=>dJ L en rW (jH L en E) (L.length+1) j []) i=oM L en E i:=rfl
theorem Zt (hG:Gd L) (hA:bY E) (HE:∀j,i<j->Cx w0 p L vL en 185 dX (E j) j):Cx w0 p L vL en 185 dX (match oM L en E i with
  | .error z=>.error z
  | .ok (t,j)=>match bb L en iP j with
   | .error _=>.ok (t,j)
   | .ok j=>match E j with
    | .error z=>.error z
    | .ok (u,j)=>.ok (nd 3 e0 e0 0 [t,u] [] 0,j)) i:=fun u hu =>
 Zu w0 p L vL en i (oM L en E) E (L8 hA) (fun u hu=>by
  rw [<- Zr];exact Zv w0 p L vL en i _ _ (fun h1=>if_pos h1) (fun g u' hp' hg'=>P6 hG HE i (Nat.le_refl _) g u' hp' hg') (fun g j u' h' hp' hg' hne=>P7 hG hA HE j (by omega) g u' hp' hg' hne) u hu) (fun j u' h' hp'=>HE j h' u' hp') u hu
end
section
variable {w0:World} {p:Nat} {L:List Tk} {vL:Value} {en:Int}
theorem P8 (hG:Gd L):∀(f i:Nat),L.length<i+f->Cx w0 p L vL en 185 dX (kS L en f i) i
 | 0,i,h=>fun u hu=>absurd hu.le (by omega)
 | f+1,i,h=>Zt hG (Ag f) (fun j hj=>P8 hG f j (by omega))
end
-- patterns
section
variable {w0:World} {p:Nat} {L:List Tk} {vL:Value} {en:Int} {E:Nat->Rd Value} {i:Nat}
theorem P9 (HE:∀j,i<j->Cx w0 p L vL en 186 bU (E j) j) (j:Nat) (hij:i<=j):Cx w0 p L vL en 234 bU (brk L en E j) j:=fun u hu =>
 Y0 w0 p L vL en j E (fun j' u' h' hp'=>HE j' (by omega) u' hp') u hu
theorem Zw (hG:Gd L) (HE:∀j,i<j->Cx w0 p L vL en 186 bU (E j) j) (j:Nat) (hij:i<=j) (g:Nat) (u:World) (hu:PR w0 p L vL en j u) (hg:u.heap[g]?=some (.cells mq 207 (0,0))):Calls Tryz.prog 197 #[.pointer (some ⟨p,0,none⟩),.slice (some ⟨g,0,none⟩) 5 5] u (Rp w0 p L vL en (bU u.heap.size) u (kE L en E j)):=by
 rw [<- PZ hG];exact M7 w0 p L vL en j _ (fun u hu=>Qa w0 p L vL en j u hu) _ (fun u hu=>Qb w0 p L vL en j u hu) _ (fun u hu=>Qc w0 p L vL en j u hu) _ (fun u hu=>Ia w0 p L vL en j u hu) _ (P9 HE j hij) g u hu hg
theorem Zx (hG:Gd L) (hA:bY E) (HE:∀j,i<j->Cx w0 p L vL en 186 bU (E j) j) (j:Nat) (hij:i<=j) (g:Nat) (u:World) (hu:PR w0 p L vL en j u) (hg:u.heap[g]?=some (.cells mq 207 (0,0))) (mM:g≠p):Calls Tryz.prog 220 #[.pointer (some ⟨p,0,none⟩),.slice (some ⟨g,0,none⟩) 5 5] u (Rp w0 p L vL en (fun (ts:List Value) v u'=>∃d,Row 5 (cf u.heap.size u' d) v ts) u (dJ L en uo (kE L en E) (L.length+1) j [])):=by
 rw [<- EM (fun k=>Zh hG k)];exact Zy w0 p L vL en g _ j (fun j' u' h' hp' hg'=>Zw hG HE j' (by omega) g u' hp' hg') (fun j' t k _ h=>Gj hA _ _ _ h) u hu hg mM
theorem Zz (f i:Nat) (M:Nat->Rd (List Value)) (hM:∀j,M j=dJ L en uo (kE L en (gY L en f)) (L.length+1) j []):bu (tk L en i) [(2,e0,(match bL L en 2 i with | .error z=>.error z | .ok (t,j)=>match M j with | .error z=>.error z | .ok (ts,j)=>.ok (nd 4 t.x e0 0 ts [] t.a,j):Rd Value)),(0,e0,kE L en (gY L en f) i)]=gY L en (f+1) i:=by
 simp only [bu,ko (show ((2:Int) == 0)=false from rfl),I9];rw [gY];by_cases h2:(tk L en i).k=2
 ·rw [if_pos h2,h2,l4 h2];simp only [beq_self_eq_true,if_true,hM];generalize dJ L en uo (kE L en (gY L en f)) (L.length+1) (i+1) []=X;cases X<;>rfl
 ·rw [if_neg h2,show ((tk L en i).k == 2)=false from beq_eq_false_iff_ne.2 h2,if_neg (by decide),if_pos trivial]
end
section
variable {w0:World} {p:Nat} {L:List Tk} {vL:Value} {en:Int}
theorem Qd (hG:Gd L):∀(f i:Nat),L.length<i+f->Cx w0 p L vL en 186 bU (gY L en f i) i
 | 0,i,h=>fun u hu=>absurd hu.le (by omega)
 | f+1,i,h=>fun u hu=>by
  have HE:∀j,i<j->Cx w0 p L vL en 186 bU (gY L en f j) j:=fun j hj=>Qd hG f j (by omega);rw [<- Zz f i (fun j=>dJ L en uo (kE L en (gY L en f)) (L.length+1) j []) (fun _=>rfl)]
  exact VB w0 p L vL en i _ (fun u' hu'=>WM w0 p L vL en i _ (fun g j Jc h' hp' hg' hne=>Zx hG (Ah f) HE j (by omega) g Jc hp' hg' hne) u' hu') _ (fun u' hu'=>by
   rw [<- PZ hG];exact VA w0 p L vL en i _ (fun u hu=>Qa w0 p L vL en i u hu) _ (fun u hu=>Qb w0 p L vL en i u hu) _ (fun u hu=>Qc w0 p L vL en i u hu) _ (fun u hu=>Ia w0 p L vL en i u hu) _ (P9 HE i (Nat.le_refl _)) u' hu') u hu
end
end Pz
namespace Pz
section
variable {w0:World} {p:Nat} {L:List Tk} {vL:Value} {en:Int} {E:Nat->Rd Value} {i:Nat}
abbrev nL (w0:World) (p:Nat) (L:List Tk) (vL:Value) (en:Int) (E:Nat->Rd Value) (i:Nat):Prop:=∀j,i<j->Cx w0 p L vL en 60 aU (E j) j
theorem nL.mono (h:nL w0 p L vL en E i) {j:Nat} (hij:i<=j):nL w0 p L vL en E j:=fun k hk=>h k (by omega)
theorem Rh (HE:nL w0 p L vL en E i):Cx w0 p L vL en 247 aU (brk L en E i) i:=fun u hu =>
 YZ w0 p L vL en i E (fun j' u' h' hp'=>HE j' h' u' hp') u hu
theorem Ri (hG:Gd L) (HE:nL w0 p L vL en E i):Cx w0 p L vL en 240 aU (gh L en E i) i:=fun u hu=>by
 rw [<- PX hG];exact Vt w0 p L vL en i _ (fun u hu=>Rj w0 p L vL en i u hu) _ (fun u hu=>Rk w0 p L vL en i u hu) _ (fun u hu=>Hy w0 p L vL en i u hu) _ (Rh HE) u hu
theorem aay (hG:Gd L) (HE:nL w0 p L vL en E i) (g:Nat) (u:World) (hu:PR w0 p L vL en i u) (hg:u.heap[g]?=some (.cells lI 163 (0,0))):Calls Tryz.prog 123 #[.pointer (some ⟨p,0,none⟩),.slice (some ⟨g,0,none⟩) 4 4] u (Rp w0 p L vL en (aU u.heap.size) u (gh L en E i)):=by
 rw [<- PX hG];exact M5 w0 p L vL en i _ (fun u hu=>Rj w0 p L vL en i u hu) _ (fun u hu=>Rk w0 p L vL en i u hu) _ (fun u hu=>Hy w0 p L vL en i u hu) _ (Rh HE) g u hu hg
theorem aaz (hG:Gd L) (hA:bY E) (HE:nL w0 p L vL en E i) (g:Nat) (u:World) (hu:PR w0 p L vL en i u) (hg:u.heap[g]?=some (.cells lI 163 (0,0))) (mM:g≠p):Calls Tryz.prog 242 #[.pointer (some ⟨p,0,none⟩),.slice (some ⟨g,0,none⟩) 4 4] u (Rp w0 p L vL en (fun (ts:List Value) v u'=>∃d,Row 7 (dm u.heap.size u' d) v ts) u (dJ L en rX (gh L en E) (L.length+1) i [])):=by
 rw [<- EM (fun k=>PY hG k)];exact ZU w0 p L vL en g _ i (fun j' u' h' hp' hg'=>aay hG (HE.mono h') g u' hp' hg') (fun j' t k _ h=>yp hA _ _ _ h) u hu hg mM
theorem aaA (hG:Gd L) (i:Nat):bu (tk L en i) [(5,iy,(match bb L en iy i with | .error z=>.error z | .ok j=>match gh L en E j with | .error z=>.error z | .ok (e,j)=>.ok (nd 10 e0 e0 0 [e] [] (tk L en i).a,j):Rd Value)),(2,e0,(match bL L en 2 i with | .error z=>.error z | .ok (t,j)=>match dJ L en rX (gh L en E) (L.length+1) j [] with | .error z=>.error z | .ok (ts,j)=>.ok (nd 8 t.x e0 0 ts [] t.a,j):Rd Value)),(0,e0,(match gh L en E i with | .error z=>.error z | .ok (e,j)=>sj L en jk (gh L en E) (L.length+1) j e:Rd Value))]=kT L en E i:=by
 simp only [bu,ko (show ((2:Int) == 0)=false from rfl),I9,BQ (hG.tk en i) (show iy≠e0 by decide) (show cK iy signs=false by decide)];unfold kT;by_cases h1:cn (tk L en i) iy=true
 ·rw [if_pos h1,if_pos h1,xS h1];dsimp only;generalize gh L en E (i+1)=X;cases X<;>rfl
 ·rw [if_neg h1,if_neg h1];by_cases h2:(tk L en i).k=2
  ·rw [if_pos h2,h2,l4 h2];simp only [beq_self_eq_true,if_true];generalize dJ L en rX (gh L en E) (L.length+1) (i+1) []=X;cases X<;>rfl
  ·rw [if_neg h2,show ((tk L en i).k == 2)=false from beq_eq_false_iff_ne.2 h2,if_neg (by decide),if_pos trivial];cases gh L en E i with
   | error z=>rfl
   | ok r=>exact PW (fun k=>PY hG k) _ _ _
theorem aaB (hG:Gd L) (hA:bY E) (HE:nL w0 p L vL en E i):Cx w0 p L vL en 209 aU (kT L en E i) i:=fun u hu=>by
 rw [<- aaA hG];exact Vu w0 p L vL en i _ (fun u hu=>aaC w0 p L vL en i (gh L en E) (fun j' u' h' hp'=>Ri hG (HE.mono (Nat.le_of_lt h')) u' hp') u hu) _ (fun u hu=>WG w0 p L vL en i _ (fun g j u' h' hp' hg' hne=>aaz hG hA (HE.mono (Nat.le_of_lt h')) g u' hp' hg' hne) u hu) _ (fun u hu=>UD w0 p L vL en i (gh L en E) (yp hA) (fun j' u' h' hp'=>Ri hG (HE.mono h') u' hp') u hu) u hu
theorem aaD (hG:Gd L) (hA:bY E) (HE:nL w0 p L vL en E i):Cx w0 p L vL en 199 aU (kU L en E i) i:=fun u hu=>by
 have h:=aaE w0 p L vL en i (kT L en E) (Gl hA) (fun j hj=>Jb hG (by decide) j hj) (fun j' u' h' hp'=>aaB hG hA (HE.mono h') u' hp') u hu
 have e:(match kT L en E i with | .error z=>.error z | .ok (e,j)=>fI L en (fW [rC,rD,rG]) (kT L en E) (L.length+1) j e:Rd Value)=kU L en E i:=by
  unfold kU;cases kT L en E i with
  | error z=>rfl
  | ok r=>exact EN (fun k=>Zk _) _ _ _
 rw [<- e];exact h
theorem aaF (hG:Gd L) (hA:bY E) (HE:nL w0 p L vL en E i):Cx w0 p L vL en 187 aU (kV L en E i) i:=fun u hu=>by
 have h:=aaG w0 p L vL en i (kU L en E) (Gm hA) (fun j hj=>Jb hG (by decide) j hj) (fun j' u' h' hp'=>aaD hG hA (HE.mono h') u' hp') u hu
 have e:(match kU L en E i with | .error z=>.error z | .ok (e,j)=>fI L en (fW [rH,rJ]) (kU L en E) (L.length+1) j e:Rd Value)=kV L en E i:=by
  unfold kV;cases kU L en E i with
  | error z=>rfl
  | ok r=>exact EN (fun k=>Zl _) _ _ _
 rw [<- e];exact h
theorem aaH (hG:Gd L) (hA:bY E) (HE:nL w0 p L vL en E i):Cx w0 p L vL en 180 aU (nU L en E i) i:=fun u hu=>by
 have h:=aaI w0 p L vL en i (kV L en E) (Gn hA) (fun j hj=>Jb hG (by decide) j hj) (fun j' u' h' hp'=>aaF hG hA (HE.mono h') u' hp') u hu
 have e:(match kV L en E i with | .error z=>.error z | .ok (e,j)=>fI L en (fW [tL,tN]) (kV L en E) 1 j e:Rd Value)=nU L en E i:=by
  unfold nU;cases kV L en E i with
  | error z=>rfl
  | ok r=>exact EN (fun k=>Zm _) _ _ _
 rw [<- e];exact h
theorem aaJ (hG:Gd L) (hA:bY E) (HE:nL w0 p L vL en E i):Cx w0 p L vL en 158 aU (qF L en E i) i:=fun u hu =>
 XF w0 p L vL en i (nU L en E) E (Ma hA) (aaH hG hA HE) (fun j' u' h' hp'=>HE j' h' u' hp') u hu
theorem Rl:∀(f i:Nat) (ps es:List Value),xV L en (gY L en (L.length+1)) E f i ps es=mX L en E f i ps es
 | 0,_,_,_=>rfl
 | f+1,i,ps,es=>by
  rw [xV,mX];cases bb L en jR i with
  | error z=>rfl
  | ok j =>
   dsimp only;have hb:qo L en (gY L en (L.length+1)) E j=l9 L en E j:=rfl;rw [hb];cases l9 L en E j with
   | error z=>rfl
   | ok r=>exact Rl f _ _ _
theorem aaK (hG:Gd L) (i:Nat) {R0 R1 R2 R3 R4:Rd Value} (h0:cn (tk L en i) gA=true->R0=rY L en E i) (h1:cn (tk L en i) gJ=true->R1=rZ L en E i) (h2:cn (tk L en i) gT=true->R2=si L en E i) (h3:cn (tk L en i) iz=true->R3=qG L en E i) (h4:R4=qF L en E i):bu (tk L en i) [(5,gA,R0),(5,gJ,R1),(5,gT,R2),(5,iz,R3),(0,e0,R4)]=(if cn (tk L en i) gA=true then rY L en E i
  else if cn (tk L en i) gJ=true then rZ L en E i
  else if cn (tk L en i) gT=true then si L en E i
  else if cn (tk L en i) iz=true then qG L en E i
  else qF L en E i):=by
 have g:=hG.tk en i;simp only [bu,I9,BQ g (show gA≠e0 by decide) (show cK gA signs=false by decide),BQ g (show gJ≠e0 by decide) (show cK gJ signs=false by decide),BQ g (show gT≠e0 by decide) (show cK gT signs=false by decide),BQ g (show iz≠e0 by decide) (show cK iz signs=false by decide),if_true];split
 ·rename_i h;exact h0 h
 ·split
  ·rename_i h;exact h1 h
  ·split
   ·rename_i h;exact h2 h
   ·split
    ·rename_i h;exact h3 h
    ·exact h4
end
section
variable {w0:World} {p:Nat} {L:List Tk} {vL:Value} {en:Int}
theorem Qx (hG:Gd L):∀(f i:Nat),L.length<i+f->Cx w0 p L vL en 60 aU (gI L en f i) i
 | 0,i,h=>fun u hu=>absurd hu.le (by omega)
 | f+1,i,h=>fun u hu=>by
  have HE:nL w0 p L vL en (gI L en f) i:=fun j hj=>Qx hG f j (by omega);have hA:bY (gI L en f):=wQ f;have hP:∀j u,i<j->PR w0 p L vL en j u->Calls Tryz.prog 186 #[.pointer (some ⟨p,0,none⟩)] u (Rp w0 p L vL en (bU u.heap.size) u (gY L en (L.length+1) j)):=fun j u' _ hu'=>Qd hG (L.length+1) j (by omega) u' hu';have hE':∀j u,i<j->PR w0 p L vL en j u->Calls Tryz.prog 60 #[.pointer (some ⟨p,0,none⟩)] u (Rp w0 p L vL en (aU u.heap.size) u (gI L en f j)):=fun j u' hj hu'=>HE j hj u' hu';have hr:=Vx w0 p L vL en i _ (fun u' hu'=>aaL w0 p L vL en i (gI L en f) hA hE' u' hu') _ (fun u' hu'=>XP w0 p L vL en i (gI L en f) hA hE' u' hu') _ (fun u' hu'=>aaM w0 p L vL en i (gI L en f) hA hE' u' hu') _ (fun u' hu'=>aaN w0 p L vL en i (gY L en (L.length+1)) (gI L en f) (Ah _) hA hP hE' u' hu') _ (aaJ hG hA HE) u hu;rw [aaK (E:=gI L en f) hG i ?a0 ?a1 ?a2 ?a3 rfl] at hr;exact hr
  case a0=>intro h0;rw [xS h0];rfl
  case a1=>intro h0;rw [xS h0];rfl
  case a2=>intro h0;rw [xS h0];rfl
  case a3 =>
   intro h0;unfold E5 qG;rw [xS h0];dsimp only;cases gI L en f (i+1) with
   | error z=>rfl
   | ok r =>
    dsimp only;cases bb L en yx r.2 with
    | error z=>rfl
    | ok j =>
     dsimp only;have hb:qo L en (gY L en (L.length+1)) (gI L en f) j=l9 L en (gI L en f) j:=rfl;rw [hb];cases l9 L en (gI L en f) j with
     | error z=>rfl
     | ok r2=>dsimp only;rw [Rl];rfl
end
end Pz
namespace Pz
section
variable {w0:World} {p:Nat} {L:List Tk} {vL:Value} {en:Int}
theorem Z0 (hG:Gd L) (i:Nat):Cx w0 p L vL en 122 gS (ji L en i) i:=fun u hu=>by
 have e:ji L en i=CG L en (fun j=>dJ L en rW (jH L en (kS L en (L.length+1))) (L.length+1) j []) i:=rfl;rw [e];exact Tg w0 p L vL en i _ (fun g j u' h' hp' hg' hne=>P7 (i:=0) hG (Ag _) (fun j' _=>P8 hG (L.length+1) j' (by omega)) j (Nat.zero_le _) g u' hp' hg' hne) u hu
theorem Qu:∀(f i:Nat) (acc:List Value),wJ L en (ji L en) f i acc=mf L en f i acc
 | 0,_,_=>rfl
 | f+1,i,acc=>by
  rw [wJ,mf];cases bb L en jR i with
  | error z=>rfl
  | ok j =>
   dsimp only;cases ji L en j with
   | error z=>rfl
   | ok r=>exact Qu f _ _
theorem decl_eq (i:Nat) (h:cn (tk L en i) oG=true):qB L en (ji L en) i=qH L en i:=by
 unfold qB qH zF;rw [xS h];dsimp only;cases bL L en 1 (i+1) with
 | error z=>rfl
 | ok r =>
  dsimp only;cases bb L en nO (mS L en (L.length+1) r.2 []).2 with
  | error z=>rfl
  | ok j =>
   dsimp only;cases ji L en j with
   | error z=>rfl
   | ok r2 =>
    dsimp only;rw [Qu];cases mf L en (L.length+1) r2.2 [r2.1] with
    | error z=>rfl
    | ok r3 =>
     dsimp only;cases bb L en kv r3.2 with
     | error z=>rfl
     | ok j4=>rfl
theorem Qv:∀(f i:Nat) (acc:List Value),vI L en (qB L en (ji L en)) f i acc=rL L en f i acc
 | 0,_,_=>rfl
 | f+1,i,acc=>by
  rw [vI,rL];by_cases h:cn (tk L en i) oG=true
  ·rw [if_pos h,if_pos h,decl_eq i h];cases qH L en i with
   | error z=>rfl
   | ok r=>exact Qv f _ _
  ·rw [if_neg h,if_neg h]
theorem Z1:bY (qB L en (ji L en)):=by
 intro i t j h;unfold qB at h;cases h0:bb L en oG i with
 | error z=>rw [h0] at h;cases h
 | ok j0 =>
  have hs:cn (tk L en i) oG=true:=by
   unfold bb at h0;split at h0
   ·assumption
   ·cases h0
  have e:=decl_eq (L:=L) (en:=en) i hs;unfold qB at e;rw [e] at h;exact UB _ _ _ h
def kJ (L:List Tk) (en:Int):Rd (List Value × Value):=zf L en (gI L en (L.length+1)) (rL L en (L.length+1) 0 [])
theorem Qw (hG:Gd L) (u:World) (hu:PR w0 p L vL en 0 u):Calls Tryz.prog 24 #[.pointer (some ⟨p,0,none⟩)] u (Rp w0 p L vL en (kY u.heap.size) u (kJ L en)):=by
 have h:=YQ w0 p L vL en 0 (qB L en (ji L en)) (gI L en (L.length+1)) Z1 (wQ _) (fun j u' _ hu'=>Ti w0 p L vL en j (ji L en) Gp (fun j' Jc _ Z2=>Z0 hG j' Jc Z2) u' hu') (fun j u' _ hu'=>Qx hG (L.length+1) j (by omega) u' hu') u hu;rw [Qv] at h;exact h
end
end Pz
end Go.Proofs.YtpaefhceiliaiaaGreatDoor
