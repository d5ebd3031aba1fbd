/- Texts that the claim needs. -/
import Derived.Test.YtpaefhceiliaiaaGreatDoorQPAk42
import Derived.Test.YtpaefhceiliaiaaGreatDoorQPAk39
import Derived.Test.YtpaefhceiliaiaaGreatDoorQPAk41
import Derived.Test.YtpaefhceiliaiaaGreatDoorQPAk13
namespace Go.Proofs.YtpaefhceiliaiaaGreatDoor
open Go.RowKit Lx Pz bB
set_option linter.unusedVariables false
set_option maxRecDepth 100000
set_option maxHeartbeats 8000000
namespace Pz
section
variable {L:List Tk} {en:Int} {P:Int->Prop} (h0:P 0) (ht:∀i,P (tk L en i).a)
theorem xZ (h0:P 0) (ht:∀i,P (tk L en i).a) {s:ByteArray} {i:Nat} {z:Int} (h:bb L en s i=.error z):P z:=by
 unfold bb at h;split at h
 ·cases h
 ·injection h with h;subst h;exact ht i
theorem Fg (h0:P 0) (ht:∀i,P (tk L en i).a) {k:Int} {i:Nat} {z:Int} (h:bL L en k i=.error z):P z:=by
 unfold bL at h;split at h
 ·cases h
 ·injection h with h;subst h;exact ht i
theorem Kc (h0:P 0) (ht:∀i,P (tk L en i).a) (E:Nat->Rd Value) (hE:∀i z,E i=.error z->P z)  (i:Nat) (z:Int) (h:brk L en E i=.error z):P z:=by
 unfold brk at h
 repeat' (first|(cases h;done)|split at h)
 all_goals (first|(cases h;done)|skip)
 all_goals (try (injection h with h;subst h))
 all_goals (first|exact ht _|exact xZ h0 ht (by assumption)|exact hE _ _ (by assumption))
theorem Cu (h0:P 0) (ht:∀i,P (tk L en i).a) (nx:Tk->Bool) (A:Nat->Rd Value) (hA:∀i z,A i=.error z->P z):∀(f i:Nat) (acc:List Value) (z:Int),dJ L en nx A f i acc=.error z->P z
 | 0,i,acc,z,h=>by unfold dJ at h;cases h
 | f+1,i,acc,z,h=>by
  unfold dJ at h;split at h
  ·split at h
   ·injection h with h;subst h;exact hA _ _ (by assumption)
   ·exact Cu h0 ht nx A hA f _ _ z h
  ·cases h
theorem Ke (h0:P 0) (ht:∀i,P (tk L en i).a) (E:Nat->Rd Value) (hE:∀i z,E i=.error z->P z)  (i:Nat) (z:Int) (h:jH L en E i=.error z):P z:=by
 unfold jH at h
 repeat' (first|(cases h;done)|split at h)
 all_goals (first|(cases h;done)|skip)
 all_goals (try (injection h with h;subst h))
 all_goals (first|exact ht _|exact Kc h0 ht E hE _ _ h)
theorem abu (h0:P 0) (ht:∀i,P (tk L en i).a) (E:Nat->Rd Value) (hE:∀i z,E i=.error z->P z)  (i:Nat) (z:Int) (h:oM L en E i=.error z):P z:=by
 unfold oM at h
 repeat' (first|(cases h;done)|split at h)
 all_goals (first|(cases h;done)|skip)
 all_goals (try (injection h with h;subst h))
 all_goals (first|exact ht _|exact Ke h0 ht E hE _ _ (by assumption)|exact Cu h0 ht _ _ (Ke h0 ht E hE) _ _ _ _ (by assumption))
theorem Kg (h0:P 0) (ht:∀i,P (tk L en i).a):∀(f i:Nat) (z:Int),kS L en f i=.error z->P z
 | 0,i,z,h=>by unfold kS at h;injection h with h;subst h;exact h0
 | f+1,i,z,h=>by
  unfold kS at h;split at h
  ·injection h with h;subst h;exact abu h0 ht _ (Kg h0 ht f) _ _ (by assumption)
  ·split at h
   ·cases h
   ·split at h
    ·injection h with h;subst h;exact Kg h0 ht f _ _ (by assumption)
    ·cases h
theorem RX (h0:P 0) (ht:∀i,P (tk L en i).a) (E:Nat->Rd Value) (hE:∀i z,E i=.error z->P z)  (i:Nat) (z:Int) (h:kE L en E i=.error z):P z:=by
 unfold kE at h
 repeat' (first|(cases h;done)|split at h)
 all_goals (first|(cases h;done)|skip)
 all_goals (try (injection h with h;subst h))
 all_goals (first|exact ht _|exact Kc h0 ht E hE _ _ h)
theorem Kh (h0:P 0) (ht:∀i,P (tk L en i).a):∀(f i:Nat) (z:Int),gY L en f i=.error z->P z
 | 0,i,z,h=>by unfold gY at h;injection h with h;subst h;exact h0
 | f+1,i,z,h=>by
  unfold gY at h;split at h
  ·split at h
   ·injection h with h;subst h;exact Cu h0 ht _ _ (RX h0 ht _ (Kh h0 ht f)) _ _ _ _ (by assumption)
   ·cases h
  ·exact RX h0 ht _ (Kh h0 ht f) _ _ h
theorem Ki (h0:P 0) (ht:∀i,P (tk L en i).a) (E:Nat->Rd Value) (hE:∀i z,E i=.error z->P z)  (i:Nat) (z:Int) (h:gh L en E i=.error z):P z:=by
 unfold gh at h
 repeat' (first|(cases h;done)|split at h)
 all_goals (first|(cases h;done)|skip)
 all_goals (try (injection h with h;subst h))
 all_goals (first|exact ht _|exact Kc h0 ht E hE _ _ h)
theorem RY (h0:P 0) (ht:∀i,P (tk L en i).a) (E:Nat->Rd Value) (hE:∀i z,E i=.error z->P z):∀(f i:Nat) (e:Value) (z:Int),nT L en E f i e=.error z->P z
 | 0,i,e,z,h=>by unfold nT at h;cases h
 | f+1,i,e,z,h=>by
  unfold nT at h;split at h
  ·split at h
   ·injection h with h;subst h;exact Ki h0 ht E hE _ _ (by assumption)
   ·exact RY h0 ht E hE f _ _ z h
  ·cases h
theorem Fh (h0:P 0) (ht:∀i,P (tk L en i).a) (sg:Tk->Bool) (A:Nat->Rd Value) (hA:∀i z,A i=.error z->P z):∀(f i:Nat) (e:Value) (z:Int),fI L en sg A f i e=.error z->P z
 | 0,i,e,z,h=>by unfold fI at h;cases h
 | f+1,i,e,z,h=>by
  unfold fI at h;split at h
  ·split at h
   ·injection h with h;subst h;exact hA _ _ (by assumption)
   ·exact Fh h0 ht sg A hA f _ _ z h
  ·cases h
theorem RZ (h0:P 0) (ht:∀i,P (tk L en i).a) (E:Nat->Rd Value) (hE:∀i z,E i=.error z->P z)  (i:Nat) (z:Int) (h:kT L en E i=.error z):P z:=by
 unfold kT at h
 repeat' (first|(cases h;done)|split at h)
 all_goals (first|(cases h;done)|skip)
 all_goals (try (injection h with h;subst h))
 all_goals (first|exact ht _|exact Ki h0 ht E hE _ _ (by assumption)|exact Cu h0 ht _ _ (Ki h0 ht E hE) _ _ _ _ (by assumption)|exact RY h0 ht E hE _ _ _ _ h)
theorem R5 (h0:P 0) (ht:∀i,P (tk L en i).a) (E:Nat->Rd Value) (hE:∀i z,E i=.error z->P z)  (i:Nat) (z:Int) (h:kU L en E i=.error z):P z:=by
 unfold kU at h
 repeat' (first|(cases h;done)|split at h)
 all_goals (first|(cases h;done)|skip)
 all_goals (try (injection h with h;subst h))
 all_goals (first|exact ht _|exact RZ h0 ht E hE _ _ (by assumption)|exact Fh h0 ht _ _ (RZ h0 ht E hE) _ _ _ _ h)
theorem R6 (h0:P 0) (ht:∀i,P (tk L en i).a) (E:Nat->Rd Value) (hE:∀i z,E i=.error z->P z)  (i:Nat) (z:Int) (h:kV L en E i=.error z):P z:=by
 unfold kV at h
 repeat' (first|(cases h;done)|split at h)
 all_goals (first|(cases h;done)|skip)
 all_goals (try (injection h with h;subst h))
 all_goals (first|exact ht _|exact R5 h0 ht E hE _ _ (by assumption)|exact Fh h0 ht _ _ (R5 h0 ht E hE) _ _ _ _ h)
theorem abw (h0:P 0) (ht:∀i,P (tk L en i).a) (E:Nat->Rd Value) (hE:∀i z,E i=.error z->P z)  (i:Nat) (z:Int) (h:nU L en E i=.error z):P z:=by
 unfold nU at h
 repeat' (first|(cases h;done)|split at h)
 all_goals (first|(cases h;done)|skip)
 all_goals (try (injection h with h;subst h))
 all_goals (first|exact ht _|exact R6 h0 ht E hE _ _ (by assumption)|exact Fh h0 ht _ _ (R6 h0 ht E hE) _ _ _ _ h)
theorem abx (h0:P 0) (ht:∀i,P (tk L en i).a) (E:Nat->Rd Value) (hE:∀i z,E i=.error z->P z)  (i:Nat) (z:Int) (h:qF L en E i=.error z):P z:=by
 unfold qF at h
 repeat' (first|(cases h;done)|split at h)
 all_goals (first|(cases h;done)|skip)
 all_goals (try (injection h with h;subst h))
 all_goals (first|exact ht _|exact abw h0 ht E hE _ _ (by assumption)|exact hE _ _ (by assumption))
theorem R7 (h0:P 0) (ht:∀i,P (tk L en i).a) (E:Nat->Rd Value) (hE:∀i z,E i=.error z->P z)  (i:Nat) (z:Int) (h:l9 L en E i=.error z):P z:=by
 unfold l9 at h
 repeat' (first|(cases h;done)|split at h)
 all_goals (first|(cases h;done)|skip)
 all_goals (try (injection h with h;subst h))
 all_goals (first|exact ht _|exact Kh h0 ht _ _ _ (by assumption)|exact xZ h0 ht (by assumption)|exact hE _ _ (by assumption))
theorem R8 (h0:P 0) (ht:∀i,P (tk L en i).a) (E:Nat->Rd Value) (hE:∀i z,E i=.error z->P z):∀(f i:Nat) (ps es:List Value) (z:Int),mX L en E f i ps es=.error z->P z
 | 0,i,ps,es,z,h=>by unfold mX at h;cases h
 | f+1,i,ps,es,z,h=>by
  unfold mX at h;split at h
  ·cases h
  ·split at h
   ·injection h with h;subst h;exact R7 h0 ht E hE _ _ (by assumption)
   ·exact R8 h0 ht E hE f _ _ _ z h
theorem aby (h0:P 0) (ht:∀i,P (tk L en i).a) (E:Nat->Rd Value) (hE:∀i z,E i=.error z->P z)  (i:Nat) (z:Int) (h:rY L en E i=.error z):P z:=by
 unfold rY at h
 repeat' (first|(cases h;done)|split at h)
 all_goals (first|(cases h;done)|skip)
 all_goals (try (injection h with h;subst h))
 all_goals (first|exact ht _|exact Fg h0 ht (by assumption)|exact xZ h0 ht (by assumption)|exact hE _ _ (by assumption))
theorem abz (h0:P 0) (ht:∀i,P (tk L en i).a) (E:Nat->Rd Value) (hE:∀i z,E i=.error z->P z) (k:Int) (x y:ByteArray) (a:Int)  (i:Nat) (z:Int) (h:mb L en E k x y a i=.error z):P z:=by
 unfold mb at h
 repeat' (first|(cases h;done)|split at h)
 all_goals (first|(cases h;done)|skip)
 all_goals (try (injection h with h;subst h))
 all_goals (first|exact ht _|exact xZ h0 ht (by assumption)|exact hE _ _ (by assumption))
theorem abA (h0:P 0) (ht:∀i,P (tk L en i).a) (E:Nat->Rd Value) (hE:∀i z,E i=.error z->P z)  (i:Nat) (z:Int) (h:rZ L en E i=.error z):P z:=by
 unfold rZ at h
 repeat' (first|(cases h;done)|split at h)
 all_goals (first|(cases h;done)|skip)
 all_goals (try (injection h with h;subst h))
 all_goals (first|exact ht _|exact Fg h0 ht (by assumption)|exact abz h0 ht E hE _ _ _ _ _ _ h)
theorem abB (h0:P 0) (ht:∀i,P (tk L en i).a) (E:Nat->Rd Value) (hE:∀i z,E i=.error z->P z)  (i:Nat) (z:Int) (h:si L en E i=.error z):P z:=by
 unfold si at h
 repeat' (first|(cases h;done)|split at h)
 all_goals (first|(cases h;done)|skip)
 all_goals (try (injection h with h;subst h))
 all_goals (first|exact ht _|exact xZ h0 ht (by assumption)|exact hE _ _ (by assumption))
theorem abC (h0:P 0) (ht:∀i,P (tk L en i).a) (E:Nat->Rd Value) (hE:∀i z,E i=.error z->P z)  (i:Nat) (z:Int) (h:qG L en E i=.error z):P z:=by
 unfold qG at h
 repeat' (first|(cases h;done)|split at h)
 all_goals (first|(cases h;done)|skip)
 all_goals (try (injection h with h;subst h))
 all_goals (first|exact ht _|exact xZ h0 ht (by assumption)|exact hE _ _ (by assumption)|exact R7 h0 ht E hE _ _ (by assumption)|exact R8 h0 ht E hE _ _ _ _ _ (by assumption))
theorem zr (h0:P 0) (ht:∀i,P (tk L en i).a):∀(f i:Nat) (z:Int),gI L en f i=.error z->P z
 | 0,i,z,h=>by unfold gI at h;injection h with h;subst h;exact h0
 | f+1,i,z,h=>by
  unfold gI at h;split at h
  ·exact aby h0 ht _ (zr h0 ht f) _ _ h
  ·split at h
   ·exact abA h0 ht _ (zr h0 ht f) _ _ h
   ·split at h
    ·exact abB h0 ht _ (zr h0 ht f) _ _ h
    ·split at h
     ·exact abC h0 ht _ (zr h0 ht f) _ _ h
     ·exact abx h0 ht _ (zr h0 ht f) _ _ h
theorem R9 (h0:P 0) (ht:∀i,P (tk L en i).a)  (i:Nat) (z:Int) (h:ji L en i=.error z):P z:=by
 unfold ji at h
 repeat' (first|(cases h;done)|split at h)
 all_goals (first|(cases h;done)|skip)
 all_goals (try (injection h with h;subst h))
 all_goals (first|exact ht _|exact Fg h0 ht (by assumption)|exact Cu h0 ht _ _ (Ke h0 ht _ (Kg h0 ht _)) _ _ _ _ (by assumption))
theorem Sa (h0:P 0) (ht:∀i,P (tk L en i).a):∀(f i:Nat) (acc:List Value) (z:Int),mf L en f i acc=.error z->P z
 | 0,i,acc,z,h=>by unfold mf at h;cases h
 | f+1,i,acc,z,h=>by
  unfold mf at h;split at h
  ·cases h
  ·split at h
   ·injection h with h;subst h;exact R9 h0 ht _ _ (by assumption)
   ·exact Sa h0 ht f _ _ z h
theorem abD (h0:P 0) (ht:∀i,P (tk L en i).a)  (i:Nat) (z:Int) (h:qH L en i=.error z):P z:=by
 unfold qH at h
 repeat' (first|(cases h;done)|split at h)
 all_goals (first|(cases h;done)|skip)
 all_goals (try (injection h with h;subst h))
 all_goals (first|exact ht _|exact Fg h0 ht (by assumption)|exact xZ h0 ht (by assumption)|exact R9 h0 ht _ _ (by assumption)|exact Sa h0 ht _ _ _ _ (by assumption))
theorem Sb (h0:P 0) (ht:∀i,P (tk L en i).a):∀(f i:Nat) (acc:List Value) (z:Int),rL L en f i acc=.error z->P z
 | 0,i,acc,z,h=>by unfold rL at h;cases h
 | f+1,i,acc,z,h=>by
  unfold rL at h;split at h
  ·split at h
   ·injection h with h;subst h;exact abD h0 ht _ _ (by assumption)
   ·exact Sb h0 ht f _ _ z h
  ·cases h
theorem abE (h0:P 0) (ht:∀i,P (tk L en i).a) {z:Int} (h:kJ L en=.error z):P z:=by
 unfold kJ zf BH at h;split at h
 ·injection h with h;subst h;exact Sb h0 ht _ _ _ _ (by assumption)
 ·split at h
  ·injection h with h;subst h;exact zr h0 ht _ _ _ (by assumption)
  ·split at h
   ·injection h with h;subst h;exact ht _
   ·cases h
end
def Fj (s:ByteArray) (L:List Tk):Prop:=∀t ∈ L,0<=t.a/\t.a<=(s.size:Int)
theorem Sc (s:ByteArray):∀(f i:Nat) (acc:List Tk),i<=s.size->Fj s acc->Fj s (iL s f i acc).1/\0<=(iL s f i acc).2.1/\(iL s f i acc).2.1<=(s.size:Int)/\((iL s f i acc).2.2=0\/(iL s f i acc).2.2≠0)
 | 0,i,acc,hi,h=>⟨h,Int.le_refl _,(by show (0:Int)<=_;omega),.inl rfl⟩
 | f+1,i,acc,hi,h=>by
  unfold iL;split
  ·rename_i hc;split
   ·exact ⟨fun t ht=>(by cases ht),(by show (0:Int)<=(i:Int);omega),(by show (i:Int)<=_;omega),Decidable.em _⟩
   ·rename_i k x n e ho;split
    ·exact ⟨fun t ht=>(by cases ht),(by show (0:Int)<=(i:Int);omega),(by show (i:Int)<=_;omega),Decidable.em _⟩
    ·have he:=ME hc ho;refine Sc s f _ _ (DZ s false he.2) (fun t ht=>?_);rcases List.mem_append.1 ht with ht|ht
     ·exact h t ht
     ·rw [List.mem_singleton.1 ht];exact ⟨by show (0:Int)<=(i:Int);omega,by show (i:Int)<=_;omega⟩
  ·exact ⟨h,Int.le_refl _,(by show (0:Int)<=_;omega),.inl rfl⟩
theorem abF (s:ByteArray):Fj s (lx s).1/\0<=(lx s).2.1/\(lx s).2.1<=(s.size:Int):=by
 unfold lx;split
 ·exact ⟨fun t ht=>(by cases ht),Int.le_refl _,(by show (0:Int)<=_;omega)⟩
 ·have h:=Sc s s.size (sk s false 0) [] (DZ s false (Nat.zero_le _)) (fun t ht=>by cases ht);exact ⟨h.1,h.2.1,h.2.2.1⟩
theorem abG {s:ByteArray} {L:List Tk} (h:Fj s L) (i:Nat):0<=(tk L s.size i).a/\(tk L s.size i).a<=(s.size:Int):=by
 cases hi:L[i]? with
 | none=>unfold Pz.tk;rw [hi];exact ⟨by show (0:Int)<=(s.size:Int);omega,Int.le_refl _⟩
 | some t=>rw [EL L _ hi];exact h t (List.mem_of_getElem? hi)
theorem Says.bad {s:ByteArray} {a z:Int} (h:Says s (.error (a,z))):z≠0/\0<=a/\a<=(s.size:Int):=by
 have hl:=abF s;unfold Says at h;split at h
 ·rename_i hc;injection h with h;injection h with h1 h2;subst h1 h2;exact ⟨hc,hl.2⟩
 ·split at h
  ·rename_i z' hp;injection h with h;injection h with h1 h2;subst h1 h2;exact ⟨by decide,abE (P:=fun a=>0<=a/\a<=(s.size:Int)) ⟨Int.le_refl _,by omega⟩ (abG hl.1) hp⟩
  ·obtain ⟨d,hd,hq⟩:=h;unfold mH at hq;split at hq
   ·injection hq with hq;injection hq with h1 h2;subst h1 h2;exact ⟨by decide,Int.le_refl _,by omega⟩
   ·split at hq
    ·injection hq with hq;injection hq with h1 h2;subst h1 h2;exact ⟨by decide,Int.le_refl _,by omega⟩
    ·cases hq
end Pz
namespace Pz
theorem Hs {α:Type} {P:Nat->α->Prop} (hm:∀d x,P d x->P (d+1) x):∀l:List α,(∀x ∈ l,∃d,P d x)->∃d,∀x ∈ l,P d x
 | [],_=>⟨0,fun x hx=>by cases hx⟩
 | y :: l,h=>by
  have hle:∀ {d e:Nat} {x:α},d<=e->P d x->P e x:=fun {d e x} h hp=>by
   induction h with
   | refl=>exact hp
   | step _ ih=>exact hm _ _ ih
  obtain ⟨d,hd⟩:=h y (List.Mem.head _);obtain ⟨e,he⟩:=Hs hm l (fun x hx=>h x (List.Mem.tail _ hx));refine ⟨d+e,fun x hx=>?_⟩;rcases List.mem_cons.1 hx with rfl|hx
  ·exact hle (Nat.le_add_right _ _) hd
  ·exact hle (Nat.le_add_left _ _) (he x hx)
theorem NC:∀(d:Nat) (l:List Value),sF d l->sF (d+1) l
 | 0,l,h=>fun x hx=>by have h':l = []:=h;rw [h'] at hx;cases hx
 | d+1,l,h=>fun x hx=>DL d x (h x hx)
theorem Wq {B d:Nat} {w:World} {v:Value} {ts:List Value} (h:Row 4 (dN B w d) v ts):sF d ts:=by
 cases d with
 | zero=>exact sK (h.imp fun _ _ _ _ hf=>hf)
 | succ d=>exact fun x hx=>by obtain ⟨b,o,hf⟩:=nu h hx;exact dN.fit d b o x hf
theorem Ws {B:Nat} {w:World} {v:Value} {ds:List Value} (h:lK B v ds w):∃dt,∀c ∈ ds,yH dt c:=by
 refine Hs (P:=yH) (fun d c hc x hx=>NC d _ (hc x hx)) ds fun c hc=>?_;obtain ⟨b,o,hB,x,ps,cs,a,u,z,rfl,_,_,_,_,_,hcs⟩:=nu h hc;refine Hs (P:=G9) (fun d c hc=>NC d _ hc) cs fun k hk=>?_;obtain ⟨b',o',hB',x',ts,u',rfl,_,_,d,hr⟩:=nu hcs hk;exact ⟨d,Wq hr⟩
theorem ND (s:ByteArray):∀(f k:Nat),Ints.sM s f k≠0->∃j,Ints.qV.getD j ⟨#[]⟩=s
 | 0,k,h=>absurd rfl h
 | f+1,k,h=>by
  unfold Ints.sM at h;split at h
  ·exact ⟨k,by assumption⟩
  ·exact ND s f (k+1) h
theorem Wt (j:Nat):(Ints.qV.getD j ⟨#[]⟩).size<=33:=by
 rcases Nat.lt_or_ge j 8 with h|h
 ·have:j=0\/j=1\/j=2\/j=3\/j=4\/j=5\/j=6\/j=7:=by omega
  rcases this with rfl|rfl|rfl|rfl|rfl|rfl|rfl|rfl<;>decide
 ·rw [List.getD_eq_getElem?_getD,List.getElem?_eq_none (by simpa [Ints.qV] using h)];decide
theorem Wu {k:Int} {x:ByteArray} {n:Int} (h:iw k x n=true):x.size<=33:=by
 unfold iw at h;split at h
 ·cases h
 ·split at h
  ·rw [Bool.and_eq_true] at h;have:=yJ h.1;omega
  ·split at h
   ·have:=yJ h;omega
   ·split at h
    ·have:=yJ h;omega
    ·split at h
     ·rw [Bool.and_eq_true,decide_eq_true_eq] at h;omega
     ·split at h
      ·exact NF h
      ·split at h
       ·exact NG h
       ·cases h
theorem AX {k:Int} {x:ByteArray} (h:cA k x=true):x.size<=140737488355328:=by
 have h33:x.size<=33:=by
  unfold cA at h;split at h
  ·rw [of_decide_eq_true h];decide
  ·split at h
   ·obtain ⟨j,hj⟩:=ND x 7 1 (of_decide_eq_true h);rw [<- hj];exact Wt j
   ·exact Wu h
 omega
theorem Wv {n:Int} (h:dh n=true):-9223372036854775808<=n/\n<=9223372036854775807:=by
 unfold dh at h;rw [Bool.and_eq_true,decide_eq_true_eq,decide_eq_true_eq] at h;omega
theorem Ht {nk:Int} {nm:Bool} {ar:Int} {x:ByteArray} {n:Int} {m:Nat} (h:kH nk nm ar x n m=true):x.size<=140737488355328/\-9223372036854775808<=n/\n<=9223372036854775807:=by
 unfold kH at h;rw [Bool.and_eq_true,Bool.and_eq_true,Bool.or_eq_true (decide (n=0)),Bool.and_eq_true] at h;refine ⟨AX h.1,?_⟩;rcases h.2.2 with h2|h2
 ·rw [of_decide_eq_true h2];omega
 ·exact Wv h2.2
theorem NH:∀(m:Nat) (t:Value),lQ m t=true->xh m t
 | 0,t,h=>trivial
 | m+1,t,h=>by
  unfold lQ at h;rw [Bool.and_eq_true,List.all_eq_true] at h;have h1:=h.1;unfold sN at h1;rw [Bool.and_eq_true,Bool.and_eq_true] at h1;obtain ⟨q1,q2⟩:=Ht h1.2.2;exact ⟨q1,trivial,q2,fun x hx=>NH m x (h.2 x hx),trivial⟩
theorem NI:∀(m:Nat) (t:Value),lS m t=true->xh m t
 | 0,t,h=>trivial
 | m+1,t,h=>by
  unfold lS at h;rw [Bool.and_eq_true,List.all_eq_true] at h;have h1:=h.1;unfold sO at h1;rw [Bool.and_eq_true] at h1;obtain ⟨q1,q2⟩:=Ht h1.2;exact ⟨q1,trivial,q2,fun x hx=>NI m x (h.2 x hx),trivial⟩
theorem NJ:∀(m:Nat) (t:Value),mr m t=true->AY m t
 | 0,t,h=>trivial
 | m+1,t,h=>by
  unfold mr at h;rw [Bool.and_eq_true,Bool.and_eq_true,List.all_eq_true,List.all_eq_true] at h;have h1:=h.1;unfold kZ at h1;rw [Bool.and_eq_true,Bool.and_eq_true,Bool.and_eq_true (kH _ _ _ _ _ _)] at h1;obtain ⟨q1,q2⟩:=Ht h1.2.2.1;exact ⟨q1,AX h1.2.2.2,q2,fun x hx=>NJ m x (h.2.1 x hx),fun x hx=>NI m x (h.2.2 x hx)⟩
theorem Ww {m:Nat} {c:Value} (h:pI m c=true):Hu m c:=by
 unfold pI at h;rw [Bool.and_eq_true,List.all_eq_true] at h;exact ⟨AX h.1,fun t ht=>NH m t (h.2 t ht)⟩
theorem Wx {m:Nat} {d:Value} (h:pJ m d=true):DN m d:=by
 unfold pJ at h;rw [Bool.and_eq_true,Bool.and_eq_true,Bool.and_eq_true,List.all_eq_true,List.all_eq_true] at h;exact ⟨AX h.1,fun p hp=>AX (h.2.1 p hp),fun c hc=>Ww (h.2.2.2 c hc)⟩
theorem Says.all {s:ByteArray} {ds:List Value} {t:Value} (h:Says s (.ok (ds,t))):(∀d,fit d t->yK d ds t=true/\1<=fS (d+1) 0 t/\fS (d+1) 0 t<=2048)/\(∀c ∈ ds,DN 256 c)/\AY 256 t:=by
 obtain ⟨j,d,hp,hf,hm,hd⟩:=h.good;have hg:=Wy (Wz (WB s) hp) hd;have hg':=hg;unfold Hv at hg';rw [Bool.and_eq_true,List.all_eq_true] at hg';refine ⟨fun e he=>?_,fun c hc=>Wx (hg'.1 c hc),NJ 256 t hg'.2⟩;have hme:jb e ds t=false:=by rw [NK hf he,hm]
 refine ⟨?_,by have:=Hw (e+1) 0 t;omega,?_⟩
 ·unfold yK;rw [hme,hd];exact hg
 ·have h2:=hme;unfold jb at h2;rw [Bool.or_eq_false_iff,Bool.or_eq_false_iff,decide_eq_false_iff_not,decide_eq_false_iff_not] at h2;omega
end Pz
theorem acu (w:World):Calls Tryz.prog 78 #[.slice none 0 0,.slice none 0 0,.bool true] w fun e w'=>e=.returned (.bool true)/\Below w.heap.size w w':=by
 go_enter Tryz.func78,Tryz.ntmps78;go_wp2_with fail;go_loopw [7] (fun a wr=>a=.int .i64 0/\Hid (Below w.heap.size w wr)) (fun _ _=>0)
 case atStart=>exact ⟨rfl,ae (Below.refl _ _)⟩
 case round =>
  obtain ⟨rfl,HB⟩:=hrel;go_wp2;go_ret;exact ⟨rfl,HB.out⟩
theorem acv (w:World):Calls Tryz.prog 33 #[.slice none 0 0,.slice none 0 0,.bool true] w fun e w'=>e=.returned (.bool true)/\Below w.heap.size w w':=by
 go_enter Tryz.func33,Tryz.ntmps33;go_wp2_with fail;go_loopw [7] (fun a wr=>a=.int .i64 0/\Hid (Below w.heap.size w wr)) (fun _ _=>0)
 case atStart=>exact ⟨rfl,ae (Below.refl _ _)⟩
 case round =>
  obtain ⟨rfl,HB⟩:=hrel;go_wp2;go_ret;exact ⟨rfl,HB.out⟩
theorem acw (w:World):Calls Tryz.prog 32 #[.slice none 0 0,.slice none 0 0,.bool true] w fun e w'=>e=.returned (.bool true)/\Below w.heap.size w w':=by
 go_enter Tryz.func32,Tryz.ntmps32;go_wp2_with fail;go_loopw [7] (fun a wr=>a=.int .i64 0/\Hid (Below w.heap.size w wr)) (fun _ _=>0)
 case atStart=>exact ⟨rfl,ae (Below.refl _ _)⟩
 case round =>
  obtain ⟨rfl,HB⟩:=hrel;go_wp2;go_ret;exact ⟨rfl,HB.out⟩
namespace ah
theorem Fr.two {l:List Value} {ds:List Deferred} {N:Nat} {dst:Nat->Nat} {a:Act} {s1 s2 lo n:Nat} {v1 v2:Value} (hF:Fr ⟨l.toArray,ds⟩ dst N a) (h1:a.eval (.tmp s1)=v1) (h2:a.eval (.tmp s2)=v2) (hs:s1<l.length/\s2<l.length/\s1≠s2) (hd:∀k,k≠s1->k≠s2->(∀i,i<n->lo+i≠k)->∀i,i<N->dst i≠k):Fr ⟨((l.set s1 v1).set s2 v2).toArray,ds⟩ (fun i=>lo+i) n a:=by
 obtain ⟨hs1,hs2,hne⟩:=hs;have hsz:a.tmps.size=l.length:=by rw [hF.size];simp
 have key:∀s v,s<l.length->a.eval (.tmp s)=v->a.tmps[s]?=some v:=fun s v hs h=>by
  have hl:s<a.tmps.size:=by omega
  rw [Array.getElem?_eq_getElem hl];have h':a.tmps.getD s undef=v:=h;simp [Array.getD,hl] at h';rw [h']
 refine ⟨hF.defers,by simpa using hF.size,fun k hk=>?_⟩;simp only [List.getElem?_toArray];by_cases e2:k=s2
 ·subst e2;rw [List.getElem?_set_self (by simpa using hs2)];exact key _ _ hs2 h2
 ·rw [List.getElem?_set_ne (fun e=>e2 e.symm)];by_cases e1:k=s1
  ·subst e1;rw [List.getElem?_set_self hs1];exact key _ _ hs1 h1
  ·rw [List.getElem?_set_ne (fun e=>e1 e.symm)]
   have:=hF.rest k (hd k e1 e2 hk)
   simpa using this
end ah
namespace Pz
theorem Fx (i k:Nat) (hk:k≠8/\k≠9/\(k<21\/33<=k)) (hi:i<12):(if i<8 then 21+i else if i=8 then 8 else if i=9 then 9 else 21+i)≠k:=by
 repeat' split
 all_goals omega
def KZ (B:Nat) (w w':World):Prop:=Below B w w'/\∀b,B<=b->w.heap[b]?=some (.cells bG 27 (0,0))->w'.heap[b]?=some (.cells bG 27 (0,0))
theorem KZ.refl (B:Nat) (w:World):KZ B w w:=⟨Below.refl _ _,fun _ _ h=>h⟩
theorem KZ.alloc {B:Nat} (w:World) (hB:B<=w.heap.size) (o:Obj):KZ B w (w.alloc o) :=
 ⟨(Below.refl _ _).alloc hB _,fun b _ h=>by rw [((Below.refl _ w).alloc (Nat.le_refl _) o).block b (Array.getElem?_eq_some_iff.1 h).1];exact h⟩
def acx (B:Nat) (v:Value) (w:World):Prop:=∃b,v=.pointer (some ⟨b,0,none⟩)/\B<=b/\w.heap[b]?=some (.cells bG 27 (0,0))
theorem KZ.put {B b:Nat} {w:World} (hB:B<=b) (h:w.heap[b]?=some (.cells bG 27 (0,0))):∃W,w.setCells b 0 bG.toList=W/\w.there b 0 bG.size/\KZ B w W:=by
 obtain ⟨W,hW,hth,hbk,hoth⟩:=G1 w 27 bG bG h rfl;refine ⟨W,hW,hth,?_,fun b' hb' h'=>?_⟩
 ·rw [<- hW];exact nC B b hB bG.toList 0 w w (Below.refl _ w)
 ·by_cases he:b'=b
  ·subst he;exact hbk
  ·rw [hoth b' he];exact h'
end Pz
theorem acy (w:World) (g g2 c c2:Nat) (hg:w.heap[g]?=some (.cells bG 27 (0,0))) (hg2:w.heap[g2]?=some (.cells bG 27 (0,0))):Calls Tryz.prog 33 #[.slice (some ⟨g,0,none⟩) 1 c,.slice (some ⟨g2,0,none⟩) 1 c2,.bool true] w fun e w'=>e=.returned (.bool true)/\Below w.heap.size w w':=by
 have HG:=ae hg;have HG2:=ae hg2;have HP:=ae acu;have HE:=ae acv;clear hg hg2;go_enter Tryz.func33,Tryz.ntmps33;go_wp2_with fail;go_loopw [7] (fun a wr=>∃i:Nat,a=.int .i64 i/\i<=1/\Hid (Below w.heap.size w wr)) (fun a _=>match a with | .int _ i=>1-i.toNat|_=>0)
 case atStart=>exact ⟨0,rfl,by omega,ae (Below.refl _ _)⟩
 case round =>
  obtain ⟨i,rfl,hi,HB⟩:=hrel;by_cases h0:i=0
  ·subst h0;have hX:=(HB.out.block _ (Array.getElem?_eq_some_iff.1 HG.out).1).trans HG.out;have hY:=(HB.out.block _ (Array.getElem?_eq_some_iff.1 HG2.out).1).trans HG2.out;have HX:=ae hX;have HY:=ae hY;clear hX hY;go_upto_region 6 with fail;refine ah.Iz 12 83 (fun i=>if i<8 then 21+i else if i=8 then 8 else if i=9 then 9 else 21+i) [10,11] [8,9] (fun _ u u'=>KZ wr.heap.size u u') (fun u=>Below wr.heap.size wr u) (fun _ _=>True) (fun i v u=>(i=0->v=.slice (some ⟨g,0,none⟩) 1 c)/\(i=1->v=.int .i64 0)/\(i=2->v=.pointer (some ⟨g,0,none⟩))/\(i=3->v=.agg bG)/\(i=4->v=.slice (some ⟨g2,0,none⟩) 1 c2)/\(i=5->v=.int .i64 0)/\(i=6->v=.pointer (some ⟨g2,0,none⟩))/\(i=7->v=.agg bG)/\(i=8\/i=9->acx wr.heap.size v u)) (by kernel_rfl) (by kernel_rfl) (by kernel_rfl) (by kernel_rfl) rfl ?hN ?pX (fun _ _ _ _ _ _ _ _ _ _ _=>trivial) (fun k u u' _ hK hT=>hK.trans hT.1) ?hstep ?hend (iq _) (fun _ _=>trivial)
   case hN =>
    intro i hi v v' u h;have hc:i=10\/i=11:=by simpa using hi
    rcases hc with rfl|rfl<;>exact ⟨fun h=>absurd h (by decide),fun h=>absurd h (by decide),fun h=>absurd h (by decide),fun h=>absurd h (by decide),fun h=>absurd h (by decide),fun h=>absurd h (by decide),fun h=>absurd h (by decide),fun h=>absurd h (by decide),fun h=>absurd h (by decide)⟩
   case pX =>
    intro i k v u u' _ _ _ _ _ _ hG hT;obtain ⟨a0,a1,a2,a3,a4,a5,a6,a7,a8⟩:=hG;refine ⟨a0,a1,a2,a3,a4,a5,a6,a7,fun h=>?_⟩;obtain ⟨b,h1,h2,h3⟩:=a8 h;exact ⟨b,h1,h2,hT.2 b h2 h3⟩
   case hstep =>
    intro j o a u hj ho hF hK hR hd;have f0:a.tmps[0]?.getD undef=.slice (some ⟨g,0,none⟩) 1 c:=ah.az (hF.eval 0 (fun i hi=>Fx i 0 (by decide) hi));have f1:a.tmps[1]?.getD undef=.slice (some ⟨g2,0,none⟩) 1 c2:=ah.az (hF.eval 1 (fun i hi=>Fx i 1 (by decide) hi));have f7:a.tmps[7]?.getD undef=.int .i64 0:=ah.az (hF.eval 7 (fun i hi=>Fx i 7 (by decide) hi));have HK:=ae hK;have hX:=(hK.block _ (Array.getElem?_eq_some_iff.1 HX.out).1).trans HX.out;have hY:=(hK.block _ (Array.getElem?_eq_some_iff.1 HY.out).1).trans HY.out;have c0:=af hX 0 _ rfl;have c1:=af hX 1 _ rfl;have c2:=af hX 2 _ rfl;have c3:=af hX 3 _ rfl;have c4:=af hX 4 _ rfl;have c5:=af hX 5 _ rfl;have c6:=af hX 6 _ rfl;have d0:=af hY 0 _ rfl;have d1:=af hY 1 _ rfl;have d2:=af hY 2 _ rfl;have d3:=af hY 3 _ rfl;have d4:=af hY 4 _ rfl;have d5:=af hY 5 _ rfl;have d6:=af hY 6 _ rfl;have hcase:j=0\/j=1\/j=2\/j=3\/j=4\/j=5\/j=6\/j=7\/j=8\/j=9\/j=10\/j=11:=by omega
    clear hj hR hK hX hY;rcases hcase with rfl|rfl|rfl|rfl|rfl|rfl|rfl|rfl|rfl|rfl|rfl|rfl
    all_goals (simp only [List.getElem?_toArray,List.getElem?_cons_succ,List.getElem?_cons_zero,Option.some.injEq] at ho;subst ho;refine ah.bI fun K ak=>?_)
    ·go_simp;exact ak _ _ ⟨_,rfl,KZ.refl _ _,by simp⟩
    ·go_simp;exact ak _ _ ⟨_,rfl,KZ.refl _ _,by simp⟩
    ·have q0:a.tmps[21]?.getD undef=_:=ah.az ((hd 0 (by decide)).1 rfl);have q1:a.tmps[22]?.getD undef=_:=ah.az ((hd 1 (by decide)).2.1 rfl);go_simp;exact ak _ _ ⟨_,rfl,KZ.refl _ _,by simp⟩
    ·have q0:a.tmps[23]?.getD undef=_:=ah.az ((hd 2 (by decide)).2.2.1 rfl);go_simp;exact ak _ _ ⟨_,rfl,KZ.refl _ _,by simp⟩
    ·go_simp;exact ak _ _ ⟨_,rfl,KZ.refl _ _,by simp⟩
    ·go_simp;exact ak _ _ ⟨_,rfl,KZ.refl _ _,by simp⟩
    ·have q0:a.tmps[25]?.getD undef=_:=ah.az ((hd 4 (by decide)).2.2.2.2.1 rfl);have q1:a.tmps[26]?.getD undef=_:=ah.az ((hd 5 (by decide)).2.2.2.2.2.1 rfl);go_simp;exact ak _ _ ⟨_,rfl,KZ.refl _ _,by simp⟩
    ·have q0:a.tmps[27]?.getD undef=_:=ah.az ((hd 6 (by decide)).2.2.2.2.2.2.1 rfl);go_simp;exact ak _ _ ⟨_,rfl,KZ.refl _ _,by simp⟩
    ·go_simp;exact ak _ _ ⟨_,rfl,KZ.alloc _ HK.out.size _,by simp;exact ⟨_,rfl,HK.out.size,heap_alloc_new _ _⟩⟩
    ·go_simp;exact ak _ _ ⟨_,rfl,KZ.alloc _ HK.out.size _,by simp;exact ⟨_,rfl,HK.out.size,heap_alloc_new _ _⟩⟩
    ·obtain ⟨b,h1,h2,h3⟩:=(hd 8 (by decide)).2.2.2.2.2.2.2.2 (.inl rfl);have q:a.eval (.tmp 24)=.agg bG:=(hd 3 (by decide)).2.2.2.1 rfl;obtain ⟨W,hW,hth,KA⟩:=KZ.put h2 h3;refine wp_store_mid 27 (.tmp 8) (.tmp 24) rfl b 0 bG h1 q hth bZ (by simp [Value.oneCell']) ?_;rw [hW];exact ak _ _ ⟨undef,rfl,KA,by simp⟩
    ·obtain ⟨b,h1,h2,h3⟩:=(hd 9 (by decide)).2.2.2.2.2.2.2.2 (.inr rfl);have q:a.eval (.tmp 28)=.agg bG:=(hd 7 (by decide)).2.2.2.2.2.2.2.1 rfl;obtain ⟨W,hW,hth,KA⟩:=KZ.put h2 h3;refine wp_store_mid 27 (.tmp 9) (.tmp 28) rfl b 0 bG h1 q hth bZ (by simp [Value.oneCell']) ?_;rw [hW];exact ak _ _ ⟨undef,rfl,KA,by simp⟩
   case hend =>
    intro a u hF hK hn;obtain ⟨b,h1,h2,h3⟩:=(hn 8 (by simp) (by decide)).2.2.2.2.2.2.2.2 (.inl rfl);obtain ⟨b',h1',h2',h3'⟩:=(hn 9 (by simp) (by decide)).2.2.2.2.2.2.2.2 (.inr rfl);have HKu:=ae (au HB.out hK);have c0:=af h3 0 _ rfl;have c1:=af h3 1 _ rfl;have c2:=af h3 2 _ rfl;have c3:=af h3 3 _ rfl;have c4:=af h3 4 _ rfl;have c5:=af h3 5 _ rfl;have c6:=af h3 6 _ rfl;have d0:=af h3' 0 _ rfl;have d1:=af h3' 1 _ rfl;have d2:=af h3' 2 _ rfl;have d3:=af h3' 3 _ rfl;have d4:=af h3' 4 _ rfl;have d5:=af h3' 5 _ rfl;have d6:=af h3' 6 _ rfl;have H3:=ae h3;have SD:=ae h3'
    obtain ⟨xl,hxl,rfl,hev⟩:=(ah.Fr.two (s1:=8) (s2:=9) (lo:=21) (n:=12) hF h1 h1' (by simp) (fun k e1 e2 e3 i hi=>Fx i k ⟨e1,e2,by
     rcases Nat.lt_or_ge k 21 with h|h
     ·exact .inl h
     ·refine .inr (Nat.le_of_not_lt fun hl=>e3 (k-21) (by omega) (by omega))⟩ hi)).lit (by simp)
    obtain ⟨x0,x1,x2,x3,x4,x5,x6,x7,x8,x9,jP,mO,rfl⟩:∃x0 x1 x2 x3 x4 x5 x6 x7 x8 x9 jP mO,xl = [x0,x1,x2,x3,x4,x5,x6,x7,x8,x9,jP,mO]:=by
     match xl,hxl with
     | [x0,x1,x2,x3,x4,x5,x6,x7,x8,x9,jP,mO],_=>exact ⟨x0,x1,x2,x3,x4,x5,x6,x7,x8,x9,jP,mO,rfl⟩
    clear hev hxl hF hn hK h1 h1' h2 h2' h3 h3';simp only [List.set_cons_succ,List.set_cons_zero,List.take_succ_cons,List.take_zero,List.drop_succ_cons,List.drop_zero,List.cons_append,List.nil_append];go_wp2_with fail;refine Calls.mono (show Calls _ _ _ _ _ from HP.out _) ?_;rintro e w2 ⟨rfl,hb2⟩;have k3:=(hb2.block _ (Array.getElem?_eq_some_iff.1 H3.out).1).trans H3.out;have SE:=(hb2.block _ (Array.getElem?_eq_some_iff.1 SD.out).1).trans SD.out;have m4:=af k3 4 _ rfl;have n4:=af SE 4 _ rfl;have HB2:=ae (au HKu.out hb2);clear hb2 k3 SE c0 c1 c2 c3 c4 c5 c6 d0 d1 d2 d3 d4 d5 d6;go_wp2_with fail;refine Calls.mono (show Calls _ _ _ _ _ from HE.out _) ?_;rintro e w3 ⟨rfl,hb3⟩;have aT:=ae (au HB2.out hb3);clear hb3 m4 n4;go_wp2;go_roundw
    case rel=>exact ⟨1,rfl,Nat.le_refl _,aT⟩
    case measure=>simp
  ·have h1:i=1:=by omega
   subst h1;go_wp2;go_ret;exact ⟨rfl,HB.out⟩
theorem aas (w:World):Calls Tryz.prog 12 #[.agg dw,.agg dw,.bool true] w fun e w'=>e=.returned (.bool true)/\Below w.heap.size w w':=by
 obtain ⟨W,hW⟩:∃W,W=(w.alloc (.cells dw 29)).alloc (.cells dw 29):=⟨_,rfl⟩;have hb1:=bO w (.cells dw 29);have hb2:=bO (w.alloc (.cells dw 29)) (.cells dw 29);have HB:Hid (Below w.heap.size w W):=ae (by rw [hW];exact au hb1 hb2);have HX:Hid (W.heap[w.heap.size]?=some (.cells dw 29 (0,0))):=ae (by rw [hW,hb2.block _ (by simp)];exact heap_alloc_new w _);have HY:Hid (W.heap[w.heap.size+1]?=some (.cells dw 29 (0,0))):=ae (by rw [hW];exact qM _ _ (by simp));have HD:=ae (acw W);clear hb1 hb2;have z0:=af HX.out 0 _ rfl;have u0:=af HY.out 0 _ rfl;go_enter Tryz.func12,Tryz.ntmps12;go_upto_region 1 with fail;rw [<- hW];clear hW;go_wp2_with fail;refine Calls.mono (show Calls _ _ _ _ _ from HD.out) ?_;rintro e w1 ⟨rfl,hb1⟩;have HB1:=ae (au HB.out hb1);have hx1:=(hb1.block _ (Array.getElem?_eq_some_iff.1 HX.out).1).trans HX.out;have hy1:=(hb1.block _ (Array.getElem?_eq_some_iff.1 HY.out).1).trans HY.out;have z1:=af hx1 1 _ rfl;have z2:=af hx1 2 _ rfl;have z3:=af hx1 3 _ rfl;have z4:=af hx1 4 _ rfl;have z5:=af hx1 5 _ rfl;have z6:=af hx1 6 _ rfl;have z7:=af hx1 7 _ rfl;have n1:=bO w1 (.cells bG 27);have n2:=bO (w1.alloc (.cells bG 27)) (.cells bG 27);have v1:=ag n1 (af hy1 1 _ rfl);have v2:=ag n1 (af hy1 2 _ rfl);have v3:=ag n1 (af hy1 3 _ rfl);have v4:=ag n1 (af hy1 4 _ rfl);have v5:=ag n1 (af hy1 5 _ rfl);have v6:=ag n1 (af hy1 6 _ rfl);have v7:=ag n1 (af hy1 7 _ rfl);have HN:=ae (au n1 n2);have HE:=ae (acy ((w1.alloc (.cells bG 27)).alloc (.cells bG 27)) w1.heap.size (w1.heap.size+1) 1 1 (by rw [n2.block _ (by simp)];exact heap_alloc_new w1 _) (qM _ _ (by simp)));clear hb1 hx1 hy1 HX HY HB HD z0 u0 n1 n2;go_wp2_with fail;refine Calls.mono (show Calls _ _ _ _ _ from HE.out) ?_;rintro e w2 ⟨rfl,hb2⟩;have HB2:=ae (au (au HB1.out HN.out) hb2);clear hb2 HE;go_wp2;go_ret;exact ⟨rfl,HB2.out⟩
end Go.Proofs.YtpaefhceiliaiaaGreatDoor
