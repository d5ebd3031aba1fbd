/- Texts that the claim needs. -/
import Derived.Test.YtkdbgopgjbfhbaaGreatDoorQPW34
namespace Go.Proofs.YtkdbgopgjbfhbaaGreatDoor
open Go.RowKit Lx Pz bq
set_option linter.unusedVariables false
namespace Pz
section
variable {L K:List Tk} {en en':Int} {k:Nat}
def fB (Pl:Int->Int->Prop) (L:List Tk) (en:Int) (K:List Tk) (en':Int) (k:Nat):Prop:=(∀i,i<=L.length->qj Pl (tk L en i) (tk K en' (k+i)))/\L.length<=K.length
theorem mZ {i:Nat} {s:ByteArray} (h:bn (tk L en i) s=true):i<L.length:=CM L en (by rcases pV h with h|h<;>rw [h]<;>decide)
theorem rJ {i:Nat} {c:Int} (h:(tk L en i).k=c) (hc:c=1\/c=2\/c=3\/c=4):i<L.length:=CM L en (by rw [h];rcases hc with h|h|h|h<;>rw [h]<;>decide)
theorem acT (i:Nat) (h:qM (tk L en i)=true):i<L.length/\(tk L en i).k≠0:=by
 unfold qM at h;simp only [Bool.or_eq_true] at h;rcases h with (h|h)|h
 ·exact ⟨mZ h,fun h0=>by rcases pV h with h|h<;>rw [h0] at h<;>cases h⟩
 ·exact ⟨mZ h,fun h0=>by rcases pV h with h|h<;>rw [h0] at h<;>cases h⟩
 ·exact ⟨mZ h,fun h0=>by rcases pV h with h|h<;>rw [h0] at h<;>cases h⟩
theorem acU (i:Nat) (h:qQ (tk L en i)=true):i<L.length/\(tk L en i).k≠0:=by
 unfold qQ at h;simp only [Bool.or_eq_true] at h;rcases h with h|h
 ·exact ⟨mZ h,fun h0=>by rcases pV h with h|h<;>rw [h0] at h<;>cases h⟩
 ·exact ⟨mZ h,fun h0=>by rcases pV h with h|h<;>rw [h0] at h<;>cases h⟩
theorem acV (i:Nat) (h:qV (tk L en i)=true):i<L.length/\(tk L en i).k≠0:=by
 unfold qV at h;simp only [Bool.or_eq_true] at h;rcases h with h|h
 ·exact ⟨mZ h,fun h0=>by rcases pV h with h|h<;>rw [h0] at h<;>cases h⟩
 ·exact ⟨mZ h,fun h0=>by rcases pV h with h|h<;>rw [h0] at h<;>cases h⟩
variable {Pl:Int->Int->Prop} (hA:fB Pl L en K en' k)
section
variable {α β γ δ:Type} {Q:α->β->Prop} {Q':γ->δ->Prop} {m m':Nat}
theorem Sm.mark (hA:fB Pl L en K en' k) {s:ByteArray} {i:Nat} (hi:i<=L.length) {F:Nat->Rd γ} {G:Nat->Rd δ}:(i+1<=L.length->Sm Q' L.length k m' (F (i+1)) (G (k+(i+1))))->Sm Q' L.length k m' (match aY L en s i with | .error z=>.error z | .ok j=>F j) (match aY K en' s (k+i) with | .error z=>.error z | .ok j=>G j):=by
 intro h;unfold aY;cases hs:bn (tk L en i) s with
 | false=>exact Sm.er
 | true =>
  rw [if_pos rfl,if_pos ((hA.1 i hi).sg1 hs)];exact h (mZ hs)
theorem Sm.Ex (hA:fB Pl L en K en' k) {s:ByteArray} (hr:s≠sR/\s≠lq) {i:Nat} (hi:i<=L.length) {A:Rd γ} {B:Rd δ} {F:Nat->Rd γ} {G:Nat->Rd δ}:Sm Q' L.length k m' A B->(i+1<=L.length->Sm Q' L.length k m' (F (i+1)) (G (k+(i+1))))->Sm Q' L.length k m' (match aY L en s i with | .error _=>A | .ok j=>F j) (match aY K en' s (k+i) with | .error _=>B | .ok j=>G j):=by
 intro h0 h;unfold aY;rw [<- (hA.1 i hi).sg hr];cases hs:bn (tk L en i) s with
 | false=>exact h0
 | true=>exact h (mZ hs)
theorem Sm.bN (hA:fB Pl L en K en' k) {c:Int} (hc:c=1\/c=2\/c=3\/c=4) {i:Nat} (hi:i<=L.length):Sm (fun t u:Tk=>t.x=u.x) L.length k (i+1) (bN L en c i) (bN K en' c (k+i)):=by
 unfold Pz.bN;by_cases h:(tk L en i).k=c
 ·rw [if_pos h,if_pos (((hA.1 i hi).kd hc).1 h)];exact Sm.ok (Nat.le_refl _) (rJ h hc) ((hA.1 i hi).xn (by rw [h];rcases hc with h|h|h|h<;>rw [h]<;>decide)).1
 ·rw [if_neg h];exact Sm.er
theorem Sm.brk (hA:fB Pl L en K en' k) {E E':Nat->Rd Value} {P:Value->Value->Prop} {i:Nat} (hi:i<=L.length) (hE:∀j,i<j->j<=L.length->Sm P L.length k (j+1) (E j) (E' (k+j))):Sm P L.length k (i+1) (brk L en E i) (brk K en' E' (k+i)):=by
 unfold Pz.brk;refine Sm.mark hA hi fun h1=>?_;obtain ⟨z,ee⟩|⟨x,y,j,ee,ff,h2,h3,hq⟩:=Sm.cs (hE (i+1) (Nat.lt_succ_self _) h1)
 ·rw [ee];exact Sm.er
 rw [ee,ff];dsimp only;clear ee ff;refine Sm.mark hA h3 fun h4=>?_;exact Sm.ok (by omega) h4 hq
theorem Sm.many (hA:fB Pl L en K en' k) {nx:Tk->Bool} (hn:∀i,i<=L.length->nx (tk L en i)=nx (tk K en' (k+i))) {P:Value->Value->Prop} {A A':Nat->Rd Value}:∀(f g i:Nat) (acc acc':List Value),(∀j,i<=j->j<=L.length->Sm P L.length k (j+1) (A j) (A' (k+j)))->i<=L.length->L.length<i+f->f<=g->l2 P acc acc'->Sm (l2 P) L.length k i (dK L en nx A f i acc) (dK K en' nx A' g (k+i) acc')
 | 0,g,i,acc,acc',hE,hi,hf,hg,ha=>by omega
 | f+1,0,i,acc,acc',hE,hi,hf,hg,ha=>by omega
 | f+1,g+1,i,acc,acc',hE,hi,hf,hg,ha=>by
  unfold dK;rw [<- hn i hi];cases h:nx (tk L en i) with
  | false=>exact Sm.ok (Nat.le_refl _) hi ha
  | true =>
   rw [if_pos rfl,if_pos rfl];obtain ⟨z,ee⟩|⟨x,y,j,ee,ff,h2,h3,hq⟩:=Sm.cs (hE i (Nat.le_refl _) hi)
   ·rw [ee];exact Sm.er
   rw [ee,ff];dsimp only;clear ee ff;exact (Sm.many hA hn f g j _ _ (fun q h4 h5=>hE q (by omega) h5) h3 (by omega) (by omega) (GN ha hq)).lo (by omega)
theorem UG (hA:fB Pl L en K en' k):∀i,i<=L.length->qF (tk L en i)=qF (tk K en' (k+i)):=fun i hi=>by
 unfold qF;rw [(hA.1 i hi).kb (.inl rfl),(hA.1 i hi).kb (.inr (.inr (.inl rfl))),(hA.1 i hi).sg (s:=sL) (by decide)]
theorem acW (hA:fB Pl L en K en' k):∀i,i<=L.length->rR (tk L en i)=rR (tk K en' (k+i)):=fun i hi=>by
 unfold rR;rw [(hA.1 i hi).kb (.inl rfl),(hA.1 i hi).kb (.inr (.inl rfl)),(hA.1 i hi).kb (.inr (.inr (.inr rfl))),(hA.1 i hi).sg (s:=sL) (by decide),(hA.1 i hi).sg (s:=dP) (by decide)]
theorem UH (hA:fB Pl L en K en' k):∀i,i<=L.length->mG (tk L en i)=mG (tk K en' (k+i)):=fun i hi=>by
 unfold mG;rw [(hA.1 i hi).kb (.inl rfl),(hA.1 i hi).kb (.inr (.inl rfl)),(hA.1 i hi).kb (.inr (.inr (.inr rfl))),(hA.1 i hi).sg (s:=sL) (by decide)]
theorem acX (hA:fB Pl L en K en' k):∀i,i<=L.length->qM (tk L en i)=qM (tk K en' (k+i)):=fun i hi=>by
 unfold qM;rw [(hA.1 i hi).sg (s:=qN) (by decide),(hA.1 i hi).sg (s:=qO) (by decide),(hA.1 i hi).sg (s:=qP) (by decide)]
theorem acY (hA:fB Pl L en K en' k):∀i,i<=L.length->qQ (tk L en i)=qQ (tk K en' (k+i)):=fun i hi=>by
 unfold qQ;rw [(hA.1 i hi).sg (s:=qR) (by decide),(hA.1 i hi).sg (s:=qU) (by decide)]
theorem acZ (hA:fB Pl L en K en' k):∀i,i<=L.length->qV (tk L en i)=qV (tk K en' (k+i)):=fun i hi=>by
 unfold qV;rw [(hA.1 i hi).sg (s:=rV) (by decide),(hA.1 i hi).sg (s:=rW) (by decide)]
theorem Sm.iO (hA:fB Pl L en K en' k) {T T':Nat->Rd Value} {i:Nat} (hi:i<=L.length) (hT:∀j,i<j->j<=L.length->Sm (fun a b:Value=>a=b) L.length k (j+1) (T j) (T' (k+j))):Sm (fun a b:Value=>a=b) L.length k (i+1) (iO L en T i) (iO K en' T' (k+i)):=by
 unfold Pz.iO;by_cases h1:(tk L en i).k=1
 ·have hx:=((hA.1 i hi).xn (by rw [h1];decide)).1;rw [if_pos h1,if_pos (((hA.1 i hi).kd (.inl rfl)).1 h1),hx];exact Sm.ok (Nat.le_refl _) (rJ h1 (.inl rfl)) rfl
 ·rw [if_neg h1,if_neg (fun h=>h1 (((hA.1 i hi).kd (.inl rfl)).2 h))];by_cases h3:(tk L en i).k=3
  ·have hx:=((hA.1 i hi).xn (by rw [h3];decide)).1;rw [if_pos h3,if_pos (((hA.1 i hi).kd (.inr (.inr (.inl rfl)))).1 h3),hx];exact Sm.ok (Nat.le_refl _) (rJ h3 (.inr (.inr (.inl rfl)))) rfl
  ·rw [if_neg h3,if_neg (fun h=>h3 (((hA.1 i hi).kd (.inr (.inr (.inl rfl)))).2 h))];exact Sm.brk hA hi hT
theorem Sm.mF (hA:fB Pl L en K en' k) {T T':Nat->Rd Value} {i:Nat} (hi:i<=L.length) (hT:∀j,i<j->j<=L.length->Sm (fun a b:Value=>a=b) L.length k (j+1) (T j) (T' (k+j))):Sm (fun a b:Value=>a=b) L.length k (i+1) (mF L en T i) (mF K en' T' (k+i)):=by
 unfold Pz.mF;obtain ⟨z,ee⟩|⟨x,y,j,ee,ff,h2,h3,hq⟩:=Sm.cs (Sm.iO hA hi hT)
 ·rw [ee];exact Sm.er
 rw [ee,ff];dsimp only;clear ee ff;by_cases h:(tk L en i).k=1/\(tk L en i).x≠sO
 ·have hx:=((hA.1 i hi).xn (by rw [h.1];decide)).1;rw [if_pos h,if_pos ⟨((hA.1 i hi).kd (.inl rfl)).1 h.1,by rw [<- hx];exact h.2⟩];obtain ⟨z,ee⟩|⟨ts,ts',j2,ee,ff,h6,h7,Aq⟩:=Sm.cs (Sm.many hA (UG hA) (P:=fun a b:Value=>a=b) (L.length+1) (K.length+1) j [] [] (fun q h4 h5=>Sm.iO hA h5 (fun r h6 h7=>hT r (by omega) h7)) h3 (by omega) (by have:=hA.2;omega) trivial)
  ·rw [ee];exact Sm.er
  rw [ee,ff];dsimp only;clear ee ff;rw [KY Aq,hx];exact Sm.ok (by omega) h7 rfl
 ·rw [if_neg h,if_neg (fun h'=>by
   have h1:=((hA.1 i hi).kd (.inl rfl)).2 h'.1;have hx:=((hA.1 i hi).xn (by rw [h1];decide)).1;exact h ⟨h1,by rw [hx];exact h'.2⟩)]
  exact Sm.ok h2 h3 hq
theorem Sm.jv (hA:fB Pl L en K en' k):∀(f g i:Nat),i<=L.length->f<=g->Sm (fun a b:Value=>a=b) L.length k (i+1) (jv L en f i) (jv K en' g (k+i))
 | 0,g,i,hi,hg=>Sm.er
 | f+1,0,i,hi,hg=>by omega
 | f+1,g+1,i,hi,hg=>by
  unfold Pz.jv;obtain ⟨z,ee⟩|⟨x,y,j,ee,ff,h2,h3,hq⟩:=Sm.cs (Sm.mF hA hi (fun j h1 h2=>Sm.jv hA f g j h2 (by omega)))
  ·rw [ee];exact Sm.er
  rw [ee,ff];dsimp only;clear ee ff;refine Sm.Ex hA (by decide) h3 (Sm.ok h2 h3 hq) fun h4=>?_;obtain ⟨z,ee⟩|⟨u,u',j2,ee,ff,h5,h6,hq2⟩:=Sm.cs (Sm.jv hA f g (j+1) h4 (by omega))
  ·rw [ee];exact Sm.er
  rw [ee,ff];dsimp only;clear ee ff;rw [hq,hq2];exact Sm.ok (by omega) h6 rfl
theorem Sm.ju (hA:fB Pl L en K en' k) {T T':Nat->Rd Value} {i:Nat} (hi:i<=L.length) (hT:∀j,i<j->j<=L.length->Sm (AL Pl) L.length k (j+1) (T j) (T' (k+j))):Sm (AL Pl) L.length k (i+1) (ju L en T i) (ju K en' T' (k+i)):=by
 unfold Pz.ju;by_cases h1:(tk L en i).k=1
 ·have hx:=((hA.1 i hi).xn (by rw [h1];decide)).1;rw [if_pos h1,if_pos (((hA.1 i hi).kd (.inl rfl)).1 h1),hx];exact Sm.ok (Nat.le_refl _) (rJ h1 (.inl rfl)) (AL.leaf ((hA.1 i hi).pl (by rw [h1];decide)))
 ·rw [if_neg h1,if_neg (fun h=>h1 (((hA.1 i hi).kd (.inl rfl)).2 h))];by_cases hs:bn (tk L en i) dP=true
  ·rw [if_pos hs,if_pos (show bn (tk K en' (k+i)) dP=true by rw [<- (hA.1 i hi).sg (s:=dP) (by decide)];exact hs)];exact Sm.ok (Nat.le_refl _) (mZ hs) (AL.leaf ((hA.1 i hi).pl (zZ hs)))
  ·rw [if_neg hs,if_neg (show ¬ bn (tk K en' (k+i)) dP=true by rw [<- (hA.1 i hi).sg (s:=dP) (by decide)];exact hs)];by_cases h4:(tk L en i).k=4
   ·have hx:=((hA.1 i hi).xn (by rw [h4];decide)).2;rw [if_pos h4,if_pos (((hA.1 i hi).kd (.inr (.inr (.inr rfl)))).1 h4),hx];exact Sm.ok (Nat.le_refl _) (rJ h4 (.inr (.inr (.inr rfl)))) (AL.leaf ((hA.1 i hi).pl (by rw [h4];decide)))
   ·rw [if_neg h4,if_neg (fun h=>h4 (((hA.1 i hi).kd (.inr (.inr (.inr rfl)))).2 h))];by_cases h2:(tk L en i).k=2
    ·have hx:=((hA.1 i hi).xn (by rw [h2];decide)).1;rw [if_pos h2,if_pos (((hA.1 i hi).kd (.inr (.inl rfl))).1 h2),hx];exact Sm.ok (Nat.le_refl _) (rJ h2 (.inr (.inl rfl))) (AL.leaf ((hA.1 i hi).pl (by rw [h2];decide)))
    ·rw [if_neg h2,if_neg (fun h=>h2 (((hA.1 i hi).kd (.inr (.inl rfl))).2 h))];exact Sm.brk hA hi hT
theorem Sm.gG (hA:fB Pl L en K en' k):∀(f g i:Nat),i<=L.length->f<=g->Sm (AL Pl) L.length k (i+1) (gG L en f i) (gG K en' g (k+i))
 | 0,g,i,hi,hg=>Sm.er
 | f+1,0,i,hi,hg=>by omega
 | f+1,g+1,i,hi,hg=>by
  unfold Pz.gG;by_cases h:(tk L en i).k=2
  ·have hx:=((hA.1 i hi).xn (by rw [h];decide)).1;rw [if_pos h,if_pos (((hA.1 i hi).kd (.inr (.inl rfl))).1 h)];have hl:=rJ h (.inr (.inl rfl));rw [show k+i+1=k+(i+1) from rfl];obtain ⟨z,ee⟩|⟨ts,ts',j2,ee,ff,h6,h7,Aq⟩:=Sm.cs (Sm.many hA (acW hA) (P:=AL Pl) (L.length+1) (K.length+1) (i+1) [] [] (fun q h4 h5=>Sm.ju hA h5 (fun r h6 h7=>Sm.gG hA f g r h7 (by omega))) hl (by omega) (by have:=hA.2;omega) trivial)
   ·rw [ee];exact Sm.er
   rw [ee,ff];dsimp only;clear ee ff;rw [hx];exact Sm.ok (by omega) h7 (AL.nd ((hA.1 i hi).pl (by rw [h];decide)) Aq trivial)
  ·rw [if_neg h,if_neg (fun h'=>h (((hA.1 i hi).kd (.inr (.inl rfl))).2 h'))];exact Sm.ju hA hi (fun r h6 h7=>Sm.gG hA f g r h7 (by omega))
theorem Sm.fG (hA:fB Pl L en K en' k) {E E':Nat->Rd Value} {i:Nat} (hi:i<=L.length) (hE:∀j,i<j->j<=L.length->Sm (AL Pl) L.length k (j+1) (E j) (E' (k+j))):Sm (AL Pl) L.length k (i+1) (fG L en E i) (fG K en' E' (k+i)):=by
 unfold Pz.fG;by_cases h1:(tk L en i).k=1
 ·have hx:=((hA.1 i hi).xn (by rw [h1];decide)).1;rw [if_pos h1,if_pos (((hA.1 i hi).kd (.inl rfl)).1 h1),hx];exact Sm.ok (Nat.le_refl _) (rJ h1 (.inl rfl)) (AL.leaf ((hA.1 i hi).pl (by rw [h1];decide)))
 ·rw [if_neg h1,if_neg (fun h=>h1 (((hA.1 i hi).kd (.inl rfl)).2 h))];by_cases h4:(tk L en i).k=4
  ·have hx:=((hA.1 i hi).xn (by rw [h4];decide)).2;rw [if_pos h4,if_pos (((hA.1 i hi).kd (.inr (.inr (.inr rfl)))).1 h4),hx];exact Sm.ok (Nat.le_refl _) (rJ h4 (.inr (.inr (.inr rfl)))) (AL.leaf ((hA.1 i hi).pl (by rw [h4];decide)))
  ·rw [if_neg h4,if_neg (fun h=>h4 (((hA.1 i hi).kd (.inr (.inr (.inr rfl)))).2 h))];by_cases h2:(tk L en i).k=2
   ·have hx:=((hA.1 i hi).xn (by rw [h2];decide)).1;rw [if_pos h2,if_pos (((hA.1 i hi).kd (.inr (.inl rfl))).1 h2),hx];exact Sm.ok (Nat.le_refl _) (rJ h2 (.inr (.inl rfl))) (AL.leaf ((hA.1 i hi).pl (by rw [h2];decide)))
   ·rw [if_neg h2,if_neg (fun h=>h2 (((hA.1 i hi).kd (.inr (.inl rfl))).2 h))];exact Sm.brk hA hi hE
theorem Sm.jW (hA:fB Pl L en K en' k) {E E':Nat->Rd Value}:∀(f g i:Nat) (e e':Value),(∀j,i<j->j<=L.length->Sm (AL Pl) L.length k (j+1) (E j) (E' (k+j)))->i<=L.length->L.length<i+f->f<=g->AL Pl e e'->Sm (AL Pl) L.length k i (jW L en E f i e) (jW K en' E' g (k+i) e')
 | 0,g,i,e,e',hE,hi,hf,hg,ha=>by omega
 | f+1,0,i,e,e',hE,hi,hf,hg,ha=>by omega
 | f+1,g+1,i,e,e',hE,hi,hf,hg,ha=>by
  unfold Pz.jW;rw [<- UH hA i hi];cases h:mG (tk L en i) with
  | false=>exact Sm.ok (Nat.le_refl _) hi ha
  | true =>
   rw [if_pos rfl,if_pos rfl];obtain ⟨z,ee⟩|⟨x,y,j,ee,ff,h2,h3,hq⟩:=Sm.cs (Sm.fG hA hi hE)
   ·rw [ee];exact Sm.er
   rw [ee,ff];dsimp only;clear ee ff;exact (Sm.jW hA f g j _ _ (fun q h4 h5=>hE q (by omega) h5) h3 (by omega) (by omega) (AL.nd ha.at_ (R6 ha hq) RZ)).lo (by omega)
theorem Sm.jd (hA:fB Pl L en K en' k) {E E':Nat->Rd Value} {i:Nat} (hi:i<=L.length) (hE:∀j,i<j->j<=L.length->Sm (AL Pl) L.length k (j+1) (E j) (E' (k+j))):Sm (AL Pl) L.length k (i+1) (jd L en E i) (jd K en' E' (k+i)):=by
 unfold Pz.jd;by_cases BF:bn (tk L en i) gW=true
 ·rw [if_pos BF,if_pos (show bn (tk K en' (k+i)) gW=true by rw [<- (hA.1 i hi).sg (s:=gW) (by decide)];exact BF)];rw [show k+i+1=k+(i+1) from rfl];have hl:=mZ BF;obtain ⟨z,ee⟩|⟨x,y,j,ee,ff,h2,h3,hq⟩:=Sm.cs (Sm.fG hA hl (fun q h4 h5=>hE q (by omega) h5))
  ·rw [ee];exact Sm.er
  rw [ee,ff];dsimp only;clear ee ff;exact Sm.ok (by omega) h3 (AL.nd ((hA.1 i hi).pl (zZ BF)) ⟨hq,trivial⟩ trivial)
 ·rw [if_neg BF,if_neg (show ¬ bn (tk K en' (k+i)) gW=true by rw [<- (hA.1 i hi).sg (s:=gW) (by decide)];exact BF)];by_cases h:(tk L en i).k=2
  ·have hx:=((hA.1 i hi).xn (by rw [h];decide)).1;rw [if_pos h,if_pos (((hA.1 i hi).kd (.inr (.inl rfl))).1 h)];have hl:=rJ h (.inr (.inl rfl));rw [show k+i+1=k+(i+1) from rfl];obtain ⟨z,ee⟩|⟨ts,ts',j2,ee,ff,h6,h7,Aq⟩:=Sm.cs (Sm.many hA (UH hA) (P:=AL Pl) (L.length+1) (K.length+1) (i+1) [] [] (fun q h4 h5=>Sm.fG hA h5 (fun r h6 h7=>hE r (by omega) h7)) hl (by omega) (by have:=hA.2;omega) trivial)
   ·rw [ee];exact Sm.er
   rw [ee,ff];dsimp only;clear ee ff;rw [hx];exact Sm.ok (by omega) h7 (AL.nd ((hA.1 i hi).pl (by rw [h];decide)) Aq trivial)
  ·rw [if_neg h,if_neg (fun h'=>h (((hA.1 i hi).kd (.inr (.inl rfl))).2 h'))];obtain ⟨z,ee⟩|⟨x,y,j,ee,ff,h2,h3,hq⟩:=Sm.cs (Sm.fG hA hi hE)
   ·rw [ee];exact Sm.er
   rw [ee,ff];dsimp only;clear ee ff;exact (Sm.jW hA (L.length+1) (K.length+1) j _ _ (fun q h4 h5=>hE q (by omega) h5) h3 (by omega) (by have:=hA.2;omega) hq).lo (by omega)
theorem Sm.eZ (hA:fB Pl L en K en' k) {sg:Tk->Bool} (hs:∀i,i<=L.length->sg (tk L en i)=sg (tk K en' (k+i))) (hlt:∀i,sg (tk L en i)=true->i<L.length/\(tk L en i).k≠0) {A A':Nat->Rd Value}:∀(f g i:Nat) (e e':Value),(∀j,i<j->j<=L.length->Sm (AL Pl) L.length k (j+1) (A j) (A' (k+j)))->i<=L.length->(f=g\/(L.length<i+f/\f<=g))->AL Pl e e'->Sm (AL Pl) L.length k i (eZ L en sg A f i e) (eZ K en' sg A' g (k+i) e')
 | 0,0,i,e,e',hE,hi,hf,ha=>Sm.ok (Nat.le_refl _) hi ha
 | 0,g+1,i,e,e',hE,hi,hf,ha=>by omega
 | f+1,0,i,e,e',hE,hi,hf,ha=>by omega
 | f+1,g+1,i,e,e',hE,hi,hf,ha=>by
  unfold Pz.eZ;rw [<- hs i hi];cases h:sg (tk L en i) with
  | false=>exact Sm.ok (Nat.le_refl _) hi ha
  | true =>
   rw [if_pos rfl,if_pos rfl];obtain ⟨hl,h0⟩:=hlt i h;have hx:=((hA.1 i hi).xn h0).1;rw [show k+i+1=k+(i+1) from rfl];obtain ⟨z,ee⟩|⟨x,y,j,ee,ff,h2,h3,hq⟩:=Sm.cs (hE (i+1) (Nat.lt_succ_self _) hl)
   ·rw [ee];exact Sm.er
   rw [ee,ff];dsimp only;clear ee ff;rw [hx];exact (Sm.eZ hA hs hlt f g j _ _ (fun q h4 h5=>hE q (by omega) h5) h3 (by omega) (AL.nd ha.at_ (R6 ha hq) RZ)).lo (by omega)
theorem Sm.je (hA:fB Pl L en K en' k) {E E':Nat->Rd Value} {i:Nat} (hi:i<=L.length) (hE:∀j,i<j->j<=L.length->Sm (AL Pl) L.length k (j+1) (E j) (E' (k+j))):Sm (AL Pl) L.length k (i+1) (je L en E i) (je K en' E' (k+i)):=by
 unfold Pz.je;obtain ⟨z,ee⟩|⟨x,y,j,ee,ff,h2,h3,hq⟩:=Sm.cs (Sm.jd hA hi hE)
 ·rw [ee];exact Sm.er
 rw [ee,ff];dsimp only;clear ee ff;exact (Sm.eZ hA (acX hA) acT (L.length+1) (K.length+1) j _ _ (fun q h4 h5=>Sm.jd hA h5 (fun r h6 h7=>hE r (by omega) h7)) h3 (.inr ⟨by omega,by have:=hA.2;omega⟩) hq).lo (by omega)
theorem Sm.jf (hA:fB Pl L en K en' k) {E E':Nat->Rd Value} {i:Nat} (hi:i<=L.length) (hE:∀j,i<j->j<=L.length->Sm (AL Pl) L.length k (j+1) (E j) (E' (k+j))):Sm (AL Pl) L.length k (i+1) (jf L en E i) (jf K en' E' (k+i)):=by
 unfold Pz.jf;obtain ⟨z,ee⟩|⟨x,y,j,ee,ff,h2,h3,hq⟩:=Sm.cs (Sm.je hA hi hE)
 ·rw [ee];exact Sm.er
 rw [ee,ff];dsimp only;clear ee ff;exact (Sm.eZ hA (acY hA) acU (L.length+1) (K.length+1) j _ _ (fun q h4 h5=>Sm.je hA h5 (fun r h6 h7=>hE r (by omega) h7)) h3 (.inr ⟨by omega,by have:=hA.2;omega⟩) hq).lo (by omega)
theorem Sm.kP (hA:fB Pl L en K en' k) {E E':Nat->Rd Value} {i:Nat} (hi:i<=L.length) (hE:∀j,i<j->j<=L.length->Sm (AL Pl) L.length k (j+1) (E j) (E' (k+j))):Sm (AL Pl) L.length k (i+1) (kP L en E i) (kP K en' E' (k+i)):=by
 unfold Pz.kP;obtain ⟨z,ee⟩|⟨x,y,j,ee,ff,h2,h3,hq⟩:=Sm.cs (Sm.jf hA hi hE)
 ·rw [ee];exact Sm.er
 rw [ee,ff];dsimp only;clear ee ff;exact (Sm.eZ hA (acZ hA) acV 1 1 j _ _ (fun q h4 h5=>Sm.jf hA h5 (fun r h6 h7=>hE r (by omega) h7)) h3 (.inl rfl) hq).lo (by omega)
theorem Sm.mH (hA:fB Pl L en K en' k) {E E':Nat->Rd Value} {i:Nat} (hi:i<=L.length) (hE:∀j,i<j->j<=L.length->Sm (AL Pl) L.length k (j+1) (E j) (E' (k+j))):Sm (AL Pl) L.length k (i+1) (mH L en E i) (mH K en' E' (k+i)):=by
 unfold Pz.mH;obtain ⟨z,ee⟩|⟨x,y,j,ee,ff,h2,h3,hq⟩:=Sm.cs (Sm.kP hA hi hE)
 ·rw [ee];exact Sm.er
 rw [ee,ff];dsimp only;clear ee ff;refine Sm.Ex hA (by decide) h3 (Sm.ok h2 h3 hq) fun h4=>?_;obtain ⟨z,ee⟩|⟨u,u',j2,ee,ff,h5,h6,hq2⟩:=Sm.cs (hE (j+1) (by omega) h4)
 ·rw [ee];exact Sm.er
 rw [ee,ff];dsimp only;clear ee ff;exact Sm.ok (by omega) h6 (AL.nd hq.at_ ⟨hq,hq2,trivial⟩ ⟨AL.leaf hq.at_,trivial⟩)
theorem Sm.jX (hA:fB Pl L en K en' k) {E E':Nat->Rd Value} {i:Nat} (hi:i<=L.length) (hE:∀j,i<j->j<=L.length->Sm (AL Pl) L.length k (j+1) (E j) (E' (k+j))):Sm (fun p q:Value × Value=>AL Pl p.1 q.1/\AL Pl p.2 q.2) L.length k (i+1) (jX L en E i) (jX K en' E' (k+i)):=by
 unfold Pz.jX;obtain ⟨z,ee⟩|⟨x,y,j,ee,ff,h2,h3,hq⟩:=Sm.cs (Sm.gG hA (L.length+1) (K.length+1) i hi (by have:=hA.2;omega))
 ·rw [ee];exact Sm.er
 rw [ee,ff];dsimp only;clear ee ff;refine Sm.mark hA h3 fun h4=>?_;obtain ⟨z,ee⟩|⟨u,u',j2,ee,ff,h5,h6,hq2⟩:=Sm.cs (hE (j+1) (by omega) h4)
 ·rw [ee];exact Sm.er
 rw [ee,ff];dsimp only;clear ee ff;exact Sm.ok (by omega) h6 ⟨hq,hq2⟩
theorem Sm.kQ (hA:fB Pl L en K en' k) {E E':Nat->Rd Value}:∀(f g i:Nat) (ps es ps' es':List Value),(∀j,i<j->j<=L.length->Sm (AL Pl) L.length k (j+1) (E j) (E' (k+j)))->i<=L.length->L.length<i+f->f<=g->l2 (AL Pl) ps ps'->l2 (AL Pl) es es'->Sm (fun p q:List Value × List Value=>l2 (AL Pl) p.1 q.1/\l2 (AL Pl) p.2 q.2) L.length k i (kQ L en E f i ps es) (kQ K en' E' g (k+i) ps' es')
 | 0,g,i,ps,es,ps',es',hE,hi,hf,hg,h1,h2=>by omega
 | f+1,0,i,ps,es,ps',es',hE,hi,hf,hg,h1,h2=>by omega
 | f+1,g+1,i,ps,es,ps',es',hE,hi,hf,hg,h1,h2=>by
  unfold Pz.kQ;refine Sm.Ex hA (by decide) hi (Sm.ok (Nat.le_refl _) hi ⟨h1,h2⟩) fun h4=>?_;obtain ⟨z,ee⟩|⟨⟨p,e⟩,⟨p',e'⟩,j,ee,ff,h5,h6,hq⟩:=Sm.cs (Sm.jX hA h4 (fun q h5 h6=>hE q (by omega) h6))
  ·rw [ee];exact Sm.er
  rw [ee,ff];dsimp only;clear ee ff;exact (Sm.kQ hA f g j _ _ _ _ (fun q h4 h5=>hE q (by omega) h5) h6 (by omega) (by omega) (GN h1 hq.1) (GN h2 hq.2)).lo (by omega)
theorem Sm.nu (hA:fB Pl L en K en' k) {E E':Nat->Rd Value} {i:Nat} (hi:i<=L.length) (hE:∀j,i<j->j<=L.length->Sm (AL Pl) L.length k (j+1) (E j) (E' (k+j))) (hl:i<L.length) (hP:Pl (tk L en i).a (tk K en' (k+i)).a):Sm (AL Pl) L.length k (i+1) (nu L en E i) (nu K en' E' (k+i)):=by
 unfold Pz.nu;rw [show k+i+1=k+(i+1) from rfl];obtain ⟨z,ee⟩|⟨t,u,j,ee,ff,h2,h3,hx⟩:=Sm.cs (Sm.bN hA (c:=1) (.inl rfl) hl)
 ·rw [ee];exact Sm.er
 rw [ee,ff];dsimp only;clear ee ff;refine Sm.mark hA h3 fun h4=>?_;obtain ⟨z,ee⟩|⟨e,e',j2,ee,ff,h5,h6,hq2⟩:=Sm.cs (hE (j+1) (by omega) h4)
 ·rw [ee];exact Sm.er
 rw [ee,ff];dsimp only;clear ee ff;rw [hx];exact Sm.ok (by omega) h6 (AL.nd hP ⟨hq2,trivial⟩ trivial)
theorem Sm.jL (hA:fB Pl L en K en' k) {E E':Nat->Rd Value} {i:Nat} (hi:i<=L.length) (hE:∀j,i<j->j<=L.length->Sm (AL Pl) L.length k (j+1) (E j) (E' (k+j))) {K0:Int} {x y:ByteArray} {a a':Int} (hP:Pl a a'):Sm (AL Pl) L.length k (i+1) (jL L en E K0 x y a i) (jL K en' E' K0 x y a' (k+i)):=by
 unfold Pz.jL;refine Sm.mark hA hi fun h4=>?_;obtain ⟨z,ee⟩|⟨b,b',j2,ee,ff,h5,h6,hq2⟩:=Sm.cs (hE (i+1) (by omega) h4)
 ·rw [ee];exact Sm.er
 rw [ee,ff];dsimp only;clear ee ff;refine Sm.mark hA h6 fun h7=>?_;obtain ⟨z,ee⟩|⟨e,e',j3,ee,ff,h8,h9,vD⟩:=Sm.cs (hE (j2+1) (by omega) h7)
 ·rw [ee];exact Sm.er
 rw [ee,ff];dsimp only;clear ee ff;exact Sm.ok (by omega) h9 (AL.nd hP ⟨hq2,vD,trivial⟩ trivial)
theorem Sm.ny (hA:fB Pl L en K en' k) {E E':Nat->Rd Value} {i:Nat} (hi:i<=L.length) (hE:∀j,i<j->j<=L.length->Sm (AL Pl) L.length k (j+1) (E j) (E' (k+j))) (hl:i<L.length) (hP:Pl (tk L en i).a (tk K en' (k+i)).a):Sm (AL Pl) L.length k (i+1) (ny L en E i) (ny K en' E' (k+i)):=by
 unfold Pz.ny;rw [show k+i+1=k+(i+1) from rfl];refine Sm.Ex hA (by decide) hl ?_ fun h4=>?_
 ·skip
  obtain ⟨z,ee⟩|⟨t,u,j,ee,ff,h2,h3,hx⟩:=Sm.cs (Sm.bN hA (c:=1) (.inl rfl) hl)
  ·rw [ee];exact Sm.er
  rw [ee,ff];dsimp only;clear ee ff;rw [hx];exact (Sm.jL hA h3 (fun q h5 h6=>hE q (by omega) h6) hP).lo (by omega)
 ·skip
  obtain ⟨z,ee⟩|⟨t,u,j,ee,ff,h2,h3,hx⟩:=Sm.cs (Sm.bN hA (c:=1) (.inl rfl) h4)
  ·rw [ee];exact Sm.er
  rw [ee,ff];dsimp only;clear ee ff;obtain ⟨z,ee⟩|⟨t2,u2,j2,ee,ff,h5,h6,hx2⟩:=Sm.cs (Sm.bN hA (c:=1) (.inl rfl) h3)
  ·rw [ee];exact Sm.er
  rw [ee,ff];dsimp only;clear ee ff;rw [hx,hx2];exact (Sm.jL hA h6 (fun q h5 h6=>hE q (by omega) h6) hP).lo (by omega)
theorem Sm.oG (hA:fB Pl L en K en' k) {E E':Nat->Rd Value} {i:Nat} (hi:i<=L.length) (hE:∀j,i<j->j<=L.length->Sm (AL Pl) L.length k (j+1) (E j) (E' (k+j))) (hl:i<L.length) (hP:Pl (tk L en i).a (tk K en' (k+i)).a):Sm (AL Pl) L.length k (i+1) (oG L en E i) (oG K en' E' (k+i)):=by
 unfold Pz.oG;rw [show k+i+1=k+(i+1) from rfl];obtain ⟨z,ee⟩|⟨c,c',j,ee,ff,h2,h3,hq⟩:=Sm.cs (hE (i+1) (by omega) hl)
 ·rw [ee];exact Sm.er
 rw [ee,ff];dsimp only;clear ee ff;refine Sm.mark hA h3 fun h4=>?_;obtain ⟨z,ee⟩|⟨t,t',j2,ee,ff,h5,h6,hq2⟩:=Sm.cs (hE (j+1) (by omega) h4)
 ·rw [ee];exact Sm.er
 rw [ee,ff];dsimp only;clear ee ff;refine Sm.mark hA h6 fun h7=>?_;obtain ⟨z,ee⟩|⟨u,u',j3,ee,ff,h8,h9,vD⟩:=Sm.cs (hE (j2+1) (by omega) h7)
 ·rw [ee];exact Sm.er
 rw [ee,ff];dsimp only;clear ee ff;exact Sm.ok (by omega) h9 (AL.nd hP ⟨hq,hq2,vD,trivial⟩ ⟨AL.leaf hP,AL.leaf hP,trivial⟩)
theorem Sm.nz (hA:fB Pl L en K en' k) {E E':Nat->Rd Value} {i:Nat} (hi:i<=L.length) (hE:∀j,i<j->j<=L.length->Sm (AL Pl) L.length k (j+1) (E j) (E' (k+j))) (hl:i<L.length) (hP:Pl (tk L en i).a (tk K en' (k+i)).a):Sm (AL Pl) L.length k (i+1) (nz L en E i) (nz K en' E' (k+i)):=by
 unfold Pz.nz;rw [show k+i+1=k+(i+1) from rfl];obtain ⟨z,ee⟩|⟨c,c',j,ee,ff,h2,h3,hq⟩:=Sm.cs (hE (i+1) (by omega) hl)
 ·rw [ee];exact Sm.er
 rw [ee,ff];dsimp only;clear ee ff;refine Sm.mark hA h3 fun h4=>?_;obtain ⟨z,ee⟩|⟨⟨p,e⟩,⟨p',e'⟩,j2,ee,ff,h5,h6,hq2⟩:=Sm.cs (Sm.jX hA h4 (fun q h5 h6=>hE q (by omega) h6))
 ·rw [ee];exact Sm.er
 rw [ee,ff];dsimp only;clear ee ff;obtain ⟨z,ee⟩|⟨⟨ps,es⟩,⟨ps',es'⟩,j3,ee,ff,h7,h8,vD⟩:=Sm.cs (Sm.kQ hA (L.length+1) (K.length+1) j2 [p] [c,e] [p'] [c',e'] (fun q h5 h6=>hE q (by omega) h6) h6 (by omega) (by have:=hA.2;omega) ⟨hq2.1,trivial⟩ ⟨hq,hq2.2,trivial⟩)
 ·rw [ee];exact Sm.er
 rw [ee,ff];dsimp only;clear ee ff;refine Sm.mark hA h8 fun h9=>?_;exact Sm.ok (by omega) h9 (AL.nd hP vD.2 vD.1)
theorem Sm.dD (hA:fB Pl L en K en' k):∀(f g i:Nat),i<=L.length->f<=g->Sm (AL Pl) L.length k (i+1) (dD L en f i) (dD K en' g (k+i))
 | 0,g,i,hi,hg=>Sm.er
 | f+1,0,i,hi,hg=>by omega
 | f+1,g+1,i,hi,hg=>by
  have hE:∀j,i<j->j<=L.length->Sm (AL Pl) L.length k (j+1) (Pz.dD L en f j) (Pz.dD K en' g (k+j)):=fun j h1 h2=>Sm.dD hA f g j h2 (by omega);unfold Pz.dD;by_cases BG:bn (tk L en i) eY=true
  ·rw [if_pos BG,if_pos (show bn (tk K en' (k+i)) eY=true by rw [<- (hA.1 i hi).sg (s:=eY) (by decide)];exact BG)];exact Sm.nu hA hi hE (mZ BG) ((hA.1 i hi).pl (zZ BG))
  ·rw [if_neg BG,if_neg (show ¬ bn (tk K en' (k+i)) eY=true by rw [<- (hA.1 i hi).sg (s:=eY) (by decide)];exact BG)];by_cases BH:bn (tk L en i) fA=true
   ·rw [if_pos BH,if_pos (show bn (tk K en' (k+i)) fA=true by rw [<- (hA.1 i hi).sg (s:=fA) (by decide)];exact BH)];exact Sm.ny hA hi hE (mZ BH) ((hA.1 i hi).pl (zZ BH))
   ·rw [if_neg BH,if_neg (show ¬ bn (tk K en' (k+i)) fA=true by rw [<- (hA.1 i hi).sg (s:=fA) (by decide)];exact BH)];by_cases BI:bn (tk L en i) gI=true
    ·rw [if_pos BI,if_pos (show bn (tk K en' (k+i)) gI=true by rw [<- (hA.1 i hi).sg (s:=gI) (by decide)];exact BI)];exact Sm.oG hA hi hE (mZ BI) ((hA.1 i hi).pl (zZ BI))
    ·rw [if_neg BI,if_neg (show ¬ bn (tk K en' (k+i)) gI=true by rw [<- (hA.1 i hi).sg (s:=gI) (by decide)];exact BI)];by_cases BJ:bn (tk L en i) gX=true
     ·rw [if_pos BJ,if_pos (show bn (tk K en' (k+i)) gX=true by rw [<- (hA.1 i hi).sg (s:=gX) (by decide)];exact BJ)];exact Sm.nz hA hi hE (mZ BJ) ((hA.1 i hi).pl (zZ BJ))
     ·rw [if_neg BJ,if_neg (show ¬ bn (tk K en' (k+i)) gX=true by rw [<- (hA.1 i hi).sg (s:=gX) (by decide)];exact BJ)];exact Sm.mH hA hi hE
theorem Sm.iP (hA:fB Pl L en K en' k) {i:Nat} (hi:i<=L.length):Sm (fun a b:Value=>a=b) L.length k (i+1) (iP L en i) (iP K en' (k+i)):=by
 unfold Pz.iP;obtain ⟨z,ee⟩|⟨t,u,j,ee,ff,h2,h3,hx⟩:=Sm.cs (Sm.bN hA (c:=2) (.inr (.inl rfl)) hi)
 ·rw [ee];exact Sm.er
 rw [ee,ff];dsimp only;clear ee ff;obtain ⟨z,ee⟩|⟨ts,ts',j2,ee,ff,h6,h7,Aq⟩:=Sm.cs (Sm.many hA (UG hA) (P:=fun a b:Value=>a=b) (L.length+1) (K.length+1) j [] [] (fun q h4 h5=>Sm.iO hA h5 (fun r h6 h7=>Sm.jv hA (L.length+1) (K.length+1) r h7 (by have:=hA.2;omega))) h3 (by omega) (by have:=hA.2;omega) trivial)
 ·rw [ee];exact Sm.er
 rw [ee,ff];dsimp only;clear ee ff;rw [KY Aq,hx];exact Sm.ok (by omega) h7 rfl
theorem UI (hA:fB Pl L en K en' k):∀(f g i:Nat) (acc:List ByteArray),i<=L.length->L.length<i+f->f<=g->(jT K en' g (k+i) acc).1=(jT L en f i acc).1/\(jT K en' g (k+i) acc).2=k+(jT L en f i acc).2/\i<=(jT L en f i acc).2/\(jT L en f i acc).2<=L.length
 | 0,g,i,acc,hi,hf,hg=>by omega
 | f+1,0,i,acc,hi,hf,hg=>by omega
 | f+1,g+1,i,acc,hi,hf,hg=>by
  unfold jT;by_cases h:(tk L en i).k=3
  ·have hx:=((hA.1 i hi).xn (by rw [h];decide)).1;have hl:=rJ h (.inr (.inr (.inl rfl)));rw [if_pos h,if_pos (((hA.1 i hi).kd (.inr (.inr (.inl rfl)))).1 h),<- hx];obtain ⟨h1,h2,h3,h4⟩:=UI hA f g (i+1) (acc++[(tk L en i).x]) hl (by omega) (by omega);exact ⟨h1,h2,by omega,h4⟩
  ·rw [if_neg h,if_neg (fun h'=>h (((hA.1 i hi).kd (.inr (.inr (.inl rfl)))).2 h'))];exact ⟨rfl,rfl,Nat.le_refl _,hi⟩
theorem Sm.jY (hA:fB Pl L en K en' k):∀(f g i:Nat) (acc:List Value),i<=L.length->L.length<i+f->f<=g->Sm (fun a b:List Value=>a=b) L.length k i (jY L en f i acc) (jY K en' g (k+i) acc)
 | 0,g,i,acc,hi,hf,hg=>by omega
 | f+1,0,i,acc,hi,hf,hg=>by omega
 | f+1,g+1,i,acc,hi,hf,hg=>by
  unfold Pz.jY;refine Sm.Ex hA (by decide) hi (Sm.ok (Nat.le_refl _) hi rfl) fun h4=>?_;obtain ⟨z,ee⟩|⟨c,c',j,ee,ff,h5,h6,hq⟩:=Sm.cs (Sm.iP hA h4)
  ·rw [ee];exact Sm.er
  rw [ee,ff];dsimp only;clear ee ff;rw [hq];exact (Sm.jY hA f g j _ h6 (by omega) (by omega)).lo (by omega)
theorem Sm.nA (hA:fB Pl L en K en' k) {i:Nat} (hl:i<L.length) (hP:Pl (tk L en i).a (tk K en' (k+i)).a):Sm (vA Pl) L.length k (i+1) (nA L en i) (nA K en' (k+i)):=by
 unfold Pz.nA;rw [show k+i+1=k+(i+1) from rfl];obtain ⟨z,ee⟩|⟨t,u,j,ee,ff,h2,h3,hx⟩:=Sm.cs (Sm.bN hA (c:=1) (.inl rfl) hl)
 ·rw [ee];exact Sm.er
 rw [ee,ff];dsimp only;clear ee ff;obtain ⟨p1,p2,p3,p4⟩:=UI hA (L.length+1) (K.length+1) j [] h3 (by omega) (by have:=hA.2;omega);rw [p1,p2,hx];refine Sm.mark hA p4 fun h4=>?_;obtain ⟨z,ee⟩|⟨c,c',j2,ee,ff,h5,h6,hq⟩:=Sm.cs (Sm.iP hA h4)
 ·rw [ee];exact Sm.er
 rw [ee,ff];dsimp only;clear ee ff;rw [hq];obtain ⟨z,ee⟩|⟨cs,cs',j3,ee,ff,h7,h8,hq2⟩:=Sm.cs (Sm.jY hA (L.length+1) (K.length+1) j2 [c'] h6 (by omega) (by have:=hA.2;omega))
 ·rw [ee];exact Sm.er
 rw [ee,ff];dsimp only;clear ee ff;rw [hq2];refine Sm.mark hA h8 fun h9=>?_;exact Sm.ok (by omega) h9 ⟨_,_,_,_,_,rfl,rfl,hP⟩
theorem Sm.jC (hA:fB Pl L en K en' k):∀(f g i:Nat) (acc acc':List Value),i<=L.length->L.length<i+f->f<=g->l2 (vA Pl) acc acc'->Sm (l2 (vA Pl)) L.length k i (jC L en f i acc) (jC K en' g (k+i) acc')
 | 0,g,i,acc,acc',hi,hf,hg,ha=>by omega
 | f+1,0,i,acc,acc',hi,hf,hg,ha=>by omega
 | f+1,g+1,i,acc,acc',hi,hf,hg,ha=>by
  unfold Pz.jC;rw [<- (hA.1 i hi).sg (s:=nZ) (by decide)];cases h:bn (tk L en i) nZ with
  | false=>exact Sm.ok (Nat.le_refl _) hi ha
  | true =>
   rw [if_pos rfl,if_pos rfl];obtain ⟨z,ee⟩|⟨d,d',j,ee,ff,h5,h6,hq⟩:=Sm.cs (Sm.nA hA (mZ h) ((hA.1 i hi).pl (zZ h)))
   ·rw [ee];exact Sm.er
   rw [ee,ff];dsimp only;clear ee ff;exact (Sm.jC hA f g j _ _ h6 (by omega) (by omega) (GN ha hq)).lo (by omega)
end
end
end Pz
end Go.Proofs.YtkdbgopgjbfhbaaGreatDoor
