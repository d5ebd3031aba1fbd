/- Texts that the claim needs. -/
import Derived.Test.YtkdbgopgjbfhbaaGreatDoorQPS37
namespace Go.Proofs.YtkdbgopgjbfhbaaGreatDoor
open Go.RowKit Lx Pz bb
set_option linter.unusedVariables false
namespace Pz
section
variable {L K:List Tk} {en en':Int} {k:Nat}
def fH (Pl:Int->Int->Prop) (L:List Tk) (en:Int) (K:List Tk) (en':Int) (k:Nat):Prop:=(∀i,i<=L.length->pK Pl (tk L en i) (tk K en' (k+i)))/\L.length<=K.length
theorem mJ {i:Nat} {s:ByteArray} (h:bE (tk L en i) s=true):i<L.length:=CM L en (by rcases qX h with h|h<;>rw [h]<;>decide)
theorem qI {i:Nat} {c:Int} (h:(tk L en i).k=c) (hc:c=1\/c=2\/c=3\/c=4):i<L.length:=CM L en (by rw [h];rcases hc with h|h|h|h<;>rw [h]<;>decide)
theorem ac7 (i:Nat) (h:tH (tk L en i)=true):i<L.length/\(tk L en i).k≠0:=by
 unfold tH at h;simp only [Bool.or_eq_true] at h;rcases h with (h|h)|h
 ·exact ⟨mJ h,fun h0=>by rcases qX h with h|h<;>rw [h0] at h<;>cases h⟩
 ·exact ⟨mJ h,fun h0=>by rcases qX h with h|h<;>rw [h0] at h<;>cases h⟩
 ·exact ⟨mJ h,fun h0=>by rcases qX h with h|h<;>rw [h0] at h<;>cases h⟩
theorem ac8 (i:Nat) (h:tJ (tk L en i)=true):i<L.length/\(tk L en i).k≠0:=by
 unfold tJ at h;simp only [Bool.or_eq_true] at h;rcases h with h|h
 ·exact ⟨mJ h,fun h0=>by rcases qX h with h|h<;>rw [h0] at h<;>cases h⟩
 ·exact ⟨mJ h,fun h0=>by rcases qX h with h|h<;>rw [h0] at h<;>cases h⟩
theorem ac9 (i:Nat) (h:tN (tk L en i)=true):i<L.length/\(tk L en i).k≠0:=by
 unfold tN at h;simp only [Bool.or_eq_true] at h;rcases h with h|h
 ·exact ⟨mJ h,fun h0=>by rcases qX h with h|h<;>rw [h0] at h<;>cases h⟩
 ·exact ⟨mJ h,fun h0=>by rcases qX h with h|h<;>rw [h0] at h<;>cases h⟩
variable {Pl:Int->Int->Prop} (hA:fH Pl L en K en' k)
section
variable {α β γ δ:Type} {Q:α->β->Prop} {Q':γ->δ->Prop} {m m':Nat}
theorem Sm.mark (hA:fH Pl L en K en' k) {s:ByteArray} {i:Nat} (hi:i<=L.length) {F:Nat->Rd γ} {G:Nat->Rd δ}:(i+1<=L.length->Sm Q' L.length k m' (F (i+1)) (G (k+(i+1))))->Sm Q' L.length k m' (match aX L en s i with | .error z=>.error z | .ok j=>F j) (match aX K en' s (k+i) with | .error z=>.error z | .ok j=>G j):=by
 intro h;unfold aX;cases hs:bE (tk L en i) s with
 | false=>exact Sm.er
 | true =>
  rw [if_pos rfl,if_pos ((hA.1 i hi).sg1 hs)];exact h (mJ hs)
theorem Sm.Ep (hA:fH Pl L en K en' k) {s:ByteArray} (hr:s≠sR/\s≠tZ) {i:Nat} (hi:i<=L.length) {A:Rd γ} {B:Rd δ} {F:Nat->Rd γ} {G:Nat->Rd δ}:Sm Q' L.length k m' A B->(i+1<=L.length->Sm Q' L.length k m' (F (i+1)) (G (k+(i+1))))->Sm Q' L.length k m' (match aX L en s i with | .error _=>A | .ok j=>F j) (match aX K en' s (k+i) with | .error _=>B | .ok j=>G j):=by
 intro h0 h;unfold aX;rw [<- (hA.1 i hi).sg hr];cases hs:bE (tk L en i) s with
 | false=>exact h0
 | true=>exact h (mJ hs)
theorem Sm.bM (hA:fH Pl L en K en' k) {c:Int} (hc:c=1\/c=2\/c=3\/c=4) {i:Nat} (hi:i<=L.length):Sm (fun t u:Tk=>t.x=u.x) L.length k (i+1) (bM L en c i) (bM K en' c (k+i)):=by
 unfold Pz.bM;by_cases h:(tk L en i).k=c
 ·rw [if_pos h,if_pos (((hA.1 i hi).kd hc).1 h)];exact Sm.ok (Nat.le_refl _) (qI h hc) ((hA.1 i hi).xn (by rw [h];rcases hc with h|h|h|h<;>rw [h]<;>decide)).1
 ·rw [if_neg h];exact Sm.er
theorem Sm.brk (hA:fH Pl L en K en' k) {E E':Nat->Rd Value} {P:Value->Value->Prop} {i:Nat} (hi:i<=L.length) (hE:∀j,i<j->j<=L.length->Sm P L.length k (j+1) (E j) (E' (k+j))):Sm P L.length k (i+1) (brk L en E i) (brk K en' E' (k+i)):=by
 unfold Pz.brk;refine Sm.mark hA hi fun h1=>?_;obtain ⟨z,ee⟩|⟨x,y,j,ee,ff,h2,h3,hq⟩:=Sm.cs (hE (i+1) (Nat.lt_succ_self _) h1)
 ·rw [ee];exact Sm.er
 rw [ee,ff];dsimp only;clear ee ff;refine Sm.mark hA h3 fun h4=>?_;exact Sm.ok (by omega) h4 hq
theorem Sm.many (hA:fH Pl L en K en' k) {nx:Tk->Bool} (hn:∀i,i<=L.length->nx (tk L en i)=nx (tk K en' (k+i))) {P:Value->Value->Prop} {A A':Nat->Rd Value}:∀(f g i:Nat) (acc acc':List Value),(∀j,i<=j->j<=L.length->Sm P L.length k (j+1) (A j) (A' (k+j)))->i<=L.length->L.length<i+f->f<=g->l2 P acc acc'->Sm (l2 P) L.length k i (dE L en nx A f i acc) (dE K en' nx A' g (k+i) acc')
 | 0,g,i,acc,acc',hE,hi,hf,hg,ha=>by omega
 | f+1,0,i,acc,acc',hE,hi,hf,hg,ha=>by omega
 | f+1,g+1,i,acc,acc',hE,hi,hf,hg,ha=>by
  unfold dE;rw [<- hn i hi];cases h:nx (tk L en i) with
  | false=>exact Sm.ok (Nat.le_refl _) hi ha
  | true =>
   rw [if_pos rfl,if_pos rfl];obtain ⟨z,ee⟩|⟨x,y,j,ee,ff,h2,h3,hq⟩:=Sm.cs (hE i (Nat.le_refl _) hi)
   ·rw [ee];exact Sm.er
   rw [ee,ff];dsimp only;clear ee ff;exact (Sm.many hA hn f g j _ _ (fun q h4 h5=>hE q (by omega) h5) h3 (by omega) (by omega) (GJ ha hq)).lo (by omega)
theorem UG (hA:fH Pl L en K en' k):∀i,i<=L.length->pX (tk L en i)=pX (tk K en' (k+i)):=fun i hi=>by
 unfold pX;rw [(hA.1 i hi).kb (.inl rfl),(hA.1 i hi).kb (.inr (.inr (.inl rfl))),(hA.1 i hi).sg (s:=sL) (by decide)]
theorem ada (hA:fH Pl L en K en' k):∀i,i<=L.length->qP (tk L en i)=qP (tk K en' (k+i)):=fun i hi=>by
 unfold qP;rw [(hA.1 i hi).kb (.inl rfl),(hA.1 i hi).kb (.inr (.inl rfl)),(hA.1 i hi).kb (.inr (.inr (.inr rfl))),(hA.1 i hi).sg (s:=sL) (by decide),(hA.1 i hi).sg (s:=dK) (by decide)]
theorem UH (hA:fH Pl L en K en' k):∀i,i<=L.length->oM (tk L en i)=oM (tk K en' (k+i)):=fun i hi=>by
 unfold oM;rw [(hA.1 i hi).kb (.inl rfl),(hA.1 i hi).kb (.inr (.inl rfl)),(hA.1 i hi).kb (.inr (.inr (.inr rfl))),(hA.1 i hi).sg (s:=sL) (by decide)]
theorem adb (hA:fH Pl L en K en' k):∀i,i<=L.length->tH (tk L en i)=tH (tk K en' (k+i)):=fun i hi=>by
 unfold tH;rw [(hA.1 i hi).sg (s:=rQ) (by decide),(hA.1 i hi).sg (s:=rR) (by decide),(hA.1 i hi).sg (s:=rS) (by decide)]
theorem ade (hA:fH Pl L en K en' k):∀i,i<=L.length->tJ (tk L en i)=tJ (tk K en' (k+i)):=fun i hi=>by
 unfold tJ;rw [(hA.1 i hi).sg (s:=rT) (by decide),(hA.1 i hi).sg (s:=rU) (by decide)]
theorem adf (hA:fH Pl L en K en' k):∀i,i<=L.length->tN (tk L en i)=tN (tk K en' (k+i)):=fun i hi=>by
 unfold tN;rw [(hA.1 i hi).sg (s:=tK) (by decide),(hA.1 i hi).sg (s:=tL) (by decide)]
theorem Sm.iQ (hA:fH Pl L en K en' k) {T T':Nat->Rd Value} {i:Nat} (hi:i<=L.length) (hT:∀j,i<j->j<=L.length->Sm (fun a b:Value=>a=b) L.length k (j+1) (T j) (T' (k+j))):Sm (fun a b:Value=>a=b) L.length k (i+1) (iQ L en T i) (iQ K en' T' (k+i)):=by
 unfold Pz.iQ;by_cases h1:(tk L en i).k=1
 ·have hx:=((hA.1 i hi).xn (by rw [h1];decide)).1;rw [if_pos h1,if_pos (((hA.1 i hi).kd (.inl rfl)).1 h1),hx];exact Sm.ok (Nat.le_refl _) (qI h1 (.inl rfl)) rfl
 ·rw [if_neg h1,if_neg (fun h=>h1 (((hA.1 i hi).kd (.inl rfl)).2 h))];by_cases h3:(tk L en i).k=3
  ·have hx:=((hA.1 i hi).xn (by rw [h3];decide)).1;rw [if_pos h3,if_pos (((hA.1 i hi).kd (.inr (.inr (.inl rfl)))).1 h3),hx];exact Sm.ok (Nat.le_refl _) (qI h3 (.inr (.inr (.inl rfl)))) rfl
  ·rw [if_neg h3,if_neg (fun h=>h3 (((hA.1 i hi).kd (.inr (.inr (.inl rfl)))).2 h))];exact Sm.brk hA hi hT
theorem Sm.mg (hA:fH Pl L en K en' k) {T T':Nat->Rd Value} {i:Nat} (hi:i<=L.length) (hT:∀j,i<j->j<=L.length->Sm (fun a b:Value=>a=b) L.length k (j+1) (T j) (T' (k+j))):Sm (fun a b:Value=>a=b) L.length k (i+1) (mg L en T i) (mg K en' T' (k+i)):=by
 unfold Pz.mg;obtain ⟨z,ee⟩|⟨x,y,j,ee,ff,h2,h3,hq⟩:=Sm.cs (Sm.iQ hA hi hT)
 ·rw [ee];exact Sm.er
 rw [ee,ff];dsimp only;clear ee ff;by_cases h:(tk L en i).k=1/\(tk L en i).x≠rX
 ·have hx:=((hA.1 i hi).xn (by rw [h.1];decide)).1;rw [if_pos h,if_pos ⟨((hA.1 i hi).kd (.inl rfl)).1 h.1,by rw [<- hx];exact h.2⟩];obtain ⟨z,ee⟩|⟨ts,ts',j2,ee,ff,h6,h7,zY⟩:=Sm.cs (Sm.many hA (UG hA) (P:=fun a b:Value=>a=b) (L.length+1) (K.length+1) j [] [] (fun q h4 h5=>Sm.iQ hA h5 (fun r h6 h7=>hT r (by omega) h7)) h3 (by omega) (by have:=hA.2;omega) trivial)
  ·rw [ee];exact Sm.er
  rw [ee,ff];dsimp only;clear ee ff;rw [K4 zY,hx];exact Sm.ok (by omega) h7 rfl
 ·rw [if_neg h,if_neg (fun h'=>by
   have h1:=((hA.1 i hi).kd (.inl rfl)).2 h'.1;have hx:=((hA.1 i hi).xn (by rw [h1];decide)).1;exact h ⟨h1,by rw [hx];exact h'.2⟩)]
  exact Sm.ok h2 h3 hq
theorem Sm.jr (hA:fH Pl L en K en' k):∀(f g i:Nat),i<=L.length->f<=g->Sm (fun a b:Value=>a=b) L.length k (i+1) (jr L en f i) (jr K en' g (k+i))
 | 0,g,i,hi,hg=>Sm.er
 | f+1,0,i,hi,hg=>by omega
 | f+1,g+1,i,hi,hg=>by
  unfold Pz.jr;obtain ⟨z,ee⟩|⟨x,y,j,ee,ff,h2,h3,hq⟩:=Sm.cs (Sm.mg hA hi (fun j h1 h2=>Sm.jr hA f g j h2 (by omega)))
  ·rw [ee];exact Sm.er
  rw [ee,ff];dsimp only;clear ee ff;refine Sm.Ep hA (by decide) h3 (Sm.ok h2 h3 hq) fun h4=>?_;obtain ⟨z,ee⟩|⟨u,u',j2,ee,ff,h5,h6,hq2⟩:=Sm.cs (Sm.jr hA f g (j+1) h4 (by omega))
  ·rw [ee];exact Sm.er
  rw [ee,ff];dsimp only;clear ee ff;rw [hq,hq2];exact Sm.ok (by omega) h6 rfl
theorem Sm.jq (hA:fH Pl L en K en' k) {T T':Nat->Rd Value} {i:Nat} (hi:i<=L.length) (hT:∀j,i<j->j<=L.length->Sm (AL Pl) L.length k (j+1) (T j) (T' (k+j))):Sm (AL Pl) L.length k (i+1) (jq L en T i) (jq K en' T' (k+i)):=by
 unfold Pz.jq;by_cases h1:(tk L en i).k=1
 ·have hx:=((hA.1 i hi).xn (by rw [h1];decide)).1;rw [if_pos h1,if_pos (((hA.1 i hi).kd (.inl rfl)).1 h1),hx];exact Sm.ok (Nat.le_refl _) (qI h1 (.inl rfl)) (AL.leaf ((hA.1 i hi).pl (by rw [h1];decide)))
 ·rw [if_neg h1,if_neg (fun h=>h1 (((hA.1 i hi).kd (.inl rfl)).2 h))];by_cases hs:bE (tk L en i) dK=true
  ·rw [if_pos hs,if_pos (show bE (tk K en' (k+i)) dK=true by rw [<- (hA.1 i hi).sg (s:=dK) (by decide)];exact hs)];exact Sm.ok (Nat.le_refl _) (mJ hs) (AL.leaf ((hA.1 i hi).pl (zQ hs)))
  ·rw [if_neg hs,if_neg (show ¬ bE (tk K en' (k+i)) dK=true by rw [<- (hA.1 i hi).sg (s:=dK) (by decide)];exact hs)];by_cases h4:(tk L en i).k=4
   ·have hx:=((hA.1 i hi).xn (by rw [h4];decide)).2;rw [if_pos h4,if_pos (((hA.1 i hi).kd (.inr (.inr (.inr rfl)))).1 h4),hx];exact Sm.ok (Nat.le_refl _) (qI h4 (.inr (.inr (.inr rfl)))) (AL.leaf ((hA.1 i hi).pl (by rw [h4];decide)))
   ·rw [if_neg h4,if_neg (fun h=>h4 (((hA.1 i hi).kd (.inr (.inr (.inr rfl)))).2 h))];by_cases h2:(tk L en i).k=2
    ·have hx:=((hA.1 i hi).xn (by rw [h2];decide)).1;rw [if_pos h2,if_pos (((hA.1 i hi).kd (.inr (.inl rfl))).1 h2),hx];exact Sm.ok (Nat.le_refl _) (qI h2 (.inr (.inl rfl))) (AL.leaf ((hA.1 i hi).pl (by rw [h2];decide)))
    ·rw [if_neg h2,if_neg (fun h=>h2 (((hA.1 i hi).kd (.inr (.inl rfl))).2 h))];exact Sm.brk hA hi hT
theorem Sm.gD (hA:fH Pl L en K en' k):∀(f g i:Nat),i<=L.length->f<=g->Sm (AL Pl) L.length k (i+1) (gD L en f i) (gD K en' g (k+i))
 | 0,g,i,hi,hg=>Sm.er
 | f+1,0,i,hi,hg=>by omega
 | f+1,g+1,i,hi,hg=>by
  unfold Pz.gD;by_cases h:(tk L en i).k=2
  ·have hx:=((hA.1 i hi).xn (by rw [h];decide)).1;rw [if_pos h,if_pos (((hA.1 i hi).kd (.inr (.inl rfl))).1 h)];have hl:=qI h (.inr (.inl rfl));rw [show k+i+1=k+(i+1) from rfl];obtain ⟨z,ee⟩|⟨ts,ts',j2,ee,ff,h6,h7,zY⟩:=Sm.cs (Sm.many hA (ada hA) (P:=AL Pl) (L.length+1) (K.length+1) (i+1) [] [] (fun q h4 h5=>Sm.jq hA h5 (fun r h6 h7=>Sm.gD hA f g r h7 (by omega))) hl (by omega) (by have:=hA.2;omega) trivial)
   ·rw [ee];exact Sm.er
   rw [ee,ff];dsimp only;clear ee ff;rw [hx];exact Sm.ok (by omega) h7 (AL.nd ((hA.1 i hi).pl (by rw [h];decide)) zY trivial)
  ·rw [if_neg h,if_neg (fun h'=>h (((hA.1 i hi).kd (.inr (.inl rfl))).2 h'))];exact Sm.jq hA hi (fun r h6 h7=>Sm.gD hA f g r h7 (by omega))
theorem Sm.fI (hA:fH Pl L en K en' k) {E E':Nat->Rd Value} {i:Nat} (hi:i<=L.length) (hE:∀j,i<j->j<=L.length->Sm (AL Pl) L.length k (j+1) (E j) (E' (k+j))):Sm (AL Pl) L.length k (i+1) (fI L en E i) (fI K en' E' (k+i)):=by
 unfold Pz.fI;by_cases h1:(tk L en i).k=1
 ·have hx:=((hA.1 i hi).xn (by rw [h1];decide)).1;rw [if_pos h1,if_pos (((hA.1 i hi).kd (.inl rfl)).1 h1),hx];exact Sm.ok (Nat.le_refl _) (qI h1 (.inl rfl)) (AL.leaf ((hA.1 i hi).pl (by rw [h1];decide)))
 ·rw [if_neg h1,if_neg (fun h=>h1 (((hA.1 i hi).kd (.inl rfl)).2 h))];by_cases h4:(tk L en i).k=4
  ·have hx:=((hA.1 i hi).xn (by rw [h4];decide)).2;rw [if_pos h4,if_pos (((hA.1 i hi).kd (.inr (.inr (.inr rfl)))).1 h4),hx];exact Sm.ok (Nat.le_refl _) (qI h4 (.inr (.inr (.inr rfl)))) (AL.leaf ((hA.1 i hi).pl (by rw [h4];decide)))
  ·rw [if_neg h4,if_neg (fun h=>h4 (((hA.1 i hi).kd (.inr (.inr (.inr rfl)))).2 h))];by_cases h2:(tk L en i).k=2
   ·have hx:=((hA.1 i hi).xn (by rw [h2];decide)).1;rw [if_pos h2,if_pos (((hA.1 i hi).kd (.inr (.inl rfl))).1 h2),hx];exact Sm.ok (Nat.le_refl _) (qI h2 (.inr (.inl rfl))) (AL.leaf ((hA.1 i hi).pl (by rw [h2];decide)))
   ·rw [if_neg h2,if_neg (fun h=>h2 (((hA.1 i hi).kd (.inr (.inl rfl))).2 h))];exact Sm.brk hA hi hE
theorem Sm.lj (hA:fH Pl L en K en' k) {E E':Nat->Rd Value}:∀(f g i:Nat) (e e':Value),(∀j,i<j->j<=L.length->Sm (AL Pl) L.length k (j+1) (E j) (E' (k+j)))->i<=L.length->L.length<i+f->f<=g->AL Pl e e'->Sm (AL Pl) L.length k i (lj L en E f i e) (lj K en' E' g (k+i) e')
 | 0,g,i,e,e',hE,hi,hf,hg,ha=>by omega
 | f+1,0,i,e,e',hE,hi,hf,hg,ha=>by omega
 | f+1,g+1,i,e,e',hE,hi,hf,hg,ha=>by
  unfold Pz.lj;rw [<- UH hA i hi];cases h:oM (tk L en i) with
  | false=>exact Sm.ok (Nat.le_refl _) hi ha
  | true =>
   rw [if_pos rfl,if_pos rfl];obtain ⟨z,ee⟩|⟨x,y,j,ee,ff,h2,h3,hq⟩:=Sm.cs (Sm.fI hA hi hE)
   ·rw [ee];exact Sm.er
   rw [ee,ff];dsimp only;clear ee ff;exact (Sm.lj hA f g j _ _ (fun q h4 h5=>hE q (by omega) h5) h3 (by omega) (by omega) (AL.nd ha.at_ (S5 ha hq) SZ)).lo (by omega)
theorem Sm.jD (hA:fH Pl L en K en' k) {E E':Nat->Rd Value} {i:Nat} (hi:i<=L.length) (hE:∀j,i<j->j<=L.length->Sm (AL Pl) L.length k (j+1) (E j) (E' (k+j))):Sm (AL Pl) L.length k (i+1) (jD L en E i) (jD K en' E' (k+i)):=by
 unfold Pz.jD;by_cases BA:bE (tk L en i) ic=true
 ·rw [if_pos BA,if_pos (show bE (tk K en' (k+i)) ic=true by rw [<- (hA.1 i hi).sg (s:=ic) (by decide)];exact BA)];rw [show k+i+1=k+(i+1) from rfl];have hl:=mJ BA;obtain ⟨z,ee⟩|⟨x,y,j,ee,ff,h2,h3,hq⟩:=Sm.cs (Sm.fI hA hl (fun q h4 h5=>hE q (by omega) h5))
  ·rw [ee];exact Sm.er
  rw [ee,ff];dsimp only;clear ee ff;exact Sm.ok (by omega) h3 (AL.nd ((hA.1 i hi).pl (zQ BA)) ⟨hq,trivial⟩ trivial)
 ·rw [if_neg BA,if_neg (show ¬ bE (tk K en' (k+i)) ic=true by rw [<- (hA.1 i hi).sg (s:=ic) (by decide)];exact BA)];by_cases h:(tk L en i).k=2
  ·have hx:=((hA.1 i hi).xn (by rw [h];decide)).1;rw [if_pos h,if_pos (((hA.1 i hi).kd (.inr (.inl rfl))).1 h)];have hl:=qI h (.inr (.inl rfl));rw [show k+i+1=k+(i+1) from rfl];obtain ⟨z,ee⟩|⟨ts,ts',j2,ee,ff,h6,h7,zY⟩:=Sm.cs (Sm.many hA (UH hA) (P:=AL Pl) (L.length+1) (K.length+1) (i+1) [] [] (fun q h4 h5=>Sm.fI hA h5 (fun r h6 h7=>hE r (by omega) h7)) hl (by omega) (by have:=hA.2;omega) trivial)
   ·rw [ee];exact Sm.er
   rw [ee,ff];dsimp only;clear ee ff;rw [hx];exact Sm.ok (by omega) h7 (AL.nd ((hA.1 i hi).pl (by rw [h];decide)) zY trivial)
  ·rw [if_neg h,if_neg (fun h'=>h (((hA.1 i hi).kd (.inr (.inl rfl))).2 h'))];obtain ⟨z,ee⟩|⟨x,y,j,ee,ff,h2,h3,hq⟩:=Sm.cs (Sm.fI hA hi hE)
   ·rw [ee];exact Sm.er
   rw [ee,ff];dsimp only;clear ee ff;exact (Sm.lj hA (L.length+1) (K.length+1) j _ _ (fun q h4 h5=>hE q (by omega) h5) h3 (by omega) (by have:=hA.2;omega) hq).lo (by omega)
theorem Sm.fw (hA:fH Pl L en K en' k) {sg:Tk->Bool} (hs:∀i,i<=L.length->sg (tk L en i)=sg (tk K en' (k+i))) (hlt:∀i,sg (tk L en i)=true->i<L.length/\(tk L en i).k≠0) {A A':Nat->Rd Value}:∀(f g i:Nat) (e e':Value),(∀j,i<j->j<=L.length->Sm (AL Pl) L.length k (j+1) (A j) (A' (k+j)))->i<=L.length->(f=g\/(L.length<i+f/\f<=g))->AL Pl e e'->Sm (AL Pl) L.length k i (fw L en sg A f i e) (fw K en' sg A' g (k+i) e')
 | 0,0,i,e,e',hE,hi,hf,ha=>Sm.ok (Nat.le_refl _) hi ha
 | 0,g+1,i,e,e',hE,hi,hf,ha=>by omega
 | f+1,0,i,e,e',hE,hi,hf,ha=>by omega
 | f+1,g+1,i,e,e',hE,hi,hf,ha=>by
  unfold Pz.fw;rw [<- hs i hi];cases h:sg (tk L en i) with
  | false=>exact Sm.ok (Nat.le_refl _) hi ha
  | true =>
   rw [if_pos rfl,if_pos rfl];obtain ⟨hl,h0⟩:=hlt i h;have hx:=((hA.1 i hi).xn h0).1;rw [show k+i+1=k+(i+1) from rfl];obtain ⟨z,ee⟩|⟨x,y,j,ee,ff,h2,h3,hq⟩:=Sm.cs (hE (i+1) (Nat.lt_succ_self _) hl)
   ·rw [ee];exact Sm.er
   rw [ee,ff];dsimp only;clear ee ff;rw [hx];exact (Sm.fw hA hs hlt f g j _ _ (fun q h4 h5=>hE q (by omega) h5) h3 (by omega) (AL.nd ha.at_ (S5 ha hq) SZ)).lo (by omega)
theorem Sm.jE (hA:fH Pl L en K en' k) {E E':Nat->Rd Value} {i:Nat} (hi:i<=L.length) (hE:∀j,i<j->j<=L.length->Sm (AL Pl) L.length k (j+1) (E j) (E' (k+j))):Sm (AL Pl) L.length k (i+1) (jE L en E i) (jE K en' E' (k+i)):=by
 unfold Pz.jE;obtain ⟨z,ee⟩|⟨x,y,j,ee,ff,h2,h3,hq⟩:=Sm.cs (Sm.jD hA hi hE)
 ·rw [ee];exact Sm.er
 rw [ee,ff];dsimp only;clear ee ff;exact (Sm.fw hA (adb hA) ac7 (L.length+1) (K.length+1) j _ _ (fun q h4 h5=>Sm.jD hA h5 (fun r h6 h7=>hE r (by omega) h7)) h3 (.inr ⟨by omega,by have:=hA.2;omega⟩) hq).lo (by omega)
theorem Sm.jF (hA:fH Pl L en K en' k) {E E':Nat->Rd Value} {i:Nat} (hi:i<=L.length) (hE:∀j,i<j->j<=L.length->Sm (AL Pl) L.length k (j+1) (E j) (E' (k+j))):Sm (AL Pl) L.length k (i+1) (jF L en E i) (jF K en' E' (k+i)):=by
 unfold Pz.jF;obtain ⟨z,ee⟩|⟨x,y,j,ee,ff,h2,h3,hq⟩:=Sm.cs (Sm.jE hA hi hE)
 ·rw [ee];exact Sm.er
 rw [ee,ff];dsimp only;clear ee ff;exact (Sm.fw hA (ade hA) ac8 (L.length+1) (K.length+1) j _ _ (fun q h4 h5=>Sm.jE hA h5 (fun r h6 h7=>hE r (by omega) h7)) h3 (.inr ⟨by omega,by have:=hA.2;omega⟩) hq).lo (by omega)
theorem Sm.lS (hA:fH Pl L en K en' k) {E E':Nat->Rd Value} {i:Nat} (hi:i<=L.length) (hE:∀j,i<j->j<=L.length->Sm (AL Pl) L.length k (j+1) (E j) (E' (k+j))):Sm (AL Pl) L.length k (i+1) (lS L en E i) (lS K en' E' (k+i)):=by
 unfold Pz.lS;obtain ⟨z,ee⟩|⟨x,y,j,ee,ff,h2,h3,hq⟩:=Sm.cs (Sm.jF hA hi hE)
 ·rw [ee];exact Sm.er
 rw [ee,ff];dsimp only;clear ee ff;exact (Sm.fw hA (adf hA) ac9 1 1 j _ _ (fun q h4 h5=>Sm.jF hA h5 (fun r h6 h7=>hE r (by omega) h7)) h3 (.inl rfl) hq).lo (by omega)
theorem Sm.mM (hA:fH Pl L en K en' k) {E E':Nat->Rd Value} {i:Nat} (hi:i<=L.length) (hE:∀j,i<j->j<=L.length->Sm (AL Pl) L.length k (j+1) (E j) (E' (k+j))):Sm (AL Pl) L.length k (i+1) (mM L en E i) (mM K en' E' (k+i)):=by
 unfold Pz.mM;obtain ⟨z,ee⟩|⟨x,y,j,ee,ff,h2,h3,hq⟩:=Sm.cs (Sm.lS hA hi hE)
 ·rw [ee];exact Sm.er
 rw [ee,ff];dsimp only;clear ee ff;refine Sm.Ep hA (by decide) h3 (Sm.ok h2 h3 hq) fun h4=>?_;obtain ⟨z,ee⟩|⟨u,u',j2,ee,ff,h5,h6,hq2⟩:=Sm.cs (hE (j+1) (by omega) h4)
 ·rw [ee];exact Sm.er
 rw [ee,ff];dsimp only;clear ee ff;exact Sm.ok (by omega) h6 (AL.nd hq.at_ ⟨hq,hq2,trivial⟩ ⟨AL.leaf hq.at_,trivial⟩)
theorem Sm.jW (hA:fH Pl L en K en' k) {E E':Nat->Rd Value} {i:Nat} (hi:i<=L.length) (hE:∀j,i<j->j<=L.length->Sm (AL Pl) L.length k (j+1) (E j) (E' (k+j))):Sm (fun p q:Value × Value=>AL Pl p.1 q.1/\AL Pl p.2 q.2) L.length k (i+1) (jW L en E i) (jW K en' E' (k+i)):=by
 unfold Pz.jW;obtain ⟨z,ee⟩|⟨x,y,j,ee,ff,h2,h3,hq⟩:=Sm.cs (Sm.gD hA (L.length+1) (K.length+1) i hi (by have:=hA.2;omega))
 ·rw [ee];exact Sm.er
 rw [ee,ff];dsimp only;clear ee ff;refine Sm.mark hA h3 fun h4=>?_;obtain ⟨z,ee⟩|⟨u,u',j2,ee,ff,h5,h6,hq2⟩:=Sm.cs (hE (j+1) (by omega) h4)
 ·rw [ee];exact Sm.er
 rw [ee,ff];dsimp only;clear ee ff;exact Sm.ok (by omega) h6 ⟨hq,hq2⟩
theorem Sm.kN (hA:fH Pl L en K en' k) {E E':Nat->Rd Value}:∀(f g i:Nat) (ps es ps' es':List Value),(∀j,i<j->j<=L.length->Sm (AL Pl) L.length k (j+1) (E j) (E' (k+j)))->i<=L.length->L.length<i+f->f<=g->l2 (AL Pl) ps ps'->l2 (AL Pl) es es'->Sm (fun p q:List Value × List Value=>l2 (AL Pl) p.1 q.1/\l2 (AL Pl) p.2 q.2) L.length k i (kN L en E f i ps es) (kN K en' E' g (k+i) ps' es')
 | 0,g,i,ps,es,ps',es',hE,hi,hf,hg,h1,h2=>by omega
 | f+1,0,i,ps,es,ps',es',hE,hi,hf,hg,h1,h2=>by omega
 | f+1,g+1,i,ps,es,ps',es',hE,hi,hf,hg,h1,h2=>by
  unfold Pz.kN;refine Sm.Ep hA (by decide) hi (Sm.ok (Nat.le_refl _) hi ⟨h1,h2⟩) fun h4=>?_;obtain ⟨z,ee⟩|⟨⟨p,e⟩,⟨p',e'⟩,j,ee,ff,h5,h6,hq⟩:=Sm.cs (Sm.jW hA h4 (fun q h5 h6=>hE q (by omega) h6))
  ·rw [ee];exact Sm.er
  rw [ee,ff];dsimp only;clear ee ff;exact (Sm.kN hA f g j _ _ _ _ (fun q h4 h5=>hE q (by omega) h5) h6 (by omega) (by omega) (GJ h1 hq.1) (GJ h2 hq.2)).lo (by omega)
theorem Sm.nO (hA:fH Pl L en K en' k) {E E':Nat->Rd Value} {i:Nat} (hi:i<=L.length) (hE:∀j,i<j->j<=L.length->Sm (AL Pl) L.length k (j+1) (E j) (E' (k+j))) (hl:i<L.length) (hP:Pl (tk L en i).a (tk K en' (k+i)).a):Sm (AL Pl) L.length k (i+1) (nO L en E i) (nO K en' E' (k+i)):=by
 unfold Pz.nO;rw [show k+i+1=k+(i+1) from rfl];obtain ⟨z,ee⟩|⟨t,u,j,ee,ff,h2,h3,hx⟩:=Sm.cs (Sm.bM hA (c:=1) (.inl rfl) hl)
 ·rw [ee];exact Sm.er
 rw [ee,ff];dsimp only;clear ee ff;refine Sm.mark hA h3 fun h4=>?_;obtain ⟨z,ee⟩|⟨e,e',j2,ee,ff,h5,h6,hq2⟩:=Sm.cs (hE (j+1) (by omega) h4)
 ·rw [ee];exact Sm.er
 rw [ee,ff];dsimp only;clear ee ff;rw [hx];exact Sm.ok (by omega) h6 (AL.nd hP ⟨hq2,trivial⟩ trivial)
theorem Sm.jX (hA:fH Pl L en K en' k) {E E':Nat->Rd Value} {i:Nat} (hi:i<=L.length) (hE:∀j,i<j->j<=L.length->Sm (AL Pl) L.length k (j+1) (E j) (E' (k+j))) {K0:Int} {x y:ByteArray} {a a':Int} (hP:Pl a a'):Sm (AL Pl) L.length k (i+1) (jX L en E K0 x y a i) (jX K en' E' K0 x y a' (k+i)):=by
 unfold Pz.jX;refine Sm.mark hA hi fun h4=>?_;obtain ⟨z,ee⟩|⟨b,b',j2,ee,ff,h5,h6,hq2⟩:=Sm.cs (hE (i+1) (by omega) h4)
 ·rw [ee];exact Sm.er
 rw [ee,ff];dsimp only;clear ee ff;refine Sm.mark hA h6 fun h7=>?_;obtain ⟨z,ee⟩|⟨e,e',j3,ee,ff,h8,h9,BC⟩:=Sm.cs (hE (j2+1) (by omega) h7)
 ·rw [ee];exact Sm.er
 rw [ee,ff];dsimp only;clear ee ff;exact Sm.ok (by omega) h9 (AL.nd hP ⟨hq2,BC,trivial⟩ trivial)
theorem Sm.nP (hA:fH Pl L en K en' k) {E E':Nat->Rd Value} {i:Nat} (hi:i<=L.length) (hE:∀j,i<j->j<=L.length->Sm (AL Pl) L.length k (j+1) (E j) (E' (k+j))) (hl:i<L.length) (hP:Pl (tk L en i).a (tk K en' (k+i)).a):Sm (AL Pl) L.length k (i+1) (nP L en E i) (nP K en' E' (k+i)):=by
 unfold Pz.nP;rw [show k+i+1=k+(i+1) from rfl];refine Sm.Ep hA (by decide) hl ?_ fun h4=>?_
 ·skip
  obtain ⟨z,ee⟩|⟨t,u,j,ee,ff,h2,h3,hx⟩:=Sm.cs (Sm.bM hA (c:=1) (.inl rfl) hl)
  ·rw [ee];exact Sm.er
  rw [ee,ff];dsimp only;clear ee ff;rw [hx];exact (Sm.jX hA h3 (fun q h5 h6=>hE q (by omega) h6) hP).lo (by omega)
 ·skip
  obtain ⟨z,ee⟩|⟨t,u,j,ee,ff,h2,h3,hx⟩:=Sm.cs (Sm.bM hA (c:=1) (.inl rfl) h4)
  ·rw [ee];exact Sm.er
  rw [ee,ff];dsimp only;clear ee ff;obtain ⟨z,ee⟩|⟨t2,u2,j2,ee,ff,h5,h6,hx2⟩:=Sm.cs (Sm.bM hA (c:=1) (.inl rfl) h3)
  ·rw [ee];exact Sm.er
  rw [ee,ff];dsimp only;clear ee ff;rw [hx,hx2];exact (Sm.jX hA h6 (fun q h5 h6=>hE q (by omega) h6) hP).lo (by omega)
theorem Sm.nQ (hA:fH Pl L en K en' k) {E E':Nat->Rd Value} {i:Nat} (hi:i<=L.length) (hE:∀j,i<j->j<=L.length->Sm (AL Pl) L.length k (j+1) (E j) (E' (k+j))) (hl:i<L.length) (hP:Pl (tk L en i).a (tk K en' (k+i)).a):Sm (AL Pl) L.length k (i+1) (nQ L en E i) (nQ K en' E' (k+i)):=by
 unfold Pz.nQ;rw [show k+i+1=k+(i+1) from rfl];obtain ⟨z,ee⟩|⟨c,c',j,ee,ff,h2,h3,hq⟩:=Sm.cs (hE (i+1) (by omega) hl)
 ·rw [ee];exact Sm.er
 rw [ee,ff];dsimp only;clear ee ff;refine Sm.mark hA h3 fun h4=>?_;obtain ⟨z,ee⟩|⟨t,t',j2,ee,ff,h5,h6,hq2⟩:=Sm.cs (hE (j+1) (by omega) h4)
 ·rw [ee];exact Sm.er
 rw [ee,ff];dsimp only;clear ee ff;refine Sm.mark hA h6 fun h7=>?_;obtain ⟨z,ee⟩|⟨u,u',j3,ee,ff,h8,h9,BC⟩:=Sm.cs (hE (j2+1) (by omega) h7)
 ·rw [ee];exact Sm.er
 rw [ee,ff];dsimp only;clear ee ff;exact Sm.ok (by omega) h9 (AL.nd hP ⟨hq,hq2,BC,trivial⟩ ⟨AL.leaf hP,AL.leaf hP,trivial⟩)
theorem Sm.mN (hA:fH Pl L en K en' k) {E E':Nat->Rd Value} {i:Nat} (hi:i<=L.length) (hE:∀j,i<j->j<=L.length->Sm (AL Pl) L.length k (j+1) (E j) (E' (k+j))) (hl:i<L.length) (hP:Pl (tk L en i).a (tk K en' (k+i)).a):Sm (AL Pl) L.length k (i+1) (mN L en E i) (mN K en' E' (k+i)):=by
 unfold Pz.mN;rw [show k+i+1=k+(i+1) from rfl];obtain ⟨z,ee⟩|⟨c,c',j,ee,ff,h2,h3,hq⟩:=Sm.cs (hE (i+1) (by omega) hl)
 ·rw [ee];exact Sm.er
 rw [ee,ff];dsimp only;clear ee ff;refine Sm.mark hA h3 fun h4=>?_;obtain ⟨z,ee⟩|⟨⟨p,e⟩,⟨p',e'⟩,j2,ee,ff,h5,h6,hq2⟩:=Sm.cs (Sm.jW hA h4 (fun q h5 h6=>hE q (by omega) h6))
 ·rw [ee];exact Sm.er
 rw [ee,ff];dsimp only;clear ee ff;obtain ⟨z,ee⟩|⟨⟨ps,es⟩,⟨ps',es'⟩,j3,ee,ff,h7,h8,BC⟩:=Sm.cs (Sm.kN hA (L.length+1) (K.length+1) j2 [p] [c,e] [p'] [c',e'] (fun q h5 h6=>hE q (by omega) h6) h6 (by omega) (by have:=hA.2;omega) ⟨hq2.1,trivial⟩ ⟨hq,hq2.2,trivial⟩)
 ·rw [ee];exact Sm.er
 rw [ee,ff];dsimp only;clear ee ff;refine Sm.mark hA h8 fun h9=>?_;exact Sm.ok (by omega) h9 (AL.nd hP BC.2 BC.1)
theorem Sm.fR (hA:fH Pl L en K en' k):∀(f g i:Nat),i<=L.length->f<=g->Sm (AL Pl) L.length k (i+1) (fR L en f i) (fR K en' g (k+i))
 | 0,g,i,hi,hg=>Sm.er
 | f+1,0,i,hi,hg=>by omega
 | f+1,g+1,i,hi,hg=>by
  have hE:∀j,i<j->j<=L.length->Sm (AL Pl) L.length k (j+1) (Pz.fR L en f j) (Pz.fR K en' g (k+j)):=fun j h1 h2=>Sm.fR hA f g j h2 (by omega);unfold Pz.fR;by_cases BD:bE (tk L en i) gy=true
  ·rw [if_pos BD,if_pos (show bE (tk K en' (k+i)) gy=true by rw [<- (hA.1 i hi).sg (s:=gy) (by decide)];exact BD)];exact Sm.nO hA hi hE (mJ BD) ((hA.1 i hi).pl (zQ BD))
  ·rw [if_neg BD,if_neg (show ¬ bE (tk K en' (k+i)) gy=true by rw [<- (hA.1 i hi).sg (s:=gy) (by decide)];exact BD)];by_cases BF:bE (tk L en i) gG=true
   ·rw [if_pos BF,if_pos (show bE (tk K en' (k+i)) gG=true by rw [<- (hA.1 i hi).sg (s:=gG) (by decide)];exact BF)];exact Sm.nP hA hi hE (mJ BF) ((hA.1 i hi).pl (zQ BF))
   ·rw [if_neg BF,if_neg (show ¬ bE (tk K en' (k+i)) gG=true by rw [<- (hA.1 i hi).sg (s:=gG) (by decide)];exact BF)];by_cases BG:bE (tk L en i) gM=true
    ·rw [if_pos BG,if_pos (show bE (tk K en' (k+i)) gM=true by rw [<- (hA.1 i hi).sg (s:=gM) (by decide)];exact BG)];exact Sm.nQ hA hi hE (mJ BG) ((hA.1 i hi).pl (zQ BG))
    ·rw [if_neg BG,if_neg (show ¬ bE (tk K en' (k+i)) gM=true by rw [<- (hA.1 i hi).sg (s:=gM) (by decide)];exact BG)];by_cases BH:bE (tk L en i) ig=true
     ·rw [if_pos BH,if_pos (show bE (tk K en' (k+i)) ig=true by rw [<- (hA.1 i hi).sg (s:=ig) (by decide)];exact BH)];exact Sm.mN hA hi hE (mJ BH) ((hA.1 i hi).pl (zQ BH))
     ·rw [if_neg BH,if_neg (show ¬ bE (tk K en' (k+i)) ig=true by rw [<- (hA.1 i hi).sg (s:=ig) (by decide)];exact BH)];exact Sm.mM hA hi hE
theorem Sm.iR (hA:fH Pl L en K en' k) {i:Nat} (hi:i<=L.length):Sm (fun a b:Value=>a=b) L.length k (i+1) (iR L en i) (iR K en' (k+i)):=by
 unfold Pz.iR;obtain ⟨z,ee⟩|⟨t,u,j,ee,ff,h2,h3,hx⟩:=Sm.cs (Sm.bM hA (c:=2) (.inr (.inl rfl)) hi)
 ·rw [ee];exact Sm.er
 rw [ee,ff];dsimp only;clear ee ff;obtain ⟨z,ee⟩|⟨ts,ts',j2,ee,ff,h6,h7,zY⟩:=Sm.cs (Sm.many hA (UG hA) (P:=fun a b:Value=>a=b) (L.length+1) (K.length+1) j [] [] (fun q h4 h5=>Sm.iQ hA h5 (fun r h6 h7=>Sm.jr hA (L.length+1) (K.length+1) r h7 (by have:=hA.2;omega))) h3 (by omega) (by have:=hA.2;omega) trivial)
 ·rw [ee];exact Sm.er
 rw [ee,ff];dsimp only;clear ee ff;rw [K4 zY,hx];exact Sm.ok (by omega) h7 rfl
theorem UI (hA:fH Pl L en K en' k):∀(f g i:Nat) (acc:List ByteArray),i<=L.length->L.length<i+f->f<=g->(jT K en' g (k+i) acc).1=(jT L en f i acc).1/\(jT K en' g (k+i) acc).2=k+(jT L en f i acc).2/\i<=(jT L en f i acc).2/\(jT L en f i acc).2<=L.length
 | 0,g,i,acc,hi,hf,hg=>by omega
 | f+1,0,i,acc,hi,hf,hg=>by omega
 | f+1,g+1,i,acc,hi,hf,hg=>by
  unfold jT;by_cases h:(tk L en i).k=3
  ·have hx:=((hA.1 i hi).xn (by rw [h];decide)).1;have hl:=qI h (.inr (.inr (.inl rfl)));rw [if_pos h,if_pos (((hA.1 i hi).kd (.inr (.inr (.inl rfl)))).1 h),<- hx];obtain ⟨h1,h2,h3,h4⟩:=UI hA f g (i+1) (acc++[(tk L en i).x]) hl (by omega) (by omega);exact ⟨h1,h2,by omega,h4⟩
  ·rw [if_neg h,if_neg (fun h'=>h (((hA.1 i hi).kd (.inr (.inr (.inl rfl)))).2 h'))];exact ⟨rfl,rfl,Nat.le_refl _,hi⟩
theorem Sm.jY (hA:fH Pl L en K en' k):∀(f g i:Nat) (acc:List Value),i<=L.length->L.length<i+f->f<=g->Sm (fun a b:List Value=>a=b) L.length k i (jY L en f i acc) (jY K en' g (k+i) acc)
 | 0,g,i,acc,hi,hf,hg=>by omega
 | f+1,0,i,acc,hi,hf,hg=>by omega
 | f+1,g+1,i,acc,hi,hf,hg=>by
  unfold Pz.jY;refine Sm.Ep hA (by decide) hi (Sm.ok (Nat.le_refl _) hi rfl) fun h4=>?_;obtain ⟨z,ee⟩|⟨c,c',j,ee,ff,h5,h6,hq⟩:=Sm.cs (Sm.iR hA h4)
  ·rw [ee];exact Sm.er
  rw [ee,ff];dsimp only;clear ee ff;rw [hq];exact (Sm.jY hA f g j _ h6 (by omega) (by omega)).lo (by omega)
theorem Sm.mO (hA:fH Pl L en K en' k) {i:Nat} (hl:i<L.length) (hP:Pl (tk L en i).a (tk K en' (k+i)).a):Sm (rV Pl) L.length k (i+1) (mO L en i) (mO K en' (k+i)):=by
 unfold Pz.mO;rw [show k+i+1=k+(i+1) from rfl];obtain ⟨z,ee⟩|⟨t,u,j,ee,ff,h2,h3,hx⟩:=Sm.cs (Sm.bM hA (c:=1) (.inl rfl) hl)
 ·rw [ee];exact Sm.er
 rw [ee,ff];dsimp only;clear ee ff;obtain ⟨p1,p2,p3,p4⟩:=UI hA (L.length+1) (K.length+1) j [] h3 (by omega) (by have:=hA.2;omega);rw [p1,p2,hx];refine Sm.mark hA p4 fun h4=>?_;obtain ⟨z,ee⟩|⟨c,c',j2,ee,ff,h5,h6,hq⟩:=Sm.cs (Sm.iR hA h4)
 ·rw [ee];exact Sm.er
 rw [ee,ff];dsimp only;clear ee ff;rw [hq];obtain ⟨z,ee⟩|⟨cs,cs',j3,ee,ff,h7,h8,hq2⟩:=Sm.cs (Sm.jY hA (L.length+1) (K.length+1) j2 [c'] h6 (by omega) (by have:=hA.2;omega))
 ·rw [ee];exact Sm.er
 rw [ee,ff];dsimp only;clear ee ff;rw [hq2];refine Sm.mark hA h8 fun h9=>?_;exact Sm.ok (by omega) h9 ⟨_,_,_,_,_,rfl,rfl,hP⟩
theorem Sm.mG (hA:fH Pl L en K en' k):∀(f g i:Nat) (acc acc':List Value),i<=L.length->L.length<i+f->f<=g->l2 (rV Pl) acc acc'->Sm (l2 (rV Pl)) L.length k i (mG L en f i acc) (mG K en' g (k+i) acc')
 | 0,g,i,acc,acc',hi,hf,hg,ha=>by omega
 | f+1,0,i,acc,acc',hi,hf,hg,ha=>by omega
 | f+1,g+1,i,acc,acc',hi,hf,hg,ha=>by
  unfold Pz.mG;rw [<- (hA.1 i hi).sg (s:=oI) (by decide)];cases h:bE (tk L en i) oI with
  | false=>exact Sm.ok (Nat.le_refl _) hi ha
  | true =>
   rw [if_pos rfl,if_pos rfl];obtain ⟨z,ee⟩|⟨d,d',j,ee,ff,h5,h6,hq⟩:=Sm.cs (Sm.mO hA (mJ h) ((hA.1 i hi).pl (zQ h)))
   ·rw [ee];exact Sm.er
   rw [ee,ff];dsimp only;clear ee ff;exact (Sm.mG hA f g j _ _ h6 (by omega) (by omega) (GJ ha hq)).lo (by omega)
end
end
end Pz
end Go.Proofs.YtkdbgopgjbfhbaaGreatDoor
