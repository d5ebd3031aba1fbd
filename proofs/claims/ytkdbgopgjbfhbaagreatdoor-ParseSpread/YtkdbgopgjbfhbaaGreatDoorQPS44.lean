/- Texts that the claim needs. -/
import Derived.Test.YtkdbgopgjbfhbaaGreatDoorQPS41
import Derived.Test.YtkdbgopgjbfhbaaGreatDoorQPS37
import Derived.Test.YtkdbgopgjbfhbaaGreatDoorQPS36
import Derived.Test.YtkdbgopgjbfhbaaGreatDoorQPS39
namespace Go.Proofs.YtkdbgopgjbfhbaaGreatDoor
open Go.RowKit Lx Pz bb
set_option linter.unusedVariables false
namespace Pz
theorem MQ {f:Nat->Value->Nat} (hf:∀c t,c+1<=f c t) (l:List Value) (c:Nat):c<=dY f c l:=by
 induction l generalizing c with
 | nil=>exact Nat.le_refl _
 | cons t l ih =>
  unfold dY;split
  ·exact Nat.le_refl _
  ·have:=hf c t;have:=ih (f c t);omega
theorem VP:∀(d c:Nat) (t:Value),c+1<=fU d c t
 | 0,c,t=>Nat.le_refl _
 | d+1,c,t=>by unfold fU;exact MQ (VP d) _ _
theorem Qc:∀(d c:Nat) (t:Value),c+1<=ij d c t
 | 0,c,t=>Nat.le_refl _
 | d+1,c,t=>by unfold ij;exact Nat.le_trans (MQ (Qc d) _ _) (MQ (VP d) _ _)
end Pz
namespace Pz
end Pz
namespace Pz
def P9 (d:Nat) (ds:List Value) (e:Value):Bool:=!kS d ds e && (!oo 256 ds e && (ds.all (De 256) && yP 256 e))
end Pz
namespace Pz
theorem GT.nd {k:Int} {x y:ByteArray} {n:Int} {es ps:List Value} {a:Int} (h:uE (nd k x y n es ps a)=true) (ha:∀x ∈ es,GT x):GT (nd k x y n es ps a):=GT.mk h ha
theorem GP.nd {k:Int} {x y:ByteArray} {n:Int} {es ps:List Value} {a:Int} (h:uF (nd k x y n es ps a)=true) (ha:∀x ∈ es,GP x):GP (nd k x y n es ps a):=GP.mk h ha
theorem GE.nd {k:Int} {x y:ByteArray} {n:Int} {es ps:List Value} {a:Int} (h:mq (nd k x y n es ps a)=true) (ha:∀x ∈ es,GE x) (hp:∀x ∈ ps,GP x):GE (nd k x y n es ps a):=GE.mk h ha hp
theorem Ms {t:Tk} {s:ByteArray} (h:bE t s=true):t.x=s:=by
 unfold bE at h;rw [Bool.and_eq_true,decide_eq_true_eq] at h;exact h.2
section
variable {L:List Tk} {en:Int}
theorem BL {K:Int} {i:Nat} {t:Tk} {j:Nat} (h:bM L en K i=.ok (t,j)):t=tk L en i/\(tk L en i).k=K:=by
 unfold bM at h;split at h
 ·rename_i hk;injection h with h;injection h with h1 h2;exact ⟨h1.symm,hk⟩
 ·cases h
theorem Mt {E:Nat->Rd Value} {i:Nat} {e:Value} {j:Nat} (h:brk L en E i=.ok (e,j)):∃i' j',E i'=.ok (e,j'):=by
 unfold brk at h;split at h
 ·cases h
 ·rename_i i1 h1;split at h
  ·cases h
  ·rename_i e1 j1 h2;split at h
   ·cases h
   ·injection h with h;injection h with h3 h4;subst h3;exact ⟨_,_,h2⟩
theorem Ev {P:Value->Prop} {nx:Tk->Bool} {A:Nat->Rd Value} (hA:∀i e j,A i=.ok (e,j)->P e):∀(f i:Nat) (acc ts:List Value) (j:Nat),(∀x ∈ acc,P x)->dE L en nx A f i acc=.ok (ts,j)->∀x ∈ ts,P x
 | 0,i,acc,ts,j,ha,h=>by
  unfold dE at h;injection h with h;injection h with h1 h2;subst h1;exact ha
 | f+1,i,acc,ts,j,ha,h=>by
  unfold dE at h;split at h
  ·split at h
   ·cases h
   ·rename_i e1 j1 h1;exact Ev hA f _ _ ts j (Et ha (hA _ _ _ h1)) h
  ·injection h with h;injection h with h1 h2;subst h1;exact ha
end
section
variable {L:List Tk} {en:Int} (hG:GK L)
theorem aeb (hG:GK L) {i:Nat} (hk:(tk L en i).k=1):GT (qF (tk L en i).x):=by
 unfold qF;split
 ·exact GT.nd adG il
 ·rename_i hx;exact GT.nd (U7 (mK hG hk (by decide) (by decide) (by decide)) hx) il
theorem Mv (hG:GK L) {T:Nat->Rd Value} (hT:∀i e j,T i=.ok (e,j)->GT e) (i:Nat) (t:Value) (j:Nat) (h:iQ L en T i=.ok (t,j)):GT t:=by
 unfold iQ at h;split at h
 ·rename_i hk;injection h with h;injection h with h1 h2;subst h1;exact aeb hG hk
 ·split at h
  ·rename_i hk;injection h with h;injection h with h1 h2;subst h1;exact GT.nd (adH (mK hG hk (by decide) (by decide) (by decide))) il
  ·obtain ⟨i',j',h'⟩:=Mt h;exact hT _ _ _ h'
theorem aec (hG:GK L) {T:Nat->Rd Value} (hT:∀i e j,T i=.ok (e,j)->GT e) (i:Nat) (t:Value) (j:Nat) (h:mg L en T i=.ok (t,j)):GT t:=by
 unfold mg at h;split at h
 ·cases h
 ·rename_i t1 j1 h1;split at h
  ·rename_i hk;split at h
   ·cases h
   ·rename_i ts j2 h2;injection h with h;injection h with h3 h4;subst h3;exact GT.nd (U7 (mK hG hk.1 (by decide) (by decide) (by decide)) hk.2) (Ev (Mv hG hT) _ _ _ _ _ il h2)
  ·injection h with h;injection h with h3 h4;subst h3;exact Mv hG hT _ _ _ h1
theorem Mw (hG:GK L):∀(f i:Nat) (t:Value) (j:Nat),jr L en f i=.ok (t,j)->GT t
 | 0,i,t,j,h=>by unfold jr at h;cases h
 | f+1,i,t,j,h=>by
  unfold jr at h;split at h
  ·cases h
  ·rename_i t1 j1 h1;have g1:=aec hG (Mw hG f) _ _ _ h1;split at h
   ·injection h with h;injection h with h3 h4;subst h3;exact g1
   ·split at h
    ·cases h
    ·rename_i u j2 h2;injection h with h;injection h with h3 h4;subst h3;exact GT.nd adI (mem2 g1 (Mw hG f _ _ _ h2))
theorem Vs (hG:GK L) {E:Nat->Rd Value} (hE:∀i e j,E i=.ok (e,j)->GP e) (i:Nat) (e:Value) (j:Nat) (h:jq L en E i=.ok (e,j)):GP e:=by
 unfold jq at h;split at h
 ·rename_i hk;injection h with h;injection h with h1 h2;subst h1;exact GP.nd (adK _ (mK hG hk (by decide) (by decide) (by decide))) il
 ·split at h
  ·injection h with h;injection h with h1 h2;subst h1;exact GP.nd (adJ _) il
  ·split at h
   ·rename_i hk;injection h with h;injection h with h1 h2;subst h1;exact GP.nd (adL _ (U5 hG hk)) il
   ·split at h
    ·rename_i hk;injection h with h;injection h with h1 h2;subst h1;exact GP.nd (Es _ (mK hG hk (by decide) (by decide) (by decide))) il
    ·obtain ⟨i',j',h'⟩:=Mt h;exact hE _ _ _ h'
theorem Mx (hG:GK L):∀(f i:Nat) (t:Value) (j:Nat),gD L en f i=.ok (t,j)->GP t
 | 0,i,t,j,h=>by unfold gD at h;cases h
 | f+1,i,t,j,h=>by
  unfold gD at h;split at h
  ·rename_i hk;split at h
   ·cases h
   ·rename_i ps j2 h2;injection h with h;injection h with h3 h4;subst h3;exact GP.nd (Es _ (mK hG hk (by decide) (by decide) (by decide))) (Ev (Vs hG (Mx hG f)) _ _ _ _ _ il h2)
  ·exact Vs hG (Mx hG f) _ _ _ h
theorem G8 (hG:GK L) {E:Nat->Rd Value} (hE:∀i e j,E i=.ok (e,j)->GE e) (i:Nat) (e:Value) (j:Nat) (h:fI L en E i=.ok (e,j)):GE e:=by
 unfold fI at h;split at h
 ·rename_i hk;injection h with h;injection h with h1 h2;subst h1;exact GE.nd (adM _ (mK hG hk (by decide) (by decide) (by decide))) il il
 ·split at h
  ·rename_i hk;injection h with h;injection h with h1 h2;subst h1;exact GE.nd (adN _ (U5 hG hk)) il il
  ·split at h
   ·rename_i hk;injection h with h;injection h with h1 h2;subst h1;exact GE.nd (Va _ (mK hG hk (by decide) (by decide) (by decide))) il il
   ·obtain ⟨i',j',h'⟩:=Mt h;exact hE _ _ _ h'
theorem Vt (hG:GK L) {E:Nat->Rd Value} (hE:∀i e j,E i=.ok (e,j)->GE e):∀(f i:Nat) (e r:Value) (j:Nat),GE e->lj L en E f i e=.ok (r,j)->GE r
 | 0,i,e,r,j,he,h=>by
  unfold lj at h;injection h with h;injection h with h1 h2;subst h1;exact he
 | f+1,i,e,r,j,he,h=>by
  unfold lj at h;split at h
  ·split at h
   ·cases h
   ·rename_i a j1 h1;exact Vt hG hE f _ _ r j (GE.nd (adP _) (mem2 he (G8 hG hE _ _ _ h1)) il) h
  ·injection h with h;injection h with h1 h2;subst h1;exact he
theorem Vu (hG:GK L) {E:Nat->Rd Value} (hE:∀i e j,E i=.ok (e,j)->GE e) (i:Nat) (e:Value) (j:Nat) (h:jD L en E i=.ok (e,j)):GE e:=by
 unfold jD at h;split at h
 ·split at h
  ·cases h
  ·rename_i a j1 h1;injection h with h;injection h with h2 h3;subst h2;exact GE.nd (adT _) (mem1 (G8 hG hE _ _ _ h1)) il
 ·split at h
  ·rename_i hk;split at h
   ·cases h
   ·rename_i es j1 h1;injection h with h;injection h with h2 h3;subst h2;exact GE.nd (Va _ (mK hG hk (by decide) (by decide) (by decide))) (Ev (G8 hG hE) _ _ _ _ _ il h1) il
  ·split at h
   ·cases h
   ·rename_i a j1 h1;exact Vt hG hE _ _ _ _ _ (G8 hG hE _ _ _ h1) h
end
section
variable {L:List Tk} {en:Int}
theorem G9 {sg:Tk->Bool} (hs:∀t,sg t=true->eO 6 t.x=true) {A:Nat->Rd Value} (hA:∀i e j,A i=.ok (e,j)->GE e):∀(f i:Nat) (e r:Value) (j:Nat),GE e->fw L en sg A f i e=.ok (r,j)->GE r
 | 0,i,e,r,j,he,h=>by
  unfold fw at h;injection h with h;injection h with h1 h2;subst h1;exact he
 | f+1,i,e,r,j,he,h=>by
  unfold fw at h;split at h
  ·rename_i hk;split at h
   ·cases h
   ·rename_i a j1 h1;exact G9 hs hA f _ _ r j (GE.nd (adS _ (hs _ hk)) (mem2 he (hA _ _ _ h1)) il) h
  ·injection h with h;injection h with h1 h2;subst h1;exact he
theorem aed (t:Tk) (h:tH t=true):eO 6 t.x=true:=by
 unfold tH at h;rw [Bool.or_eq_true,Bool.or_eq_true] at h;rcases h with (h|h)|h<;>rw [Ms h]<;>decide
theorem aee (t:Tk) (h:tJ t=true):eO 6 t.x=true:=by
 unfold tJ at h;rw [Bool.or_eq_true] at h;rcases h with h|h<;>rw [Ms h]<;>decide
theorem aef (t:Tk) (h:tN t=true):eO 6 t.x=true:=by
 unfold tN at h;rw [Bool.or_eq_true] at h;rcases h with h|h<;>rw [Ms h]<;>decide
end
section
variable {L:List Tk} {en:Int} (hG:GK L)
theorem Vv (hG:GK L) {E:Nat->Rd Value} (hE:∀i e j,E i=.ok (e,j)->GE e) (i:Nat) (e:Value) (j:Nat) (h:jE L en E i=.ok (e,j)):GE e:=by
 unfold jE at h;split at h
 ·cases h
 ·rename_i a j1 h1;exact G9 aed (Vu hG hE) _ _ _ _ _ (Vu hG hE _ _ _ h1) h
theorem Vw (hG:GK L) {E:Nat->Rd Value} (hE:∀i e j,E i=.ok (e,j)->GE e) (i:Nat) (e:Value) (j:Nat) (h:jF L en E i=.ok (e,j)):GE e:=by
 unfold jF at h;split at h
 ·cases h
 ·rename_i a j1 h1;exact G9 aee (Vv hG hE) _ _ _ _ _ (Vv hG hE _ _ _ h1) h
theorem aeg (hG:GK L) {E:Nat->Rd Value} (hE:∀i e j,E i=.ok (e,j)->GE e) (i:Nat) (e:Value) (j:Nat) (h:lS L en E i=.ok (e,j)):GE e:=by
 unfold lS at h;split at h
 ·cases h
 ·rename_i a j1 h1;exact G9 aef (Vw hG hE) _ _ _ _ _ (Vw hG hE _ _ _ h1) h
theorem aeh (hG:GK L) {E:Nat->Rd Value} (hE:∀i e j,E i=.ok (e,j)->GE e) (i:Nat) (e:Value) (j:Nat) (h:mM L en E i=.ok (e,j)):GE e:=by
 unfold mM at h;split at h
 ·cases h
 ·rename_i a j1 h1;have g1:=aeg hG hE _ _ _ h1;split at h
  ·injection h with h;injection h with h2 h3;subst h2;exact g1
  ·split at h
   ·cases h
   ·rename_i u j2 h2;injection h with h;injection h with h3 h4;subst h3;exact GE.nd (Mg _ rfl (by simp)) (mem2 g1 (hE _ _ _ h2)) (mem1 (GP.nd (Es _ (by decide)) il))
theorem Vx (hG:GK L) {E:Nat->Rd Value} (hE:∀i e j,E i=.ok (e,j)->GE e) (i:Nat) (p e:Value) (j:Nat) (h:jW L en E i=.ok ((p,e),j)):GP p/\GE e:=by
 unfold jW at h;split at h
 ·cases h
 ·rename_i p1 j1 h1;split at h
  ·cases h
  ·split at h
   ·cases h
   ·rename_i e1 j2 h2;injection h with h;injection h with h3 h4;injection h3 with h5 h6;subst h5 h6;exact ⟨Mx hG _ _ _ _ h1,hE _ _ _ h2⟩
theorem Vy (hG:GK L) {E:Nat->Rd Value} (hE:∀i e j,E i=.ok (e,j)->GE e):∀(f i:Nat) (ps es ps' es':List Value) (j:Nat),(∀x ∈ ps,GP x)->(∀x ∈ es,GE x)->es.length=ps.length+1->ps.length≠0->kN L en E f i ps es=.ok ((ps',es'),j)->(∀x ∈ ps',GP x)/\(∀x ∈ es',GE x)/\es'.length=ps'.length+1/\ps'.length≠0
 | 0,i,ps,es,ps',es',j,hp,he,hl,h0,h=>by
  unfold kN at h;injection h with h;injection h with h3 h4;injection h3 with h5 h6;subst h5 h6;exact ⟨hp,he,hl,h0⟩
 | f+1,i,ps,es,ps',es',j,hp,he,hl,h0,h=>by
  unfold kN at h;split at h
  ·injection h with h;injection h with h3 h4;injection h3 with h5 h6;subst h5 h6;exact ⟨hp,he,hl,h0⟩
  ·split at h
   ·cases h
   ·rename_i p e j1 h1;obtain ⟨g1,g2⟩:=Vx hG hE _ _ _ _ h1;exact Vy hG hE f _ _ _ _ _ j (Et hp g1) (Et he g2) (by simp [hl]) (by simp) h
theorem aei (hG:GK L) {E:Nat->Rd Value} (hE:∀i e j,E i=.ok (e,j)->GE e) (i:Nat) (e:Value) (j:Nat) (h:nO L en E i=.ok (e,j)):GE e:=by
 unfold nO at h;split at h
 ·cases h
 ·rename_i t j1 h1;have ht:=BL h1;split at h
  ·cases h
  ·split at h
   ·cases h
   ·rename_i e1 j2 h2;injection h with h;injection h with h3 h4;subst h3;exact GE.nd (adO _ (by rw [ht.1];exact mK hG ht.2 (by decide) (by decide) (by decide))) (mem1 (hE _ _ _ h2)) il
theorem Vz (hG:GK L) {E:Nat->Rd Value} (hE:∀i e j,E i=.ok (e,j)->GE e) {k:Int} {x y:ByteArray} {a:Int} (hd:∀b e,mq (nd k x y 0 [b,e] [] a)=true) (i:Nat) (e:Value) (j:Nat) (h:jX L en E k x y a i=.ok (e,j)):GE e:=by
 unfold jX at h;split at h
 ·cases h
 ·split at h
  ·cases h
  ·rename_i b j1 h1;split at h
   ·cases h
   ·split at h
    ·cases h
    ·rename_i e1 j2 h2;injection h with h;injection h with h3 h4;subst h3;exact GE.nd (hd _ _) (mem2 (hE _ _ _ h1) (hE _ _ _ h2)) il
theorem aej (hG:GK L) {E:Nat->Rd Value} (hE:∀i e j,E i=.ok (e,j)->GE e) (i:Nat) (e:Value) (j:Nat) (h:nP L en E i=.ok (e,j)):GE e:=by
 unfold nP at h;split at h
 ·split at h
  ·cases h
  ·rename_i t j1 h1;have ht:=BL h1;exact Vz hG hE (fun b e=>adQ _ (by rw [ht.1];exact mK hG ht.2 (by decide) (by decide) (by decide))) _ _ _ h
 ·split at h
  ·cases h
  ·rename_i t j1 h1;have ht:=BL h1;split at h
   ·cases h
   ·rename_i u j2 h2;have hu:=BL h2;exact Vz hG hE (fun b e=>adR _ (by rw [ht.1];exact mK hG ht.2 (by decide) (by decide) (by decide)) (by rw [hu.1];exact mK hG hu.2 (by decide) (by decide) (by decide))) _ _ _ h
theorem aek (hG:GK L) {E:Nat->Rd Value} (hE:∀i e j,E i=.ok (e,j)->GE e) (i:Nat) (e:Value) (j:Nat) (h:nQ L en E i=.ok (e,j)):GE e:=by
 unfold nQ at h;split at h
 ·cases h
 ·rename_i c j1 h1;split at h
  ·cases h
  ·split at h
   ·cases h
   ·rename_i t j2 h2;split at h
    ·cases h
    ·split at h
     ·cases h
     ·rename_i u j3 h3;injection h with h;injection h with h4 h5;subst h4;exact GE.nd (Mg _ rfl (by simp)) (mem3 (hE _ _ _ h1) (hE _ _ _ h2) (hE _ _ _ h3)) (mem2 (GP.nd (Es _ (by decide)) il) (GP.nd (Es _ (by decide)) il))
theorem ael (hG:GK L) {E:Nat->Rd Value} (hE:∀i e j,E i=.ok (e,j)->GE e) (i:Nat) (e:Value) (j:Nat) (h:mN L en E i=.ok (e,j)):GE e:=by
 unfold mN at h;split at h
 ·cases h
 ·rename_i c j1 h1;split at h
  ·cases h
  ·split at h
   ·cases h
   ·rename_i p e2 j2 h2;obtain ⟨g1,g2⟩:=Vx hG hE _ _ _ _ h2;split at h
    ·cases h
    ·rename_i ps es j3 h3;obtain ⟨q1,q2,q3,q4⟩:=Vy hG hE _ _ _ _ _ _ _ (mem1 g1) (mem2 (hE _ _ _ h1) g2) rfl (by simp) h3;split at h
     ·cases h
     ·injection h with h;injection h with h4 h5;subst h4;exact GE.nd (Mg _ q3 q4) q2 q1
theorem BM (hG:GK L):∀(f i:Nat) (e:Value) (j:Nat),fR L en f i=.ok (e,j)->GE e
 | 0,i,e,j,h=>by unfold fR at h;cases h
 | f+1,i,e,j,h=>by
  unfold fR at h;split at h
  ·exact aei hG (BM hG f) _ _ _ h
  ·split at h
   ·exact aej hG (BM hG f) _ _ _ h
   ·split at h
    ·exact aek hG (BM hG f) _ _ _ h
    ·split at h
     ·exact ael hG (BM hG f) _ _ _ h
     ·exact aeh hG (BM hG f) _ _ _ h
end
def GC (c:Value):Prop:=∀m,tP m c=false->Dc m c=true
def GD (c:Value):Prop:=∀m,tO m c=false->De m c=true
theorem GC.mk {x:ByteArray} {ts:List Value} (h:eO 2 x=true) (ht:∀t ∈ ts,GT t):GC (sx x ts):=fun m hm=>by
 show (eO 2 x && ts.all (yN m))=true;rw [h,Bool.true_and,List.all_eq_true];exact fun t hx=>ht t hx m (xK (f:=l7 m) (l:=ts) hm hx)
theorem GD.mk {x:ByteArray} {ps:List ByteArray} {cs:List Value} {a:Int} (h:eO 1 x=true) (hp:∀p ∈ ps,eO 3 p=true) (h0:cs≠[]) (hc:∀t ∈ cs,GC t):GD (oH x ps cs a):=fun m hm=>by
 show (eO 1 x && ((ps.map Value.string).all (fun p=>eO 3 (wC p)) && (decide (0<cs.length) && cs.all (Dc m))))=true;rw [h,decide_eq_true (List.length_pos_iff.2 h0),Bool.true_and,Bool.true_and,Bool.and_eq_true,List.all_eq_true,List.all_eq_true];refine ⟨fun p hx=>?_,fun t hx=>hc t hx m (xK (f:=tP m) (l:=cs) hm hx)⟩;obtain ⟨q,hq,rfl⟩:=List.mem_map.1 hx;exact hp q hq
section
variable {L:List Tk} {en:Int} (hG:GK L)
theorem VA (hG:GK L) (i:Nat) (c:Value) (j:Nat) (h:iR L en i=.ok (c,j)):GC c:=by
 unfold iR at h;split at h
 ·cases h
 ·rename_i t j1 h1;have ht:=BL h1;split at h
  ·cases h
  ·rename_i ts j2 h2;injection h with h;injection h with h3 h4;subst h3;exact GC.mk (by rw [ht.1];exact mK hG ht.2 (by decide) (by decide) (by decide)) (Ev (Mv hG (Mw hG _)) _ _ _ _ _ il h2)
theorem VB (hG:GK L):∀(f i:Nat) (acc:List ByteArray),(∀p ∈ acc,eO 3 p=true)->∀p ∈ (jT L en f i acc).1,eO 3 p=true
 | 0,i,acc,h=>h
 | f+1,i,acc,h=>by
  unfold jT;split
  ·rename_i hk;refine VB hG f _ _ (fun p hp=>?_);rcases List.mem_append.1 hp with hp|hp
   ·exact h p hp
   ·rw [List.mem_singleton.1 hp];exact mK hG hk (by decide) (by decide) (by decide)
  ·exact h
theorem VC (hG:GK L):∀(f i:Nat) (acc cs:List Value) (j:Nat),(∀x ∈ acc,GC x)->acc≠[]->jY L en f i acc=.ok (cs,j)->(∀x ∈ cs,GC x)/\cs≠[]
 | 0,i,acc,cs,j,ha,h0,h=>by
  unfold jY at h;injection h with h;injection h with h1 h2;subst h1;exact ⟨ha,h0⟩
 | f+1,i,acc,cs,j,ha,h0,h=>by
  unfold jY at h;split at h
  ·injection h with h;injection h with h1 h2;subst h1;exact ⟨ha,h0⟩
  ·split at h
   ·cases h
   ·rename_i c j1 h1;exact VC hG f _ _ cs j (Et ha (VA hG _ _ _ h1)) (by simp) h
theorem aem (hG:GK L) (i:Nat) (d:Value) (j:Nat) (h:mO L en i=.ok (d,j)):GD d:=by
 unfold mO at h;split at h
 ·cases h
 ·rename_i t j1 h1;have ht:=BL h1;split at h
  ·cases h
  ·split at h
   ·cases h
   ·rename_i c j3 h3;split at h
    ·cases h
    ·rename_i cs j4 h4;obtain ⟨q1,q2⟩:=VC hG _ _ _ _ _ (mem1 (VA hG _ _ _ h3)) (by simp) h4;split at h
     ·cases h
     ·injection h with h;injection h with h5 h6;subst h5;exact GD.mk (by rw [ht.1];exact mK hG ht.2 (by decide) (by decide) (by decide)) (VB hG _ _ _ (fun p hp=>by cases hp)) q2 q1
theorem VD (hG:GK L):∀(f i:Nat) (acc ds:List Value) (j:Nat),(∀x ∈ acc,GD x)->mG L en f i acc=.ok (ds,j)->∀x ∈ ds,GD x
 | 0,i,acc,ds,j,ha,h=>by
  unfold mG at h;injection h with h;injection h with h1 h2;subst h1;exact ha
 | f+1,i,acc,ds,j,ha,h=>by
  unfold mG at h;split at h
  ·split at h
   ·cases h
   ·rename_i d j1 h1;exact VD hG f _ _ ds j (Et ha (aem hG _ _ _ h1)) h
  ·injection h with h;injection h with h1 h2;subst h1;exact ha
theorem YX (hG:GK L) {ds:List Value} {t:Value} {j:Nat} (h:kz L en=.ok ((ds,t),j)):(∀x ∈ ds,GD x)/\GE t:=by
 unfold kz zw Bn at h;split at h
 ·cases h
 ·rename_i ds1 j1 h1;split at h
  ·cases h
  ·rename_i e1 j2 h2;split at h
   ·cases h
   ·injection h with h;injection h with h3 h4;injection h3 with h5 h6;subst h5 h6;exact ⟨VD hG _ _ _ _ _ il h1,BM hG _ _ _ _ h2⟩
end
theorem YW {ds:List Value} {t:Value} {m:Nat} (h:(∀x ∈ ds,GD x)/\GE t) (hd:oo m ds t=false):Jz m ds t=true:=by
 unfold oo at hd;rw [Bool.or_eq_false_iff] at hd;unfold Jz;rw [Bool.and_eq_true,List.all_eq_true];exact ⟨fun x hx=>h.1 x hx m (xK hd.1 hx),h.2 m hd.2⟩
end Pz
namespace Pz
section
variable {L:List Tk} {en:Int} {P:Int->Prop} (h0:P 0) (ht:∀i,P (tk L en i).a)
theorem zZ (h0:P 0) (ht:∀i,P (tk L en i).a) {s:ByteArray} {i:Nat} {z:Int} (h:aX L en s i=.error z):P z:=by
 unfold aX at h;split at h
 ·cases h
 ·injection h with h;subst h;exact ht i
theorem G3 (h0:P 0) (ht:∀i,P (tk L en i).a) {k:Int} {i:Nat} {z:Int} (h:bM L en k i=.error z):P z:=by
 unfold bM at h;split at h
 ·cases h
 ·injection h with h;subst h;exact ht i
theorem L6 (h0:P 0) (ht:∀i,P (tk L en i).a) (E:Nat->Rd Value) (hE:∀i z,E i=.error z->P z)  (i:Nat) (z:Int) (h:brk L en E i=.error z):P z:=by
 unfold brk at h
 repeat' (first|(cases h;done)|split at h)
 all_goals (first|(cases h;done)|skip)
 all_goals (try (injection h with h;subst h))
 all_goals (first|exact ht _|exact zZ h0 ht (by assumption)|exact hE _ _ (by assumption))
theorem Er (h0:P 0) (ht:∀i,P (tk L en i).a) (nx:Tk->Bool) (A:Nat->Rd Value) (hA:∀i z,A i=.error z->P z):∀(f i:Nat) (acc:List Value) (z:Int),dE L en nx A f i acc=.error z->P z
 | 0,i,acc,z,h=>by unfold dE at h;cases h
 | f+1,i,acc,z,h=>by
  unfold dE at h;split at h
  ·split at h
   ·injection h with h;subst h;exact hA _ _ (by assumption)
   ·exact Er h0 ht nx A hA f _ _ z h
  ·cases h
theorem L8 (h0:P 0) (ht:∀i,P (tk L en i).a) (E:Nat->Rd Value) (hE:∀i z,E i=.error z->P z)  (i:Nat) (z:Int) (h:iQ L en E i=.error z):P z:=by
 unfold iQ at h
 repeat' (first|(cases h;done)|split at h)
 all_goals (first|(cases h;done)|skip)
 all_goals (try (injection h with h;subst h))
 all_goals (first|exact ht _|exact L6 h0 ht E hE _ _ h)
theorem adl (h0:P 0) (ht:∀i,P (tk L en i).a) (E:Nat->Rd Value) (hE:∀i z,E i=.error z->P z)  (i:Nat) (z:Int) (h:mg L en E i=.error z):P z:=by
 unfold mg at h
 repeat' (first|(cases h;done)|split at h)
 all_goals (first|(cases h;done)|skip)
 all_goals (try (injection h with h;subst h))
 all_goals (first|exact ht _|exact L8 h0 ht E hE _ _ (by assumption)|exact Er h0 ht _ _ (L8 h0 ht E hE) _ _ _ _ (by assumption))
theorem L9 (h0:P 0) (ht:∀i,P (tk L en i).a):∀(f i:Nat) (z:Int),jr L en f i=.error z->P z
 | 0,i,z,h=>by unfold jr at h;injection h with h;subst h;exact h0
 | f+1,i,z,h=>by
  unfold jr at h;split at h
  ·injection h with h;subst h;exact adl h0 ht _ (L9 h0 ht f) _ _ (by assumption)
  ·split at h
   ·cases h
   ·split at h
    ·injection h with h;subst h;exact L9 h0 ht f _ _ (by assumption)
    ·cases h
theorem UM (h0:P 0) (ht:∀i,P (tk L en i).a) (E:Nat->Rd Value) (hE:∀i z,E i=.error z->P z)  (i:Nat) (z:Int) (h:jq L en E i=.error z):P z:=by
 unfold jq at h
 repeat' (first|(cases h;done)|split at h)
 all_goals (first|(cases h;done)|skip)
 all_goals (try (injection h with h;subst h))
 all_goals (first|exact ht _|exact L6 h0 ht E hE _ _ h)
theorem Ma (h0:P 0) (ht:∀i,P (tk L en i).a):∀(f i:Nat) (z:Int),gD L en f i=.error z->P z
 | 0,i,z,h=>by unfold gD at h;injection h with h;subst h;exact h0
 | f+1,i,z,h=>by
  unfold gD at h;split at h
  ·split at h
   ·injection h with h;subst h;exact Er h0 ht _ _ (UM h0 ht _ (Ma h0 ht f)) _ _ _ _ (by assumption)
   ·cases h
  ·exact UM h0 ht _ (Ma h0 ht f) _ _ h
theorem Mb (h0:P 0) (ht:∀i,P (tk L en i).a) (E:Nat->Rd Value) (hE:∀i z,E i=.error z->P z)  (i:Nat) (z:Int) (h:fI L en E i=.error z):P z:=by
 unfold fI at h
 repeat' (first|(cases h;done)|split at h)
 all_goals (first|(cases h;done)|skip)
 all_goals (try (injection h with h;subst h))
 all_goals (first|exact ht _|exact L6 h0 ht E hE _ _ h)
theorem UN (h0:P 0) (ht:∀i,P (tk L en i).a) (E:Nat->Rd Value) (hE:∀i z,E i=.error z->P z):∀(f i:Nat) (e:Value) (z:Int),lj L en E f i e=.error z->P z
 | 0,i,e,z,h=>by unfold lj at h;cases h
 | f+1,i,e,z,h=>by
  unfold lj at h;split at h
  ·split at h
   ·injection h with h;subst h;exact Mb h0 ht E hE _ _ (by assumption)
   ·exact UN h0 ht E hE f _ _ z h
  ·cases h
theorem G5 (h0:P 0) (ht:∀i,P (tk L en i).a) (sg:Tk->Bool) (A:Nat->Rd Value) (hA:∀i z,A i=.error z->P z):∀(f i:Nat) (e:Value) (z:Int),fw L en sg A f i e=.error z->P z
 | 0,i,e,z,h=>by unfold fw at h;cases h
 | f+1,i,e,z,h=>by
  unfold fw at h;split at h
  ·split at h
   ·injection h with h;subst h;exact hA _ _ (by assumption)
   ·exact G5 h0 ht sg A hA f _ _ z h
  ·cases h
theorem UO (h0:P 0) (ht:∀i,P (tk L en i).a) (E:Nat->Rd Value) (hE:∀i z,E i=.error z->P z)  (i:Nat) (z:Int) (h:jD L en E i=.error z):P z:=by
 unfold jD at h
 repeat' (first|(cases h;done)|split at h)
 all_goals (first|(cases h;done)|skip)
 all_goals (try (injection h with h;subst h))
 all_goals (first|exact ht _|exact Mb h0 ht E hE _ _ (by assumption)|exact Er h0 ht _ _ (Mb h0 ht E hE) _ _ _ _ (by assumption)|exact UN h0 ht E hE _ _ _ _ h)
theorem UQ (h0:P 0) (ht:∀i,P (tk L en i).a) (E:Nat->Rd Value) (hE:∀i z,E i=.error z->P z)  (i:Nat) (z:Int) (h:jE L en E i=.error z):P z:=by
 unfold jE at h
 repeat' (first|(cases h;done)|split at h)
 all_goals (first|(cases h;done)|skip)
 all_goals (try (injection h with h;subst h))
 all_goals (first|exact ht _|exact UO h0 ht E hE _ _ (by assumption)|exact G5 h0 ht _ _ (UO h0 ht E hE) _ _ _ _ h)
theorem UR (h0:P 0) (ht:∀i,P (tk L en i).a) (E:Nat->Rd Value) (hE:∀i z,E i=.error z->P z)  (i:Nat) (z:Int) (h:jF L en E i=.error z):P z:=by
 unfold jF at h
 repeat' (first|(cases h;done)|split at h)
 all_goals (first|(cases h;done)|skip)
 all_goals (try (injection h with h;subst h))
 all_goals (first|exact ht _|exact UQ h0 ht E hE _ _ (by assumption)|exact G5 h0 ht _ _ (UQ h0 ht E hE) _ _ _ _ h)
theorem adm (h0:P 0) (ht:∀i,P (tk L en i).a) (E:Nat->Rd Value) (hE:∀i z,E i=.error z->P z)  (i:Nat) (z:Int) (h:lS L en E i=.error z):P z:=by
 unfold lS at h
 repeat' (first|(cases h;done)|split at h)
 all_goals (first|(cases h;done)|skip)
 all_goals (try (injection h with h;subst h))
 all_goals (first|exact ht _|exact UR h0 ht E hE _ _ (by assumption)|exact G5 h0 ht _ _ (UR h0 ht E hE) _ _ _ _ h)
theorem adn (h0:P 0) (ht:∀i,P (tk L en i).a) (E:Nat->Rd Value) (hE:∀i z,E i=.error z->P z)  (i:Nat) (z:Int) (h:mM L en E i=.error z):P z:=by
 unfold mM at h
 repeat' (first|(cases h;done)|split at h)
 all_goals (first|(cases h;done)|skip)
 all_goals (try (injection h with h;subst h))
 all_goals (first|exact ht _|exact adm h0 ht E hE _ _ (by assumption)|exact hE _ _ (by assumption))
theorem UT (h0:P 0) (ht:∀i,P (tk L en i).a) (E:Nat->Rd Value) (hE:∀i z,E i=.error z->P z)  (i:Nat) (z:Int) (h:jW L en E i=.error z):P z:=by
 unfold jW at h
 repeat' (first|(cases h;done)|split at h)
 all_goals (first|(cases h;done)|skip)
 all_goals (try (injection h with h;subst h))
 all_goals (first|exact ht _|exact Ma h0 ht _ _ _ (by assumption)|exact zZ h0 ht (by assumption)|exact hE _ _ (by assumption))
theorem UU (h0:P 0) (ht:∀i,P (tk L en i).a) (E:Nat->Rd Value) (hE:∀i z,E i=.error z->P z):∀(f i:Nat) (ps es:List Value) (z:Int),kN L en E f i ps es=.error z->P z
 | 0,i,ps,es,z,h=>by unfold kN at h;cases h
 | f+1,i,ps,es,z,h=>by
  unfold kN at h;split at h
  ·cases h
  ·split at h
   ·injection h with h;subst h;exact UT h0 ht E hE _ _ (by assumption)
   ·exact UU h0 ht E hE f _ _ _ z h
theorem ado (h0:P 0) (ht:∀i,P (tk L en i).a) (E:Nat->Rd Value) (hE:∀i z,E i=.error z->P z)  (i:Nat) (z:Int) (h:nO L en E i=.error z):P z:=by
 unfold nO at h
 repeat' (first|(cases h;done)|split at h)
 all_goals (first|(cases h;done)|skip)
 all_goals (try (injection h with h;subst h))
 all_goals (first|exact ht _|exact G3 h0 ht (by assumption)|exact zZ h0 ht (by assumption)|exact hE _ _ (by assumption))
theorem adp (h0:P 0) (ht:∀i,P (tk L en i).a) (E:Nat->Rd Value) (hE:∀i z,E i=.error z->P z) (k:Int) (x y:ByteArray) (a:Int)  (i:Nat) (z:Int) (h:jX L en E k x y a i=.error z):P z:=by
 unfold jX at h
 repeat' (first|(cases h;done)|split at h)
 all_goals (first|(cases h;done)|skip)
 all_goals (try (injection h with h;subst h))
 all_goals (first|exact ht _|exact zZ h0 ht (by assumption)|exact hE _ _ (by assumption))
theorem adq (h0:P 0) (ht:∀i,P (tk L en i).a) (E:Nat->Rd Value) (hE:∀i z,E i=.error z->P z)  (i:Nat) (z:Int) (h:nP L en E i=.error z):P z:=by
 unfold nP at h
 repeat' (first|(cases h;done)|split at h)
 all_goals (first|(cases h;done)|skip)
 all_goals (try (injection h with h;subst h))
 all_goals (first|exact ht _|exact G3 h0 ht (by assumption)|exact adp h0 ht E hE _ _ _ _ _ _ h)
theorem adr (h0:P 0) (ht:∀i,P (tk L en i).a) (E:Nat->Rd Value) (hE:∀i z,E i=.error z->P z)  (i:Nat) (z:Int) (h:nQ L en E i=.error z):P z:=by
 unfold nQ at h
 repeat' (first|(cases h;done)|split at h)
 all_goals (first|(cases h;done)|skip)
 all_goals (try (injection h with h;subst h))
 all_goals (first|exact ht _|exact zZ h0 ht (by assumption)|exact hE _ _ (by assumption))
theorem ads (h0:P 0) (ht:∀i,P (tk L en i).a) (E:Nat->Rd Value) (hE:∀i z,E i=.error z->P z)  (i:Nat) (z:Int) (h:mN L en E i=.error z):P z:=by
 unfold mN at h
 repeat' (first|(cases h;done)|split at h)
 all_goals (first|(cases h;done)|skip)
 all_goals (try (injection h with h;subst h))
 all_goals (first|exact ht _|exact zZ h0 ht (by assumption)|exact hE _ _ (by assumption)|exact UT h0 ht E hE _ _ (by assumption)|exact UU h0 ht E hE _ _ _ _ _ (by assumption))
theorem BI (h0:P 0) (ht:∀i,P (tk L en i).a):∀(f i:Nat) (z:Int),fR L en f i=.error z->P z
 | 0,i,z,h=>by unfold fR at h;injection h with h;subst h;exact h0
 | f+1,i,z,h=>by
  unfold fR at h;split at h
  ·exact ado h0 ht _ (BI h0 ht f) _ _ h
  ·split at h
   ·exact adq h0 ht _ (BI h0 ht f) _ _ h
   ·split at h
    ·exact adr h0 ht _ (BI h0 ht f) _ _ h
    ·split at h
     ·exact ads h0 ht _ (BI h0 ht f) _ _ h
     ·exact adn h0 ht _ (BI h0 ht f) _ _ h
theorem UW (h0:P 0) (ht:∀i,P (tk L en i).a)  (i:Nat) (z:Int) (h:iR L en i=.error z):P z:=by
 unfold iR at h
 repeat' (first|(cases h;done)|split at h)
 all_goals (first|(cases h;done)|skip)
 all_goals (try (injection h with h;subst h))
 all_goals (first|exact ht _|exact G3 h0 ht (by assumption)|exact Er h0 ht _ _ (L8 h0 ht _ (L9 h0 ht _)) _ _ _ _ (by assumption))
theorem UX (h0:P 0) (ht:∀i,P (tk L en i).a):∀(f i:Nat) (acc:List Value) (z:Int),jY L en f i acc=.error z->P z
 | 0,i,acc,z,h=>by unfold jY at h;cases h
 | f+1,i,acc,z,h=>by
  unfold jY at h;split at h
  ·cases h
  ·split at h
   ·injection h with h;subst h;exact UW h0 ht _ _ (by assumption)
   ·exact UX h0 ht f _ _ z h
theorem adt (h0:P 0) (ht:∀i,P (tk L en i).a)  (i:Nat) (z:Int) (h:mO L en i=.error z):P z:=by
 unfold mO at h
 repeat' (first|(cases h;done)|split at h)
 all_goals (first|(cases h;done)|skip)
 all_goals (try (injection h with h;subst h))
 all_goals (first|exact ht _|exact G3 h0 ht (by assumption)|exact zZ h0 ht (by assumption)|exact UW h0 ht _ _ (by assumption)|exact UX h0 ht _ _ _ _ (by assumption))
theorem UY (h0:P 0) (ht:∀i,P (tk L en i).a):∀(f i:Nat) (acc:List Value) (z:Int),mG L en f i acc=.error z->P z
 | 0,i,acc,z,h=>by unfold mG at h;cases h
 | f+1,i,acc,z,h=>by
  unfold mG at h;split at h
  ·split at h
   ·injection h with h;subst h;exact adt h0 ht _ _ (by assumption)
   ·exact UY h0 ht f _ _ z h
  ·cases h
theorem adu (h0:P 0) (ht:∀i,P (tk L en i).a) {z:Int} (h:kz L en=.error z):P z:=by
 unfold kz zw Bn at h;split at h
 ·injection h with h;subst h;exact UY h0 ht _ _ _ _ (by assumption)
 ·split at h
  ·injection h with h;subst h;exact BI h0 ht _ _ _ (by assumption)
  ·split at h
   ·injection h with h;subst h;exact ht _
   ·cases h
end
def G6 (s:ByteArray) (L:List Tk):Prop:=∀t ∈ L,0<=t.a/\t.a<=(s.size:Int)
theorem UZ (s:ByteArray):∀(f i:Nat) (acc:List Tk),i<=s.size->G6 s acc->G6 s (dP s f i acc).1/\0<=(dP s f i acc).2.1/\(dP s f i acc).2.1<=(s.size:Int)/\((dP s f i acc).2.2=0\/(dP s f i acc).2.2≠0)
 | 0,i,acc,hi,h=>⟨h,Int.le_refl _,(by show (0:Int)<=_;omega),.inl rfl⟩
 | f+1,i,acc,hi,h=>by
  unfold dP;split
  ·rename_i hc;split
   ·exact ⟨fun t ht=>(by cases ht),(by show (0:Int)<=(i:Int);omega),(by show (i:Int)<=_;omega),Decidable.em _⟩
   ·rename_i k x n e ho;split
    ·exact ⟨fun t ht=>(by cases ht),(by show (0:Int)<=(i:Int);omega),(by show (i:Int)<=_;omega),Decidable.em _⟩
    ·have he:=yp hc ho;refine UZ s f _ _ (Au s false he.2) (fun t ht=>?_);rcases List.mem_append.1 ht with ht|ht
     ·exact h t ht
     ·rw [List.mem_singleton.1 ht];exact ⟨by show (0:Int)<=(i:Int);omega,by show (i:Int)<=_;omega⟩
  ·exact ⟨h,Int.le_refl _,(by show (0:Int)<=_;omega),.inl rfl⟩
theorem adv (s:ByteArray):G6 s (lx s).1/\0<=(lx s).2.1/\(lx s).2.1<=(s.size:Int):=by
 unfold lx;split
 ·exact ⟨fun t ht=>(by cases ht),Int.le_refl _,(by show (0:Int)<=_;omega)⟩
 ·have h:=UZ s s.size (sk s false 0) [] (Au s false (Nat.zero_le _)) (fun t ht=>by cases ht);exact ⟨h.1,h.2.1,h.2.2.1⟩
theorem adw {s:ByteArray} {L:List Tk} (h:G6 s L) (i:Nat):0<=(tk L s.size i).a/\(tk L s.size i).a<=(s.size:Int):=by
 cases hi:L[i]? with
 | none=>unfold Pz.tk;rw [hi];exact ⟨by show (0:Int)<=(s.size:Int);omega,Int.le_refl _⟩
 | some t=>rw [Bp L _ hi];exact h t (List.mem_of_getElem? hi)
theorem Says.bad {s:ByteArray} {a z:Int} (h:Says s (.error (a,z))):z≠0/\0<=a/\a<=(s.size:Int):=by
 have hl:=adv s;unfold Says at h;split at h
 ·rename_i hc;injection h with h;injection h with h1 h2;subst h1 h2;exact ⟨hc,hl.2⟩
 ·split at h
  ·rename_i z' hp;injection h with h;injection h with h1 h2;subst h1 h2;exact ⟨by decide,adu (P:=fun a=>0<=a/\a<=(s.size:Int)) ⟨Int.le_refl _,by omega⟩ (adw hl.1) hp⟩
  ·obtain ⟨d,hd,hq⟩:=h;unfold ni at hq;split at hq
   ·injection hq with hq;injection hq with h1 h2;subst h1 h2;exact ⟨by decide,Int.le_refl _,by omega⟩
   ·split at hq
    ·injection hq with hq;injection hq with h1 h2;subst h1 h2;exact ⟨by decide,Int.le_refl _,by omega⟩
    ·cases hq
end Pz
end Go.Proofs.YtkdbgopgjbfhbaaGreatDoor
