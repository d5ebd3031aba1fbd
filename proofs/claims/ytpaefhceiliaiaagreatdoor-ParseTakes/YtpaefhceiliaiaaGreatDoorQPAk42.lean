/- Texts that the claim needs. -/
import Derived.Test.YtpaefhceiliaiaaGreatDoorQPAk34
import Derived.Test.YtpaefhceiliaiaaGreatDoorQPAk38
import Derived.Test.YtpaefhceiliaiaaGreatDoorQPAk13
namespace Go.Proofs.YtpaefhceiliaiaaGreatDoor
open Go.RowKit Lx Pz bB
set_option linter.unusedVariables false
set_option maxRecDepth 100000
set_option maxHeartbeats 4000000
namespace Pz
theorem GT.nd {k:Int} {x y:ByteArray} {n:Int} {es ps:List Value} {a:Int} (h:sN (nd k x y n es ps a)=true) (ha:∀x ∈ es,GT x):GT (nd k x y n es ps a):=GT.mk h ha
theorem GP.nd {k:Int} {x y:ByteArray} {n:Int} {es ps:List Value} {a:Int} (h:sO (nd k x y n es ps a)=true) (ha:∀x ∈ es,GP x):GP (nd k x y n es ps a):=GP.mk h ha
theorem GE.nd {k:Int} {x y:ByteArray} {n:Int} {es ps:List Value} {a:Int} (h:kZ (nd k x y n es ps a)=true) (ha:∀x ∈ es,GE x) (hp:∀x ∈ ps,GP x):GE (nd k x y n es ps a):=GE.mk h ha hp
theorem Ko {t:Tk} {s:ByteArray} (h:cn t s=true):t.x=s:=by
 unfold cn at h;rw [Bool.and_eq_true,decide_eq_true_eq] at h;exact h.2
section
variable {L:List Tk} {en:Int}
theorem zu {K:Int} {i:Nat} {t:Tk} {j:Nat} (h:bL L en K i=.ok (t,j)):t=tk L en i/\(tk L en i).k=K:=by
 unfold bL at h;split at h
 ·rename_i hk;injection h with h;injection h with h1 h2;exact ⟨h1.symm,hk⟩
 ·cases h
theorem Kq {E:Nat->Rd Value} {i:Nat} {e:Value} {j:Nat} (h:brk L en E i=.ok (e,j)):∃i' j',E i'=.ok (e,j'):=by
 unfold brk at h;split at h
 ·cases h
 ·rename_i i1 h1;split at h
  ·cases h
  ·rename_i e1 j1 h2;split at h
   ·cases h
   ·injection h with h;injection h with h3 h4;subst h3;exact ⟨_,_,h2⟩
theorem Cy {P:Value->Prop} {nx:Tk->Bool} {A:Nat->Rd Value} (hA:∀i e j,A i=.ok (e,j)->P e):∀(f i:Nat) (acc ts:List Value) (j:Nat),(∀x ∈ acc,P x)->dJ L en nx A f i acc=.ok (ts,j)->∀x ∈ ts,P x
 | 0,i,acc,ts,j,ha,h=>by
  unfold dJ at h;injection h with h;injection h with h1 h2;subst h1;exact ha
 | f+1,i,acc,ts,j,ha,h=>by
  unfold dJ at h;split at h
  ·split at h
   ·cases h
   ·rename_i e1 j1 h1;exact Cy hA f _ _ ts j (Cw ha (hA _ _ _ h1)) h
  ·injection h with h;injection h with h1 h2;subst h1;exact ha
end
section
variable {L:List Tk} {en:Int} (hG:GK L)
theorem acb (hG:GK L) {i:Nat} (hk:(tk L en i).k=1):GT (oq (tk L en i).x):=by
 unfold oq;split
 ·exact GT.nd abR gq
 ·rename_i hx;exact GT.nd (Sf (lF hG hk (by decide) (by decide) (by decide)) hx) gq
theorem Kr (hG:GK L) {T:Nat->Rd Value} (hT:∀i e j,T i=.ok (e,j)->GT e) (i:Nat) (t:Value) (j:Nat) (h:jH L en T i=.ok (t,j)):GT t:=by
 unfold jH at h;split at h
 ·rename_i hk;injection h with h;injection h with h1 h2;subst h1;exact acb hG hk
 ·split at h
  ·rename_i hk;injection h with h;injection h with h1 h2;subst h1;exact GT.nd (abS (lF hG hk (by decide) (by decide) (by decide))) gq
  ·obtain ⟨i',j',h'⟩:=Kq h;exact hT _ _ _ h'
theorem acd (hG:GK L) {T:Nat->Rd Value} (hT:∀i e j,T i=.ok (e,j)->GT e) (i:Nat) (t:Value) (j:Nat) (h:oM L en T i=.ok (t,j)):GT t:=by
 unfold oM at h;split at h
 ·cases h
 ·rename_i t1 j1 h1;split at h
  ·rename_i hk;split at h
   ·cases h
   ·rename_i ts j2 h2;injection h with h;injection h with h3 h4;subst h3;exact GT.nd (Sf (lF hG hk.1 (by decide) (by decide) (by decide)) hk.2) (Cy (Kr hG hT) _ _ _ _ _ gq h2)
  ·injection h with h;injection h with h3 h4;subst h3;exact Kr hG hT _ _ _ h1
theorem Ks (hG:GK L):∀(f i:Nat) (t:Value) (j:Nat),kS L en f i=.ok (t,j)->GT t
 | 0,i,t,j,h=>by unfold kS at h;cases h
 | f+1,i,t,j,h=>by
  unfold kS at h;split at h
  ·cases h
  ·rename_i t1 j1 h1;have g1:=acd hG (Ks hG f) _ _ _ h1;split at h
   ·injection h with h;injection h with h3 h4;subst h3;exact g1
   ·split at h
    ·cases h
    ·rename_i u j2 h2;injection h with h;injection h with h3 h4;subst h3;exact GT.nd abT (mem2 g1 (Ks hG f _ _ _ h2))
theorem Sm (hG:GK L) {E:Nat->Rd Value} (hE:∀i e j,E i=.ok (e,j)->GP e) (i:Nat) (e:Value) (j:Nat) (h:kE L en E i=.ok (e,j)):GP e:=by
 unfold kE at h;split at h
 ·rename_i hk;injection h with h;injection h with h1 h2;subst h1;exact GP.nd (abV _ (lF hG hk (by decide) (by decide) (by decide))) gq
 ·split at h
  ·injection h with h;injection h with h1 h2;subst h1;exact GP.nd (abU _) gq
  ·split at h
   ·rename_i hk;injection h with h;injection h with h1 h2;subst h1;exact GP.nd (abW _ (Se hG hk)) gq
   ·split at h
    ·rename_i hk;injection h with h;injection h with h1 h2;subst h1;exact GP.nd (Cv _ (lF hG hk (by decide) (by decide) (by decide))) gq
    ·obtain ⟨i',j',h'⟩:=Kq h;exact hE _ _ _ h'
theorem Kt (hG:GK L):∀(f i:Nat) (t:Value) (j:Nat),gY L en f i=.ok (t,j)->GP t
 | 0,i,t,j,h=>by unfold gY at h;cases h
 | f+1,i,t,j,h=>by
  unfold gY at h;split at h
  ·rename_i hk;split at h
   ·cases h
   ·rename_i ps j2 h2;injection h with h;injection h with h3 h4;subst h3;exact GP.nd (Cv _ (lF hG hk (by decide) (by decide) (by decide))) (Cy (Sm hG (Kt hG f)) _ _ _ _ _ gq h2)
  ·exact Sm hG (Kt hG f) _ _ _ h
theorem Fs (hG:GK L) {E:Nat->Rd Value} (hE:∀i e j,E i=.ok (e,j)->GE e) (i:Nat) (e:Value) (j:Nat) (h:gh L en E i=.ok (e,j)):GE e:=by
 unfold gh at h;split at h
 ·rename_i hk;injection h with h;injection h with h1 h2;subst h1;exact GE.nd (abX _ (lF hG hk (by decide) (by decide) (by decide))) gq gq
 ·split at h
  ·rename_i hk;injection h with h;injection h with h1 h2;subst h1;exact GE.nd (abY _ (Se hG hk)) gq gq
  ·split at h
   ·rename_i hk;injection h with h;injection h with h1 h2;subst h1;exact GE.nd (Sg _ (lF hG hk (by decide) (by decide) (by decide))) gq gq
   ·obtain ⟨i',j',h'⟩:=Kq h;exact hE _ _ _ h'
theorem Sn (hG:GK L) {E:Nat->Rd Value} (hE:∀i e j,E i=.ok (e,j)->GE e):∀(f i:Nat) (e r:Value) (j:Nat),GE e->nT L en E f i e=.ok (r,j)->GE r
 | 0,i,e,r,j,he,h=>by
  unfold nT at h;injection h with h;injection h with h1 h2;subst h1;exact he
 | f+1,i,e,r,j,he,h=>by
  unfold nT at h;split at h
  ·split at h
   ·cases h
   ·rename_i a j1 h1;exact Sn hG hE f _ _ r j (GE.nd (ab0 _) (mem2 he (Fs hG hE _ _ _ h1)) gq) h
  ·injection h with h;injection h with h1 h2;subst h1;exact he
theorem Sq (hG:GK L) {E:Nat->Rd Value} (hE:∀i e j,E i=.ok (e,j)->GE e) (i:Nat) (e:Value) (j:Nat) (h:kT L en E i=.ok (e,j)):GE e:=by
 unfold kT at h;split at h
 ·split at h
  ·cases h
  ·rename_i a j1 h1;injection h with h;injection h with h2 h3;subst h2;exact GE.nd (ab4 _) (mem1 (Fs hG hE _ _ _ h1)) gq
 ·split at h
  ·rename_i hk;split at h
   ·cases h
   ·rename_i es j1 h1;injection h with h;injection h with h2 h3;subst h2;exact GE.nd (Sg _ (lF hG hk (by decide) (by decide) (by decide))) (Cy (Fs hG hE) _ _ _ _ _ gq h1) gq
  ·split at h
   ·cases h
   ·rename_i a j1 h1;exact Sn hG hE _ _ _ _ _ (Fs hG hE _ _ _ h1) h
end
section
variable {L:List Tk} {en:Int}
theorem Ft {sg:Tk->Bool} (hs:∀t,sg t=true->cA 6 t.x=true) {A:Nat->Rd Value} (hA:∀i e j,A i=.ok (e,j)->GE e):∀(f i:Nat) (e r:Value) (j:Nat),GE e->fI L en sg A f i e=.ok (r,j)->GE r
 | 0,i,e,r,j,he,h=>by
  unfold fI at h;injection h with h;injection h with h1 h2;subst h1;exact he
 | f+1,i,e,r,j,he,h=>by
  unfold fI at h;split at h
  ·rename_i hk;split at h
   ·cases h
   ·rename_i a j1 h1;exact Ft hs hA f _ _ r j (GE.nd (ab3 _ (hs _ hk)) (mem2 he (hA _ _ _ h1)) gq) h
  ·injection h with h;injection h with h1 h2;subst h1;exact he
theorem ace (t:Tk) (h:BR t=true):cA 6 t.x=true:=by
 unfold BR at h;rw [Bool.or_eq_true,Bool.or_eq_true] at h;rcases h with (h|h)|h<;>rw [Ko h]<;>decide
theorem acf (t:Tk) (h:BS t=true):cA 6 t.x=true:=by
 unfold BS at h;rw [Bool.or_eq_true] at h;rcases h with h|h<;>rw [Ko h]<;>decide
theorem acg (t:Tk) (h:BU t=true):cA 6 t.x=true:=by
 unfold BU at h;rw [Bool.or_eq_true] at h;rcases h with h|h<;>rw [Ko h]<;>decide
end
section
variable {L:List Tk} {en:Int} (hG:GK L)
theorem Sr (hG:GK L) {E:Nat->Rd Value} (hE:∀i e j,E i=.ok (e,j)->GE e) (i:Nat) (e:Value) (j:Nat) (h:kU L en E i=.ok (e,j)):GE e:=by
 unfold kU at h;split at h
 ·cases h
 ·rename_i a j1 h1;exact Ft ace (Sq hG hE) _ _ _ _ _ (Sq hG hE _ _ _ h1) h
theorem Ss (hG:GK L) {E:Nat->Rd Value} (hE:∀i e j,E i=.ok (e,j)->GE e) (i:Nat) (e:Value) (j:Nat) (h:kV L en E i=.ok (e,j)):GE e:=by
 unfold kV at h;split at h
 ·cases h
 ·rename_i a j1 h1;exact Ft acf (Sr hG hE) _ _ _ _ _ (Sr hG hE _ _ _ h1) h
theorem ach (hG:GK L) {E:Nat->Rd Value} (hE:∀i e j,E i=.ok (e,j)->GE e) (i:Nat) (e:Value) (j:Nat) (h:nU L en E i=.ok (e,j)):GE e:=by
 unfold nU at h;split at h
 ·cases h
 ·rename_i a j1 h1;exact Ft acg (Ss hG hE) _ _ _ _ _ (Ss hG hE _ _ _ h1) h
theorem aci (hG:GK L) {E:Nat->Rd Value} (hE:∀i e j,E i=.ok (e,j)->GE e) (i:Nat) (e:Value) (j:Nat) (h:qF L en E i=.ok (e,j)):GE e:=by
 unfold qF at h;split at h
 ·cases h
 ·rename_i a j1 h1;have g1:=ach hG hE _ _ _ h1;split at h
  ·injection h with h;injection h with h2 h3;subst h2;exact g1
  ·split at h
   ·cases h
   ·rename_i u j2 h2;injection h with h;injection h with h3 h4;subst h3;exact GE.nd (Kl _ rfl (by simp)) (mem2 g1 (hE _ _ _ h2)) (mem1 (GP.nd (Cv _ (by decide)) gq))
theorem Su (hG:GK L) {E:Nat->Rd Value} (hE:∀i e j,E i=.ok (e,j)->GE e) (i:Nat) (p e:Value) (j:Nat) (h:l9 L en E i=.ok ((p,e),j)):GP p/\GE e:=by
 unfold l9 at h;split at h
 ·cases h
 ·rename_i p1 j1 h1;split at h
  ·cases h
  ·split at h
   ·cases h
   ·rename_i e1 j2 h2;injection h with h;injection h with h3 h4;injection h3 with h5 h6;subst h5 h6;exact ⟨Kt hG _ _ _ _ h1,hE _ _ _ h2⟩
theorem Sw (hG:GK L) {E:Nat->Rd Value} (hE:∀i e j,E i=.ok (e,j)->GE e):∀(f i:Nat) (ps es ps' es':List Value) (j:Nat),(∀x ∈ ps,GP x)->(∀x ∈ es,GE x)->es.length=ps.length+1->ps.length≠0->mX L en E f i ps es=.ok ((ps',es'),j)->(∀x ∈ ps',GP x)/\(∀x ∈ es',GE x)/\es'.length=ps'.length+1/\ps'.length≠0
 | 0,i,ps,es,ps',es',j,hp,he,hl,h0,h=>by
  unfold mX at h;injection h with h;injection h with h3 h4;injection h3 with h5 h6;subst h5 h6;exact ⟨hp,he,hl,h0⟩
 | f+1,i,ps,es,ps',es',j,hp,he,hl,h0,h=>by
  unfold mX at h;split at h
  ·injection h with h;injection h with h3 h4;injection h3 with h5 h6;subst h5 h6;exact ⟨hp,he,hl,h0⟩
  ·split at h
   ·cases h
   ·rename_i p e j1 h1;obtain ⟨g1,g2⟩:=Su hG hE _ _ _ _ h1;exact Sw hG hE f _ _ _ _ _ j (Cw hp g1) (Cw he g2) (by simp [hl]) (by simp) h
theorem acj (hG:GK L) {E:Nat->Rd Value} (hE:∀i e j,E i=.ok (e,j)->GE e) (i:Nat) (e:Value) (j:Nat) (h:rY L en E i=.ok (e,j)):GE e:=by
 unfold rY at h;split at h
 ·cases h
 ·rename_i t j1 h1;have ht:=zu h1;split at h
  ·cases h
  ·split at h
   ·cases h
   ·rename_i e1 j2 h2;injection h with h;injection h with h3 h4;subst h3;exact GE.nd (abZ _ (by rw [ht.1];exact lF hG ht.2 (by decide) (by decide) (by decide))) (mem1 (hE _ _ _ h2)) gq
theorem Sy (hG:GK L) {E:Nat->Rd Value} (hE:∀i e j,E i=.ok (e,j)->GE e) {k:Int} {x y:ByteArray} {a:Int} (hd:∀b e,kZ (nd k x y 0 [b,e] [] a)=true) (i:Nat) (e:Value) (j:Nat) (h:mb L en E k x y a i=.ok (e,j)):GE e:=by
 unfold mb at h;split at h
 ·cases h
 ·split at h
  ·cases h
  ·rename_i b j1 h1;split at h
   ·cases h
   ·split at h
    ·cases h
    ·rename_i e1 j2 h2;injection h with h;injection h with h3 h4;subst h3;exact GE.nd (hd _ _) (mem2 (hE _ _ _ h1) (hE _ _ _ h2)) gq
theorem ack (hG:GK L) {E:Nat->Rd Value} (hE:∀i e j,E i=.ok (e,j)->GE e) (i:Nat) (e:Value) (j:Nat) (h:rZ L en E i=.ok (e,j)):GE e:=by
 unfold rZ at h;split at h
 ·split at h
  ·cases h
  ·rename_i t j1 h1;have ht:=zu h1;exact Sy hG hE (fun b e=>ab1 _ (by rw [ht.1];exact lF hG ht.2 (by decide) (by decide) (by decide))) _ _ _ h
 ·split at h
  ·cases h
  ·rename_i t j1 h1;have ht:=zu h1;split at h
   ·cases h
   ·rename_i u j2 h2;have hu:=zu h2;exact Sy hG hE (fun b e=>ab2 _ (by rw [ht.1];exact lF hG ht.2 (by decide) (by decide) (by decide)) (by rw [hu.1];exact lF hG hu.2 (by decide) (by decide) (by decide))) _ _ _ h
theorem acm (hG:GK L) {E:Nat->Rd Value} (hE:∀i e j,E i=.ok (e,j)->GE e) (i:Nat) (e:Value) (j:Nat) (h:si L en E i=.ok (e,j)):GE e:=by
 unfold si at h;split at h
 ·cases h
 ·rename_i c j1 h1;split at h
  ·cases h
  ·split at h
   ·cases h
   ·rename_i t j2 h2;split at h
    ·cases h
    ·split at h
     ·cases h
     ·rename_i u j3 h3;injection h with h;injection h with h4 h5;subst h4;exact GE.nd (Kl _ rfl (by simp)) (mem3 (hE _ _ _ h1) (hE _ _ _ h2) (hE _ _ _ h3)) (mem2 (GP.nd (Cv _ (by decide)) gq) (GP.nd (Cv _ (by decide)) gq))
theorem acn (hG:GK L) {E:Nat->Rd Value} (hE:∀i e j,E i=.ok (e,j)->GE e) (i:Nat) (e:Value) (j:Nat) (h:qG L en E i=.ok (e,j)):GE e:=by
 unfold qG at h;split at h
 ·cases h
 ·rename_i c j1 h1;split at h
  ·cases h
  ·split at h
   ·cases h
   ·rename_i p e2 j2 h2;obtain ⟨g1,g2⟩:=Su hG hE _ _ _ _ h2;split at h
    ·cases h
    ·rename_i ps es j3 h3;obtain ⟨q1,q2,q3,q4⟩:=Sw hG hE _ _ _ _ _ _ _ (mem1 g1) (mem2 (hE _ _ _ h1) g2) rfl (by simp) h3;split at h
     ·cases h
     ·injection h with h;injection h with h4 h5;subst h4;exact GE.nd (Kl _ q3 q4) q2 q1
theorem zw (hG:GK L):∀(f i:Nat) (e:Value) (j:Nat),gI L en f i=.ok (e,j)->GE e
 | 0,i,e,j,h=>by unfold gI at h;cases h
 | f+1,i,e,j,h=>by
  unfold gI at h;split at h
  ·exact acj hG (zw hG f) _ _ _ h
  ·split at h
   ·exact ack hG (zw hG f) _ _ _ h
   ·split at h
    ·exact acm hG (zw hG f) _ _ _ h
    ·split at h
     ·exact acn hG (zw hG f) _ _ _ h
     ·exact aci hG (zw hG f) _ _ _ h
end
def GC (c:Value):Prop:=∀m,ow m c=false->pI m c=true
def GD (c:Value):Prop:=∀m,rM m c=false->pJ m c=true
theorem GC.mk {x:ByteArray} {ts:List Value} (h:cA 2 x=true) (ht:∀t ∈ ts,GT t):GC (lX x ts):=fun m hm=>by
 show (cA 2 x && ts.all (lQ m))=true;rw [h,Bool.true_and,List.all_eq_true];exact fun t hx=>ht t hx m (mI (f:=jd m) (l:=ts) hm hx)
theorem GD.mk {x:ByteArray} {ps:List ByteArray} {cs:List Value} {a:Int} (h:cA 1 x=true) (hp:∀p ∈ ps,cA 3 p=true) (h0:cs≠[]) (hc:∀t ∈ cs,GC t):GD (lG x ps cs a):=fun m hm=>by
 show (cA 1 x && ((ps.map Value.string).all (fun p=>cA 3 (sH p)) && (decide (0<cs.length) && cs.all (pI m))))=true;rw [h,decide_eq_true (List.length_pos_iff.2 h0),Bool.true_and,Bool.true_and,Bool.and_eq_true,List.all_eq_true,List.all_eq_true];refine ⟨fun p hx=>?_,fun t hx=>hc t hx m (mI (f:=ow m) (l:=cs) hm hx)⟩;obtain ⟨q,hq,rfl⟩:=List.mem_map.1 hx;exact hp q hq
section
variable {L:List Tk} {en:Int} (hG:GK L)
theorem Sz (hG:GK L) (i:Nat) (c:Value) (j:Nat) (h:ji L en i=.ok (c,j)):GC c:=by
 unfold ji at h;split at h
 ·cases h
 ·rename_i t j1 h1;have ht:=zu h1;split at h
  ·cases h
  ·rename_i ts j2 h2;injection h with h;injection h with h3 h4;subst h3;exact GC.mk (by rw [ht.1];exact lF hG ht.2 (by decide) (by decide) (by decide)) (Cy (Kr hG (Ks hG _)) _ _ _ _ _ gq h2)
theorem SA (hG:GK L):∀(f i:Nat) (acc:List ByteArray),(∀p ∈ acc,cA 3 p=true)->∀p ∈ (mS L en f i acc).1,cA 3 p=true
 | 0,i,acc,h=>h
 | f+1,i,acc,h=>by
  unfold mS;split
  ·rename_i hk;refine SA hG f _ _ (fun p hp=>?_);rcases List.mem_append.1 hp with hp|hp
   ·exact h p hp
   ·rw [List.mem_singleton.1 hp];exact lF hG hk (by decide) (by decide) (by decide)
  ·exact h
theorem SB (hG:GK L):∀(f i:Nat) (acc cs:List Value) (j:Nat),(∀x ∈ acc,GC x)->acc≠[]->mf L en f i acc=.ok (cs,j)->(∀x ∈ cs,GC x)/\cs≠[]
 | 0,i,acc,cs,j,ha,h0,h=>by
  unfold mf at h;injection h with h;injection h with h1 h2;subst h1;exact ⟨ha,h0⟩
 | f+1,i,acc,cs,j,ha,h0,h=>by
  unfold mf at h;split at h
  ·injection h with h;injection h with h1 h2;subst h1;exact ⟨ha,h0⟩
  ·split at h
   ·cases h
   ·rename_i c j1 h1;exact SB hG f _ _ cs j (Cw ha (Sz hG _ _ _ h1)) (by simp) h
theorem aco (hG:GK L) (i:Nat) (d:Value) (j:Nat) (h:qH L en i=.ok (d,j)):GD d:=by
 unfold qH at h;split at h
 ·cases h
 ·rename_i t j1 h1;have ht:=zu h1;split at h
  ·cases h
  ·split at h
   ·cases h
   ·rename_i c j3 h3;split at h
    ·cases h
    ·rename_i cs j4 h4;obtain ⟨q1,q2⟩:=SB hG _ _ _ _ _ (mem1 (Sz hG _ _ _ h3)) (by simp) h4;split at h
     ·cases h
     ·injection h with h;injection h with h5 h6;subst h5;exact GD.mk (by rw [ht.1];exact lF hG ht.2 (by decide) (by decide) (by decide)) (SA hG _ _ _ (fun p hp=>by cases hp)) q2 q1
theorem SC (hG:GK L):∀(f i:Nat) (acc ds:List Value) (j:Nat),(∀x ∈ acc,GD x)->rL L en f i acc=.ok (ds,j)->∀x ∈ ds,GD x
 | 0,i,acc,ds,j,ha,h=>by
  unfold rL at h;injection h with h;injection h with h1 h2;subst h1;exact ha
 | f+1,i,acc,ds,j,ha,h=>by
  unfold rL at h;split at h
  ·split at h
   ·cases h
   ·rename_i d j1 h1;exact SC hG f _ _ ds j (Cw ha (aco hG _ _ _ h1)) h
  ·injection h with h;injection h with h1 h2;subst h1;exact ha
theorem Wz (hG:GK L) {ds:List Value} {t:Value} {j:Nat} (h:kJ L en=.ok ((ds,t),j)):(∀x ∈ ds,GD x)/\GE t:=by
 unfold kJ zf BH at h;split at h
 ·cases h
 ·rename_i ds1 j1 h1;split at h
  ·cases h
  ·rename_i e1 j2 h2;split at h
   ·cases h
   ·injection h with h;injection h with h3 h4;injection h3 with h5 h6;subst h5 h6;exact ⟨SC hG _ _ _ _ _ gq h1,zw hG _ _ _ _ h2⟩
end
theorem Wy {ds:List Value} {t:Value} {m:Nat} (h:(∀x ∈ ds,GD x)/\GE t) (hd:kK m ds t=false):Hv m ds t=true:=by
 unfold kK at hd;rw [Bool.or_eq_false_iff] at hd;unfold Hv;rw [Bool.and_eq_true,List.all_eq_true];exact ⟨fun x hx=>h.1 x hx m (mI hd.1 hx),h.2 m hd.2⟩
end Pz
theorem acp (s:ByteArray) (w:World) (ek:WL w) (h0:(lx s).2.2≠0):Calls Tryz.prog 10 #[.string s] w fun e w'=>Fu w (.error ((lx s).2.1,(lx s).2.2)) e w':=by
 have H0:=ae (PE.start w);have QI:∀(fn:Fn) (first cap:Array Value) (w:World),(Instr.makeFunc fn first cap).run Tryz.prog w=.ok (.func fn first cap) w:=fun _ _ _ _=>rfl;have jr:=ae (JB s (oh w) (ek.on (PE.start w).below));obtain ⟨⟨L,cH,er⟩,hL⟩:∃R,R=lx s:=⟨_,rfl⟩;rw [<- hL] at jr h0 ⊢
 change er≠0 at h0
 have hq:(er != 0)=true:=bne_iff_ne.2 h0;show Calls _ _ _ _ fun e w'=>Fu w (.error (cH,er)) e w';clear hL ek h0
 go_enter_defers Tryz.func10,Tryz.ntmps10
 go_upto_region 2 with fail;obtain ⟨wb,hwb⟩:∃wb,wb=oh w:=⟨_,rfl⟩;rw [<- hwb] at H0 jr;have qi:=hwb;unfold oh at qi;rw [<- qi];clear hwb qi;go_wp2_with fail;refine jr.out.mono ?_;rintro e u ⟨v,rfl,hown,hb⟩;obtain ⟨oV,cV,rfl⟩:=BK (Dp hown);have H1:=ae (H0.out.on hb);have c1:=af H1.out.b1 0 _ rfl;have c2:=af H1.out.b2 0 _ rfl;have f1:u.frozen? ⟨w.heap.size+1,0,none⟩=false:=by unfold World.frozen?;rw [H1.out.b1];simp
 have f2:u.frozen? ⟨w.heap.size+2,0,none⟩=false:=by unfold World.frozen?;rw [H1.out.b2];simp
 clear hown hb jr;go_upto_region 3 with fail;obtain ⟨t1,ht1⟩:∃t1,t1=(u.setCell ⟨w.heap.size+1,0,none⟩ (.int .i64 cH)).setCell ⟨w.heap.size+2,0,none⟩ (.int .i64 er):=⟨_,rfl⟩;have P1:Hid (PE w dw cH er t1):=ae (by rw [ht1];exact (H1.out.set1 cH).set2 er);have d2:=af P1.out.b2 0 _ rfl;rw [<- ht1];clear ht1 H1 c1 c2 f1 f2 H0;go_wp2_with fail;refine ah.Iz 6 35 (fun i=>16+i) [3,4,5] [] (fun _ _ u'=>PE w dw cH er u') (fun u=>PE w dw cH er u) (fun _ _=>True) (fun i v _=>(i=0->v=.agg dw)/\(i=1->v=.int .i64 cH)/\(i=2->v=.int .i64 er)) (by kernel_rfl) (by kernel_rfl) (by kernel_rfl) (by kernel_rfl) rfl ?hN (fun i k v u u' _ _ _ _ _ _ hG _=>hG) (fun _ _ _ _ _ _ _ _ _ _ _=>trivial) (fun k u u' _ _ hT=>hT) ?hstep ?hend (P1.out.on (iq _)) (fun _ _=>trivial)
 case hN =>
  intro i hi v v' u h;have hc:i=3\/i=4\/i=5:=by simpa using hi
  rcases hc with rfl|rfl|rfl<;>exact ⟨fun h=>absurd h (by decide),fun h=>absurd h (by decide),fun h=>absurd h (by decide)⟩
 case hstep =>
  intro j o a v hj ho hF hK hR hd;have f2:a.eval (.tmp 2)=.pointer (some ⟨w.heap.size,0,none⟩):=hF.eval 2 (fun i hi=>by show 16+i≠2;omega);have f3:a.tmps[3]?.getD undef=.pointer (some ⟨w.heap.size+1,0,none⟩):=ah.az (hF.eval 3 (fun i hi=>by show 16+i≠3;omega));have f4:a.tmps[4]?.getD undef=.pointer (some ⟨w.heap.size+1+1,0,none⟩):=ah.az (hF.eval 4 (fun i hi=>by show 16+i≠4;omega));have HK:=ae hK;have c1:=af hK.b1 0 _ rfl;have c2:=af hK.b2 0 _ rfl;have g1:=hK.Fv;have g2:=hK.Fw;have hcase:j=0\/j=1\/j=2\/j=3\/j=4\/j=5:=by omega
  clear hj hR hK;rcases hcase with rfl|rfl|rfl|rfl|rfl|rfl
  all_goals (simp only [List.getElem?_toArray,List.getElem?_cons_succ,List.getElem?_cons_zero,Option.some.injEq] at ho;subst ho;refine ah.bI fun K ak=>?_)
  ·go_simp;exact ak _ _ ⟨_,rfl,HK.out,fun _=>rfl,fun h=>absurd h (by decide),fun h=>absurd h (by decide)⟩
  ·go_simp;exact ak _ _ ⟨_,rfl,HK.out,fun h=>absurd h (by decide),fun _=>rfl,fun h=>absurd h (by decide)⟩
  ·go_simp;exact ak _ _ ⟨_,rfl,HK.out,fun h=>absurd h (by decide),fun h=>absurd h (by decide),fun _=>rfl⟩
  ·have q:a.eval (.tmp 16)=.agg dw:=(hd 0 (by decide)).1 rfl;obtain ⟨W,hW,hth,hP⟩:=HK.out.put dw rfl;refine wp_store_mid 29 (.tmp 2) (.tmp 16) rfl w.heap.size 0 dw f2 q hth pW (by simp [Value.oneCell']) ?_;rw [hW];exact ak _ _ ⟨undef,rfl,hP,fun h=>absurd h (by decide),fun h=>absurd h (by decide),fun h=>absurd h (by decide)⟩
  ·have q:a.tmps[17]?.getD undef=.int .i64 cH:=ah.az ((hd 1 (by decide)).2.1 rfl);go_simp;exact ak _ _ ⟨undef,rfl,HK.out.set1 cH,fun h=>absurd h (by decide),fun h=>absurd h (by decide),fun h=>absurd h (by decide)⟩
  ·have q:a.tmps[18]?.getD undef=.int .i64 er:=ah.az ((hd 2 (by decide)).2.2 rfl);go_simp;exact ak _ _ ⟨undef,rfl,HK.out.set2 er,fun h=>absurd h (by decide),fun h=>absurd h (by decide),fun h=>absurd h (by decide)⟩
 case hend =>
  intro a v hF hK hn;obtain ⟨xl,hxl,rfl,hev⟩:=hF.lit (by simp)
  obtain ⟨x0,x1,x2,x3,x4,x5,rfl⟩:∃x0 x1 x2 x3 x4 x5,xl = [x0,x1,x2,x3,x4,x5]:=by
   match xl,hxl with
   | [x0,x1,x2,x3,x4,x5],_=>exact ⟨x0,x1,x2,x3,x4,x5,rfl⟩
  have HK:=ae hK;clear hev hxl hF hn hK;simp only [List.take_succ_cons,List.take_zero,List.drop_succ_cons,List.drop_zero,List.cons_append,List.nil_append];go_wp2_with fail;refine leaves_cons (f:=22) (args:=#[.pointer (some ⟨w.heap.size,0,none⟩),.pointer (some ⟨w.heap.size+1,0,none⟩),.pointer (some ⟨w.heap.size+2,0,none⟩)]) (by simp) (by simp [go_sem]) ?_;refine (Dr w.heap.size (w.heap.size+1) (w.heap.size+2) _).mono ?_;rintro e u' w9 ⟨rfl,rfl,rfl⟩;have dY:=HK.out;have z0:=af dY.b0 0 _ rfl;have z1:=af dY.b0 1 _ rfl;have z2:=af dY.b0 2 _ rfl;have z3:=af dY.b0 3 _ rfl;have z4:=af dY.b0 4 _ rfl;have z5:=af dY.b0 5 _ rfl;have z6:=af dY.b0 6 _ rfl;have z7:=af dY.b0 7 _ rfl;have nZ:=af dY.b1 0 _ rfl;have yc:=af dY.b2 0 _ rfl;simp [Leaves,settle,results,Tryz.results10,go_sem,z0,z1,z2,z3,z4,z5,z6,z7,nZ,yc];exact ⟨dY.below,rfl⟩
namespace Pz
def Says (s:ByteArray) (R:Except (Int × Int) (List Value × Value)):Prop :=
 if (lx s).2.2≠0 then R=.error ((lx s).2.1,(lx s).2.2) else
 match kJ (lx s).1 s.size with
 | .error z=>R=.error (z,120)
 | .ok ((ds,t),_)=>∃d,fit d t/\R=mH d ds t
theorem acr {d e:Nat} {t:Value} (hd:fit d t) (he:fit e t) (ds:List Value):mH e ds t=mH d ds t:=by
 unfold mH;rw [NK hd he]
theorem Says.one {s:ByteArray} {R R':Except (Int × Int) (List Value × Value)} (h:Says s R) (h':Says s R'):R=R':=by
 unfold Says at h h';split at h
 ·rename_i hc;rw [if_pos hc] at h';rw [h,h']
 ·rename_i hc;rw [if_neg hc] at h';cases hp:kJ (lx s).1 s.size with
  | error z=>rw [hp] at h h';rw [h,h']
  | ok r =>
   obtain ⟨⟨ds,t⟩,j⟩:=r;rw [hp] at h h';obtain ⟨d,hd,rfl⟩:=h;obtain ⟨e,he,rfl⟩:=h';exact acr he hd ds
theorem Says.good {s:ByteArray} {ds:List Value} {t:Value} (h:Says s (.ok (ds,t))):∃j d,kJ (lx s).1 s.size=.ok ((ds,t),j)/\fit d t/\jb d ds t=false/\kK 256 ds t=false:=by
 unfold Says at h;split at h
 ·cases h
 ·split at h
  ·cases h
  ·rename_i ds' t' j hp;obtain ⟨d,hd,hl⟩:=h;unfold mH at hl;split at hl
   ·cases hl
   ·rename_i h1;split at hl
    ·cases hl
    ·rename_i h2;injection hl with hl;injection hl with e1 e2;subst e1 e2;exact ⟨j,d,hp,hd,by simpa using h1,by simpa using h2⟩
end Pz
theorem Iq (s:ByteArray) (w:World) (ek:WL w):Calls Tryz.prog 10 #[.string s] w fun e w'=>∃R,Says s R/\Fu w R e w':=by
 by_cases h0:(lx s).2.2=0
 ·cases hp:kJ (lx s).1 s.size with
  | error z =>
   refine (aab s w ek z h0 hp).mono ?_;rintro e w' ⟨he,hb⟩;exact ⟨.error (z,120),by unfold Says;rw [if_neg (by simpa using h0),hp],hb,he⟩
  | ok r =>
   obtain ⟨⟨ds,t⟩,j⟩:=r;refine (acs s w ek ds t j h0 hp).mono ?_;rintro e w' ⟨d,hd,hP⟩;exact ⟨_,by unfold Says;rw [if_neg (by simpa using h0),hp];exact ⟨d,hd,rfl⟩,hP⟩
 ·refine (acp s w ek h0).mono ?_;rintro e w' hP;exact ⟨_,by unfold Says;rw [if_pos h0],hP⟩
end Go.Proofs.YtpaefhceiliaiaaGreatDoor
