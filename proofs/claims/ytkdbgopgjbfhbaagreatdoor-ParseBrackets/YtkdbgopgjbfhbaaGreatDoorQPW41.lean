/- Texts that the claim needs. -/
import Derived.Test.YtkdbgopgjbfhbaaGreatDoorQPW33
import Derived.Test.YtkdbgopgjbfhbaaGreatDoorQPW40
namespace Go.Proofs.YtkdbgopgjbfhbaaGreatDoor
open Go.RowKit Lx Pz bq
set_option linter.unusedVariables false
namespace Pz
theorem GT.nd {k:Int} {x y:ByteArray} {n:Int} {es ps:List Value} {a:Int} (h:uP (nd k x y n es ps a)=true) (ha:∀x ∈ es,GT x):GT (nd k x y n es ps a):=GT.mk h ha
theorem GP.nd {k:Int} {x y:ByteArray} {n:Int} {es ps:List Value} {a:Int} (h:uR (nd k x y n es ps a)=true) (ha:∀x ∈ es,GP x):GP (nd k x y n es ps a):=GP.mk h ha
theorem GE.nd {k:Int} {x y:ByteArray} {n:Int} {es ps:List Value} {a:Int} (h:mM (nd k x y n es ps a)=true) (ha:∀x ∈ es,GE x) (hp:∀x ∈ ps,GP x):GE (nd k x y n es ps a):=GE.mk h ha hp
theorem CR {t:Tk} {s:ByteArray} (h:bn t s=true):t.x=s:=by
 unfold bn at h;rw [Bool.and_eq_true,decide_eq_true_eq] at h;exact h.2
section
variable {L:List Tk} {en:Int}
theorem BM {K:Int} {i:Nat} {t:Tk} {j:Nat} (h:bN L en K i=.ok (t,j)):t=tk L en i/\(tk L en i).k=K:=by
 unfold bN at h;split at h
 ·rename_i hk;injection h with h;injection h with h1 h2;exact ⟨h1.symm,hk⟩
 ·cases h
theorem ML {E:Nat->Rd Value} {i:Nat} {e:Value} {j:Nat} (h:brk L en E i=.ok (e,j)):∃i' j',E i'=.ok (e,j'):=by
 unfold brk at h;split at h
 ·cases h
 ·rename_i i1 h1;split at h
  ·cases h
  ·rename_i e1 j1 h2;split at h
   ·cases h
   ·injection h with h;injection h with h3 h4;subst h3;exact ⟨_,_,h2⟩
theorem EB {P:Value->Prop} {nx:Tk->Bool} {A:Nat->Rd Value} (hA:∀i e j,A i=.ok (e,j)->P e):∀(f i:Nat) (acc ts:List Value) (j:Nat),(∀x ∈ acc,P x)->dK L en nx A f i acc=.ok (ts,j)->∀x ∈ ts,P x
 | 0,i,acc,ts,j,ha,h=>by
  unfold dK at h;injection h with h;injection h with h1 h2;subst h1;exact ha
 | f+1,i,acc,ts,j,ha,h=>by
  unfold dK at h;split at h
  ·split at h
   ·cases h
   ·rename_i e1 j1 h1;exact EB hA f _ _ ts j (EA ha (hA _ _ _ h1)) h
  ·injection h with h;injection h with h1 h2;subst h1;exact ha
end
section
variable {L:List Tk} {en:Int} (hG:GK L)
theorem adT (hG:GK L) {i:Nat} (hk:(tk L en i).k=1):GT (rD (tk L en i).x):=by
 unfold rD;split
 ·exact GT.nd adr iq
 ·rename_i hx;exact GT.nd (U2 (ng hG hk (by decide) (by decide) (by decide)) hx) iq
theorem MM (hG:GK L) {T:Nat->Rd Value} (hT:∀i e j,T i=.ok (e,j)->GT e) (i:Nat) (t:Value) (j:Nat) (h:iO L en T i=.ok (t,j)):GT t:=by
 unfold iO at h;split at h
 ·rename_i hk;injection h with h;injection h with h1 h2;subst h1;exact adT hG hk
 ·split at h
  ·rename_i hk;injection h with h;injection h with h1 h2;subst h1;exact GT.nd (ads (ng hG hk (by decide) (by decide) (by decide))) iq
  ·obtain ⟨i',j',h'⟩:=ML h;exact hT _ _ _ h'
theorem adU (hG:GK L) {T:Nat->Rd Value} (hT:∀i e j,T i=.ok (e,j)->GT e) (i:Nat) (t:Value) (j:Nat) (h:mF L en T i=.ok (t,j)):GT t:=by
 unfold mF at h;split at h
 ·cases h
 ·rename_i t1 j1 h1;split at h
  ·rename_i hk;split at h
   ·cases h
   ·rename_i ts j2 h2;injection h with h;injection h with h3 h4;subst h3;exact GT.nd (U2 (ng hG hk.1 (by decide) (by decide) (by decide)) hk.2) (EB (MM hG hT) _ _ _ _ _ iq h2)
  ·injection h with h;injection h with h3 h4;subst h3;exact MM hG hT _ _ _ h1
theorem MN (hG:GK L):∀(f i:Nat) (t:Value) (j:Nat),jv L en f i=.ok (t,j)->GT t
 | 0,i,t,j,h=>by unfold jv at h;cases h
 | f+1,i,t,j,h=>by
  unfold jv at h;split at h
  ·cases h
  ·rename_i t1 j1 h1;have g1:=adU hG (MN hG f) _ _ _ h1;split at h
   ·injection h with h;injection h with h3 h4;subst h3;exact g1
   ·split at h
    ·cases h
    ·rename_i u j2 h2;injection h with h;injection h with h3 h4;subst h3;exact GT.nd adt (mem2 g1 (MN hG f _ _ _ h2))
theorem Vo (hG:GK L) {E:Nat->Rd Value} (hE:∀i e j,E i=.ok (e,j)->GP e) (i:Nat) (e:Value) (j:Nat) (h:ju L en E i=.ok (e,j)):GP e:=by
 unfold ju at h;split at h
 ·rename_i hk;injection h with h;injection h with h1 h2;subst h1;exact GP.nd (adv _ (ng hG hk (by decide) (by decide) (by decide))) iq
 ·split at h
  ·injection h with h;injection h with h1 h2;subst h1;exact GP.nd (adu _) iq
  ·split at h
   ·rename_i hk;injection h with h;injection h with h1 h2;subst h1;exact GP.nd (adw _ (U1 hG hk)) iq
   ·split at h
    ·rename_i hk;injection h with h;injection h with h1 h2;subst h1;exact GP.nd (Ez _ (ng hG hk (by decide) (by decide) (by decide))) iq
    ·obtain ⟨i',j',h'⟩:=ML h;exact hE _ _ _ h'
theorem MO (hG:GK L):∀(f i:Nat) (t:Value) (j:Nat),gG L en f i=.ok (t,j)->GP t
 | 0,i,t,j,h=>by unfold gG at h;cases h
 | f+1,i,t,j,h=>by
  unfold gG at h;split at h
  ·rename_i hk;split at h
   ·cases h
   ·rename_i ps j2 h2;injection h with h;injection h with h3 h4;subst h3;exact GP.nd (Ez _ (ng hG hk (by decide) (by decide) (by decide))) (EB (Vo hG (MO hG f)) _ _ _ _ _ iq h2)
  ·exact Vo hG (MO hG f) _ _ _ h
theorem Hg (hG:GK L) {E:Nat->Rd Value} (hE:∀i e j,E i=.ok (e,j)->GE e) (i:Nat) (e:Value) (j:Nat) (h:fG L en E i=.ok (e,j)):GE e:=by
 unfold fG at h;split at h
 ·rename_i hk;injection h with h;injection h with h1 h2;subst h1;exact GE.nd (adx _ (ng hG hk (by decide) (by decide) (by decide))) iq iq
 ·split at h
  ·rename_i hk;injection h with h;injection h with h1 h2;subst h1;exact GE.nd (ady _ (U1 hG hk)) iq iq
  ·split at h
   ·rename_i hk;injection h with h;injection h with h1 h2;subst h1;exact GE.nd (U5 _ (ng hG hk (by decide) (by decide) (by decide))) iq iq
   ·obtain ⟨i',j',h'⟩:=ML h;exact hE _ _ _ h'
theorem Vp (hG:GK L) {E:Nat->Rd Value} (hE:∀i e j,E i=.ok (e,j)->GE e):∀(f i:Nat) (e r:Value) (j:Nat),GE e->jW L en E f i e=.ok (r,j)->GE r
 | 0,i,e,r,j,he,h=>by
  unfold jW at h;injection h with h;injection h with h1 h2;subst h1;exact he
 | f+1,i,e,r,j,he,h=>by
  unfold jW at h;split at h
  ·split at h
   ·cases h
   ·rename_i a j1 h1;exact Vp hG hE f _ _ r j (GE.nd (adA _) (mem2 he (Hg hG hE _ _ _ h1)) iq) h
  ·injection h with h;injection h with h1 h2;subst h1;exact he
theorem Vq (hG:GK L) {E:Nat->Rd Value} (hE:∀i e j,E i=.ok (e,j)->GE e) (i:Nat) (e:Value) (j:Nat) (h:jd L en E i=.ok (e,j)):GE e:=by
 unfold jd at h;split at h
 ·split at h
  ·cases h
  ·rename_i a j1 h1;injection h with h;injection h with h2 h3;subst h2;exact GE.nd (adE _) (mem1 (Hg hG hE _ _ _ h1)) iq
 ·split at h
  ·rename_i hk;split at h
   ·cases h
   ·rename_i es j1 h1;injection h with h;injection h with h2 h3;subst h2;exact GE.nd (U5 _ (ng hG hk (by decide) (by decide) (by decide))) (EB (Hg hG hE) _ _ _ _ _ iq h1) iq
  ·split at h
   ·cases h
   ·rename_i a j1 h1;exact Vp hG hE _ _ _ _ _ (Hg hG hE _ _ _ h1) h
end
section
variable {L:List Tk} {en:Int}
theorem Hh {sg:Tk->Bool} (hs:∀t,sg t=true->eT 6 t.x=true) {A:Nat->Rd Value} (hA:∀i e j,A i=.ok (e,j)->GE e):∀(f i:Nat) (e r:Value) (j:Nat),GE e->eZ L en sg A f i e=.ok (r,j)->GE r
 | 0,i,e,r,j,he,h=>by
  unfold eZ at h;injection h with h;injection h with h1 h2;subst h1;exact he
 | f+1,i,e,r,j,he,h=>by
  unfold eZ at h;split at h
  ·rename_i hk;split at h
   ·cases h
   ·rename_i a j1 h1;exact Hh hs hA f _ _ r j (GE.nd (adD _ (hs _ hk)) (mem2 he (hA _ _ _ h1)) iq) h
  ·injection h with h;injection h with h1 h2;subst h1;exact he
theorem adV (t:Tk) (h:qM t=true):eT 6 t.x=true:=by
 unfold qM at h;rw [Bool.or_eq_true,Bool.or_eq_true] at h;rcases h with (h|h)|h<;>rw [CR h]<;>decide
theorem adW (t:Tk) (h:qQ t=true):eT 6 t.x=true:=by
 unfold qQ at h;rw [Bool.or_eq_true] at h;rcases h with h|h<;>rw [CR h]<;>decide
theorem adX (t:Tk) (h:qV t=true):eT 6 t.x=true:=by
 unfold qV at h;rw [Bool.or_eq_true] at h;rcases h with h|h<;>rw [CR h]<;>decide
end
section
variable {L:List Tk} {en:Int} (hG:GK L)
theorem Vr (hG:GK L) {E:Nat->Rd Value} (hE:∀i e j,E i=.ok (e,j)->GE e) (i:Nat) (e:Value) (j:Nat) (h:je L en E i=.ok (e,j)):GE e:=by
 unfold je at h;split at h
 ·cases h
 ·rename_i a j1 h1;exact Hh adV (Vq hG hE) _ _ _ _ _ (Vq hG hE _ _ _ h1) h
theorem Vs (hG:GK L) {E:Nat->Rd Value} (hE:∀i e j,E i=.ok (e,j)->GE e) (i:Nat) (e:Value) (j:Nat) (h:jf L en E i=.ok (e,j)):GE e:=by
 unfold jf at h;split at h
 ·cases h
 ·rename_i a j1 h1;exact Hh adW (Vr hG hE) _ _ _ _ _ (Vr hG hE _ _ _ h1) h
theorem adY (hG:GK L) {E:Nat->Rd Value} (hE:∀i e j,E i=.ok (e,j)->GE e) (i:Nat) (e:Value) (j:Nat) (h:kP L en E i=.ok (e,j)):GE e:=by
 unfold kP at h;split at h
 ·cases h
 ·rename_i a j1 h1;exact Hh adX (Vs hG hE) _ _ _ _ _ (Vs hG hE _ _ _ h1) h
theorem adZ (hG:GK L) {E:Nat->Rd Value} (hE:∀i e j,E i=.ok (e,j)->GE e) (i:Nat) (e:Value) (j:Nat) (h:mH L en E i=.ok (e,j)):GE e:=by
 unfold mH at h;split at h
 ·cases h
 ·rename_i a j1 h1;have g1:=adY hG hE _ _ _ h1;split at h
  ·injection h with h;injection h with h2 h3;subst h2;exact g1
  ·split at h
   ·cases h
   ·rename_i u j2 h2;injection h with h;injection h with h3 h4;subst h3;exact GE.nd (MB _ rfl (by simp)) (mem2 g1 (hE _ _ _ h2)) (mem1 (GP.nd (Ez _ (by decide)) iq))
theorem Vt (hG:GK L) {E:Nat->Rd Value} (hE:∀i e j,E i=.ok (e,j)->GE e) (i:Nat) (p e:Value) (j:Nat) (h:jX L en E i=.ok ((p,e),j)):GP p/\GE e:=by
 unfold jX at h;split at h
 ·cases h
 ·rename_i p1 j1 h1;split at h
  ·cases h
  ·split at h
   ·cases h
   ·rename_i e1 j2 h2;injection h with h;injection h with h3 h4;injection h3 with h5 h6;subst h5 h6;exact ⟨MO hG _ _ _ _ h1,hE _ _ _ h2⟩
theorem Vu (hG:GK L) {E:Nat->Rd Value} (hE:∀i e j,E i=.ok (e,j)->GE e):∀(f i:Nat) (ps es ps' es':List Value) (j:Nat),(∀x ∈ ps,GP x)->(∀x ∈ es,GE x)->es.length=ps.length+1->ps.length≠0->kQ L en E f i ps es=.ok ((ps',es'),j)->(∀x ∈ ps',GP x)/\(∀x ∈ es',GE x)/\es'.length=ps'.length+1/\ps'.length≠0
 | 0,i,ps,es,ps',es',j,hp,he,hl,h0,h=>by
  unfold kQ at h;injection h with h;injection h with h3 h4;injection h3 with h5 h6;subst h5 h6;exact ⟨hp,he,hl,h0⟩
 | f+1,i,ps,es,ps',es',j,hp,he,hl,h0,h=>by
  unfold kQ at h;split at h
  ·injection h with h;injection h with h3 h4;injection h3 with h5 h6;subst h5 h6;exact ⟨hp,he,hl,h0⟩
  ·split at h
   ·cases h
   ·rename_i p e j1 h1;obtain ⟨g1,g2⟩:=Vt hG hE _ _ _ _ h1;exact Vu hG hE f _ _ _ _ _ j (EA hp g1) (EA he g2) (by simp [hl]) (by simp) h
theorem ad0 (hG:GK L) {E:Nat->Rd Value} (hE:∀i e j,E i=.ok (e,j)->GE e) (i:Nat) (e:Value) (j:Nat) (h:nu L en E i=.ok (e,j)):GE e:=by
 unfold nu at h;split at h
 ·cases h
 ·rename_i t j1 h1;have ht:=BM h1;split at h
  ·cases h
  ·split at h
   ·cases h
   ·rename_i e1 j2 h2;injection h with h;injection h with h3 h4;subst h3;exact GE.nd (adz _ (by rw [ht.1];exact ng hG ht.2 (by decide) (by decide) (by decide))) (mem1 (hE _ _ _ h2)) iq
theorem Vv (hG:GK L) {E:Nat->Rd Value} (hE:∀i e j,E i=.ok (e,j)->GE e) {k:Int} {x y:ByteArray} {a:Int} (hd:∀b e,mM (nd k x y 0 [b,e] [] a)=true) (i:Nat) (e:Value) (j:Nat) (h:jL L en E k x y a i=.ok (e,j)):GE e:=by
 unfold jL at h;split at h
 ·cases h
 ·split at h
  ·cases h
  ·rename_i b j1 h1;split at h
   ·cases h
   ·split at h
    ·cases h
    ·rename_i e1 j2 h2;injection h with h;injection h with h3 h4;subst h3;exact GE.nd (hd _ _) (mem2 (hE _ _ _ h1) (hE _ _ _ h2)) iq
theorem ad1 (hG:GK L) {E:Nat->Rd Value} (hE:∀i e j,E i=.ok (e,j)->GE e) (i:Nat) (e:Value) (j:Nat) (h:ny L en E i=.ok (e,j)):GE e:=by
 unfold ny at h;split at h
 ·split at h
  ·cases h
  ·rename_i t j1 h1;have ht:=BM h1;exact Vv hG hE (fun b e=>adB _ (by rw [ht.1];exact ng hG ht.2 (by decide) (by decide) (by decide))) _ _ _ h
 ·split at h
  ·cases h
  ·rename_i t j1 h1;have ht:=BM h1;split at h
   ·cases h
   ·rename_i u j2 h2;have hu:=BM h2;exact Vv hG hE (fun b e=>adC _ (by rw [ht.1];exact ng hG ht.2 (by decide) (by decide) (by decide)) (by rw [hu.1];exact ng hG hu.2 (by decide) (by decide) (by decide))) _ _ _ h
theorem ad2 (hG:GK L) {E:Nat->Rd Value} (hE:∀i e j,E i=.ok (e,j)->GE e) (i:Nat) (e:Value) (j:Nat) (h:oG L en E i=.ok (e,j)):GE e:=by
 unfold oG at h;split at h
 ·cases h
 ·rename_i c j1 h1;split at h
  ·cases h
  ·split at h
   ·cases h
   ·rename_i t j2 h2;split at h
    ·cases h
    ·split at h
     ·cases h
     ·rename_i u j3 h3;injection h with h;injection h with h4 h5;subst h4;exact GE.nd (MB _ rfl (by simp)) (mem3 (hE _ _ _ h1) (hE _ _ _ h2) (hE _ _ _ h3)) (mem2 (GP.nd (Ez _ (by decide)) iq) (GP.nd (Ez _ (by decide)) iq))
theorem ad3 (hG:GK L) {E:Nat->Rd Value} (hE:∀i e j,E i=.ok (e,j)->GE e) (i:Nat) (e:Value) (j:Nat) (h:nz L en E i=.ok (e,j)):GE e:=by
 unfold nz at h;split at h
 ·cases h
 ·rename_i c j1 h1;split at h
  ·cases h
  ·split at h
   ·cases h
   ·rename_i p e2 j2 h2;obtain ⟨g1,g2⟩:=Vt hG hE _ _ _ _ h2;split at h
    ·cases h
    ·rename_i ps es j3 h3;obtain ⟨q1,q2,q3,q4⟩:=Vu hG hE _ _ _ _ _ _ _ (mem1 g1) (mem2 (hE _ _ _ h1) g2) rfl (by simp) h3;split at h
     ·cases h
     ·injection h with h;injection h with h4 h5;subst h4;exact GE.nd (MB _ q3 q4) q2 q1
theorem BN (hG:GK L):∀(f i:Nat) (e:Value) (j:Nat),dD L en f i=.ok (e,j)->GE e
 | 0,i,e,j,h=>by unfold dD at h;cases h
 | f+1,i,e,j,h=>by
  unfold dD at h;split at h
  ·exact ad0 hG (BN hG f) _ _ _ h
  ·split at h
   ·exact ad1 hG (BN hG f) _ _ _ h
   ·split at h
    ·exact ad2 hG (BN hG f) _ _ _ h
    ·split at h
     ·exact ad3 hG (BN hG f) _ _ _ h
     ·exact adZ hG (BN hG f) _ _ _ h
end
def GC (c:Value):Prop:=∀m,uj m c=false->Da m c=true
def GD (c:Value):Prop:=∀m,ui m c=false->Db m c=true
theorem GC.mk {x:ByteArray} {ts:List Value} (h:eT 2 x=true) (ht:∀t ∈ ts,GT t):GC (sZ x ts):=fun m hm=>by
 show (eT 2 x && ts.all (yT m))=true;rw [h,Bool.true_and,List.all_eq_true];exact fun t hx=>ht t hx m (yj (f:=mr m) (l:=ts) hm hx)
theorem GD.mk {x:ByteArray} {ps:List ByteArray} {cs:List Value} {a:Int} (h:eT 1 x=true) (hp:∀p ∈ ps,eT 3 p=true) (h0:cs≠[]) (hc:∀t ∈ cs,GC t):GD (pM x ps cs a):=fun m hm=>by
 show (eT 1 x && ((ps.map Value.string).all (fun p=>eT 3 (wO p)) && (decide (0<cs.length) && cs.all (Da m))))=true;rw [h,decide_eq_true (List.length_pos_iff.2 h0),Bool.true_and,Bool.true_and,Bool.and_eq_true,List.all_eq_true,List.all_eq_true];refine ⟨fun p hx=>?_,fun t hx=>hc t hx m (yj (f:=uj m) (l:=cs) hm hx)⟩;obtain ⟨q,hq,rfl⟩:=List.mem_map.1 hx;exact hp q hq
section
variable {L:List Tk} {en:Int} (hG:GK L)
theorem Vw (hG:GK L) (i:Nat) (c:Value) (j:Nat) (h:iP L en i=.ok (c,j)):GC c:=by
 unfold iP at h;split at h
 ·cases h
 ·rename_i t j1 h1;have ht:=BM h1;split at h
  ·cases h
  ·rename_i ts j2 h2;injection h with h;injection h with h3 h4;subst h3;exact GC.mk (by rw [ht.1];exact ng hG ht.2 (by decide) (by decide) (by decide)) (EB (MM hG (MN hG _)) _ _ _ _ _ iq h2)
theorem Vx (hG:GK L):∀(f i:Nat) (acc:List ByteArray),(∀p ∈ acc,eT 3 p=true)->∀p ∈ (jT L en f i acc).1,eT 3 p=true
 | 0,i,acc,h=>h
 | f+1,i,acc,h=>by
  unfold jT;split
  ·rename_i hk;refine Vx hG f _ _ (fun p hp=>?_);rcases List.mem_append.1 hp with hp|hp
   ·exact h p hp
   ·rw [List.mem_singleton.1 hp];exact ng hG hk (by decide) (by decide) (by decide)
  ·exact h
theorem Vy (hG:GK L):∀(f i:Nat) (acc cs:List Value) (j:Nat),(∀x ∈ acc,GC x)->acc≠[]->jY L en f i acc=.ok (cs,j)->(∀x ∈ cs,GC x)/\cs≠[]
 | 0,i,acc,cs,j,ha,h0,h=>by
  unfold jY at h;injection h with h;injection h with h1 h2;subst h1;exact ⟨ha,h0⟩
 | f+1,i,acc,cs,j,ha,h0,h=>by
  unfold jY at h;split at h
  ·injection h with h;injection h with h1 h2;subst h1;exact ⟨ha,h0⟩
  ·split at h
   ·cases h
   ·rename_i c j1 h1;exact Vy hG f _ _ cs j (EA ha (Vw hG _ _ _ h1)) (by simp) h
theorem ad4 (hG:GK L) (i:Nat) (d:Value) (j:Nat) (h:nA L en i=.ok (d,j)):GD d:=by
 unfold nA at h;split at h
 ·cases h
 ·rename_i t j1 h1;have ht:=BM h1;split at h
  ·cases h
  ·split at h
   ·cases h
   ·rename_i c j3 h3;split at h
    ·cases h
    ·rename_i cs j4 h4;obtain ⟨q1,q2⟩:=Vy hG _ _ _ _ _ (mem1 (Vw hG _ _ _ h3)) (by simp) h4;split at h
     ·cases h
     ·injection h with h;injection h with h5 h6;subst h5;exact GD.mk (by rw [ht.1];exact ng hG ht.2 (by decide) (by decide) (by decide)) (Vx hG _ _ _ (fun p hp=>by cases hp)) q2 q1
theorem Vz (hG:GK L):∀(f i:Nat) (acc ds:List Value) (j:Nat),(∀x ∈ acc,GD x)->jC L en f i acc=.ok (ds,j)->∀x ∈ ds,GD x
 | 0,i,acc,ds,j,ha,h=>by
  unfold jC at h;injection h with h;injection h with h1 h2;subst h1;exact ha
 | f+1,i,acc,ds,j,ha,h=>by
  unfold jC at h;split at h
  ·split at h
   ·cases h
   ·rename_i d j1 h1;exact Vz hG f _ _ ds j (EA ha (ad4 hG _ _ _ h1)) h
  ·injection h with h;injection h with h1 h2;subst h1;exact ha
theorem Yx (hG:GK L) {ds:List Value} {t:Value} {j:Nat} (h:jQ L en=.ok ((ds,t),j)):(∀x ∈ ds,GD x)/\GE t:=by
 unfold jQ xz zI at h;split at h
 ·cases h
 ·rename_i ds1 j1 h1;split at h
  ·cases h
  ·rename_i e1 j2 h2;split at h
   ·cases h
   ·injection h with h;injection h with h3 h4;injection h3 with h5 h6;subst h5 h6;exact ⟨Vz hG _ _ _ _ _ iq h1,BN hG _ _ _ _ h2⟩
end
theorem Yw {ds:List Value} {t:Value} {m:Nat} (h:(∀x ∈ ds,GD x)/\GE t) (hd:pq m ds t=false):Js m ds t=true:=by
 unfold pq at hd;rw [Bool.or_eq_false_iff] at hd;unfold Js;rw [Bool.and_eq_true,List.all_eq_true];exact ⟨fun x hx=>h.1 x hx m (yj hd.1 hx),h.2 m hd.2⟩
end Pz
namespace Pz
def yP (u:Tk):Prop:=(u.k≠1/\u.k≠2/\u.k≠3/\u.k≠4)/\∀s,s≠sR->bn u s=false
theorem wI {t:Tk} {s s':ByteArray} (h:bn t s=true) (hs:s≠s'):bn t s'=false:=by
 cases h':bn t s' with
 | false=>rfl
 | true=>exact absurd ((CR h).symm.trans (CR h')) hs
theorem qL {t:Tk} {s:ByteArray} (h:bn t s=true) {c:Int} (hc:c=1\/c=2\/c=3\/c=4):¬ t.k=c:=by
 intro hk;rcases pV h with h|h<;>rw [hk] at h<;>rcases hc with rfl|rfl|rfl|rfl<;>cases h
theorem O9 (K:List Tk) (en:Int) {j:Nat} (h:K.length<=j):yP (tk K en j):=by
 rw [AY K en h];exact ⟨⟨show (0:Int)≠1 by decide,show (0:Int)≠2 by decide,show (0:Int)≠3 by decide,show (0:Int)≠4 by decide⟩,fun s _=>Je rfl⟩
theorem Pd {u:Tk} (h:bn u sR=true):yP u:=⟨⟨qL h (.inl rfl),qL h (.inr (.inl rfl)),qL h (.inr (.inr (.inl rfl))),qL h (.inr (.inr (.inr rfl)))⟩,fun s hs=>wI h (fun e=>hs e.symm)⟩
section
variable {K:List Tk} {en:Int}
theorem CU {s:ByteArray} {i:Nat} (h:bn (tk K en i) s=true):aY K en s i=.ok (i+1):=if_pos h
theorem X3 {u:Tk} (h:yP u):mG u=false:=by
 unfold mG;rw [beq_false_of_ne h.1.1,beq_false_of_ne h.1.2.2.2,beq_false_of_ne h.1.2.1,h.2 sL (by decide)];rfl
theorem X4 {u:Tk} (h:yP u):qM u=false:=by
 unfold qM;rw [h.2 qN (by decide),h.2 qO (by decide),h.2 qP (by decide)];rfl
theorem X5 {u:Tk} (h:yP u):qQ u=false:=by
 unfold qQ;rw [h.2 qR (by decide),h.2 qU (by decide)];rfl
theorem X6 {u:Tk} (h:yP u):qV u=false:=by
 unfold qV;rw [h.2 rV (by decide),h.2 rW (by decide)];rfl
theorem Jf {sg:Tk->Bool} {A:Nat->Rd Value} {j:Nat} {e:Value} (h:sg (tk K en j)=false):∀f,eZ K en sg A f j e=.ok (e,j)
 | 0=>rfl
 | f+1=>by unfold eZ;rw [h];rfl
theorem X7 {E:Nat->Rd Value} {j:Nat} {e:Value} (h:mG (tk K en j)=false):∀f,jW K en E f j e=.ok (e,j)
 | 0=>rfl
 | f+1=>by unfold jW;rw [h];rfl
theorem Pe {f i j:Nat} {e:Value} (h1:bn (tk K en i) sL=true) (h2:dD K en f (i+1)=.ok (e,j)) (h3:bn (tk K en j) sR=true) (h4:yP (tk K en (j+1))):dD K en (f+1) i=.ok (e,j+1):=by
 have ha:fG K en (dD K en f) i=.ok (e,j+1):=by
  unfold fG;rw [if_neg (qL h1 (.inl rfl)),if_neg (qL h1 (.inr (.inr (.inr rfl)))),if_neg (qL h1 (.inr (.inl rfl)))];unfold brk;rw [CU h1];dsimp only;rw [h2];dsimp only;rw [CU h3]
 have hb:jd K en (dD K en f) i=.ok (e,j+1):=by
  unfold jd;rw [wI h1 (s':=gW) (by decide),if_neg (by decide),if_neg (qL h1 (.inr (.inl rfl))),ha];exact X7 (X3 h4) _
 have hc:je K en (dD K en f) i=.ok (e,j+1):=by
  unfold je;rw [hb];exact Jf (X4 h4) _
 have hd:jf K en (dD K en f) i=.ok (e,j+1):=by
  unfold jf;rw [hc];exact Jf (X5 h4) _
 have he:kP K en (dD K en f) i=.ok (e,j+1):=by
  unfold kP;rw [hd];exact Jf (X6 h4) _
 unfold dD;rw [wI h1 (s':=eY) (by decide),wI h1 (s':=fA) (by decide),wI h1 (s':=gI) (by decide),wI h1 (s':=gX) (by decide)];rw [if_neg (by decide),if_neg (by decide),if_neg (by decide),if_neg (by decide)];unfold mH;rw [he];dsimp only;have hm:aY K en kD (j+1)=.error (tk K en (j+1)).a:=if_neg (by rw [h4.2 kD (by decide)];decide);rw [hm]
end
theorem X8 {Pl:Int->Int->Prop} {L M:List Tk} {en en':Int} {l1 l2 r1 r2:Tk} (h1:bn l1 sL=true) (h2:bn l2 sL=true) (h3:bn r1 sR=true) (h4:bn r2 sR=true) (hM:M.length=L.length) (hA:∀(i:Nat) (x y:Tk),L[i]?=some x->M[i]?=some y->x.k=y.k/\x.x=y.x/\x.n=y.n/\Pl x.a y.a) {e:Value} (he:dD L en (L.length+1) 0=.ok (e,L.length)) :
  ∃e',dD (l1 :: l2 :: (M++[r1,r2])) en' ((l1 :: l2 :: (M++[r1,r2])).length+1) 0=.ok (e',(l1 :: l2 :: (M++[r1,r2])).length)/\AL Pl e e':=by
 obtain ⟨K,hK⟩:∃K,K=l1 :: l2 :: (M++[r1,r2]):=⟨_,rfl⟩;rw [<- hK];have wJ:K.length=L.length+4:=by rw [hK];simp;omega
 have k0:tk K en' 0=l1:=jO K en' (by rw [hK];rfl);have k1:tk K en' 1=l2:=jO K en' (by rw [hK];rfl)
 have kr:tk K en' (2+L.length)=r1:=jO K en' (by
  rw [hK,Nat.add_comm,<- hM];show (M++[r1,r2])[M.length]?=_;rw [List.getElem?_append_right (Nat.le_refl _),Nat.sub_self];rfl)
 have kq:tk K en' (2+L.length+1)=r2:=jO K en' (by
  rw [hK,show 2+L.length+1=M.length+1+2 by omega];show (M++[r1,r2])[M.length+1]?=_;rw [List.getElem?_append_right (by omega),Nat.add_sub_cancel_left];rfl)
 have Fs:fB Pl L en K en' 2:=by
  refine ⟨fun i hi=>?_,by omega⟩;by_cases hlt:i<L.length
  ·have e1:L[i]?=some L[i]:=List.getElem?_eq_getElem hlt;obtain ⟨y,e2⟩:∃y,M[i]?=some y:=⟨_,List.getElem?_eq_getElem (by omega)⟩
   have e3:K[2+i]?=some y:=by
    rw [hK,Nat.add_comm];show (M++[r1,r2])[i]?=_;rw [List.getElem?_append_left (by omega)];exact e2
   rw [jO L en e1,jO K en' e3];exact .inl (hA i _ _ e1 e2)
  ·obtain rfl:i=L.length:=by omega
   rw [AY L en (Nat.le_refl _),kr]
   have:=Pd h3
   exact .inr ⟨rfl,this.1,fun s hs=>this.2 s hs.1⟩
 obtain ⟨z,ee⟩|⟨x,y,j,ee,ff,_,_,hq⟩:=Sm.cs (Sm.dD Fs (L.length+1) (K.length-1) 0 (Nat.zero_le _) (by omega))
 ·rw [he] at ee;cases ee
 ·rw [he] at ee;injection ee with ee;injection ee with e1 e2;subst e1 e2;refine ⟨y,?_,hq⟩;have s1:=Pe (K:=K) (en:=en') (f:=K.length-1) (i:=1) (j:=2+L.length) (e:=y) (by rw [k1];exact h2) ff (by rw [kr];exact h3) (by rw [kq];exact Pd h4);have s2:=Pe (K:=K) (en:=en') (f:=K.length-1+1) (i:=0) (j:=2+L.length+1) (e:=y) (by rw [k0];exact h1) s1 (by rw [kq];exact h4) (O9 K en' (by omega));rw [show K.length-1+1+1=K.length+1 by omega,show 2+L.length+1+1=K.length by omega] at s2;exact s2
end Pz
end Go.Proofs.YtkdbgopgjbfhbaaGreatDoor
namespace Go.Proofs.YtkdbgopgjbfhbaaGreatDoor
open Go.RowKit
set_option linter.unusedVariables false
namespace Lx
theorem Lk.refl:∀(l:List Tk),Lk l l
 | []=>trivial
 | x :: l=>⟨rfl,rfl,rfl,Lk.refl l⟩
theorem zt (x y:ByteArray) (k:Nat):bt (x++y) k=if k<x.size then bt x k else bt y (k-x.size):=by
 unfold bt;by_cases h:k<x.size
 ·rw [if_pos h,dif_pos (by simp;omega),dif_pos h,ByteArray.getElem_append_left h]
 ·rw [if_neg h];by_cases h2:k-x.size<y.size
  ·rw [dif_pos (by simp;omega),dif_pos h2,ByteArray.getElem_append_right (by omega)]
  ·rw [dif_neg (by simp;omega),dif_neg h2]
end Lx
namespace Lx
theorem ab9 (x y:ByteArray) (a b:Nat) (h:b<=x.size):(x++y).extract a b=x.extract a b:=by
 rw [ByteArray.extract_append,FL (y:=y.extract (a-x.size) (b-x.size)) (by rw [ByteArray.size_extract];omega)];simp
theorem aca (x y:ByteArray):(x++y).extract x.size (x++y).size=y:=by
 rw [ByteArray.extract_append,ByteArray.size_append,FL (y:=x.extract x.size (x.size+y.size)) (by rw [ByteArray.size_extract];omega),Nat.sub_self,Nat.add_sub_cancel_left];simp
theorem wR (x y:ByteArray):Sub x.size y (x++y):=⟨by simp,aca x y⟩
end Lx
namespace Lx
end Lx
end Go.Proofs.YtkdbgopgjbfhbaaGreatDoor
namespace Go.Proofs.YtkdbgopgjbfhbaaGreatDoor
open Go.RowKit Lx Pz bq
set_option linter.unusedVariables false
namespace Lx
theorem Qn (s t u:ByteArray) (he:Ext s u) (hs:Sub (s.size+1) t u) (hz:s.size+t.size<4096) (h0:(lx s).2.2=0) (h1:(lx t).2.2=0) :
  bH u u.size (sk u false 0) []=((lx s).1++bV (s.size+1) (lx t).1,0,0)/\(lx s).1.length<=s.size:=by
 have hus:=hs.size;have e1:lx s=bH s s.size (sk s false 0) []:=if_neg (by omega);have e2:lx t=bH t t.size (sk t false 0) []:=if_neg (by omega);have hsk:=FK he s.size false 0 (Nat.zero_le _) (by omega);have hle:=zq s false (Nat.zero_le s.size);have key:=JH he (by omega) s.size u.size (sk s false 0) [] hle (by omega) (by omega) (Nat.zero_le _);rw [<- hsk,<- e1] at key;rcases key with ⟨k1,k2,F',k3,k4⟩|⟨k1,_⟩
 ·have hm:sk u false (s.size+1)=s.size+1+sk t false 0:=uL hs false (i:=0) (Nat.zero_le _);have ht:=P7 hs F' (sk t false 0) [] (lx s).1 (by simp;omega);rw [<- hm] at ht;have hsl:bV (s.size+1) [] = []:=rfl;rw [hsl,List.append_nil] at ht
  have hfu:bH t F' (sk t false 0) []=lx t:=by
   rw [e2];exact tT t F' t.size _ [] (by omega) (by omega)
  rw [hfu] at ht;rw [ht,if_pos h1] at k4;exact ⟨k4,k2⟩
 ·exact absurd h0 k1
theorem Zn {y:ByteArray} (h:cK y signs=true) (h2:y.size=2):bt y 0≠40:=by
 have ha:signs.all (fun y=>!(y.size == 2 && bt y 0 == 40))=true:=by decide
 have:=List.all_eq_true.1 ha y (Jd h)
 intro hb;rw [h2,hb] at this;exact absurd this (by decide)
theorem Qo {s:ByteArray} {i j:Nat} (hi:i<j) (hj:j<=s.size):bt (s.extract i j) 0=bt s i:=by
 unfold bt;rw [dif_pos (by rw [ByteArray.size_extract];omega),dif_pos (by omega)];simp [ByteArray.getElem_extract]
theorem Qp {u:ByteArray} {i:Nat} (hi:i<u.size) (hb:bt u i=40):one u i=.ok (6,sL,0,i+1):=by
 have hx:u.extract i (i+1)=sL:=by
  have hz:(u.extract i (i+1)).size=1:=by rw [ByteArray.size_extract];omega
  have h0:=Qo (s:=u) (i:=i) (j:=i+1) (by omega) (by omega);rw [hb] at h0;generalize u.extract i (i+1)=y at *;unfold bt at h0;rw [dif_pos (by omega)] at h0;apply ByteArray.ext;apply Array.ext
  ·exact hz
  ·intro k h1 h2;have hk:k=0:=by have:y.data.size=1:=hz;omega
   subst hk;apply UInt8.toNat_inj.1
   have:((y[0]'(by omega)).toNat:Int)=40:=h0
   show (y[0]'(by omega)).toNat=40;omega
 unfold one;rw [hb,if_neg (by decide),if_neg (by decide),if_neg (by decide)]
 rw [if_neg (fun h=>by
  have h2:(u.extract i (i+2)).size=2:=by rw [ByteArray.size_extract];omega
  refine Zn h.2 h2 ?_;rw [Qo (by omega) h.1];exact hb)]
 rw [hx,if_pos ⟨by omega,by decide⟩]
abbrev bL:ByteArray:=⟨#[40,40]⟩
abbrev bR:ByteArray:=⟨#[41,41]⟩
theorem JY:lx bR=([⟨6,sR,0,0⟩,⟨6,sR,0,1⟩],0,0):=by kernel_rfl
theorem Zo (s:ByteArray) (hz:s.size<=4000) (h0:(lx s).2.2=0) :
  lx (bL++(s++⟨#[10]⟩++bR))=(⟨6,sL,0,0⟩ :: ⟨6,sL,0,1⟩ :: bV 2 ((lx s).1++bV (s.size+1) [⟨6,sR,0,0⟩,⟨6,sR,0,1⟩]),0,0):=by
 obtain ⟨he,hs⟩:=JI s bR;have h1:(lx bR).2.2=0:=by rw [JY]
 have hb2:bR.size=2:=rfl;obtain ⟨hj,hlen⟩:=Qn s bR _ he hs (by omega) h0 h1;have hvs:=hs.size;rw [JY] at hj;generalize s++⟨#[10]⟩++bR=v at *;generalize (lx s).1=L at *;simp only at hj;have hsub:Sub 2 v (bL++v):=wR bL v;have hsz:(bL++v).size=v.size+2:=by rw [ByteArray.size_append];show 2+v.size=_;omega
 have b0:bt (bL++v) 0=40:=by rw [zt,if_pos (by decide)];rfl
 have b1:bt (bL++v) 1=40:=by rw [zt,if_pos (by decide)];rfl
 have k0:sk (bL++v) false 0=0:=uM (by omega) (by rw [b0];rfl) (by rw [b0];decide);have k1:sk (bL++v) false 1=1:=uM (by omega) (by rw [b1];rfl) (by rw [b1];decide);have k2:sk (bL++v) false 2=2+sk v false 0:=uL hsub false (i:=0) (Nat.zero_le _)
 have hK:=Fz hsub v.size (sk v false 0) [] [⟨6,sL,0,0⟩,⟨6,sL,0,1⟩] (by rw [hj]) (by
  rw [hj]
  have:(bV (s.size+1) [(⟨6,sR,0,0⟩:Tk),⟨6,sR,0,1⟩]).length=2:=rfl
  simp only [List.length_append,List.length_cons,List.length_nil,this];omega)
 rw [hj,show bV 2 [] = [] from rfl,List.append_nil,<- k2] at hK;unfold lx;rw [if_neg (by omega),k0,hsz];rw [bH,if_pos (by omega),Qp (by omega) b0];simp only;rw [if_neg (by decide),k1];rw [bH,if_pos (by omega),Qp (by omega) b1];simp only;rw [if_neg (by simp),k2,<- k2];exact hK
end Lx
namespace Lx
theorem zr {P R:ByteArray} {k:Int} {x:ByteArray} {n:Int} {e:Nat} (ho:one P 0=.ok (k,x,n,e)) (he:e<P.size) (h0:0<e):one (P++R) 0=.ok (k,x,n,e):=by
 have hsz:(P++R:ByteArray).size=P.size+R.size:=ByteArray.size_append
 have hloc:Loc P (P++R) 0 e:=by
  refine ⟨Nat.zero_le _,by omega,by omega,fun a ha=>?_,fun a b hb=>?_,.inr (.inl ⟨he,?_⟩)⟩
  ·rw [zt,if_pos (by omega),Nat.zero_add]
  ·rw [ab9 _ _ _ _ (by omega),Nat.zero_add,Nat.zero_add]
  ·rw [Nat.sub_zero,zt,if_pos he]
 have Un:=acA hloc (by omega) ho;rw [Nat.sub_zero] at Un;exact Un
abbrev fX:ByteArray:=⟨#[102,117,110,32,120,32,45,62,32]⟩
abbrev bx:ByteArray:=⟨#[120]⟩
theorem aak (s:ByteArray) (hz:s.size<=4000) (h0:(lx s).2.2=0) (hl:(lx s).1.length<=4090) :
  lx (fX++s)=(⟨5,eY,0,0⟩ :: ⟨1,bx,0,4⟩ :: ⟨6,gU,0,6⟩ :: bV 9 (lx s).1,0,0):=by
 have e1:lx s=bH s s.size (sk s false 0) []:=if_neg (by omega);rw [e1] at h0 hl ⊢;obtain ⟨u,hu⟩:∃u,u=fX++s:=⟨_,rfl⟩;have hsz:u.size=s.size+9:=by rw [hu,ByteArray.size_append];show 9+s.size=_;omega
 have hsub:Sub 9 s u:=by rw [hu];exact wR fX s
 have u4:u=(⟨#[102,117,110,32]⟩:ByteArray)++((⟨#[120,32,45,62,32]⟩:ByteArray)++s):=by rw [hu,<- ByteArray.append_assoc];rfl
 have u6:u=(⟨#[102,117,110,32,120,32]⟩:ByteArray)++((⟨#[45,62,32]⟩:ByteArray)++s):=by rw [hu,<- ByteArray.append_assoc];rfl
 have o0:one u 0=.ok (5,eY,0,3):=by rw [hu];exact zr (by kernel_rfl) (by decide) (by decide)
 have o4:one u 4=.ok (1,bx,0,5):=by
  have hs4:Sub 4 ((⟨#[120,32,45,62,32]⟩:ByteArray)++s) u:=by rw [u4];exact wR ⟨#[102,117,110,32]⟩ _
  have h:=sub_one hs4 (i:=0) (by rw [ByteArray.size_append];exact Nat.lt_of_lt_of_le (by decide:0<5) (Nat.le_add_right 5 _));rw [zr (P:=⟨#[120,32,45,62,32]⟩) (k:=1) (x:=bx) (n:=0) (e:=1) (by kernel_rfl) (by decide) (by decide)] at h;exact h
 have o6:one u 6=.ok (6,gU,0,8):=by
  have JK:Sub 6 ((⟨#[45,62,32]⟩:ByteArray)++s) u:=by rw [u6];exact wR ⟨#[102,117,110,32,120,32]⟩ _
  have h:=sub_one JK (i:=0) (by rw [ByteArray.size_append];exact Nat.lt_of_lt_of_le (by decide:0<3) (Nat.le_add_right 3 _));rw [zr (P:=⟨#[45,62,32]⟩) (k:=6) (x:=gU) (n:=0) (e:=2) (by kernel_rfl) (by decide) (by decide)] at h;exact h
 have hb:∀i,i<9->bt u i=bt fX i:=fun i hi=>by rw [hu,zt,if_pos (by show i<9;exact hi)]
 have k0:sk u false 0=0:=uM (by omega) (by rw [hb 0 (by decide)];rfl) (by rw [hb 0 (by decide)];decide)
 have k3:sk u false 3=4:=by
  rw [oO u false (by omega),hb 3 (by decide),if_neg (by decide),if_neg (by decide),if_neg (by decide),if_pos (by decide)];exact uM (by omega) (by rw [hb 4 (by decide)];rfl) (by rw [hb 4 (by decide)];decide)
 have k5:sk u false 5=6:=by
  rw [oO u false (by omega),hb 5 (by decide),if_neg (by decide),if_neg (by decide),if_neg (by decide),if_pos (by decide)];exact uM (by omega) (by rw [hb 6 (by decide)];rfl) (by rw [hb 6 (by decide)];decide)
 have k8:sk u false 8=9+sk s false 0:=by
  rw [oO u false (by omega),hb 8 (by decide),if_neg (by decide),if_neg (by decide),if_neg (by decide),if_pos (by decide)];exact uL hsub false (i:=0) (Nat.zero_le _)
 have hK:=Fz hsub (s.size+6) (sk s false 0) [] [⟨5,eY,0,0⟩,⟨1,bx,0,4⟩,⟨6,gU,0,6⟩] (by rw [tT s _ s.size _ _ (by omega) (by omega)];exact h0) (by
  rw [tT s _ s.size _ _ (by omega) (by omega)];simp only [List.length_cons,List.length_nil];omega)
 rw [tT s _ s.size _ _ (by omega) (by omega),show bV 9 [] = [] from rfl,List.append_nil,<- k8] at hK;rw [<- hu];unfold lx;rw [if_neg (by omega),k0,hsz];rw [bH,if_pos (by omega),o0];simp only;rw [if_neg (by decide),k3];rw [bH,if_pos (by omega),o4];simp only;rw [if_neg (by simp),k5];rw [bH,if_pos (by omega),o6];simp only;rw [if_neg (by simp)];exact hK
end Lx
end Go.Proofs.YtkdbgopgjbfhbaaGreatDoor
