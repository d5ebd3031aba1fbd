/- Texts that the claim needs. -/
import Derived.Test.YtkdbgopgjbfhbaaGreatDoorQPV42
import Derived.Test.YtkdbgopgjbfhbaaGreatDoorQPV35
import Derived.Test.YtkdbgopgjbfhbaaGreatDoorQPV37
import Derived.Test.YtkdbgopgjbfhbaaGreatDoorQPV34
import Derived.Test.YtkdbgopgjbfhbaaGreatDoorQPV41
namespace Go.Proofs.YtkdbgopgjbfhbaaGreatDoor
open Go.RowKit Lx Pz bw
set_option linter.unusedVariables false
set_option maxRecDepth 100000
set_option maxHeartbeats 8000000
namespace Pz
theorem row_one {d:Nat} {w:World} {t:Value} {cs:Array Value} {b:Nat} (hb:w.heap[b]?=some (.cells cs 27 (0,0))) (h:iU 0 d w t (.agg cs)):iZ 0 (.slice (some ⟨b,0,none⟩) 1 1) [t] w:=by
 obtain ⟨e,he⟩:=AZ (b:=b) (o:=0) ⟨d,h⟩ (Nat.zero_le b) (fun j u hu=>af hb _ u (by rw [Nat.zero_add];exact hu))
 exact ⟨e,by simp,.inr ⟨b,0,1,rfl,fun i x hx=>by
  match i,hx with
  | 0,hx=>injection hx with hx;subst hx;simpa using he⟩⟩
end Pz
theorem ZL (pl:Bool) (m dt:Nat) (ds ks:List Value) (t s v z:Value) (w:World) (hf:fit m t) (rA:∀c ∈ ds,yo dt c) (h:fw 0 (ds,t) v w) (h2:fw 0 (ks,s) z w):Calls Tryz.prog 12 #[v,z,.bool pl] w fun e w'=>e=.returned (.bool (Dz pl m dt ds ks t s))/\Below w.heap.size w w':=by
 obtain ⟨uD,k,x,y,n,u,uz,a,rfl,hD,hM⟩:=h;obtain ⟨jY,k2,x2,y2,n2,u2,jv,a2,rfl,hD2,hM2⟩:=h2;obtain ⟨W,hW⟩:∃W,W=(w.alloc (.cells #[uD,.int .i64 k,.string x,.string y,.int .i64 n,u,uz,.int .i64 a] 29)).alloc (.cells #[jY,.int .i64 k2,.string x2,.string y2,.int .i64 n2,u2,jv,.int .i64 a2] 29):=⟨_,rfl⟩;have hb1:=bN w (.cells #[uD,.int .i64 k,.string x,.string y,.int .i64 n,u,uz,.int .i64 a] 29);have hb2:=bN (w.alloc (.cells #[uD,.int .i64 k,.string x,.string y,.int .i64 n,u,uz,.int .i64 a] 29)) (.cells #[jY,.int .i64 k2,.string x2,.string y2,.int .i64 n2,u2,jv,.int .i64 a2] 29);have HB:Hid (Below w.heap.size w W):=ae (by rw [hW];exact ax hb1 hb2);have HX:Hid (W.heap[w.heap.size]?=some (.cells #[uD,.int .i64 k,.string x,.string y,.int .i64 n,u,uz,.int .i64 a] 29 (0,0))):=ae (by rw [hW,hb2.block _ (by simp)];exact heap_alloc_new w _);have HY:Hid (W.heap[w.heap.size+1]?=some (.cells #[jY,.int .i64 k2,.string x2,.string y2,.int .i64 n2,u2,jv,.int .i64 a2] 29 (0,0))):=ae (by rw [hW];exact qc _ _ (by simp));have HC:=ae (aaJ pl dt ds ks uD jY W rA (iN.on (C:=0) (B:=0) hD (fun kk _ hl=>HB.out.block kk hl) (Nat.le_refl _)) (iN.on (C:=0) (B:=0) hD2 (fun kk _ hl=>HB.out.block kk hl) (Nat.le_refl _)));have HE:=ae (fun (w1:World) (hw1:Below w.heap.size w w1) (b c:Nat) (hb:w1.heap[b]?=some (.cells #[.int .i64 k,.string x,.string y,.int .i64 n,u,uz,.int .i64 a] 27 (0,0))) (hc:w1.heap[c]?=some (.cells #[.int .i64 k2,.string x2,.string y2,.int .i64 n2,u2,jv,.int .i64 a2] 27 (0,0)))=>aaK (m+1) pl [t] [s] (.slice (some ⟨b,0,none⟩) 1 1) (.slice (some ⟨c,0,none⟩) 1 1) w1 (fun q hq=>by rw [List.mem_singleton.1 hq];exact hf) (by obtain ⟨d,hd⟩:=hM.rC (fun kk _ hl=>hw1.block kk hl);exact row_one hb hd) (by obtain ⟨d,hd⟩:=hM2.rC (fun kk _ hl=>hw1.block kk hl);exact row_one hc hd));have RB:dY pl (m+1) [t] [s]=sm pl m t s:=by rw [EL];simp [bD]
 rw [RB] at HE;obtain ⟨R,hR⟩:∃R,R=Dz pl m dt ds ks t s:=⟨_,rfl⟩;rw [<- hR];unfold Dz at hR;generalize bD (nX pl dt) ds ks=A at *;generalize sm pl m t s=E at *;have HR:=ae hR;clear hR hD hD2 hM hM2 hf rA hb1 hb2 RB;have z0:=af HX.out 0 _ rfl;have u0:=af HY.out 0 _ rfl;go_enter Tryz.func12,Tryz.ntmps12;go_upto_region 1 with fail;rw [<- hW];clear hW;go_wp2_with fail;refine Calls.mono (show Calls _ _ _ _ _ from HC.out) ?_;rintro e w1 ⟨rfl,hb1⟩;have HB1:=ae (ax HB.out hb1);have hx1:=(hb1.block _ (Array.getElem?_eq_some_iff.1 HX.out).1).trans HX.out;have hy1:=(hb1.block _ (Array.getElem?_eq_some_iff.1 HY.out).1).trans HY.out;have z1:=af hx1 1 _ rfl;have z2:=af hx1 2 _ rfl;have z3:=af hx1 3 _ rfl;have z4:=af hx1 4 _ rfl;have z5:=af hx1 5 _ rfl;have z6:=af hx1 6 _ rfl;have z7:=af hx1 7 _ rfl;have n1:=bN w1 (.cells #[.int .i64 k,.string x,.string y,.int .i64 n,u,uz,.int .i64 a] 27);have KH:=bN (w1.alloc (.cells #[.int .i64 k,.string x,.string y,.int .i64 n,u,uz,.int .i64 a] 27)) (.cells #[.int .i64 k2,.string x2,.string y2,.int .i64 n2,u2,jv,.int .i64 a2] 27);have v1:=ag n1 (af hy1 1 _ rfl);have v2:=ag n1 (af hy1 2 _ rfl);have v3:=ag n1 (af hy1 3 _ rfl);have v4:=ag n1 (af hy1 4 _ rfl);have v5:=ag n1 (af hy1 5 _ rfl);have v6:=ag n1 (af hy1 6 _ rfl);have v7:=ag n1 (af hy1 7 _ rfl);have HN:=ae (ax n1 KH);have rD:=ae (HE.out ((w1.alloc (.cells #[.int .i64 k,.string x,.string y,.int .i64 n,u,uz,.int .i64 a] 27)).alloc (.cells #[.int .i64 k2,.string x2,.string y2,.int .i64 n2,u2,jv,.int .i64 a2] 27)) (ax HB1.out HN.out) w1.heap.size (w1.heap.size+1) (by rw [KH.block _ (by simp)];exact heap_alloc_new w1 _) (qc _ _ (by simp)));clear hb1 HC HE hx1 hy1 HX HY HB z0 u0 n1 KH;cases A with
 | false =>
  have aX:Hid (false=R):=ae (by rw [HR.out];rfl);clear HR rD;go_wp2;go_ret;exact ⟨aO aX.out,HB1.out⟩
 | true =>
  have aX:Hid (E=R):=ae (by rw [HR.out];rfl);clear HR;go_wp2_with fail;refine Calls.mono (show Calls _ _ _ _ _ from rD.out) ?_;rintro e w2 ⟨rfl,hb2⟩;have HB2:=ae (ax (ax HB1.out HN.out) hb2);clear hb2 rD;go_wp2;go_ret;exact ⟨aO aX.out,HB2.out⟩
namespace Pz
end Pz
namespace Pz
theorem LZ {f:Nat->Value->Nat} (hf:∀c t,c+1<=f c t) (l:List Value) (c:Nat):c<=eH f c l:=by
 induction l generalizing c with
 | nil=>exact Nat.le_refl _
 | cons t l ih =>
  unfold eH;split
  ·exact Nat.le_refl _
  ·have:=hf c t;have:=ih (f c t);omega
theorem TQ:∀(d c:Nat) (t:Value),c+1<=fZ d c t
 | 0,c,t=>Nat.le_refl _
 | d+1,c,t=>by unfold fZ;exact LZ (TQ d) _ _
theorem OC:∀(d c:Nat) (t:Value),c+1<=iG d c t
 | 0,c,t=>Nat.le_refl _
 | d+1,c,t=>by unfold iG;exact Nat.le_trans (LZ (OC d) _ _) (LZ (TQ d) _ _)
end Pz
namespace Pz
end Pz
namespace Pz
def OA (d:Nat) (ds:List Value) (e:Value):Bool:=!lY d ds e && (!rS 256 ds e && (ds.all (CF 256) && yx 256 e))
end Pz
namespace Pz
theorem GT.nd {k:Int} {x y:ByteArray} {n:Int} {es ps:List Value} {a:Int} (h:uG (nd k x y n es ps a)=true) (ha:∀x ∈ es,GT x):GT (nd k x y n es ps a):=GT.mk h ha
theorem GP.nd {k:Int} {x y:ByteArray} {n:Int} {es ps:List Value} {a:Int} (h:uH (nd k x y n es ps a)=true) (ha:∀x ∈ es,GP x):GP (nd k x y n es ps a):=GP.mk h ha
theorem GE.nd {k:Int} {x y:ByteArray} {n:Int} {es ps:List Value} {a:Int} (h:lX (nd k x y n es ps a)=true) (ha:∀x ∈ es,GE x) (hp:∀x ∈ ps,GP x):GE (nd k x y n es ps a):=GE.mk h ha hp
theorem LF {t:Tk} {s:ByteArray} (h:cJ t s=true):t.x=s:=by
 unfold cJ at h;rw [Bool.and_eq_true,decide_eq_true_eq] at h;exact h.2
section
variable {L:List Tk} {en:Int}
theorem Bg {K:Int} {i:Nat} {t:Tk} {j:Nat} (h:bU L en K i=.ok (t,j)):t=tk L en i/\(tk L en i).k=K:=by
 unfold bU at h;split at h
 ·rename_i hk;injection h with h;injection h with h1 h2;exact ⟨h1.symm,hk⟩
 ·cases h
theorem LG {E:Nat->Rd Value} {i:Nat} {e:Value} {j:Nat} (h:brk L en E i=.ok (e,j)):∃i' j',E i'=.ok (e,j'):=by
 unfold brk at h;split at h
 ·cases h
 ·rename_i i1 h1;split at h
  ·cases h
  ·rename_i e1 j1 h2;split at h
   ·cases h
   ·injection h with h;injection h with h3 h4;subst h3;exact ⟨_,_,h2⟩
theorem Ej {P:Value->Prop} {nx:Tk->Bool} {A:Nat->Rd Value} (hA:∀i e j,A i=.ok (e,j)->P e):∀(f i:Nat) (acc ts:List Value) (j:Nat),(∀x ∈ acc,P x)->dZ L en nx A f i acc=.ok (ts,j)->∀x ∈ ts,P x
 | 0,i,acc,ts,j,ha,h=>by
  unfold dZ at h;injection h with h;injection h with h1 h2;subst h1;exact ha
 | f+1,i,acc,ts,j,ha,h=>by
  unfold dZ at h;split at h
  ·split at h
   ·cases h
   ·rename_i e1 j1 h1;exact Ej hA f _ _ ts j (Ei ha (hA _ _ _ h1)) h
  ·injection h with h;injection h with h1 h2;subst h1;exact ha
end
section
variable {L:List Tk} {en:Int} (hG:GK L)
theorem acs (hG:GK L) {i:Nat} (hk:(tk L en i).k=1):GT (qG (tk L en i).x):=by
 unfold qG;split
 ·exact GT.nd ab0 gX
 ·rename_i hx;exact GT.nd (SR (mq hG hk (by decide) (by decide) (by decide)) hx) gX
theorem LH (hG:GK L) {T:Nat->Rd Value} (hT:∀i e j,T i=.ok (e,j)->GT e) (i:Nat) (t:Value) (j:Nat) (h:lF L en T i=.ok (t,j)):GT t:=by
 unfold lF at h;split at h
 ·rename_i hk;injection h with h;injection h with h1 h2;subst h1;exact acs hG hk
 ·split at h
  ·rename_i hk;injection h with h;injection h with h1 h2;subst h1;exact GT.nd (ab1 (mq hG hk (by decide) (by decide) (by decide))) gX
  ·obtain ⟨i',j',h'⟩:=LG h;exact hT _ _ _ h'
theorem acu (hG:GK L) {T:Nat->Rd Value} (hT:∀i e j,T i=.ok (e,j)->GT e) (i:Nat) (t:Value) (j:Nat) (h:tY L en T i=.ok (t,j)):GT t:=by
 unfold tY at h;split at h
 ·cases h
 ·rename_i t1 j1 h1;split at h
  ·rename_i hk;split at h
   ·cases h
   ·rename_i ts j2 h2;injection h with h;injection h with h3 h4;subst h3;exact GT.nd (SR (mq hG hk.1 (by decide) (by decide) (by decide)) hk.2) (Ej (LH hG hT) _ _ _ _ _ gX h2)
  ·injection h with h;injection h with h3 h4;subst h3;exact LH hG hT _ _ _ h1
theorem LI (hG:GK L):∀(f i:Nat) (t:Value) (j:Nat),oH L en f i=.ok (t,j)->GT t
 | 0,i,t,j,h=>by unfold oH at h;cases h
 | f+1,i,t,j,h=>by
  unfold oH at h;split at h
  ·cases h
  ·rename_i t1 j1 h1;have g1:=acu hG (LI hG f) _ _ _ h1;split at h
   ·injection h with h;injection h with h3 h4;subst h3;exact g1
   ·split at h
    ·cases h
    ·rename_i u j2 h2;injection h with h;injection h with h3 h4;subst h3;exact GT.nd ab2 (mem2 g1 (LI hG f _ _ _ h2))
theorem Tf (hG:GK L) {E:Nat->Rd Value} (hE:∀i e j,E i=.ok (e,j)->GP e) (i:Nat) (e:Value) (j:Nat) (h:mE L en E i=.ok (e,j)):GP e:=by
 unfold mE at h;split at h
 ·rename_i hk;injection h with h;injection h with h1 h2;subst h1;exact GP.nd (ab4 _ (mq hG hk (by decide) (by decide) (by decide))) gX
 ·split at h
  ·injection h with h;injection h with h1 h2;subst h1;exact GP.nd (ab3 _) gX
  ·split at h
   ·rename_i hk;injection h with h;injection h with h1 h2;subst h1;exact GP.nd (ab5 _ (SQ hG hk)) gX
   ·split at h
    ·rename_i hk;injection h with h;injection h with h1 h2;subst h1;exact GP.nd (Eh _ (mq hG hk (by decide) (by decide) (by decide))) gX
    ·obtain ⟨i',j',h'⟩:=LG h;exact hE _ _ _ h'
theorem LJ (hG:GK L):∀(f i:Nat) (t:Value) (j:Nat),ju L en f i=.ok (t,j)->GP t
 | 0,i,t,j,h=>by unfold ju at h;cases h
 | f+1,i,t,j,h=>by
  unfold ju at h;split at h
  ·rename_i hk;split at h
   ·cases h
   ·rename_i ps j2 h2;injection h with h;injection h with h3 h4;subst h3;exact GP.nd (Eh _ (mq hG hk (by decide) (by decide) (by decide))) (Ej (Tf hG (LJ hG f)) _ _ _ _ _ gX h2)
  ·exact Tf hG (LJ hG f) _ _ _ h
theorem GR (hG:GK L) {E:Nat->Rd Value} (hE:∀i e j,E i=.ok (e,j)->GE e) (i:Nat) (e:Value) (j:Nat) (h:iy L en E i=.ok (e,j)):GE e:=by
 unfold iy at h;split at h
 ·rename_i hk;injection h with h;injection h with h1 h2;subst h1;exact GE.nd (ab6 _ (mq hG hk (by decide) (by decide) (by decide))) gX gX
 ·split at h
  ·rename_i hk;injection h with h;injection h with h1 h2;subst h1;exact GE.nd (ab7 _ (SQ hG hk)) gX gX
  ·split at h
   ·rename_i hk;injection h with h;injection h with h1 h2;subst h1;exact GE.nd (SS _ (mq hG hk (by decide) (by decide) (by decide))) gX gX
   ·obtain ⟨i',j',h'⟩:=LG h;exact hE _ _ _ h'
theorem Tg (hG:GK L) {E:Nat->Rd Value} (hE:∀i e j,E i=.ok (e,j)->GE e):∀(f i:Nat) (e r:Value) (j:Nat),GE e->ub L en E f i e=.ok (r,j)->GE r
 | 0,i,e,r,j,he,h=>by
  unfold ub at h;injection h with h;injection h with h1 h2;subst h1;exact he
 | f+1,i,e,r,j,he,h=>by
  unfold ub at h;split at h
  ·split at h
   ·cases h
   ·rename_i a j1 h1;exact Tg hG hE f _ _ r j (GE.nd (ab9 _) (mem2 he (GR hG hE _ _ _ h1)) gX) h
  ·injection h with h;injection h with h1 h2;subst h1;exact he
theorem Ti (hG:GK L) {E:Nat->Rd Value} (hE:∀i e j,E i=.ok (e,j)->GE e) (i:Nat) (e:Value) (j:Nat) (h:nz L en E i=.ok (e,j)):GE e:=by
 unfold nz at h;split at h
 ·split at h
  ·cases h
  ·rename_i a j1 h1;injection h with h;injection h with h2 h3;subst h2;exact GE.nd (ace _) (mem1 (GR hG hE _ _ _ h1)) gX
 ·split at h
  ·rename_i hk;split at h
   ·cases h
   ·rename_i es j1 h1;injection h with h;injection h with h2 h3;subst h2;exact GE.nd (SS _ (mq hG hk (by decide) (by decide) (by decide))) (Ej (GR hG hE) _ _ _ _ _ gX h1) gX
  ·split at h
   ·cases h
   ·rename_i a j1 h1;exact Tg hG hE _ _ _ _ _ (GR hG hE _ _ _ h1) h
end
section
variable {L:List Tk} {en:Int}
theorem GU {sg:Tk->Bool} (hs:∀t,sg t=true->eP 6 t.x=true) {A:Nat->Rd Value} (hA:∀i e j,A i=.ok (e,j)->GE e):∀(f i:Nat) (e r:Value) (j:Nat),GE e->gU L en sg A f i e=.ok (r,j)->GE r
 | 0,i,e,r,j,he,h=>by
  unfold gU at h;injection h with h;injection h with h1 h2;subst h1;exact he
 | f+1,i,e,r,j,he,h=>by
  unfold gU at h;split at h
  ·rename_i hk;split at h
   ·cases h
   ·rename_i a j1 h1;exact GU hs hA f _ _ r j (GE.nd (acd _ (hs _ hk)) (mem2 he (hA _ _ _ h1)) gX) h
  ·injection h with h;injection h with h1 h2;subst h1;exact he
theorem acv (t:Tk) (h:DL t=true):eP 6 t.x=true:=by
 unfold DL at h;rw [Bool.or_eq_true,Bool.or_eq_true] at h;rcases h with (h|h)|h<;>rw [LF h]<;>decide
theorem acw (t:Tk) (h:DN t=true):eP 6 t.x=true:=by
 unfold DN at h;rw [Bool.or_eq_true] at h;rcases h with h|h<;>rw [LF h]<;>decide
theorem acx (t:Tk) (h:DR t=true):eP 6 t.x=true:=by
 unfold DR at h;rw [Bool.or_eq_true] at h;rcases h with h|h<;>rw [LF h]<;>decide
end
section
variable {L:List Tk} {en:Int} (hG:GK L)
theorem Tj (hG:GK L) {E:Nat->Rd Value} (hE:∀i e j,E i=.ok (e,j)->GE e) (i:Nat) (e:Value) (j:Nat) (h:nA L en E i=.ok (e,j)):GE e:=by
 unfold nA at h;split at h
 ·cases h
 ·rename_i a j1 h1;exact GU acv (Ti hG hE) _ _ _ _ _ (Ti hG hE _ _ _ h1) h
theorem Tm (hG:GK L) {E:Nat->Rd Value} (hE:∀i e j,E i=.ok (e,j)->GE e) (i:Nat) (e:Value) (j:Nat) (h:nC L en E i=.ok (e,j)):GE e:=by
 unfold nC at h;split at h
 ·cases h
 ·rename_i a j1 h1;exact GU acw (Tj hG hE) _ _ _ _ _ (Tj hG hE _ _ _ h1) h
theorem acy (hG:GK L) {E:Nat->Rd Value} (hE:∀i e j,E i=.ok (e,j)->GE e) (i:Nat) (e:Value) (j:Nat) (h:sG L en E i=.ok (e,j)):GE e:=by
 unfold sG at h;split at h
 ·cases h
 ·rename_i a j1 h1;exact GU acx (Tm hG hE) _ _ _ _ _ (Tm hG hE _ _ _ h1) h
theorem acz (hG:GK L) {E:Nat->Rd Value} (hE:∀i e j,E i=.ok (e,j)->GE e) (i:Nat) (e:Value) (j:Nat) (h:vS L en E i=.ok (e,j)):GE e:=by
 unfold vS at h;split at h
 ·cases h
 ·rename_i a j1 h1;have g1:=acy hG hE _ _ _ h1;split at h
  ·injection h with h;injection h with h2 h3;subst h2;exact g1
  ·split at h
   ·cases h
   ·rename_i u j2 h2;injection h with h;injection h with h3 h4;subst h3;exact GE.nd (Ls _ rfl (by simp)) (mem2 g1 (hE _ _ _ h2)) (mem1 (GP.nd (Eh _ (by decide)) gX))
theorem Tn (hG:GK L) {E:Nat->Rd Value} (hE:∀i e j,E i=.ok (e,j)->GE e) (i:Nat) (p e:Value) (j:Nat) (h:pW L en E i=.ok ((p,e),j)):GP p/\GE e:=by
 unfold pW at h;split at h
 ·cases h
 ·rename_i p1 j1 h1;split at h
  ·cases h
  ·split at h
   ·cases h
   ·rename_i e1 j2 h2;injection h with h;injection h with h3 h4;injection h3 with h5 h6;subst h5 h6;exact ⟨LJ hG _ _ _ _ h1,hE _ _ _ h2⟩
theorem Tq (hG:GK L) {E:Nat->Rd Value} (hE:∀i e j,E i=.ok (e,j)->GE e):∀(f i:Nat) (ps es ps' es':List Value) (j:Nat),(∀x ∈ ps,GP x)->(∀x ∈ es,GE x)->es.length=ps.length+1->ps.length≠0->sH L en E f i ps es=.ok ((ps',es'),j)->(∀x ∈ ps',GP x)/\(∀x ∈ es',GE x)/\es'.length=ps'.length+1/\ps'.length≠0
 | 0,i,ps,es,ps',es',j,hp,he,hl,h0,h=>by
  unfold sH at h;injection h with h;injection h with h3 h4;injection h3 with h5 h6;subst h5 h6;exact ⟨hp,he,hl,h0⟩
 | f+1,i,ps,es,ps',es',j,hp,he,hl,h0,h=>by
  unfold sH at h;split at h
  ·injection h with h;injection h with h3 h4;injection h3 with h5 h6;subst h5 h6;exact ⟨hp,he,hl,h0⟩
  ·split at h
   ·cases h
   ·rename_i p e j1 h1;obtain ⟨g1,g2⟩:=Tn hG hE _ _ _ _ h1;exact Tq hG hE f _ _ _ _ _ j (Ei hp g1) (Ei he g2) (by simp [hl]) (by simp) h
theorem acA (hG:GK L) {E:Nat->Rd Value} (hE:∀i e j,E i=.ok (e,j)->GE e) (i:Nat) (e:Value) (j:Nat) (h:xW L en E i=.ok (e,j)):GE e:=by
 unfold xW at h;split at h
 ·cases h
 ·rename_i t j1 h1;have ht:=Bg h1;split at h
  ·cases h
  ·split at h
   ·cases h
   ·rename_i e1 j2 h2;injection h with h;injection h with h3 h4;subst h3;exact GE.nd (ab8 _ (by rw [ht.1];exact mq hG ht.2 (by decide) (by decide) (by decide))) (mem1 (hE _ _ _ h2)) gX
theorem Tt (hG:GK L) {E:Nat->Rd Value} (hE:∀i e j,E i=.ok (e,j)->GE e) {k:Int} {x y:ByteArray} {a:Int} (hd:∀b e,lX (nd k x y 0 [b,e] [] a)=true) (i:Nat) (e:Value) (j:Nat) (h:pX L en E k x y a i=.ok (e,j)):GE e:=by
 unfold pX at h;split at h
 ·cases h
 ·split at h
  ·cases h
  ·rename_i b j1 h1;split at h
   ·cases h
   ·split at h
    ·cases h
    ·rename_i e1 j2 h2;injection h with h;injection h with h3 h4;subst h3;exact GE.nd (hd _ _) (mem2 (hE _ _ _ h1) (hE _ _ _ h2)) gX
theorem acB (hG:GK L) {E:Nat->Rd Value} (hE:∀i e j,E i=.ok (e,j)->GE e) (i:Nat) (e:Value) (j:Nat) (h:xX L en E i=.ok (e,j)):GE e:=by
 unfold xX at h;split at h
 ·split at h
  ·cases h
  ·rename_i t j1 h1;have ht:=Bg h1;exact Tt hG hE (fun b e=>aca _ (by rw [ht.1];exact mq hG ht.2 (by decide) (by decide) (by decide))) _ _ _ h
 ·split at h
  ·cases h
  ·rename_i t j1 h1;have ht:=Bg h1;split at h
   ·cases h
   ·rename_i u j2 h2;have hu:=Bg h2;exact Tt hG hE (fun b e=>acb _ (by rw [ht.1];exact mq hG ht.2 (by decide) (by decide) (by decide)) (by rw [hu.1];exact mq hG hu.2 (by decide) (by decide) (by decide))) _ _ _ h
theorem acC (hG:GK L) {E:Nat->Rd Value} (hE:∀i e j,E i=.ok (e,j)->GE e) (i:Nat) (e:Value) (j:Nat) (h:xY L en E i=.ok (e,j)):GE e:=by
 unfold xY at h;split at h
 ·cases h
 ·rename_i c j1 h1;split at h
  ·cases h
  ·split at h
   ·cases h
   ·rename_i t j2 h2;split at h
    ·cases h
    ·split at h
     ·cases h
     ·rename_i u j3 h3;injection h with h;injection h with h4 h5;subst h4;exact GE.nd (Ls _ rfl (by simp)) (mem3 (hE _ _ _ h1) (hE _ _ _ h2) (hE _ _ _ h3)) (mem2 (GP.nd (Eh _ (by decide)) gX) (GP.nd (Eh _ (by decide)) gX))
theorem acD (hG:GK L) {E:Nat->Rd Value} (hE:∀i e j,E i=.ok (e,j)->GE e) (i:Nat) (e:Value) (j:Nat) (h:vT L en E i=.ok (e,j)):GE e:=by
 unfold vT at h;split at h
 ·cases h
 ·rename_i c j1 h1;split at h
  ·cases h
  ·split at h
   ·cases h
   ·rename_i p e2 j2 h2;obtain ⟨g1,g2⟩:=Tn hG hE _ _ _ _ h2;split at h
    ·cases h
    ·rename_i ps es j3 h3;obtain ⟨q1,q2,q3,q4⟩:=Tq hG hE _ _ _ _ _ _ _ (mem1 g1) (mem2 (hE _ _ _ h1) g2) rfl (by simp) h3;split at h
     ·cases h
     ·injection h with h;injection h with h4 h5;subst h4;exact GE.nd (Ls _ q3 q4) q2 q1
theorem Bh (hG:GK L):∀(f i:Nat) (e:Value) (j:Nat),iT L en f i=.ok (e,j)->GE e
 | 0,i,e,j,h=>by unfold iT at h;cases h
 | f+1,i,e,j,h=>by
  unfold iT at h;split at h
  ·exact acA hG (Bh hG f) _ _ _ h
  ·split at h
   ·exact acB hG (Bh hG f) _ _ _ h
   ·split at h
    ·exact acC hG (Bh hG f) _ _ _ h
    ·split at h
     ·exact acD hG (Bh hG f) _ _ _ h
     ·exact acz hG (Bh hG f) _ _ _ h
end
def GC (c:Value):Prop:=∀m,tN m c=false->CE m c=true
def GD (c:Value):Prop:=∀m,xy m c=false->CF m c=true
theorem GC.mk {x:ByteArray} {ts:List Value} (h:eP 2 x=true) (ht:∀t ∈ ts,GT t):GC (mr x ts):=fun m hm=>by
 show (eP 2 x && ts.all (yu m))=true;rw [h,Bool.true_and,List.all_eq_true];exact fun t hx=>ht t hx m (xI (f:=lN m) (l:=ts) hm hx)
theorem GD.mk {x:ByteArray} {ps:List ByteArray} {cs:List Value} {a:Int} (h:eP 1 x=true) (hp:∀p ∈ ps,eP 3 p=true) (h0:cs≠[]) (hc:∀t ∈ cs,GC t):GD (lh x ps cs a):=fun m hm=>by
 show (eP 1 x && ((ps.map Value.string).all (fun p=>eP 3 (qd p)) && (decide (0<cs.length) && cs.all (CE m))))=true;rw [h,decide_eq_true (List.length_pos_iff.2 h0),Bool.true_and,Bool.true_and,Bool.and_eq_true,List.all_eq_true,List.all_eq_true];refine ⟨fun p hx=>?_,fun t hx=>hc t hx m (xI (f:=tN m) (l:=cs) hm hx)⟩;obtain ⟨q,hq,rfl⟩:=List.mem_map.1 hx;exact hp q hq
section
variable {L:List Tk} {en:Int} (hG:GK L)
theorem Tu (hG:GK L) (i:Nat) (c:Value) (j:Nat) (h:kV L en i=.ok (c,j)):GC c:=by
 unfold kV at h;split at h
 ·cases h
 ·rename_i t j1 h1;have ht:=Bg h1;split at h
  ·cases h
  ·rename_i ts j2 h2;injection h with h;injection h with h3 h4;subst h3;exact GC.mk (by rw [ht.1];exact mq hG ht.2 (by decide) (by decide) (by decide)) (Ej (LH hG (LI hG _)) _ _ _ _ _ gX h2)
theorem Tv (hG:GK L):∀(f i:Nat) (acc:List ByteArray),(∀p ∈ acc,eP 3 p=true)->∀p ∈ (ou L en f i acc).1,eP 3 p=true
 | 0,i,acc,h=>h
 | f+1,i,acc,h=>by
  unfold ou;split
  ·rename_i hk;refine Tv hG f _ _ (fun p hp=>?_);rcases List.mem_append.1 hp with hp|hp
   ·exact h p hp
   ·rw [List.mem_singleton.1 hp];exact mq hG hk (by decide) (by decide) (by decide)
  ·exact h
theorem Tw (hG:GK L):∀(f i:Nat) (acc cs:List Value) (j:Nat),(∀x ∈ acc,GC x)->acc≠[]->qW L en f i acc=.ok (cs,j)->(∀x ∈ cs,GC x)/\cs≠[]
 | 0,i,acc,cs,j,ha,h0,h=>by
  unfold qW at h;injection h with h;injection h with h1 h2;subst h1;exact ⟨ha,h0⟩
 | f+1,i,acc,cs,j,ha,h0,h=>by
  unfold qW at h;split at h
  ·injection h with h;injection h with h1 h2;subst h1;exact ⟨ha,h0⟩
  ·split at h
   ·cases h
   ·rename_i c j1 h1;exact Tw hG f _ _ cs j (Ei ha (Tu hG _ _ _ h1)) (by simp) h
theorem acE (hG:GK L) (i:Nat) (d:Value) (j:Nat) (h:vU L en i=.ok (d,j)):GD d:=by
 unfold vU at h;split at h
 ·cases h
 ·rename_i t j1 h1;have ht:=Bg h1;split at h
  ·cases h
  ·split at h
   ·cases h
   ·rename_i c j3 h3;split at h
    ·cases h
    ·rename_i cs j4 h4;obtain ⟨q1,q2⟩:=Tw hG _ _ _ _ _ (mem1 (Tu hG _ _ _ h3)) (by simp) h4;split at h
     ·cases h
     ·injection h with h;injection h with h5 h6;subst h5;exact GD.mk (by rw [ht.1];exact mq hG ht.2 (by decide) (by decide) (by decide)) (Tv hG _ _ _ (fun p hp=>by cases hp)) q2 q1
theorem Tx (hG:GK L):∀(f i:Nat) (acc ds:List Value) (j:Nat),(∀x ∈ acc,GD x)->zK L en f i acc=.ok (ds,j)->∀x ∈ ds,GD x
 | 0,i,acc,ds,j,ha,h=>by
  unfold zK at h;injection h with h;injection h with h1 h2;subst h1;exact ha
 | f+1,i,acc,ds,j,ha,h=>by
  unfold zK at h;split at h
  ·split at h
   ·cases h
   ·rename_i d j1 h1;exact Tx hG f _ _ ds j (Ei ha (acE hG _ _ _ h1)) h
  ·injection h with h;injection h with h1 h2;subst h1;exact ha
theorem W7 (hG:GK L) {ds:List Value} {t:Value} {j:Nat} (h:mM L en=.ok ((ds,t),j)):(∀x ∈ ds,GD x)/\GE t:=by
 unfold mM Dq Ga at h;split at h
 ·cases h
 ·rename_i ds1 j1 h1;split at h
  ·cases h
  ·rename_i e1 j2 h2;split at h
   ·cases h
   ·injection h with h;injection h with h3 h4;injection h3 with h5 h6;subst h5 h6;exact ⟨Tx hG _ _ _ _ _ gX h1,Bh hG _ _ _ _ h2⟩
end
theorem WZ {ds:List Value} {t:Value} {m:Nat} (h:(∀x ∈ ds,GD x)/\GE t) (hd:rS m ds t=false):Jk m ds t=true:=by
 unfold rS at hd;rw [Bool.or_eq_false_iff] at hd;unfold Jk;rw [Bool.and_eq_true,List.all_eq_true];exact ⟨fun x hx=>h.1 x hx m (xI hd.1 hx),h.2 m hd.2⟩
end Pz
namespace Pz
section
variable {L:List Tk} {en:Int} {P:Int->Prop} (h0:P 0) (ht:∀i,P (tk L en i).a)
end
end Pz
namespace Pz
theorem Jg {α:Type} {P:Nat->α->Prop} (hm:∀d x,P d x->P (d+1) x):∀l:List α,(∀x ∈ l,∃d,P d x)->∃d,∀x ∈ l,P d x
 | [],_=>⟨0,fun x hx=>by cases hx⟩
 | y :: l,h=>by
  have hle:∀ {d e:Nat} {x:α},d<=e->P d x->P e x:=fun {d e x} h hp=>by
   induction h with
   | refl=>exact hp
   | step _ ih=>exact hm _ _ ih
  obtain ⟨d,hd⟩:=h y (List.Mem.head _);obtain ⟨e,he⟩:=Jg hm l (fun x hx=>h x (List.Mem.tail _ hx));refine ⟨d+e,fun x hx=>?_⟩;rcases List.mem_cons.1 hx with rfl|hx
  ·exact hle (Nat.le_add_right _ _) hd
  ·exact hle (Nat.le_add_left _ _) (he x hx)
theorem Ot:∀(d:Nat) (l:List Value),kW d l->kW (d+1) l
 | 0,l,h=>fun x hx=>by have h':l = []:=h;rw [h'] at hx;cases hx
 | d+1,l,h=>fun x hx=>Fc d x (h x hx)
theorem WO {B d:Nat} {w:World} {v:Value} {ts:List Value} (h:Row 4 (dw B w d) v ts):kW d ts:=by
 cases d with
 | zero=>exact uF (h.imp fun _ _ _ _ hf=>hf)
 | succ d=>exact fun x hx=>by obtain ⟨b,o,hf⟩:=nQ h hx;exact dw.fit d b o x hf
theorem WQ {B:Nat} {w:World} {v:Value} {ds:List Value} (h:iN B v ds w):∃dt,∀c ∈ ds,yo dt c:=by
 refine Jg (P:=yo) (fun d c hc x hx=>Ot d _ (hc x hx)) ds fun c hc=>?_;obtain ⟨b,o,hB,x,ps,cs,a,u,z,rfl,_,_,_,_,_,hcs⟩:=nQ h hc;refine Jg (P:=EY) (fun d c hc=>Ot d _ hc) cs fun k hk=>?_;obtain ⟨b',o',hB',x',ts,u',rfl,_,_,d,hr⟩:=nQ hcs hk;exact ⟨d,WO hr⟩
theorem Ou (s:ByteArray):∀(f k:Nat),Ints.Fe s f k≠0->∃j,Ints.Cy.getD j ⟨#[]⟩=s
 | 0,k,h=>absurd rfl h
 | f+1,k,h=>by
  unfold Ints.Fe at h;split at h
  ·exact ⟨k,by assumption⟩
  ·exact Ou s f (k+1) h
theorem WR (j:Nat):(Ints.Cy.getD j ⟨#[]⟩).size<=33:=by
 rcases Nat.lt_or_ge j 8 with h|h
 ·have:j=0\/j=1\/j=2\/j=3\/j=4\/j=5\/j=6\/j=7:=by omega
  rcases this with rfl|rfl|rfl|rfl|rfl|rfl|rfl|rfl<;>decide
 ·rw [List.getD_eq_getElem?_getD,List.getElem?_eq_none (by simpa [Ints.Cy] using h)];decide
theorem WS {k:Int} {x:ByteArray} {n:Int} (h:mJ k x n=true):x.size<=33:=by
 unfold mJ at h;split at h
 ·cases h
 ·split at h
  ·rw [Bool.and_eq_true] at h;have:=Jh h.1;omega
  ·split at h
   ·have:=Jh h;omega
   ·split at h
    ·have:=Jh h;omega
    ·split at h
     ·rw [Bool.and_eq_true,decide_eq_true_eq] at h;omega
     ·split at h
      ·exact WT h
      ·split at h
       ·exact WU h
       ·cases h
theorem Cz {k:Int} {x:ByteArray} (h:eP k x=true):x.size<=140737488355328:=by
 have h33:x.size<=33:=by
  unfold eP at h;split at h
  ·rw [of_decide_eq_true h];decide
  ·split at h
   ·obtain ⟨j,hj⟩:=Ou x 7 1 (of_decide_eq_true h);rw [<- hj];exact WR j
   ·exact WS h
 omega
theorem WV {n:Int} (h:ez n=true):-9223372036854775808<=n/\n<=9223372036854775807:=by
 unfold ez at h;rw [Bool.and_eq_true,decide_eq_true_eq,decide_eq_true_eq] at h;omega
theorem Ji {nk:Int} {nm:Bool} {ar:Int} {x:ByteArray} {n:Int} {m:Nat} (h:Ao nk nm ar x n m=true):x.size<=140737488355328/\-9223372036854775808<=n/\n<=9223372036854775807:=by
 unfold Ao at h;rw [Bool.and_eq_true,Bool.and_eq_true,Bool.or_eq_true (decide (n=0)),Bool.and_eq_true] at h;refine ⟨Cz h.1,?_⟩;rcases h.2.2 with h2|h2
 ·rw [of_decide_eq_true h2];omega
 ·exact WV h2.2
theorem Ov:∀(m:Nat) (t:Value),yu m t=true->CC m t
 | 0,t,h=>trivial
 | m+1,t,h=>by
  unfold yu at h;rw [Bool.and_eq_true,List.all_eq_true] at h;have h1:=h.1;unfold uG at h1;rw [Bool.and_eq_true,Bool.and_eq_true] at h1;obtain ⟨q1,q2⟩:=Ji h1.2.2;exact ⟨q1,trivial,q2,fun x hx=>Ov m x (h.2 x hx),trivial⟩
theorem Ow:∀(m:Nat) (t:Value),yw m t=true->CC m t
 | 0,t,h=>trivial
 | m+1,t,h=>by
  unfold yw at h;rw [Bool.and_eq_true,List.all_eq_true] at h;have h1:=h.1;unfold uH at h1;rw [Bool.and_eq_true] at h1;obtain ⟨q1,q2⟩:=Ji h1.2;exact ⟨q1,trivial,q2,fun x hx=>Ow m x (h.2 x hx),trivial⟩
theorem Ox:∀(m:Nat) (t:Value),yx m t=true->Jj m t
 | 0,t,h=>trivial
 | m+1,t,h=>by
  unfold yx at h;rw [Bool.and_eq_true,Bool.and_eq_true,List.all_eq_true,List.all_eq_true] at h;have h1:=h.1;unfold lX at h1;rw [Bool.and_eq_true,Bool.and_eq_true,Bool.and_eq_true (Ao _ _ _ _ _ _)] at h1;obtain ⟨q1,q2⟩:=Ji h1.2.2.1;exact ⟨q1,Cz h1.2.2.2,q2,fun x hx=>Ox m x (h.2.1 x hx),fun x hx=>Ow m x (h.2.2 x hx)⟩
theorem WW {m:Nat} {c:Value} (h:CE m c=true):Oy m c:=by
 unfold CE at h;rw [Bool.and_eq_true,List.all_eq_true] at h;exact ⟨Cz h.1,fun t ht=>Ov m t (h.2 t ht)⟩
theorem WY {m:Nat} {d:Value} (h:CF m d=true):Oz m d:=by
 unfold CF at h;rw [Bool.and_eq_true,Bool.and_eq_true,Bool.and_eq_true,List.all_eq_true,List.all_eq_true] at h;exact ⟨Cz h.1,fun p hp=>Cz (h.2.1 p hp),fun c hc=>WW (h.2.2.2 c hc)⟩
theorem Says.all {s:ByteArray} {ds:List Value} {t:Value} (h:Says s (.ok (ds,t))):(∀d,fit d t->OA d ds t=true/\1<=iG (d+1) 0 t/\iG (d+1) 0 t<=2048)/\(∀c ∈ ds,Oz 256 c)/\Jj 256 t:=by
 obtain ⟨j,d,hp,hf,hm,hd⟩:=h.good;have hg:=WZ (W7 (Xa s) hp) hd;have hg':=hg;unfold Jk at hg';rw [Bool.and_eq_true,List.all_eq_true] at hg';refine ⟨fun e he=>?_,fun c hc=>WY (hg'.1 c hc),Ox 256 t hg'.2⟩;have hme:lY e ds t=false:=by rw [OB hf he,hm]
 refine ⟨?_,by have:=OC (e+1) 0 t;omega,?_⟩
 ·unfold OA;rw [hme,hd];exact hg
 ·have h2:=hme;unfold lY at h2;rw [Bool.or_eq_false_iff,Bool.or_eq_false_iff,decide_eq_false_iff_not,decide_eq_false_iff_not] at h2;omega
end Pz
end Go.Proofs.YtkdbgopgjbfhbaaGreatDoor
