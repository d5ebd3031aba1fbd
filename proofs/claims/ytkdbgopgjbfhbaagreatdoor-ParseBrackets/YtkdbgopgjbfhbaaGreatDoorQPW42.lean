/- Texts that the claim needs. -/
import Derived.Test.YtkdbgopgjbfhbaaGreatDoorQPW41
import Derived.Test.YtkdbgopgjbfhbaaGreatDoorQPW36
namespace Go.Proofs.YtkdbgopgjbfhbaaGreatDoor
open Go.RowKit Lx Pz bq
set_option linter.unusedVariables false
namespace Lx
theorem JJ {m:Nat} {t u:ByteArray} (h:Sub m t u):∀(f i:Nat) (acc l0:List Tk),((bH t f i acc).2.2=0\/(bH t f i acc).2.2=3)->l0.length+acc.length<=4096 ->
  ((bH t f i acc).2.2=0/\bH u f (m+i) (l0++bV m acc)=(l0++bV m (bH t f i acc).1,0,0))\/(bH u f (m+i) (l0++bV m acc)).2.2=3
 | 0,i,acc,l0,_,_=>by rw [bH,bH];exact .inl ⟨rfl,rfl⟩
 | f+1,i,acc,l0,hz,hb=>by
  have hs:=h.size;rcases Nat.lt_or_ge i t.size with hl|hl
  ·have e1:bH t (f+1) i acc=(match one t i with
    | .error z=>([],(i:Int),z)
    | .ok (k,x,n,e)=>if acc.length=4096 then ([],(i:Int),3) else bH t f (sk t false e) (acc++[⟨k,x,n,i⟩]))   := by rw [bH,if_pos hl];cases one t i<;>rfl
   have e3:bH u (f+1) (m+i) (l0++bV m acc)=(match one u (m+i) with
    | .error z=>([],((m+i:Nat):Int),z)
    | .ok (k,x,n,e)=>if (l0++bV m acc).length=4096 then ([],((m+i:Nat):Int),3) else bH u f (sk u false e) (l0++bV m acc++[⟨k,x,n,((m+i:Nat):Int)⟩])):=by rw [bH,if_pos (show m+i<u.size by omega)];cases one u (m+i)<;>rfl
   rw [e3,sub_one h hl];rw [e1] at hz ⊢;cases ho:one t i with
   | error z=>rw [ho] at hz;simp only at hz;rcases CY ho with e|e<;>omega
   | ok r =>
    obtain ⟨k,x,n,e⟩:=r;rw [ho] at hz;simp only at hz ⊢;have he:=wh hl ho;simp only [uE];have hlen:(l0++bV m acc).length=l0.length+acc.length:=by rw [List.length_append,uK]
    by_cases h4:(l0++bV m acc).length=4096
    ·rw [if_pos h4];exact .inr rfl
    ·rw [if_neg h4];have h5:¬ acc.length=4096:=by omega
     rw [if_neg h5] at hz ⊢;rw [uL h false he.2]
     have:=JJ h f (sk t false e) (acc++[⟨k,x,n,i⟩]) l0 hz (by rw [List.length_append];simp only [List.length_cons,List.length_nil];omega)
     rw [CZ,<- List.append_assoc] at this;have hcast:(l0++bV m acc++[(⟨k,x,n,((m+i:Nat):Int)⟩:Tk)])=l0++bV m acc++bV m [⟨k,x,n,i⟩]:=by simp [bV]
     rw [hcast];exact this
  ·rw [qK u _ _ _ (by omega),qK t _ _ _ (by omega)];exact .inl ⟨rfl,rfl⟩
abbrev iX:ByteArray:=⟨#[105,110,32]⟩
theorem YQ (s:ByteArray) (hz:s.size<=4000) (h0:(lx s).2.2=0) (hl:(lx s).1.length<=4090) :
  lx (iX++s)=(⟨5,lq,0,0⟩ :: bV 3 (lx s).1,0,0):=by
 have e1:lx s=bH s s.size (sk s false 0) []:=if_neg (by omega);rw [e1] at h0 hl ⊢;obtain ⟨u,hu⟩:∃u,u=iX++s:=⟨_,rfl⟩;have hsz:u.size=s.size+3:=by rw [hu,ByteArray.size_append];show 3+s.size=_;omega
 have hsub:Sub 3 s u:=by rw [hu];exact wR iX s
 have o0:one u 0=.ok (5,lq,0,2):=by rw [hu];exact zr (by kernel_rfl) (by decide) (by decide)
 have hb:∀i,i<3->bt u i=bt iX i:=fun i hi=>by rw [hu,zt,if_pos (by show i<3;exact hi)]
 have k0:sk u false 0=0:=uM (by omega) (by rw [hb 0 (by decide)];rfl) (by rw [hb 0 (by decide)];decide)
 have k2:sk u false 2=3+sk s false 0:=by
  rw [oO u false (by omega),hb 2 (by decide),if_neg (by decide),if_neg (by decide),if_neg (by decide),if_pos (by decide)];exact uL hsub false (i:=0) (Nat.zero_le _)
 have hK:=Fz hsub (s.size+2) (sk s false 0) [] [⟨5,lq,0,0⟩] (by rw [tT s _ s.size _ _ (by omega) (by omega)];exact h0) (by
  rw [tT s _ s.size _ _ (by omega) (by omega)];simp only [List.length_cons,List.length_nil];omega)
 rw [tT s _ s.size _ _ (by omega) (by omega),show bV 3 [] = [] from rfl,List.append_nil,<- k2] at hK;rw [<- hu];unfold lx;rw [if_neg (by omega),k0,hsz];rw [bH,if_pos (by omega),o0];simp only;rw [if_neg (by decide)];exact hK
abbrev lX:ByteArray:=⟨#[108,101,116,32,120,32,61,32]⟩
theorem YR (s:ByteArray) (hz:s.size<=4000) (h0:(lx s).2.2=0) (hl:(lx s).1.length<=4000) :
  (lx (lX++(s++⟨#[10]⟩++(iX++s)))).2.2=3\/lx (lX++(s++⟨#[10]⟩++(iX++s)))=(⟨5,fA,0,0⟩ :: ⟨1,bx,0,4⟩ :: ⟨6,jJ,0,6⟩ :: bV 8 ((lx s).1++bV (s.size+1) (⟨5,lq,0,0⟩ :: bV 3 (lx s).1)),0,0):=by
 have ht:=YQ s hz h0 (by omega);obtain ⟨he,hs⟩:=JI s (iX++s);have hts:(iX++s:ByteArray).size=s.size+3:=by rw [ByteArray.size_append];show 3+s.size=_;omega
 generalize iX++s=t at *;have e1:lx s=bH s s.size (sk s false 0) []:=if_neg (by omega);have e2:lx t=bH t t.size (sk t false 0) []:=if_neg (by omega);have hvs:=hs.size;have hsk:=FK he s.size false 0 (Nat.zero_le _) (by omega);have hle:=zq s false (Nat.zero_le s.size);have key:=JH he (by omega) s.size (s++⟨#[10]⟩++t).size (sk s false 0) [] hle (by omega) (by omega) (Nat.zero_le _);rw [<- hsk,<- e1] at key;obtain ⟨v,hv⟩:∃v,v=s++⟨#[10]⟩++t:=⟨_,rfl⟩;rw [<- hv] at he hs hvs hsk key ⊢;clear hv
 have hV:(bH v v.size (sk v false 0) []).2.2=3\/bH v v.size (sk v false 0) []=((lx s).1++bV (s.size+1) (lx t).1,0,0):=by
  rcases key with ⟨k1,k2,F',k3,k4⟩|⟨k1,_⟩
  ·have hm:sk v false (s.size+1)=s.size+1+sk t false 0:=uL hs false (i:=0) (Nat.zero_le _)
   have hfu:bH t F' (sk t false 0) []=lx t:=by
    rw [e2];exact tT t F' t.size _ [] (by omega) (by omega)
   have h4:=JJ hs F' (sk t false 0) [] (lx s).1 (.inl (by rw [hfu,ht])) (by simp only [List.length_nil];omega);rw [hfu,<- hm,show bV (s.size+1) [] = [] from rfl,List.append_nil,<- k4] at h4;rcases h4 with ⟨_,h4⟩|h4
   ·exact .inr h4
   ·exact .inl h4
  ·exact absurd h0 k1
 rw [ht] at hV;simp only at hV;generalize (lx s).1++bV (s.size+1) (⟨5,lq,0,0⟩ :: bV 3 (lx s).1)=R at *;obtain ⟨u,hu⟩:∃u,u=lX++v:=⟨_,rfl⟩;rw [<- hu];have hsz:u.size=v.size+8:=by rw [hu,ByteArray.size_append];show 8+v.size=_;omega
 have hsub:Sub 8 v u:=by rw [hu];exact wR lX v
 have u4:u=(⟨#[108,101,116,32]⟩:ByteArray)++((⟨#[120,32,61,32]⟩:ByteArray)++v):=by rw [hu,<- ByteArray.append_assoc];rfl
 have u6:u=(⟨#[108,101,116,32,120,32]⟩:ByteArray)++((⟨#[61,32]⟩:ByteArray)++v):=by rw [hu,<- ByteArray.append_assoc];rfl
 have o0:one u 0=.ok (5,fA,0,3):=by rw [hu];exact zr (by kernel_rfl) (by decide) (by decide)
 have o4:one u 4=.ok (1,bx,0,5):=by
  have hs4:Sub 4 ((⟨#[120,32,61,32]⟩:ByteArray)++v) u:=by rw [u4];exact wR ⟨#[108,101,116,32]⟩ _
  have h:=sub_one hs4 (i:=0) (by rw [ByteArray.size_append];exact Nat.lt_of_lt_of_le (by decide:0<4) (Nat.le_add_right 4 _));rw [zr (P:=⟨#[120,32,61,32]⟩) (k:=1) (x:=bx) (n:=0) (e:=1) (by kernel_rfl) (by decide) (by decide)] at h;exact h
 have o6:one u 6=.ok (6,jJ,0,7):=by
  have JK:Sub 6 ((⟨#[61,32]⟩:ByteArray)++v) u:=by rw [u6];exact wR ⟨#[108,101,116,32,120,32]⟩ _
  have h:=sub_one JK (i:=0) (by rw [ByteArray.size_append];exact Nat.lt_of_lt_of_le (by decide:0<2) (Nat.le_add_right 2 _));rw [zr (P:=⟨#[61,32]⟩) (k:=6) (x:=jJ) (n:=0) (e:=1) (by kernel_rfl) (by decide) (by decide)] at h;exact h
 have hb:∀i,i<8->bt u i=bt lX i:=fun i hi=>by rw [hu,zt,if_pos (by show i<8;exact hi)]
 have k0:sk u false 0=0:=uM (by omega) (by rw [hb 0 (by decide)];rfl) (by rw [hb 0 (by decide)];decide)
 have k3:sk u false 3=4:=by
  rw [oO u false (by omega),hb 3 (by decide),if_neg (by decide),if_neg (by decide),if_neg (by decide),if_pos (by decide)];exact uM (by omega) (by rw [hb 4 (by decide)];rfl) (by rw [hb 4 (by decide)];decide)
 have k5:sk u false 5=6:=by
  rw [oO u false (by omega),hb 5 (by decide),if_neg (by decide),if_neg (by decide),if_neg (by decide),if_pos (by decide)];exact uM (by omega) (by rw [hb 6 (by decide)];rfl) (by rw [hb 6 (by decide)];decide)
 have k7:sk u false 7=8+sk v false 0:=by
  rw [oO u false (by omega),hb 7 (by decide),if_neg (by decide),if_neg (by decide),if_neg (by decide),if_pos (by decide)];exact uL hsub false (i:=0) (Nat.zero_le _)
 have hfu:bH v (v.size+5) (sk v false 0) []=bH v v.size (sk v false 0) []:=tT v _ v.size _ _ (by omega) (by omega)
 have hK:=JJ hsub (v.size+5) (sk v false 0) [] [⟨5,fA,0,0⟩,⟨1,bx,0,4⟩,⟨6,jJ,0,6⟩] (by
  rw [hfu];rcases hV with h|h
  ·exact .inr h
  ·exact .inl (by rw [h])) (by simp)
 rw [hfu,show bV 8 [] = [] from rfl,List.append_nil,<- k7] at hK
 have hu0:lx u=bH u (v.size+5) (sk u false 7) [⟨5,fA,0,0⟩,⟨1,bx,0,4⟩,⟨6,jJ,0,6⟩]:=by
  unfold lx;rw [if_neg (by omega),k0,hsz];rw [bH,if_pos (by omega),o0];simp only;rw [if_neg (by decide),k3];rw [bH,if_pos (by omega),o4];simp only;rw [if_neg (by simp),k5];rw [bH,if_pos (by omega),o6];simp only;rw [if_neg (by simp)];rfl
 rw [hu0];rcases hK with ⟨h1,h2⟩|h
 ·refine .inr ?_;rcases hV with h|h
  ·rw [h] at h1;cases h1
  ·rw [h] at h2;exact h2
 ·exact .inl h
end Lx
namespace Pz
theorem Pm {Pl:Int->Int->Prop} {L H M:List Tk} {en en':Int} (hM:M.length=L.length) (hA:∀(i:Nat) (x y:Tk),L[i]?=some x->M[i]?=some y->x.k=y.k/\x.x=y.x/\x.n=y.n/\Pl x.a y.a):fB Pl L en (H++M) en' H.length:=by
 refine ⟨fun i hi=>?_,by rw [List.length_append];omega⟩;by_cases hlt:i<L.length
 ·have e1:L[i]?=some L[i]:=List.getElem?_eq_getElem hlt;obtain ⟨y,e2⟩:∃y,M[i]?=some y:=⟨_,List.getElem?_eq_getElem (by omega)⟩
  have e3:(H++M)[H.length+i]?=some y:=by
   rw [List.getElem?_append_right (Nat.le_add_right _ _),Nat.add_sub_cancel_left];exact e2
  rw [jO L en e1,jO (H++M) en' e3];exact .inl (hA i _ _ e1 e2)
 ·obtain rfl:i=L.length:=by omega
  rw [AY L en (Nat.le_refl _)]
  have:=O9 (H++M) en' (j:=H.length+L.length) (by rw [List.length_append];omega)
  exact .inr ⟨rfl,this.1,fun s hs=>this.2 s hs.1⟩
theorem Yl {Pl:Int->Int->Prop} {L M:List Tk} {en en':Int} {t1 t2 t3:Tk} (h1:bn t1 eY=true) (h2:t2.k=1) (h3:bn t3 gU=true) (hM:M.length=L.length) (hA:∀(i:Nat) (x y:Tk),L[i]?=some x->M[i]?=some y->x.k=y.k/\x.x=y.x/\x.n=y.n/\Pl x.a y.a) {e:Value} (he:dD L en (L.length+1) 0=.ok (e,L.length)) :
  ∃e',dD ([t1,t2,t3]++M) en' (([t1,t2,t3]++M).length+1) 0=.ok (nd 3 t2.x e0 0 [e'] [] t1.a,([t1,t2,t3]++M).length)/\AL Pl e e':=by
 have Fs:=Pm (H:=[t1,t2,t3]) (en:=en) (en':=en') hM hA;obtain ⟨K,hK⟩:∃K,K = [t1,t2,t3]++M:=⟨_,rfl⟩;rw [<- hK] at Fs ⊢;have wJ:K.length=L.length+3:=by rw [hK];simp;omega
 have k0:tk K en' 0=t1:=jO K en' (by rw [hK];rfl);have k1:tk K en' 1=t2:=jO K en' (by rw [hK];rfl);have k2:tk K en' 2=t3:=jO K en' (by rw [hK];rfl);obtain ⟨z,ee⟩|⟨x,y,j,ee,ff,_,_,hq⟩:=Sm.cs (Sm.dD Fs (L.length+1) K.length 0 (Nat.zero_le _) (by omega))
 ·rw [he] at ee;cases ee
 ·rw [he] at ee;injection ee with ee;injection ee with e1 e2;subst e1 e2;refine ⟨y,?_,hq⟩;unfold dD;rw [k0,h1,if_pos rfl];unfold nu;unfold bN;rw [Nat.zero_add,k1,if_pos h2];dsimp only;rw [CU (by rw [k2];exact h3)];dsimp only;have Pn:dD K en' K.length (1+1+1)=.ok (y,3+L.length):=ff;rw [show 3+L.length=K.length by omega] at Pn;rw [Pn,k0]
end Pz
namespace Pz
theorem aan {P1 P2:Int->Int->Prop} {L M N:List Tk} {en en':Int} {t1 t2 t3 t4:Tk} (h1:bn t1 fA=true) (h2:t2.k=1) (h3:bn t3 jJ=true) (h4:bn t4 lq=true)
  (hM:M.length=L.length) (hA:∀(i:Nat) (x y:Tk),L[i]?=some x->M[i]?=some y->x.k=y.k/\x.x=y.x/\x.n=y.n/\P1 x.a y.a)
  (hN:N.length=L.length) (hB:∀(i:Nat) (x y:Tk),L[i]?=some x->N[i]?=some y->x.k=y.k/\x.x=y.x/\x.n=y.n/\P2 x.a y.a) {e:Value} (he:dD L en (L.length+1) 0=.ok (e,L.length)) :
  ∃e1 e2,dD (([t1,t2,t3]++(M++[t4]))++N) en' ((([t1,t2,t3]++(M++[t4]))++N).length+1) 0=.ok (nd 5 t2.x e0 0 [e1,e2] [] t1.a,(([t1,t2,t3]++(M++[t4]))++N).length)/\AL P1 e e1/\AL P2 e e2:=by
 have L6:=Pm (H:=[t1,t2,t3]++(M++[t4])) (en:=en) (en':=en') hN hB;have L8:([t1,t2,t3]++(M++[t4])).length=L.length+4:=by simp;omega
 rw [L8] at L6;obtain ⟨K,hK⟩:∃K,K=([t1,t2,t3]++(M++[t4]))++N:=⟨_,rfl⟩;rw [<- hK] at L6 ⊢;have wJ:K.length=L.length+4+L.length:=by rw [hK,List.length_append,L8,hN]
 have k0:tk K en' 0=t1:=jO K en' (by rw [hK];rfl);have k1:tk K en' 1=t2:=jO K en' (by rw [hK];rfl);have k2:tk K en' 2=t3:=jO K en' (by rw [hK];rfl)
 have kM:∀i,i<L.length+1->K[3+i]?=(M++[t4])[i]?:=fun i hi=>by
  rw [hK,List.getElem?_append_left (by rw [L8];omega),Nat.add_comm];rfl
 have k4:tk K en' (3+L.length)=t4:=jO K en' (by
  rw [kM L.length (by omega),List.getElem?_append_right (by omega),hM,Nat.sub_self];rfl)
 have acw:fB P1 L en K en' 3:=by
  refine ⟨fun i hi=>?_,by omega⟩;by_cases hlt:i<L.length
  ·have e1:L[i]?=some L[i]:=List.getElem?_eq_getElem hlt;obtain ⟨y,e2⟩:∃y,M[i]?=some y:=⟨_,List.getElem?_eq_getElem (by omega)⟩
   have e3:K[3+i]?=some y:=by
    rw [kM i (by omega),List.getElem?_append_left (by omega)];exact e2
   rw [jO L en e1,jO K en' e3];exact .inl (hA i _ _ e1 e2)
  ·obtain rfl:i=L.length:=by omega
   rw [AY L en (Nat.le_refl _),k4];exact .inr ⟨rfl,⟨qL h4 (.inl rfl),qL h4 (.inr (.inl rfl)),qL h4 (.inr (.inr (.inl rfl))),qL h4 (.inr (.inr (.inr rfl)))⟩,fun s hs=>wI h4 (fun e=>hs.2 e.symm)⟩
 obtain ⟨z,ee⟩|⟨x1,y1,j1,G6,ff1,_,_,hq1⟩:=Sm.cs (Sm.dD acw (L.length+1) K.length 0 (Nat.zero_le _) (by omega))
 ·rw [he] at ee;cases ee
 obtain ⟨z,ee⟩|⟨x2,y2,j2,G7,ff2,_,_,hq2⟩:=Sm.cs (Sm.dD L6 (L.length+1) K.length 0 (Nat.zero_le _) (by omega))
 ·rw [he] at ee;cases ee
 rw [he] at G6 G7;injection G6 with G6;injection G6 with a1 a2;injection G7 with G7;injection G7 with b1 b2;subst a1 a2 b1 b2;refine ⟨y1,y2,?_,hq1,hq2⟩
 have hrec:bn t2 qG=false:=by
  cases h:bn t2 qG with
  | false=>rfl
  | true=>rcases pV h with h|h<;>rw [h2] at h<;>cases h
 have m1:aY K en' qG 1=.error (tk K en' 1).a:=if_neg (by rw [k1,hrec];decide);have acx:dD K en' K.length 3=.ok (y1,3+L.length):=by simpa using ff1
 have acy:dD K en' K.length (3+L.length+1)=.ok (y2,K.length):=by
  have:=ff2
  rw [Nat.add_zero] at this;rw [show 3+L.length+1=L.length+4 by omega,this,show L.length+4+L.length=K.length by omega]
 unfold dD;rw [k0,wI h1 (s':=eY) (by decide),if_neg (by decide),h1,if_pos rfl];unfold ny;rw [Nat.zero_add,m1];dsimp only;unfold bN;rw [k1,if_pos h2];dsimp only;unfold jL;rw [CU (by rw [k2];exact h3)];dsimp only;rw [acx];dsimp only;rw [CU (by rw [k4];exact h4)];dsimp only;rw [acy,k0]
theorem Um (K:List Tk) (en:Int):∀(f i:Nat) (acc r:List Value) (j:Nat),jC K en f i acc=.ok (r,j)->acc.length<=r.length
 | 0,i,acc,r,j,h=>by
  unfold jC at h;injection h with h;injection h with h _;rw [h];exact Nat.le_refl _
 | f+1,i,acc,r,j,h=>by
  unfold jC at h;split at h
  ·split at h
   ·cases h
   ·have:=Um K en f _ _ r j h
    rw [List.length_append] at this;simp only [List.length_cons,List.length_nil] at this;omega
  ·injection h with h;injection h with h _;rw [h];exact Nat.le_refl _
theorem acz {K:List Tk} {en:Int} {f i j:Nat} (h:jC K en (f+1) i []=.ok ([],j)):j=i:=by
 unfold jC at h;split at h
 ·split at h
  ·cases h
  ·have:=Um K en f _ _ _ _ h
   simp at this
 ·injection h with h;injection h with _ h;exact h.symm
theorem Kr {L:List Tk} {en:Int} {t:Value} {j:Nat} (h:jQ L en=.ok (([],t),j)):dD L en (L.length+1) 0=.ok (t,L.length):=by
 unfold jQ xz at h;cases hd:jC L en (L.length+1) 0 [] with
 | error z=>rw [hd] at h;cases h
 | ok r =>
  obtain ⟨ds,i⟩:=r;rw [hd] at h;dsimp only at h;unfold zI at h;cases he:dD L en (L.length+1) i with
  | error z=>rw [he] at h;cases h
  | ok r2 =>
   obtain ⟨e,k⟩:=r2;rw [he] at h;dsimp only at h;split at h
   ·cases h
   ·rename_i hk;injection h with h;injection h with h1 h2;injection h1 with h1 h3;subst h1 h3;obtain rfl:=acz hd;have hA:fB rq L en L en 0:=⟨fun i _=>by rw [Nat.zero_add];exact .inl ⟨rfl,rfl,rfl,trivial⟩,Nat.le_refl _⟩;obtain ⟨z,ee⟩|⟨x,y,j',ee,ff,ae1,hle2,hq⟩:=Sm.cs (Sm.dD hA (L.length+1) (L.length+1) 0 (Nat.zero_le _) (by omega))
    ·rw [he] at ee;cases ee
    ·rw [he] at ee;injection ee with ee;injection ee with _ e2;subst e2
     have:k=L.length:=by omega
     rw [he,this]
theorem Ks {K:List Tk} {en:Int} {t:Value} (h0:bn (tk K en 0) nZ=false) (h:dD K en (K.length+1) 0=.ok (t,K.length)):jQ K en=.ok (([],t),K.length):=by
 unfold jQ xz
 have hd:jC K en (K.length+1) 0 []=.ok ([],0):=by
  unfold jC;rw [h0,if_neg (by decide)]
 rw [hd];dsimp only;unfold zI;rw [h];dsimp only;rw [if_neg (Nat.lt_irrefl _)]
end Pz
namespace Pz
section
variable {L:List Tk} {en:Int} {P:Int->Prop} (h0:P 0) (ht:∀i,P (tk L en i).a)
theorem Ar (h0:P 0) (ht:∀i,P (tk L en i).a) {s:ByteArray} {i:Nat} {z:Int} (h:aY L en s i=.error z):P z:=by
 unfold aY at h;split at h
 ·cases h
 ·injection h with h;subst h;exact ht i
theorem Hd (h0:P 0) (ht:∀i,P (tk L en i).a) {k:Int} {i:Nat} {z:Int} (h:bN L en k i=.error z):P z:=by
 unfold bN at h;split at h
 ·cases h
 ·injection h with h;subst h;exact ht i
theorem Mr (h0:P 0) (ht:∀i,P (tk L en i).a) (E:Nat->Rd Value) (hE:∀i z,E i=.error z->P z)  (i:Nat) (z:Int) (h:brk L en E i=.error z):P z:=by
 unfold brk at h
 repeat' (first|(cases h;done)|split at h)
 all_goals (first|(cases h;done)|skip)
 all_goals (try (injection h with h;subst h))
 all_goals (first|exact ht _|exact Ar h0 ht (by assumption)|exact hE _ _ (by assumption))
theorem Ey (h0:P 0) (ht:∀i,P (tk L en i).a) (nx:Tk->Bool) (A:Nat->Rd Value) (hA:∀i z,A i=.error z->P z):∀(f i:Nat) (acc:List Value) (z:Int),dK L en nx A f i acc=.error z->P z
 | 0,i,acc,z,h=>by unfold dK at h;cases h
 | f+1,i,acc,z,h=>by
  unfold dK at h;split at h
  ·split at h
   ·injection h with h;subst h;exact hA _ _ (by assumption)
   ·exact Ey h0 ht nx A hA f _ _ z h
  ·cases h
theorem Ms (h0:P 0) (ht:∀i,P (tk L en i).a) (E:Nat->Rd Value) (hE:∀i z,E i=.error z->P z)  (i:Nat) (z:Int) (h:iO L en E i=.error z):P z:=by
 unfold iO at h
 repeat' (first|(cases h;done)|split at h)
 all_goals (first|(cases h;done)|skip)
 all_goals (try (injection h with h;subst h))
 all_goals (first|exact ht _|exact Mr h0 ht E hE _ _ h)
theorem ac5 (h0:P 0) (ht:∀i,P (tk L en i).a) (E:Nat->Rd Value) (hE:∀i z,E i=.error z->P z)  (i:Nat) (z:Int) (h:mF L en E i=.error z):P z:=by
 unfold mF at h
 repeat' (first|(cases h;done)|split at h)
 all_goals (first|(cases h;done)|skip)
 all_goals (try (injection h with h;subst h))
 all_goals (first|exact ht _|exact Ms h0 ht E hE _ _ (by assumption)|exact Ey h0 ht _ _ (Ms h0 ht E hE) _ _ _ _ (by assumption))
theorem Mt (h0:P 0) (ht:∀i,P (tk L en i).a):∀(f i:Nat) (z:Int),jv L en f i=.error z->P z
 | 0,i,z,h=>by unfold jv at h;injection h with h;subst h;exact h0
 | f+1,i,z,h=>by
  unfold jv at h;split at h
  ·injection h with h;subst h;exact ac5 h0 ht _ (Mt h0 ht f) _ _ (by assumption)
  ·split at h
   ·cases h
   ·split at h
    ·injection h with h;subst h;exact Mt h0 ht f _ _ (by assumption)
    ·cases h
theorem UK (h0:P 0) (ht:∀i,P (tk L en i).a) (E:Nat->Rd Value) (hE:∀i z,E i=.error z->P z)  (i:Nat) (z:Int) (h:ju L en E i=.error z):P z:=by
 unfold ju at h
 repeat' (first|(cases h;done)|split at h)
 all_goals (first|(cases h;done)|skip)
 all_goals (try (injection h with h;subst h))
 all_goals (first|exact ht _|exact Mr h0 ht E hE _ _ h)
theorem Mv (h0:P 0) (ht:∀i,P (tk L en i).a):∀(f i:Nat) (z:Int),gG L en f i=.error z->P z
 | 0,i,z,h=>by unfold gG at h;injection h with h;subst h;exact h0
 | f+1,i,z,h=>by
  unfold gG at h;split at h
  ·split at h
   ·injection h with h;subst h;exact Ey h0 ht _ _ (UK h0 ht _ (Mv h0 ht f)) _ _ _ _ (by assumption)
   ·cases h
  ·exact UK h0 ht _ (Mv h0 ht f) _ _ h
theorem Mw (h0:P 0) (ht:∀i,P (tk L en i).a) (E:Nat->Rd Value) (hE:∀i z,E i=.error z->P z)  (i:Nat) (z:Int) (h:fG L en E i=.error z):P z:=by
 unfold fG at h
 repeat' (first|(cases h;done)|split at h)
 all_goals (first|(cases h;done)|skip)
 all_goals (try (injection h with h;subst h))
 all_goals (first|exact ht _|exact Mr h0 ht E hE _ _ h)
theorem UL (h0:P 0) (ht:∀i,P (tk L en i).a) (E:Nat->Rd Value) (hE:∀i z,E i=.error z->P z):∀(f i:Nat) (e:Value) (z:Int),jW L en E f i e=.error z->P z
 | 0,i,e,z,h=>by unfold jW at h;cases h
 | f+1,i,e,z,h=>by
  unfold jW at h;split at h
  ·split at h
   ·injection h with h;subst h;exact Mw h0 ht E hE _ _ (by assumption)
   ·exact UL h0 ht E hE f _ _ z h
  ·cases h
theorem He (h0:P 0) (ht:∀i,P (tk L en i).a) (sg:Tk->Bool) (A:Nat->Rd Value) (hA:∀i z,A i=.error z->P z):∀(f i:Nat) (e:Value) (z:Int),eZ L en sg A f i e=.error z->P z
 | 0,i,e,z,h=>by unfold eZ at h;cases h
 | f+1,i,e,z,h=>by
  unfold eZ at h;split at h
  ·split at h
   ·injection h with h;subst h;exact hA _ _ (by assumption)
   ·exact He h0 ht sg A hA f _ _ z h
  ·cases h
theorem UM (h0:P 0) (ht:∀i,P (tk L en i).a) (E:Nat->Rd Value) (hE:∀i z,E i=.error z->P z)  (i:Nat) (z:Int) (h:jd L en E i=.error z):P z:=by
 unfold jd at h
 repeat' (first|(cases h;done)|split at h)
 all_goals (first|(cases h;done)|skip)
 all_goals (try (injection h with h;subst h))
 all_goals (first|exact ht _|exact Mw h0 ht E hE _ _ (by assumption)|exact Ey h0 ht _ _ (Mw h0 ht E hE) _ _ _ _ (by assumption)|exact UL h0 ht E hE _ _ _ _ h)
theorem UN (h0:P 0) (ht:∀i,P (tk L en i).a) (E:Nat->Rd Value) (hE:∀i z,E i=.error z->P z)  (i:Nat) (z:Int) (h:je L en E i=.error z):P z:=by
 unfold je at h
 repeat' (first|(cases h;done)|split at h)
 all_goals (first|(cases h;done)|skip)
 all_goals (try (injection h with h;subst h))
 all_goals (first|exact ht _|exact UM h0 ht E hE _ _ (by assumption)|exact He h0 ht _ _ (UM h0 ht E hE) _ _ _ _ h)
theorem UO (h0:P 0) (ht:∀i,P (tk L en i).a) (E:Nat->Rd Value) (hE:∀i z,E i=.error z->P z)  (i:Nat) (z:Int) (h:jf L en E i=.error z):P z:=by
 unfold jf at h
 repeat' (first|(cases h;done)|split at h)
 all_goals (first|(cases h;done)|skip)
 all_goals (try (injection h with h;subst h))
 all_goals (first|exact ht _|exact UN h0 ht E hE _ _ (by assumption)|exact He h0 ht _ _ (UN h0 ht E hE) _ _ _ _ h)
theorem ac6 (h0:P 0) (ht:∀i,P (tk L en i).a) (E:Nat->Rd Value) (hE:∀i z,E i=.error z->P z)  (i:Nat) (z:Int) (h:kP L en E i=.error z):P z:=by
 unfold kP at h
 repeat' (first|(cases h;done)|split at h)
 all_goals (first|(cases h;done)|skip)
 all_goals (try (injection h with h;subst h))
 all_goals (first|exact ht _|exact UO h0 ht E hE _ _ (by assumption)|exact He h0 ht _ _ (UO h0 ht E hE) _ _ _ _ h)
theorem ac7 (h0:P 0) (ht:∀i,P (tk L en i).a) (E:Nat->Rd Value) (hE:∀i z,E i=.error z->P z)  (i:Nat) (z:Int) (h:mH L en E i=.error z):P z:=by
 unfold mH at h
 repeat' (first|(cases h;done)|split at h)
 all_goals (first|(cases h;done)|skip)
 all_goals (try (injection h with h;subst h))
 all_goals (first|exact ht _|exact ac6 h0 ht E hE _ _ (by assumption)|exact hE _ _ (by assumption))
theorem UQ (h0:P 0) (ht:∀i,P (tk L en i).a) (E:Nat->Rd Value) (hE:∀i z,E i=.error z->P z)  (i:Nat) (z:Int) (h:jX L en E i=.error z):P z:=by
 unfold jX at h
 repeat' (first|(cases h;done)|split at h)
 all_goals (first|(cases h;done)|skip)
 all_goals (try (injection h with h;subst h))
 all_goals (first|exact ht _|exact Mv h0 ht _ _ _ (by assumption)|exact Ar h0 ht (by assumption)|exact hE _ _ (by assumption))
theorem UR (h0:P 0) (ht:∀i,P (tk L en i).a) (E:Nat->Rd Value) (hE:∀i z,E i=.error z->P z):∀(f i:Nat) (ps es:List Value) (z:Int),kQ L en E f i ps es=.error z->P z
 | 0,i,ps,es,z,h=>by unfold kQ at h;cases h
 | f+1,i,ps,es,z,h=>by
  unfold kQ at h;split at h
  ·cases h
  ·split at h
   ·injection h with h;subst h;exact UQ h0 ht E hE _ _ (by assumption)
   ·exact UR h0 ht E hE f _ _ _ z h
theorem ac8 (h0:P 0) (ht:∀i,P (tk L en i).a) (E:Nat->Rd Value) (hE:∀i z,E i=.error z->P z)  (i:Nat) (z:Int) (h:nu L en E i=.error z):P z:=by
 unfold nu at h
 repeat' (first|(cases h;done)|split at h)
 all_goals (first|(cases h;done)|skip)
 all_goals (try (injection h with h;subst h))
 all_goals (first|exact ht _|exact Hd h0 ht (by assumption)|exact Ar h0 ht (by assumption)|exact hE _ _ (by assumption))
theorem ac9 (h0:P 0) (ht:∀i,P (tk L en i).a) (E:Nat->Rd Value) (hE:∀i z,E i=.error z->P z) (k:Int) (x y:ByteArray) (a:Int)  (i:Nat) (z:Int) (h:jL L en E k x y a i=.error z):P z:=by
 unfold jL at h
 repeat' (first|(cases h;done)|split at h)
 all_goals (first|(cases h;done)|skip)
 all_goals (try (injection h with h;subst h))
 all_goals (first|exact ht _|exact Ar h0 ht (by assumption)|exact hE _ _ (by assumption))
theorem ada (h0:P 0) (ht:∀i,P (tk L en i).a) (E:Nat->Rd Value) (hE:∀i z,E i=.error z->P z)  (i:Nat) (z:Int) (h:ny L en E i=.error z):P z:=by
 unfold ny at h
 repeat' (first|(cases h;done)|split at h)
 all_goals (first|(cases h;done)|skip)
 all_goals (try (injection h with h;subst h))
 all_goals (first|exact ht _|exact Hd h0 ht (by assumption)|exact ac9 h0 ht E hE _ _ _ _ _ _ h)
theorem adb (h0:P 0) (ht:∀i,P (tk L en i).a) (E:Nat->Rd Value) (hE:∀i z,E i=.error z->P z)  (i:Nat) (z:Int) (h:oG L en E i=.error z):P z:=by
 unfold oG at h
 repeat' (first|(cases h;done)|split at h)
 all_goals (first|(cases h;done)|skip)
 all_goals (try (injection h with h;subst h))
 all_goals (first|exact ht _|exact Ar h0 ht (by assumption)|exact hE _ _ (by assumption))
theorem ade (h0:P 0) (ht:∀i,P (tk L en i).a) (E:Nat->Rd Value) (hE:∀i z,E i=.error z->P z)  (i:Nat) (z:Int) (h:nz L en E i=.error z):P z:=by
 unfold nz at h
 repeat' (first|(cases h;done)|split at h)
 all_goals (first|(cases h;done)|skip)
 all_goals (try (injection h with h;subst h))
 all_goals (first|exact ht _|exact Ar h0 ht (by assumption)|exact hE _ _ (by assumption)|exact UQ h0 ht E hE _ _ (by assumption)|exact UR h0 ht E hE _ _ _ _ _ (by assumption))
theorem BK (h0:P 0) (ht:∀i,P (tk L en i).a):∀(f i:Nat) (z:Int),dD L en f i=.error z->P z
 | 0,i,z,h=>by unfold dD at h;injection h with h;subst h;exact h0
 | f+1,i,z,h=>by
  unfold dD at h;split at h
  ·exact ac8 h0 ht _ (BK h0 ht f) _ _ h
  ·split at h
   ·exact ada h0 ht _ (BK h0 ht f) _ _ h
   ·split at h
    ·exact adb h0 ht _ (BK h0 ht f) _ _ h
    ·split at h
     ·exact ade h0 ht _ (BK h0 ht f) _ _ h
     ·exact ac7 h0 ht _ (BK h0 ht f) _ _ h
theorem UT (h0:P 0) (ht:∀i,P (tk L en i).a)  (i:Nat) (z:Int) (h:iP L en i=.error z):P z:=by
 unfold iP at h
 repeat' (first|(cases h;done)|split at h)
 all_goals (first|(cases h;done)|skip)
 all_goals (try (injection h with h;subst h))
 all_goals (first|exact ht _|exact Hd h0 ht (by assumption)|exact Ey h0 ht _ _ (Ms h0 ht _ (Mt h0 ht _)) _ _ _ _ (by assumption))
theorem UU (h0:P 0) (ht:∀i,P (tk L en i).a):∀(f i:Nat) (acc:List Value) (z:Int),jY L en f i acc=.error z->P z
 | 0,i,acc,z,h=>by unfold jY at h;cases h
 | f+1,i,acc,z,h=>by
  unfold jY at h;split at h
  ·cases h
  ·split at h
   ·injection h with h;subst h;exact UT h0 ht _ _ (by assumption)
   ·exact UU h0 ht f _ _ z h
theorem adf (h0:P 0) (ht:∀i,P (tk L en i).a)  (i:Nat) (z:Int) (h:nA L en i=.error z):P z:=by
 unfold nA at h
 repeat' (first|(cases h;done)|split at h)
 all_goals (first|(cases h;done)|skip)
 all_goals (try (injection h with h;subst h))
 all_goals (first|exact ht _|exact Hd h0 ht (by assumption)|exact Ar h0 ht (by assumption)|exact UT h0 ht _ _ (by assumption)|exact UU h0 ht _ _ _ _ (by assumption))
theorem UW (h0:P 0) (ht:∀i,P (tk L en i).a):∀(f i:Nat) (acc:List Value) (z:Int),jC L en f i acc=.error z->P z
 | 0,i,acc,z,h=>by unfold jC at h;cases h
 | f+1,i,acc,z,h=>by
  unfold jC at h;split at h
  ·split at h
   ·injection h with h;subst h;exact adf h0 ht _ _ (by assumption)
   ·exact UW h0 ht f _ _ z h
  ·cases h
theorem adg (h0:P 0) (ht:∀i,P (tk L en i).a) {z:Int} (h:jQ L en=.error z):P z:=by
 unfold jQ xz zI at h;split at h
 ·injection h with h;subst h;exact UW h0 ht _ _ _ _ (by assumption)
 ·split at h
  ·injection h with h;subst h;exact BK h0 ht _ _ _ (by assumption)
  ·split at h
   ·injection h with h;subst h;exact ht _
   ·cases h
end
def Hf (s:ByteArray) (L:List Tk):Prop:=∀t ∈ L,0<=t.a/\t.a<=(s.size:Int)
theorem UX (s:ByteArray):∀(f i:Nat) (acc:List Tk),i<=s.size->Hf s acc->Hf s (bH s f i acc).1/\0<=(bH s f i acc).2.1/\(bH s f i acc).2.1<=(s.size:Int)/\((bH s f i acc).2.2=0\/(bH s f i acc).2.2≠0)
 | 0,i,acc,hi,h=>⟨h,Int.le_refl _,(by show (0:Int)<=_;omega),.inl rfl⟩
 | f+1,i,acc,hi,h=>by
  unfold bH;split
  ·rename_i hc;split
   ·exact ⟨fun t ht=>(by cases ht),(by show (0:Int)<=(i:Int);omega),(by show (i:Int)<=_;omega),Decidable.em _⟩
   ·rename_i k x n e ho;split
    ·exact ⟨fun t ht=>(by cases ht),(by show (0:Int)<=(i:Int);omega),(by show (i:Int)<=_;omega),Decidable.em _⟩
    ·have he:=wh hc ho;refine UX s f _ _ (zq s false he.2) (fun t ht=>?_);rcases List.mem_append.1 ht with ht|ht
     ·exact h t ht
     ·rw [List.mem_singleton.1 ht];exact ⟨by show (0:Int)<=(i:Int);omega,by show (i:Int)<=_;omega⟩
  ·exact ⟨h,Int.le_refl _,(by show (0:Int)<=_;omega),.inl rfl⟩
theorem Ra (s:ByteArray):Hf s (lx s).1/\0<=(lx s).2.1/\(lx s).2.1<=(s.size:Int):=by
 unfold lx;split
 ·exact ⟨fun t ht=>(by cases ht),Int.le_refl _,(by show (0:Int)<=_;omega)⟩
 ·have h:=UX s s.size (sk s false 0) [] (zq s false (Nat.zero_le _)) (fun t ht=>by cases ht);exact ⟨h.1,h.2.1,h.2.2.1⟩
theorem adh {s:ByteArray} {L:List Tk} (h:Hf s L) (i:Nat):0<=(tk L s.size i).a/\(tk L s.size i).a<=(s.size:Int):=by
 cases hi:L[i]? with
 | none=>unfold Pz.tk;rw [hi];exact ⟨by show (0:Int)<=(s.size:Int);omega,Int.le_refl _⟩
 | some t=>rw [jO L _ hi];exact h t (List.mem_of_getElem? hi)
theorem Says.bad {s:ByteArray} {a z:Int} (h:Says s (.error (a,z))):z≠0/\0<=a/\a<=(s.size:Int):=by
 have hl:=Ra s;unfold Says at h;split at h
 ·rename_i hc;injection h with h;injection h with h1 h2;subst h1 h2;exact ⟨hc,hl.2⟩
 ·split at h
  ·rename_i z' hp;injection h with h;injection h with h1 h2;subst h1 h2;exact ⟨by decide,adg (P:=fun a=>0<=a/\a<=(s.size:Int)) ⟨Int.le_refl _,by omega⟩ (adh hl.1) hp⟩
  ·obtain ⟨d,hd,hq⟩:=h;unfold kX at hq;split at hq
   ·injection hq with hq;injection hq with h1 h2;subst h1 h2;exact ⟨by decide,Int.le_refl _,by omega⟩
   ·split at hq
    ·injection hq with hq;injection hq with h1 h2;subst h1 h2;exact ⟨by decide,Int.le_refl _,by omega⟩
    ·cases hq
end Pz
end Go.Proofs.YtkdbgopgjbfhbaaGreatDoor
