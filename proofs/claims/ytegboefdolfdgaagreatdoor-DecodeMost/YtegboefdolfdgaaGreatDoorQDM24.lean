/- Texts that the claim needs. -/
import Derived.Test.YtegboefdolfdgaaGreatDoorQDM22
import Derived.Test.YtegboefdolfdgaaGreatDoorQDM15
namespace Go.Proofs.YtegboefdolfdgaaGreatDoor
open Go.RowKit aA ai
set_option linter.unusedVariables false
set_option maxRecDepth 100000
set_option maxHeartbeats 16000000
namespace ai
def yq {α:Type} (bR:Bool) (x:R2 (α × Int)):R2 (α × Int):=bL x fun lt j m=>if bR=true\/lt.2=11 then .ok (lt,j,m) else .error 50
def vk (w0:World) (p:Nat) (s:ByteArray) (en d:Nat) (w:World) (X:R2 (IL d × Int)) (e:Ending) (w':World):Prop :=
 ∃(l:IL d) (t:Int) (o:Option Addr) (k c i n:Nat) (z:Int),e=.returned (.tuple #[.slice o k c,.int .i64 t])/\DS w0 p s en i n z w'/\But p w w'/\Fits X (fun a=>a=(l,t)) i n z/\(z=0->ah w' (Since w.heap.size w' none) d (.slice o k c) l)/\(z≠0->t=0)
def wJ (d:Nat):Prop:=∀(w0:World) (p:Nat) (s:ByteArray) (en i n:Nat) (z:Int) (w:World) (dep:Nat) (bR:Bool),DS w0 p s en i n z w->(z=0->n<=65536)->65<=d+dep->dep<=65 ->
 Calls Tryz.prog 58 #[.pointer (some ⟨p,0,none⟩),.int .i64 dep,.bool bR] w (vk w0 p s en d w (aG z (yq bR (dG s en d dep i n))))
theorem Us (op:Int) (h:form op=2):op≠4:=by
 intro e;rw [e] at h;exact absurd h (by decide)
theorem Ut (op:Int) (h:form op=3):op=4:=by
 unfold form at h
 repeat' split at h
 all_goals first|omega|(exfalso;simp_all;done)|(exfalso;simp_all;omega)
section
variable {d:Nat} {s:ByteArray} {en:Nat} {sub:Nat->Nat->R2 (IL d × Int)} {op y:Int} {i n i0 n0 i1 n1 i2 n2:Nat} {z0 z1 z2 t t2:Int} {l l2:IL d} {P:Ins (IL d)->Prop}
theorem K3 {α:Type} {x:R α} {P:α->Prop} (h:Fits (aG 0 (lift x n)) P i0 n0 z0) (hz:z0=0):n0=n:=by
 rw [bJ] at h;cases x with
 | error e=>exact absurd hz h.2
 | ok v=>exact h.2.2.1.symm
theorem Uu (hf:form op=2) (ht:Tb sub) (h0:Fits (aG 0 (lift (jh s en i) n)) (fun a=>a=y) i0 n0 z0) (h1:Fits (aG z0 (yq false (sub i0 n0))) (fun a=>a=(l,t)) i1 n1 z1)
  (hP:z1=0->P { op:=op,a:=y,b:=0,n:=0,labels:=[],body:=l,els:=none_ d }):Fits (jC (none_ d) s en sub op i n) P i1 n1 z1:=by
 rw [bJ] at h0;unfold jC;cases hx:jh s en i with
 | error e =>
  rw [hx] at h0;obtain ⟨rfl,h⟩:=h0;rw [gH h] at h1;exact h1
 | ok v =>
  obtain ⟨a,j⟩:=v;rw [hx] at h0;obtain ⟨rfl,rfl,rfl,rfl⟩:=h0;rw [bJ] at h1;show Fits (bL (sub j n) _) P i1 n1 z1;cases hy:sub j n with
  | error e=>rw [hy] at h1;exact h1
  | ok v =>
   obtain ⟨⟨b,t'⟩,m,n'⟩:=v;rw [hy] at h1;show Fits (if t'=5/\form op=3 then _ else if t'=11 then _ else _) P i1 n1 z1;rw [if_neg (by rw [hf];omega)];have h1:Fits (if false=true\/t'=11 then (.ok ((b,t'),m,n'):R2 (IL d × Int)) else .error 50) (fun a=>a=(l,t)) i1 n1 z1:=h1;by_cases h11:t'=11
   ·rw [if_pos (.inr h11)] at h1;obtain ⟨h,rfl,rfl,rfl⟩:=h1;injection h with h h';subst h;rw [if_pos h11];exact ⟨hP rfl,rfl,rfl,rfl⟩
   ·rw [if_neg (by simp [h11])] at h1;rw [if_neg h11];exact h1
theorem Uv (hf:form op=3) (ht:Tb sub) (h5:t≠5) (h0:Fits (aG 0 (lift (jh s en i) n)) (fun a=>a=y) i0 n0 z0) (h1:Fits (aG z0 (yq true (sub i0 n0))) (fun a=>a=(l,t)) i1 n1 z1)
  (hP:z1=0->P { op:=op,a:=y,b:=0,n:=0,labels:=[],body:=l,els:=none_ d }):Fits (jC (none_ d) s en sub op i n) P i1 n1 z1:=by
 rw [bJ] at h0;unfold jC;cases hx:jh s en i with
 | error e =>
  rw [hx] at h0;obtain ⟨rfl,h⟩:=h0;rw [gH h] at h1;exact h1
 | ok v =>
  obtain ⟨a,j⟩:=v;rw [hx] at h0;obtain ⟨rfl,rfl,rfl,rfl⟩:=h0;rw [bJ] at h1;show Fits (bL (sub j n) _) P i1 n1 z1;cases hy:sub j n with
  | error e=>rw [hy] at h1;exact h1
  | ok v =>
   obtain ⟨⟨b,t'⟩,m,n'⟩:=v;have tz:=ht _ _ _ _ _ hy;have tz:t'=5\/t'=11:=tz;rw [hy] at h1;show Fits (if t'=5/\form op=3 then _ else if t'=11 then _ else _) P i1 n1 z1;have h1:Fits (if true=true\/t'=11 then (.ok ((b,t'),m,n'):R2 (IL d × Int)) else .error 50) (fun a=>a=(l,t)) i1 n1 z1:=h1;rw [if_pos (.inl rfl)] at h1;obtain ⟨h,rfl,rfl,rfl⟩:=h1;injection h with h h';subst h;have h':t'=t:=h';subst h';rw [if_neg (fun h=>h5 h.1),if_pos (by omega)];exact ⟨hP rfl,rfl,rfl,rfl⟩
theorem Uw (hf:form op=3) (h0:Fits (aG 0 (lift (jh s en i) n)) (fun a=>a=y) i0 n0 z0) (h1:Fits (aG z0 (yq true (sub i0 n0))) (fun a=>a=(l,5)) i1 n1 z1) (hz1:z1=0) (h2:Fits (aG z1 (yq false (sub i1 n1))) (fun a=>a=(l2,t2)) i2 n2 z2)
  (hP:z2=0->P { op:=op,a:=y,b:=0,n:=0,labels:=[],body:=l,els:=l2 }):Fits (jC (none_ d) s en sub op i n) P i2 n2 z2:=by
 rw [bJ] at h0;unfold jC;cases hx:jh s en i with
 | error e =>
  rw [hx] at h0;obtain ⟨rfl,h⟩:=h0;rw [gH h] at h1;obtain ⟨rfl,h'⟩:=h1;exact absurd hz1 h'
 | ok v =>
  obtain ⟨a,j⟩:=v;rw [hx] at h0;obtain ⟨rfl,rfl,rfl,rfl⟩:=h0;rw [bJ] at h1;show Fits (bL (sub j n) _) P i2 n2 z2;cases hy:sub j n with
  | error e=>rw [hy] at h1;exact absurd hz1 h1.2
  | ok v =>
   obtain ⟨⟨b,t'⟩,m,n'⟩:=v;rw [hy] at h1;have h1:Fits (if true=true\/t'=11 then (.ok ((b,t'),m,n'):R2 (IL d × Int)) else .error 50) (fun a=>a=(l,5)) i1 n1 z1:=h1;rw [if_pos (.inl rfl)] at h1;obtain ⟨h,rfl,rfl,rfl⟩:=h1;injection h with h h';subst h;have h':t'=5:=h';subst h';show Fits (if (5:Int)=5/\form op=3 then _ else if (5:Int)=11 then _ else _) P i2 n2 z2;rw [if_pos ⟨rfl,hf⟩];rw [bJ] at h2;cases hy2:sub m n' with
   | error e=>rw [hy2] at h2;exact h2
   | ok v =>
    obtain ⟨⟨b2,t3⟩,m2,n3⟩:=v;rw [hy2] at h2;show Fits (if t3=11 then _ else _) P i2 n2 z2;have h2:Fits (if false=true\/t3=11 then (.ok ((b2,t3),m2,n3):R2 (IL d × Int)) else .error 50) (fun a=>a=(l2,t2)) i2 n2 z2:=h2;by_cases h11:t3=11
    ·rw [if_pos (.inr h11)] at h2;obtain ⟨h,rfl,rfl,rfl⟩:=h2;injection h with h h';subst h;rw [if_pos h11];exact ⟨hP rfl,rfl,rfl,rfl⟩
    ·rw [if_neg (by simp [h11])] at h2;rw [if_neg h11];exact h2
theorem Ux {sub:Nat->Nat->R2 (IL d × Int)} (hs:Nb sub) {bR:Bool} {Q:IL d × Int->Prop} (hn:z0=0->n0<=65536) (h1:Fits (aG z0 (yq bR (sub i0 n0))) Q i1 n1 z1) (hz:z1=0):n1<=65536:=by
 have hz0:=Fits.zero h1 hz;subst hz0;rw [bJ] at h1;cases hy:sub i0 n0 with
 | error e=>rw [hy] at h1;exact absurd hz h1.2
 | ok v =>
  obtain ⟨⟨b,t'⟩,m,n'⟩:=v;rw [hy] at h1;have h1:Fits (if bR=true\/t'=11 then (.ok ((b,t'),m,n'):R2 (IL d × Int)) else .error 50) Q i1 n1 z1:=h1;split at h1
  ·obtain ⟨_,_,rfl,_⟩:=h1;exact hs _ _ _ _ _ (hn rfl) hy
  ·exact absurd hz h1.2
end
end ai
section
variable (w0 w:World) (p:Nat) (s:ByteArray) (en i n q:Nat) (op:Int) (u:World) (h:YI w0 w p s en i n 0 q op 0 0 0 (.slice none 0 0) (.slice none 0 0) (.slice none 0 0) u) (d dep:Nat) (IH:wJ d) (hn:n<=65536) (hd:65<=d+(dep+1)) (mi:dep<=64)
include h IH hn hd mi
theorem Pv (hf:form op=2):Calls Tryz.prog 82 #[.pointer (some ⟨p,0,none⟩),.pointer (some ⟨q,0,none⟩),.int .i64 dep] u (lI w0 w p s en q d op (jC (none_ d) s en (dG s en d (dep+1)) op i n)):=by
 obtain ⟨sub,hsub⟩:∃sub,sub=dG s en d (dep+1):=⟨_,rfl⟩;have EP:Hid (Tb sub):=aa (by rw [hsub];exact xY s en d (dep+1))
 have mo:Hid (∀(i n:Nat) (z:Int) (w:World),DS w0 p s en i n z w->(z=0->n<=65536)->Calls Tryz.prog 58 #[.pointer (some ⟨p,0,none⟩),.int .i64 ((dep:Int)+1),.bool false] w (vk w0 p s en d w (aG z (yq false (sub i n))))):=aa (fun i n z w h hn=>by
  rw [hsub];exact IH w0 p s en i n z w (dep+1) false h hn hd (by omega))
 rw [<- hsub];obtain ⟨G,hG⟩:∃G,G=jC (none_ d) s en sub op i n:=⟨_,rfl⟩;rw [<- hG];have HG:=aa hG;have x0:=h.x.cell 0 _ rfl;have HF:=aa (mh op u);rw [hf] at HF;have q1:(op == 4)=false:=by rw [beq_eq_false_iff_ne];exact Us op hf
 have H:=aa h;have BX:=aa hf;have hdw:IntKind.i64.wrap ((dep:Int)+1)=(dep:Int)+1:=by rw [IntKind.wrap_i64];omega
 clear h hf hsub IH hG hd mi;go_enter Tryz.func82,Tryz.ntmps82;go_wp2_with fail;refine HF.out.mono ?_;rintro e u ⟨rfl,rfl⟩;clear HF;have aJ:=aa (Fc w0 p s en i n 0 _ H.out.ds);go_wp2_with fail;refine aJ.out.mono ?_;rintro e u0 ⟨y0,i0,n0,z0,rfl,h1,h2,hF⟩;have ak:=aa (H.out.call h1 h2);have cA:=aa hF;clear h1 h2 hF aJ H x0;have fx:=ak.out.x.cell 1 _ rfl;have fy:=ak.out.x.ag 1;obtain ⟨t0,ht⟩:∃t,t=u0.setCell ⟨q,1,none⟩ (.int .i64 y0):=⟨_,rfl⟩;have ay:=aa (ak.out.set1 y0);rw [<- ht] at ay;have HE:=aa ht;clear ht;go_upto_region 6 with fail;rw [<- HE.out];clear HE fx fy ak;have x0:=ay.out.x.cell 0 _ rfl;have aZ:=aa (mo.out i0 n0 z0 t0 ay.out.ds (fun hz=>by rw [K3 cA.out hz];exact hn));have HB:Hid (w.heap.size<=t0.heap.size/\q<t0.heap.size):=aa ⟨ay.out.but.size,ay.out.x.lt⟩;go_wp2_with fail;refine aZ.out.mono ?_;rintro e u1 ⟨l,t,o5,n5,k5,i1,n1,z1,rfl,h1,h2,hF,hA,hT⟩;have aB:=aa (ay.out.call h1 h2);have fC:=aa hF;have HA1:=aa hA
 have K4:t≠5:=fun h5=>by
  by_cases hz:z1=0
  ·subst h5;have h0:=Fits.zero hF hz;subst h0;rw [bJ] at hF;cases hy:sub i0 n0 with
   | error e=>rw [hy] at hF;exact absurd hz hF.2
   | ok v =>
    obtain ⟨⟨b,t'⟩,m,n'⟩:=v;rw [hy] at hF;have hF:Fits (if false=true\/t'=11 then (.ok ((b,t'),m,n'):R2 (IL d × Int)) else .error 50) (fun a=>a=(l,5)) i1 n1 z1:=hF;by_cases h11:t'=11
    ·rw [if_pos (.inr h11)] at hF
     have:=hF.1
     injection this with _ this
     have:t'=5:=this
     omega
    ·rw [if_neg (by simp [h11])] at hF;exact absurd hz hF.2
  ·have:=hT hz;omega
 have q5:(t == 5)=false:=by rw [beq_eq_false_iff_ne];exact K4
 clear h1 h2 hF hA hT aZ K4;obtain ⟨B,hB⟩:∃B,B=t0.heap.size:=⟨_,rfl⟩;rw [<- hB] at HA1 HB;clear hB ay x0;have fx:=aB.out.x.cell 5 _ rfl;have fy:=aB.out.x.ag 5;obtain ⟨t1,ht⟩:∃t,t=u1.setCell ⟨q,5,none⟩ (.slice o5 n5 k5):=⟨_,rfl⟩;have aC:=aa (aB.out.pW (.slice o5 n5 k5));have vT:=aa (fun hz=>ah.keep (kx (r:=q) (j:=5) (v:=.slice o5 n5 k5) HB.out.2 (Nat.le_refl _)) d _ _ (HA1.out hz));rw [<- ht] at aC vT;have HE:=aa ht;clear ht;go_wp2;rw [<- HE.out];clear HE fx fy aB;go_end0;refine ⟨rfl,y0,0,0,_,_,_,_,_,_,_,_,_,i1,n1,z1,aC.out,?_⟩;rw [HG.out];exact Uu BX.out EP.out cA.out fC.out (fun hz=>⟨rfl,rfl,rfl,rfl,iR _ _,AL HB.out.1 (vT.out hz),at_nil _ _ d⟩)
theorem Pw (hf:form op=3):Calls Tryz.prog 82 #[.pointer (some ⟨p,0,none⟩),.pointer (some ⟨q,0,none⟩),.int .i64 dep] u (lI w0 w p s en q d op (jC (none_ d) s en (dG s en d (dep+1)) op i n)):=by
 obtain ⟨sub,hsub⟩:∃sub,sub=dG s en d (dep+1):=⟨_,rfl⟩;have EP:Hid (Tb sub):=aa (by rw [hsub];exact xY s en d (dep+1));have xf:Hid (Nb sub):=aa (by rw [hsub];exact wE s en d (dep+1))
 have mo:Hid (∀(i n:Nat) (z:Int) (w:World) (bR:Bool),DS w0 p s en i n z w->(z=0->n<=65536)->Calls Tryz.prog 58 #[.pointer (some ⟨p,0,none⟩),.int .i64 ((dep:Int)+1),.bool bR] w (vk w0 p s en d w (aG z (yq bR (sub i n))))):=aa (fun i n z w bR h hn=>by
  rw [hsub];exact IH w0 p s en i n z w (dep+1) bR h hn hd (by omega))
 rw [<- hsub];obtain ⟨G,hG⟩:∃G,G=jC (none_ d) s en sub op i n:=⟨_,rfl⟩;rw [<- hG];have HG:=aa hG;have x0:=h.x.cell 0 _ rfl;have HF:=aa (mh op u);rw [hf] at HF;have q1:(op == 4)=true:=by rw [Ut op hf];rfl
 have H:=aa h;have BX:=aa hf;have hdw:IntKind.i64.wrap ((dep:Int)+1)=(dep:Int)+1:=by rw [IntKind.wrap_i64];omega
 clear h hf hsub IH hG hd mi;go_enter Tryz.func82,Tryz.ntmps82;go_wp2_with fail;refine HF.out.mono ?_;rintro e u ⟨rfl,rfl⟩;clear HF;have aJ:=aa (Fc w0 p s en i n 0 _ H.out.ds);go_wp2_with fail;refine aJ.out.mono ?_;rintro e u0 ⟨y0,i0,n0,z0,rfl,h1,h2,hF⟩;have ak:=aa (H.out.call h1 h2);have cA:=aa hF;clear h1 h2 hF aJ H x0;have fx:=ak.out.x.cell 1 _ rfl;have fy:=ak.out.x.ag 1;obtain ⟨t0,ht⟩:∃t,t=u0.setCell ⟨q,1,none⟩ (.int .i64 y0):=⟨_,rfl⟩;have ay:=aa (ak.out.set1 y0);rw [<- ht] at ay;have HE:=aa ht;clear ht;go_upto_region 6 with fail;rw [<- HE.out];clear HE fx fy ak;have x0:=ay.out.x.cell 0 _ rfl;have hn0:Hid (z0=0->n0<=65536):=aa (fun hz=>by rw [K3 cA.out hz];exact hn);have aZ:=aa (mo.out i0 n0 z0 t0 true ay.out.ds hn0.out);have HB:Hid (w.heap.size<=t0.heap.size/\q<t0.heap.size/\p<t0.heap.size):=aa ⟨ay.out.but.size,ay.out.x.lt,ay.out.ds.lt⟩;go_wp2_with fail;refine aZ.out.mono ?_;rintro e u1 ⟨l,t,o5,n5,k5,i1,n1,z1,rfl,h1,h2,hF,hA,hT⟩;have aB:=aa (ay.out.call h1 h2);have fC:=aa hF;have HA1:=aa hA;have Uy:=aa hT;clear h1 h2 hF hA hT aZ;obtain ⟨B,hB⟩:∃B,B=t0.heap.size:=⟨_,rfl⟩;rw [<- hB] at HA1 HB;clear hB ay x0;have fx:=aB.out.x.cell 5 _ rfl;have fy:=aB.out.x.ag 5;obtain ⟨t1,ht⟩:∃t,t=u1.setCell ⟨q,5,none⟩ (.slice o5 n5 k5):=⟨_,rfl⟩;have aC:=aa (aB.out.pW (.slice o5 n5 k5));have vT:=aa (fun hz=>ah.keep (kx (r:=q) (j:=5) (v:=.slice o5 n5 k5) HB.out.2.1 (Nat.le_refl _)) d _ _ (HA1.out hz));rw [<- ht] at aC vT;have HE:=aa ht;clear ht;by_cases h5:t=5
 ·subst h5
  have hz1:z1=0:=by
   by_cases hz:z1=0
   ·exact hz
   ·have:=Uy.out hz;omega
  have cz:=aa (mo.out i1 n1 z1 t1 false aC.out.ds (fun hz=>Ux xf.out hn0.out fC.out hz));have HB2:Hid (w.heap.size<=t1.heap.size/\q<t1.heap.size):=aa ⟨aC.out.but.size,aC.out.x.lt⟩;go_upto_region 8 with fail;rw [<- HE.out];clear HE fx fy aB HA1;go_wp2_with fail;refine cz.out.mono ?_;rintro e u2 ⟨l2,t2,o6,n6,k6,i2,n2,z2,rfl,h1,h2,hF,hA,hT⟩;have az:=aa (aC.out.call h1 h2);have gU:=aa hF;have wU:=aa hA;have Uz:=aa (fun hz=>ah.keep (mf HB.out.2.2 h2) d _ _ (vT.out hz));clear h1 h2 hF hA hT cz vT;obtain ⟨B2,iB⟩:∃B2,B2=t1.heap.size:=⟨_,rfl⟩;rw [<- iB] at wU HB2;clear iB aC;have fx:=az.out.x.cell 6 _ rfl;have fy:=az.out.x.ag 6;obtain ⟨t3,ht⟩:∃t,t=u2.setCell ⟨q,6,none⟩ (.slice o6 n6 k6):=⟨_,rfl⟩;have cf:=aa (az.out.xx (.slice o6 n6 k6));have iA:=aa (fun hz=>ah.keep (kx (r:=q) (j:=6) (v:=.slice o6 n6 k6) HB.out.2.1 (Nat.le_refl _)) d _ _ (Uz.out hz));have nO:=aa (fun hz=>ah.keep (kx (r:=q) (j:=6) (v:=.slice o6 n6 k6) HB2.out.2 (Nat.le_refl _)) d _ _ (wU.out hz));rw [<- ht] at cf iA nO;have HE:=aa ht;clear ht;go_wp2;rw [<- HE.out];clear HE fx fy az;go_end0;refine ⟨rfl,y0,0,0,_,_,_,_,_,_,_,_,_,i2,n2,z2,cf.out,?_⟩;rw [HG.out];exact Uw BX.out cA.out fC.out hz1 gU.out (fun hz=>⟨rfl,rfl,rfl,rfl,iR _ _,AL HB.out.1 (iA.out hz1),AL HB2.out.1 (nO.out hz)⟩)
 ·have q5:(t == 5)=false:=by rw [beq_eq_false_iff_ne];exact h5
  have rq:=aa h5;clear h5;go_wp2;rw [<- HE.out];clear HE fx fy aB;go_end0;refine ⟨rfl,y0,0,0,_,_,_,_,_,_,_,_,_,i1,n1,z1,aC.out,?_⟩;rw [HG.out];exact Uv BX.out EP.out rq.out cA.out fC.out (fun hz=>⟨rfl,rfl,rfl,rfl,iR _ _,AL HB.out.1 (vT.out hz),at_nil _ _ d⟩)
end
namespace ai
theorem CN {w0 w u:World} {p:Nat} {s:ByteArray} {en i n:Nat} {z:Int} (op:Int) (h:DS w0 p s en i n z u) :
  YI w0 u p s en i n z u.heap.size op 0 0 0 (.slice none 0 0) (.slice none 0 0) (.slice none 0 0) (u.alloc (.cells #[.int .i64 op,.int .i64 0,.int .i64 0,.int .i64 0,.slice none 0 0,.slice none 0 0,.slice none 0 0] 73)) :=
 ⟨h.on (aD _ _),But.of p (aD _ _),cF.new _ _ op 0 0 0 _ _ _ rfl,h.lt,Nat.le_refl _⟩
end ai
theorem wy (w0:World) (p:Nat) (s:ByteArray) (en i n:Nat) (z:Int) (w:World) (dep:Int) (bR:Bool) (d:Nat) (h:DS w0 p s en i n z w) (hz:z≠0) :
  Calls Tryz.prog 58 #[.pointer (some ⟨p,0,none⟩),.int .i64 dep,.bool bR] w (vk w0 p s en d w (.error z)):=by
 have c4:=h.cell 4 _ rfl;have q1:(z == 0)=false:=by rw [beq_eq_false_iff_ne];exact hz
 have H:=aa h;have HZ:=aa hz;clear h hz;go_enter Tryz.func58,Tryz.ntmps58;go_wp2_with fail;go_loopw [8] (fun t wr=>t=.slice none 0 0/\wr=w) (fun _ _=>0)
 case atStart=>exact ⟨rfl,rfl⟩
 case round =>
  obtain ⟨rfl,rfl⟩:=hrel;go_wp2;go_ret2;exact ⟨none_ d,0,none,0,0,i,n,z,rfl,H.out,But.refl p _,⟨rfl,HZ.out⟩,fun h=>absurd h HZ.out,fun _=>rfl⟩
namespace ai
theorem GJ {dep nq:Nat} {op z1:Int} (hn:nq<=65536) (h:gZ dep op nq=some z1):(form op == 0)=true/\z1=50\/(form op == 0)=false/\((form op == 10)=true/\z1=51\/(form op == 10)=false/\(((nq:Int) == 65536)=true/\z1=3\/((nq:Int) == 65536)=false/\decide ((dep:Int) > 64)=true/\z1=4)):=by
 unfold gZ at h;by_cases h0:form op=0
 ·rw [if_pos h0] at h;injection h with h;exact .inl ⟨by rw [h0];rfl,h.symm⟩
 rw [if_neg h0] at h;refine .inr ⟨by rw [beq_eq_false_iff_ne];exact h0,?_⟩;by_cases h1:form op=10
 ·rw [if_pos h1] at h;injection h with h;exact .inl ⟨by rw [h1];rfl,h.symm⟩
 rw [if_neg h1] at h;refine .inr ⟨by rw [beq_eq_false_iff_ne];exact h1,?_⟩;by_cases h2:65536<nq+1
 ·rw [if_pos h2] at h;injection h with h;exact .inl ⟨by rw [beq_iff_eq];omega,h.symm⟩
 rw [if_neg h2] at h;refine .inr ⟨by rw [beq_eq_false_iff_ne];omega,?_⟩;by_cases h3:64<dep
 ·rw [if_pos h3] at h;injection h with h;exact ⟨decide_eq_true (by omega),h.symm⟩
 ·rw [if_neg h3] at h;cases h
theorem Ps {dep nq:Nat} {op:Int} (h:gZ dep op nq=none):(form op == 0)=false/\(form op == 10)=false/\((nq:Int) == 65536)=false/\decide ((dep:Int) > 64)=false:=by
 have h1:=wI h;exact ⟨by rw [beq_eq_false_iff_ne];exact h1.2.2.1,by rw [beq_eq_false_iff_ne];exact h1.2.2.2,by rw [beq_eq_false_iff_ne];omega,decide_eq_false (by omega)⟩
theorem Dj {dep nq:Nat}:gZ dep 5 nq=some 50:=rfl
def YL {d:Nat} (sub:Nat->Nat->R2 (IL d × Int)) (w0:World) (p:Nat) (s:ByteArray) (en dep:Nat) (bR:Bool) (w:World) (R:R2 (IL (d+1) × Int)) (t:Value) (wr:World):Prop :=
 (∃(l:List (Ins (IL d))) (ps:List (Pc d)) (iq nq f:Nat),(∃o c,t=.slice o l.length c)/\nq<=65536/\en-iq+1<=f/\l.length<=iq/\R=yq bR (lv l (fG sub s en dep f iq nq))/\DS w0 p s en iq nq 0 wr/\ps.map (·.1)=l/\wr.ownsRow w.heap.size 73 7 t l.length (nT ps)/\∀q ∈ ps,nk wr (Since w.heap.size wr t.ownBlock) q) \/
 ∃y i' n',y≠0/\R=.error y/\(∃o k c,t=.slice o k c)/\DS w0 p s en i' n' y wr
def Pt (w0:World) (p:Nat) (s:ByteArray) (en i n:Nat) (w:World) (R:R2 (IL 0 × Int)) (t:Value) (wr:World):Prop :=
 (t=.slice none 0 0/\wr=w/\DS w0 p s en i n 0 wr)\/∃y i' n',y≠0/\R=.error y/\(∃o k c,t=.slice o k c)/\DS w0 p s en i' n' y wr
end ai
theorem Pu {d:Nat} (IH:wJ d) (w0 w:World) (p:Nat) (s:ByteArray) (en i n q:Nat) (op:Int) (u:World) (h:YI w0 w p s en i (n+1) 0 q op 0 0 0 (.slice none 0 0) (.slice none 0 0) (.slice none 0 0) u) (dep:Nat) (hd:65<=d+(dep+1)) (hk:gZ dep op n=none) :
  Calls Tryz.prog 82 #[.pointer (some ⟨p,0,none⟩),.pointer (some ⟨q,0,none⟩),.int .i64 dep] u (lI w0 w p s en q d op (iC (dG s en d (dep+1)) s en dep op i n)):=by
 have hr:=wI hk;have e:iC (dG s en d (dep+1)) s en dep op i n=if form op=2\/form op=3 then jC (none_ d) s en (dG s en d (dep+1)) op i (n+1) else lift (aY (none_ d) s en op i) (n+1):=by unfold iC;rw [hk]
 rw [e];have hg:=GK op hr.2.2.1 hr.2.2.2;by_cases h2:form op=2
 ·rw [if_pos (.inl h2)];exact Pv w0 w p s en i (n+1) q op u h d dep IH hr.1 hd hr.2.1 h2
 by_cases h3:form op=3
 ·rw [if_pos (.inr h3)];exact Pw w0 w p s en i (n+1) q op u h d dep IH hr.1 hd hr.2.1 h3
 rw [if_neg (by omega)];by_cases h1:form op=1
 ·by_cases a:op=63
  ·exact Px w0 w p s en i (n+1) q op u h d dep h1 a
  by_cases b:op=64
  ·exact Py w0 w p s en i (n+1) q op u h d dep h1 b
  exact Pz w0 w p s en i (n+1) q op u h d dep h1 (by omega)
 by_cases h4:form op=4
 ·exact PD w0 w p s en i (n+1) q op u h d dep h4
 by_cases h5:form op=5
 ·exact PE w0 w p s en i (n+1) q op u h d dep h5
 by_cases h6:form op=6
 ·exact Ga w0 w p s en i (n+1) q op u h d dep h6
 by_cases h7:form op=7
 ·exact PF w0 w p s en i (n+1) q op u h d dep h7
 by_cases h8:form op=8
 ·exact PG w0 w p s en i (n+1) q op u h d dep h8
 have h9:form op=9:=by omega
 by_cases a:op=65
 ·exact F8 w0 w p s en i (n+1) q op u h d dep h9 a
 exact F9 w0 w p s en i (n+1) q op u h d dep h9 a
theorem PY:wJ 0:=by
 intro w0 p s en i n z w dep bR h hn hd mi;by_cases hz:z=0
 case neg=>rw [gH hz];exact wy w0 p s en i n z w dep bR 0 h hz
 subst hz;rw [bJ];have hnq:=hn rfl;have hpw:=h.lt;obtain ⟨d,hd0⟩:∃d,d=0:=⟨_,rfl⟩;obtain ⟨nq,hnn⟩:∃nq,nq=n:=⟨_,rfl⟩;rw [<- hnn] at h hnq ⊢;clear hnn hn;obtain ⟨N1,Dp⟩:∃N1,N1=nq+1:=⟨_,rfl⟩;have HS:=aa h;have hle:=h.le;have c4:=h.cell 4 _ rfl;have hN:=wK w0 p s en i nq 0 w h;rw [bJ] at hN;have e:dG s en 0 dep i nq=bL (lift (nx s en i) nq) fun op j n1=>if op=11\/op=5 then .ok (((),op),j,n1) else .error ((gZ dep op n1).getD 4):=rfl;rw [e];clear e;cases hx:nx s en i with
 | error y =>
  rw [hx] at hN;have HN:=aa hN;show Calls _ _ _ _ (vk w0 p s en 0 w (.error y));clear hN hx;go_enter Tryz.func58,Tryz.ntmps58;go_wp2_with fail;go_loopw [8] (fun t wr=>t=.slice none 0 0/\wr=w) (fun _ _=>0)
  case atStart=>exact ⟨rfl,rfl⟩
  case round =>
   obtain ⟨rfl,rfl⟩:=hrel;go_wp2_with fail;refine HN.out.mono ?_;rintro e w1 ⟨hy,v,i2,n2,rfl,hv,h1,h2⟩;have hv:v=.int .i64 0:=hv;subst hv;have c4:=h1.cell 4 _ rfl;have b1:(y != 0)=true:=by simp [hy]
   have HF:=aa (⟨hy,h1,h2⟩:_/\_/\_);clear h1 h2 HN hy;go_wp2;go_ret2;exact ⟨(),0,_,_,_,i2,n2,y,rfl,HF.out.2.1,HF.out.2.2,⟨rfl,HF.out.1⟩,fun h=>absurd h HF.out.1,fun _=>rfl⟩
 | ok v =>
  obtain ⟨op,j⟩:=v;rw [hx] at hN;have HN:=aa hN;show Calls _ _ _ _ (vk w0 p s en 0 w (yq bR (if op=11\/op=5 then .ok (((),op),j,nq) else .error ((gZ dep op nq).getD 4))));clear hN hx;by_cases hend:op=11\/(op=5/\bR=true)
  ·have e:yq bR (if op=11\/op=5 then (.ok (((),op),j,nq):R2 (IL 0 × Int)) else .error ((gZ dep op nq).getD 4))=.ok (((),op),j,nq):=by
    rw [if_pos (by rcases hend with h|h;exact .inl h;exact .inr h.1)];show (if bR=true\/op=11 then (.ok (((),op),j,nq):R2 (IL 0 × Int)) else .error 50)=_;rw [if_pos (by rcases hend with h|h;exact .inr h;exact .inl h.2)]
   rw [e];clear e
   have hq:(op == 11)=true\/((op == 11)=false/\(op == 5)=true/\bR=true):=by
    rcases hend with rfl|⟨rfl,h⟩
    ·exact .inl rfl
    ·exact .inr ⟨rfl,rfl,h⟩
   clear hend;rcases hq with q1|⟨q1,q2,rfl⟩
   all_goals
    go_enter Tryz.func58,Tryz.ntmps58;go_wp2_with fail;go_loopw [8] (fun t wr=>t=.slice none 0 0/\wr=w) (fun _ _=>0)
    case atStart=>exact ⟨rfl,rfl⟩
    case round =>
     obtain ⟨rfl,rfl⟩:=hrel;go_wp2_with fail;refine HN.out.mono ?_;rintro e w1 ⟨v,rfl,hv,h1,h2⟩;have hv:v=.int .i64 op:=hv;subst hv;have c4:=h1.cell 4 _ rfl;have HF:=aa (⟨h1,h2⟩:_/\_);clear h1 h2 HN;go_wp2;go_ret2;exact ⟨(),op,_,_,_,j,nq,0,rfl,HF.out.1,HF.out.2,⟨rfl,rfl,rfl,rfl⟩,fun _=>⟨none,0,rfl⟩,fun h=>absurd rfl h⟩
  ·have hne:op≠11:=fun h=>hend (.inl h);have q1:(op == 11)=false:=by rw [beq_eq_false_iff_ne];exact hne
   obtain ⟨z1,hk⟩:∃z1,gZ dep op nq=some z1:=by
    cases hk:gZ dep op nq with
    | some z=>exact ⟨z,rfl⟩
    | none=>have:=wI hk;omega
   have e:yq bR (if op=11\/op=5 then (.ok (((),op),j,nq):R2 (IL 0 × Int)) else .error ((gZ dep op nq).getD 4))=.error z1:=by
    by_cases h5:op=5
    ·rw [if_pos (.inr h5)];show (if bR=true\/op=11 then (.ok (((),op),j,nq):R2 (IL 0 × Int)) else .error 50)=_;rw [if_neg (fun h=>h.elim (fun h=>hend (.inr ⟨h5,h⟩)) hne)];rw [h5,Dj] at hk;injection hk with hk;rw [hk]
    ·rw [if_neg (by omega),hk];rfl
   rw [e];clear e;obtain ⟨R,hR⟩:∃R:R2 (IL 0 × Int),R=.error z1:=⟨_,rfl⟩;rw [<- hR];have HZ:=aa hR;obtain ⟨F,rF⟩:∃F,F=form op:=⟨_,rfl⟩;have HF:=fun u=>aa (mh op u);rw [<- rF] at HF
   have yl:bR=false\/(bR=true/\(op == 5)=false):=by
    cases bR with
    | false=>exact .inl rfl
    | true=>exact .inr ⟨rfl,by rw [beq_eq_false_iff_ne];exact fun h=>hend (.inr ⟨h,rfl⟩)⟩
   clear hR hend h hne;rcases yl with rfl|⟨rfl,q2⟩
   all_goals
    go_enter Tryz.func58,Tryz.ntmps58;go_wp2_with fail;go_loopw [8] (fun t wr=>Hid (Pt w0 p s en i nq w R t wr)/\Hid (But p w wr)) (fun _ wr=>if RowKit.intOf ((wr.cell? ⟨p,4,none⟩).getD (.int .i64 0))=0 then en+1-(RowKit.intOf ((wr.cell? ⟨p,1,none⟩).getD (.int .i64 0))).toNat else 0)
    case atStart=>exact ⟨aa (.inl ⟨rfl,rfl,HS.out⟩),aa (But.refl p w)⟩
    case round =>
     obtain ⟨lS,HB⟩:=hrel;rcases lS.out with ⟨rfl,rfl,PZ⟩|⟨y,i',n',hy,jm,⟨oT,kT,cT,rfl⟩,hS⟩
     ·clear lS PZ;have HO:Hid (wr.ownsRow wr.heap.size 73 7 (.slice none 0 0) 0 (nT ([]:List (Pc d)))):=aa (World.ownsRow_nil _ _ _ _)
      have hsw:(F == 0)=true/\z1=50\/(F == 0)=false/\((F == 10)=true/\z1=51\/(F == 10)=false/\(((nq:Int) == 65536)=true/\z1=3\/((nq:Int) == 65536)=false/\decide ((dep:Int) > 64)=true/\z1=4)):=by
       rw [rF];exact GJ hnq hk
      have hz1:z1≠0:=by rcases hsw with ⟨_,h⟩|⟨_,⟨_,h⟩|⟨_,⟨_,h⟩|⟨_,_,h⟩⟩⟩<;>omega
      have tK:=aa hz1;have b1:(z1 == 0)=false:=by rw [beq_eq_false_iff_ne];exact hz1
      have HW:Hid ((nq:Int)+1=(N1:Int)):=aa (by omega);clear hz1 hk rF;rcases hsw with ⟨g1,rfl⟩|⟨g1,⟨g2,rfl⟩|⟨g2,⟨g3,rfl⟩|⟨g3,g4,rfl⟩⟩⟩
      all_goals
       go_wp2_with fail;refine HN.out.mono ?_;rintro e w1 ⟨v,rfl,hv,h1,h2⟩;have hv:v=.int .i64 op:=hv;subst hv;have H1:=aa h1;have H2:=aa h2;have c4:=h1.cell 4 _ rfl;have c3:=h1.cell 3 _ rfl;clear h1 h2 HN;go_wp2_with fail;refine (HF _).out.mono ?_;rintro e w1 ⟨rfl,rfl⟩;go_wp2_with fail;refine (fD w0 p s en j nq 0 _ H1.out _).mono ?_;rintro e w2 ⟨rfl,h3,h4⟩;rw [if_pos rfl] at h3;have H3:=aa h3;have bQ:=aa (H2.out.trans h4);clear c3 c4 h3 h4 H1 H2;have c3:=H3.out.cell 3 _ rfl;have f3:=H3.out.ag 3;have c4:=H3.out.cell 4 _ rfl;go_upto_region 17 with fail;rw [HW.out];obtain ⟨u3,hu3⟩:∃u3,u3=w2.setCell ⟨p,3,none⟩ (.int .i64 N1):=⟨_,rfl⟩;rw [<- hu3];have pI:=aa (H3.out.num N1);have kK:=aa (bQ.out.trans (But.set p 3 w2 (.int .i64 N1)));rw [<- hu3] at pI kK;have hsz:w2.heap.size=u3.heap.size:=by rw [hu3];simp
       clear hu3 c3 f3 c4 H3 bQ;have cL:=aa (CN (w:=wr) op pI.out);have kL:=aa (kK.out.trans (But.of p (aD u3 (.cells #[.int .i64 op,.int .i64 0,.int .i64 0,.int .i64 0,.slice none 0 0,.slice none 0 0,.slice none 0 0] 73))));obtain ⟨u4,jF⟩:∃u4,u4=u3.alloc (.cells #[.int .i64 op,.int .i64 0,.int .i64 0,.int .i64 0,.slice none 0 0,.slice none 0 0,.slice none 0 0] 73):=⟨_,rfl⟩;rw [<- jF] at cL kL ⊢
       try rw [hsz]
       clear hsz jF pI kK;have c4:=cL.out.ds.cell 4 _ rfl;have aU:=aa ((fA HO.out hpw kL.out).alloc (.cells #[.int .i64 op,.int .i64 0,.int .i64 0,.int .i64 0,.slice none 0 0,.slice none 0 0,.slice none 0 0] 73));have cJ:Hid (∀j u,(iS (jV (d:=d) { op:=op,a:=0,b:=0,n:=0,labels:=[],body:=none_ d,els:=none_ d } (.slice none 0 0) (.slice none 0 0) (.slice none 0 0)))[j]?=some u->(u4.alloc (.cells #[.int .i64 op,.int .i64 0,.int .i64 0,.int .i64 0,.slice none 0 0,.slice none 0 0,.slice none 0 0] 73)).cell? ((⟨u4.heap.size,0,none⟩:Addr).add j)=some u):=aa (ym u4 (d:=d) { op:=op,a:=0,b:=0,n:=0,labels:=[],body:=none_ d,els:=none_ d } (.slice none 0 0) (.slice none 0 0) (.slice none 0 0));have HB2:=aa ((HB.out.trans kL.out).trans (But.of p (aD u4 (.cells #[.int .i64 op,.int .i64 0,.int .i64 0,.int .i64 0,.slice none 0 0,.slice none 0 0,.slice none 0 0] 73))));have az:=aa (cL.out.ds.on (aD u4 (.cells #[.int .i64 op,.int .i64 0,.int .i64 0,.int .i64 0,.slice none 0 0,.slice none 0 0,.slice none 0 0] 73)));have bh:=aa (aD u4 (.cells #[.int .i64 op,.int .i64 0,.int .i64 0,.int .i64 0,.slice none 0 0,.slice none 0 0,.slice none 0 0] 73));have bY:Hid (wr.heap.size<=u4.heap.size):=aa (Nat.le_trans HB.out.size kL.out.size);have x0:=cL.out.x.cell 0 _ rfl;have x1:=cL.out.x.cell 1 _ rfl;have x2:=cL.out.x.cell 2 _ rfl;have x3:=cL.out.x.cell 3 _ rfl;have x4:=cL.out.x.cell 4 _ rfl;have x5:=cL.out.x.cell 5 _ rfl;have x6:=cL.out.x.cell 6 _ rfl;obtain ⟨i1,hi1,hy0,hy1,hy2⟩:=info_parts yo;go_wp2_with (first|(at_builtin;refine iN rfl _ _ 66 rfl wr.heap.size 73 i1 _ 7 104 Tryz.underlying66 hi1 hy0 hy1 hy2 rfl (by decide) _ _ _ rfl aU.out (some ⟨u4.heap.size,0,none⟩) 1 1 (iS (jV (d:=d) { op:=op,a:=0,b:=0,n:=0,labels:=[],body:=none_ d,els:=none_ d } (.slice none 0 0) (.slice none 0 0) (.slice none 0 0))) rfl ?c6 ?c0 ?c1 ?c2 ?c3 ?c4 ?c5 ?_))
       case c6=>intro h;cases h
       case c0=>rfl
       case c1=>exact fun ad h=>by injection h with h;subst h;exact cJ.out
       case c2=>exact yp _ rfl rfl rfl
       case c3=>unfold maxLen;omega
       case c4=>omega
       case c5=>have:=bY.out;simp;omega
       intro v9 w9 aW aP aN;have aS:∀q',(Value.slice none 0 0).ownBlock=some q'->wr.heap.size<=q':=fun q' hq'=>(aU.out.lt q' hq').1;have bP:=aa (az.out.grown aP (fun q' hq'=>Nat.lt_of_lt_of_le hpw (aS q' hq')));have cG:=aa (But.grown (p:=p) HB2.out aP aS);have hsl:=fU aW;have vE:=bP.out.cell 4 _ rfl;have vF:=HS.out.cell 4 _ rfl;have vG:=HS.out.cell 1 _ rfl;clear aW aP aN aS aU cJ HB2 az bh;obtain ⟨oN,cN,rfl⟩:=hsl;go_wp2;go_roundw
       case rel=>exact ⟨aa (.inr ⟨_,_,_,tK.out,HZ.out,⟨_,_,_,rfl⟩,bP.out⟩),cG⟩
       case measure=>rw [vE,vF,vG];simp [RowKit.intOf];omega
     ·have c4:=hS.cell 4 _ rfl;have az:=aa hS;have pG:=aa jm;have HY:=aa hy;have b1:(y == 0)=false:=by rw [beq_eq_false_iff_ne];exact hy
      clear hS jm lS hy;go_wp2;go_ret2;rw [pG.out];exact ⟨(),0,_,_,_,i',n',y,rfl,az.out,HB.out,⟨rfl,HY.out⟩,fun h=>absurd h HY.out,fun _=>rfl⟩
end Go.Proofs.YtegboefdolfdgaaGreatDoor
