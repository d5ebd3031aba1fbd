/- Texts that the claim needs. -/
import Derived.Test.YthfapccopngfhaaDoorQDex16
namespace Go.Proofs.YthfapccopngfhaaDoor
open Go.RowKit Rep Dec
set_option linter.unusedVariables false
namespace Dec
def yq {α:Type} (oth:Bool) (x:R2 (α × Int)):R2 (α × Int):=bd2 x fun lt j m=>if oth=true\/lt.2=11 then .ok (lt,j,m) else .error 50
def YSeq (w0:World) (p:Nat) (s:ByteArray) (en d:Nat) (w:World) (X:R2 (IL d × Int)) (e:Ending) (w':World):Prop :=
 ∃(l:IL d) (t:Int) (o:Option Addr) (k c i n:Nat) (z:Int),e=.returned (.tuple #[.slice o k c,.int .i64 t])/\DS w0 p s en i n z w'/\But p w w'/\Fits X (fun a=>a=(l,t)) i n z/\(z=0->AtS w' (Since w.heap.size w' none) d (.slice o k c) l)/\(z≠0->t=0)
def YSeqC (d:Nat):Prop:=∀(w0:World) (p:Nat) (s:ByteArray) (en i n:Nat) (z:Int) (w:World) (dep:Nat) (oth:Bool),DS w0 p s en i n z w->(z=0->n<=65536)->65<=d+dep->dep<=65 ->
 Calls Tryd.prog 12 #[.pointer (some ⟨p,0,none⟩),.int .i64 dep,.bool oth] w (YSeq w0 p s en d w (stk z (yq oth (rseq s en d dep i n))))
theorem form_2 (op:Int) (h:form op=2):op≠4:=by
 intro e
 rw [e] at h
 exact absurd h (by decide)
theorem form_3 (op:Int) (h:form op=3):op=4:=by
 unfold form at h
 repeat' split at h
 all_goals first|omega|(exfalso;simp_all;done)|(exfalso;simp_all;omega)
section
variable {d:Nat} {s:ByteArray} {en:Nat} {sub:Nat->Nat->R2 (IL d × Int)} {op y:Int} {i n i0 n0 i1 n1 i2 n2:Nat} {z0 z1 z2 t t2:Int} {l l2:IL d} {P:Ins (IL d)->Prop}
theorem fit_n {α:Type} {x:R α} {P:α->Prop} (h:Fits (stk 0 (lift x n)) P i0 n0 z0) (hz:z0=0):n0=n:=by
 rw [stk0] at h
 cases x with
 | error e=>exact absurd hz h.2
 | ok v=>exact h.2.2.1.symm
theorem fit_blk2 (hf:form op=2) (ht:Tb sub) (h0:Fits (stk 0 (lift (rres s en i) n)) (fun a=>a=y) i0 n0 z0) (h1:Fits (stk z0 (yq false (sub i0 n0))) (fun a=>a=(l,t)) i1 n1 z1)
  (hP:z1=0->P { op:=op,a:=y,b:=0,n:=0,labels:=[],body:=l,els:=none_ d }):Fits (rblk (none_ d) s en sub op i n) P i1 n1 z1:=by
 rw [stk0] at h0
 unfold rblk
 cases hx:rres s en i with
 | error e =>
  rw [hx] at h0
  obtain ⟨rfl,h⟩:=h0
  rw [stkE h] at h1
  exact h1
 | ok v =>
  obtain ⟨a,j⟩:=v
  rw [hx] at h0
  obtain ⟨rfl,rfl,rfl,rfl⟩:=h0
  rw [stk0] at h1
  show Fits (bd2 (sub j n) _) P i1 n1 z1
  cases hy:sub j n with
  | error e=>rw [hy] at h1;exact h1
  | ok v =>
   obtain ⟨⟨b,t'⟩,m,n'⟩:=v
   rw [hy] at h1
   show Fits (if t'=5/\form op=3 then _ else if t'=11 then _ else _) P i1 n1 z1
   rw [if_neg (by rw [hf];omega)]
   have h1:Fits (if false=true\/t'=11 then (.ok ((b,t'),m,n'):R2 (IL d × Int)) else .error 50) (fun a=>a=(l,t)) i1 n1 z1:=h1
   by_cases h11:t'=11
   ·rw [if_pos (.inr h11)] at h1
    obtain ⟨h,rfl,rfl,rfl⟩:=h1
    injection h with h h'
    subst h
    rw [if_pos h11]
    exact ⟨hP rfl,rfl,rfl,rfl⟩
   ·rw [if_neg (by simp [h11])] at h1
    rw [if_neg h11]
    exact h1
theorem fit_blk3 (hf:form op=3) (ht:Tb sub) (h5:t≠5) (h0:Fits (stk 0 (lift (rres s en i) n)) (fun a=>a=y) i0 n0 z0) (h1:Fits (stk z0 (yq true (sub i0 n0))) (fun a=>a=(l,t)) i1 n1 z1)
  (hP:z1=0->P { op:=op,a:=y,b:=0,n:=0,labels:=[],body:=l,els:=none_ d }):Fits (rblk (none_ d) s en sub op i n) P i1 n1 z1:=by
 rw [stk0] at h0
 unfold rblk
 cases hx:rres s en i with
 | error e =>
  rw [hx] at h0
  obtain ⟨rfl,h⟩:=h0
  rw [stkE h] at h1
  exact h1
 | ok v =>
  obtain ⟨a,j⟩:=v
  rw [hx] at h0
  obtain ⟨rfl,rfl,rfl,rfl⟩:=h0
  rw [stk0] at h1
  show Fits (bd2 (sub j n) _) P i1 n1 z1
  cases hy:sub j n with
  | error e=>rw [hy] at h1;exact h1
  | ok v =>
   obtain ⟨⟨b,t'⟩,m,n'⟩:=v
   have htt:=ht _ _ _ _ _ hy
   have htt:t'=5\/t'=11:=htt
   rw [hy] at h1
   show Fits (if t'=5/\form op=3 then _ else if t'=11 then _ else _) P i1 n1 z1
   have h1:Fits (if true=true\/t'=11 then (.ok ((b,t'),m,n'):R2 (IL d × Int)) else .error 50) (fun a=>a=(l,t)) i1 n1 z1:=h1
   rw [if_pos (.inl rfl)] at h1
   obtain ⟨h,rfl,rfl,rfl⟩:=h1
   injection h with h h'
   subst h
   have h':t'=t:=h'
   subst h'
   rw [if_neg (fun h=>h5 h.1),if_pos (by omega)]
   exact ⟨hP rfl,rfl,rfl,rfl⟩
theorem fit_blk5 (hf:form op=3) (h0:Fits (stk 0 (lift (rres s en i) n)) (fun a=>a=y) i0 n0 z0) (h1:Fits (stk z0 (yq true (sub i0 n0))) (fun a=>a=(l,5)) i1 n1 z1) (hz1:z1=0) (h2:Fits (stk z1 (yq false (sub i1 n1))) (fun a=>a=(l2,t2)) i2 n2 z2)
  (hP:z2=0->P { op:=op,a:=y,b:=0,n:=0,labels:=[],body:=l,els:=l2 }):Fits (rblk (none_ d) s en sub op i n) P i2 n2 z2:=by
 rw [stk0] at h0
 unfold rblk
 cases hx:rres s en i with
 | error e =>
  rw [hx] at h0
  obtain ⟨rfl,h⟩:=h0
  rw [stkE h] at h1
  obtain ⟨rfl,h'⟩:=h1
  exact absurd hz1 h'
 | ok v =>
  obtain ⟨a,j⟩:=v
  rw [hx] at h0
  obtain ⟨rfl,rfl,rfl,rfl⟩:=h0
  rw [stk0] at h1
  show Fits (bd2 (sub j n) _) P i2 n2 z2
  cases hy:sub j n with
  | error e=>rw [hy] at h1;exact absurd hz1 h1.2
  | ok v =>
   obtain ⟨⟨b,t'⟩,m,n'⟩:=v
   rw [hy] at h1
   have h1:Fits (if true=true\/t'=11 then (.ok ((b,t'),m,n'):R2 (IL d × Int)) else .error 50) (fun a=>a=(l,5)) i1 n1 z1:=h1
   rw [if_pos (.inl rfl)] at h1
   obtain ⟨h,rfl,rfl,rfl⟩:=h1
   injection h with h h'
   subst h
   have h':t'=5:=h'
   subst h'
   show Fits (if (5:Int)=5/\form op=3 then _ else if (5:Int)=11 then _ else _) P i2 n2 z2
   rw [if_pos ⟨rfl,hf⟩]
   rw [stk0] at h2
   cases hy2:sub m n' with
   | error e=>rw [hy2] at h2;exact h2
   | ok v =>
    obtain ⟨⟨b2,t3⟩,m2,n3⟩:=v
    rw [hy2] at h2
    show Fits (if t3=11 then _ else _) P i2 n2 z2
    have h2:Fits (if false=true\/t3=11 then (.ok ((b2,t3),m2,n3):R2 (IL d × Int)) else .error 50) (fun a=>a=(l2,t2)) i2 n2 z2:=h2
    by_cases h11:t3=11
    ·rw [if_pos (.inr h11)] at h2
     obtain ⟨h,rfl,rfl,rfl⟩:=h2
     injection h with h h'
     subst h
     rw [if_pos h11]
     exact ⟨hP rfl,rfl,rfl,rfl⟩
    ·rw [if_neg (by simp [h11])] at h2
     rw [if_neg h11]
     exact h2
theorem fit_nb {sub:Nat->Nat->R2 (IL d × Int)} (hs:Nb sub) {oth:Bool} {Q:IL d × Int->Prop} (hn:z0=0->n0<=65536) (h1:Fits (stk z0 (yq oth (sub i0 n0))) Q i1 n1 z1) (hz:z1=0):n1<=65536:=by
 have hz0:=Fits.zero h1 hz
 subst hz0
 rw [stk0] at h1
 cases hy:sub i0 n0 with
 | error e=>rw [hy] at h1;exact absurd hz h1.2
 | ok v =>
  obtain ⟨⟨b,t'⟩,m,n'⟩:=v
  rw [hy] at h1
  have h1:Fits (if oth=true\/t'=11 then (.ok ((b,t'),m,n'):R2 (IL d × Int)) else .error 50) Q i1 n1 z1:=h1
  split at h1
  ·obtain ⟨_,_,rfl,_⟩:=h1
   exact hs _ _ _ _ _ (hn rfl) hy
  ·exact absurd hz h1.2
end
end Dec
section
variable (w0 w:World) (p:Nat) (s:ByteArray) (en i n q:Nat) (op:Int) (u:World) (h:YI w0 w p s en i n 0 q op 0 0 0 (.slice none 0 0) (.slice none 0 0) (.slice none 0 0) u) (d dep:Nat) (IH:YSeqC d) (hn:n<=65536) (hd:65<=d+(dep+1)) (hdep:dep<=64)
include h IH hn hd hdep
set_option maxRecDepth 100000 in
set_option maxHeartbeats 4000000 in
theorem yOp2 (hf:form op=2):Calls Tryd.prog 21 #[.pointer (some ⟨p,0,none⟩),.pointer (some ⟨q,0,none⟩),.int .i64 dep] u (OSays w0 w p s en q d op (rblk (none_ d) s en (rseq s en d (dep+1)) op i n)):=by
 obtain ⟨sub,hsub⟩:∃sub,sub=rseq s en d (dep+1):=⟨_,rfl⟩
 have HTB:Hid (Tb sub):=hideR (by rw [hsub];exact rseq_tb s en d (dep+1))
 have HIH:Hid (∀(i n:Nat) (z:Int) (w:World),DS w0 p s en i n z w->(z=0->n<=65536)->Calls Tryd.prog 12 #[.pointer (some ⟨p,0,none⟩),.int .i64 ((dep:Int)+1),.bool false] w (YSeq w0 p s en d w (stk z (yq false (sub i n))))):=hideR (fun i n z w h hn=>by
  rw [hsub];exact IH w0 p s en i n z w (dep+1) false h hn hd (by omega))
 rw [<- hsub]
 obtain ⟨G,hG⟩:∃G,G=rblk (none_ d) s en sub op i n:=⟨_,rfl⟩
 rw [<- hG]
 have HG:=hideR hG
 have x0:=h.x.cell 0 _ rfl
 have HF:=hideR (refForm op u)
 rw [hf] at HF
 have q1:(op == 4)=false:=by rw [beq_eq_false_iff_ne];exact form_2 op hf
 have H:=hideR h
 have HFM:=hideR hf
 have hdw:IntKind.i64.wrap ((dep:Int)+1)=(dep:Int)+1:=by rw [IntKind.wrap_i64];omega
 clear h hf hsub IH hG hd hdep
 go_enter Tryd.func21,Tryd.ntmps21
 go_wp2_with fail
 refine HF.out.mono ?_
 rintro e u ⟨rfl,rfl⟩
 clear HF
 have HC0:=hideR (yResi w0 p s en i n 0 _ H.out.ds)
 go_wp2_with fail
 refine HC0.out.mono ?_
 rintro e u0 ⟨y0,i0,n0,z0,rfl,h1,h2,hF⟩
 have HS0:=hideR (H.out.call h1 h2)
 have HF0:=hideR hF
 clear h1 h2 hF HC0 H x0
 have fx:=HS0.out.x.cell 1 _ rfl
 have fy:=HS0.out.x.frz 1
 obtain ⟨t0,ht⟩:∃t,t=u0.setCell ⟨q,1,none⟩ (.int .i64 y0):=⟨_,rfl⟩
 have HT0:=hideR (HS0.out.set1 y0)
 rw [<- ht] at HT0
 have HE:=hideR ht
 clear ht
 go_upto_region 6 with fail
 rw [<- HE.out]
 clear HE fx fy HS0
 have x0:=HT0.out.x.cell 0 _ rfl
 have HC1:=hideR (HIH.out i0 n0 z0 t0 HT0.out.ds (fun hz=>by rw [fit_n HF0.out hz];exact hn))
 have HB:Hid (w.heap.size<=t0.heap.size/\q<t0.heap.size):=hideR ⟨HT0.out.but.size,HT0.out.x.lt⟩
 go_wp2_with fail
 refine HC1.out.mono ?_
 rintro e u1 ⟨l,t,o5,n5,k5,i1,n1,z1,rfl,h1,h2,hF,hA,hT⟩
 have HS1:=hideR (HT0.out.call h1 h2)
 have HF1:=hideR hF
 have HA1:=hideR hA
 have ht5:t≠5:=fun h5=>by
  by_cases hz:z1=0
  ·subst h5
   have h0:=Fits.zero hF hz
   subst h0
   rw [stk0] at hF
   cases hy:sub i0 n0 with
   | error e=>rw [hy] at hF;exact absurd hz hF.2
   | ok v =>
    obtain ⟨⟨b,t'⟩,m,n'⟩:=v
    rw [hy] at hF
    have hF:Fits (if false=true\/t'=11 then (.ok ((b,t'),m,n'):R2 (IL d × Int)) else .error 50) (fun a=>a=(l,5)) i1 n1 z1:=hF
    by_cases h11:t'=11
    ·rw [if_pos (.inr h11)] at hF
     have:=hF.1
     injection this with _ this
     have:t'=5:=this
     omega
    ·rw [if_neg (by simp [h11])] at hF
     exact absurd hz hF.2
  ·have:=hT hz;omega
 have q5:(t == 5)=false:=by rw [beq_eq_false_iff_ne];exact ht5
 clear h1 h2 hF hA hT HC1 ht5
 obtain ⟨B,hB⟩:∃B,B=t0.heap.size:=⟨_,rfl⟩
 rw [<- hB] at HA1 HB
 clear hB HT0 x0
 have fx:=HS1.out.x.cell 5 _ rfl
 have fy:=HS1.out.x.frz 5
 obtain ⟨t1,ht⟩:∃t,t=u1.setCell ⟨q,5,none⟩ (.slice o5 n5 k5):=⟨_,rfl⟩
 have HT1:=hideR (HS1.out.set5 (.slice o5 n5 k5))
 have HA2:=hideR (fun hz=>AtS.keep (since_set (r:=q) (j:=5) (v:=.slice o5 n5 k5) HB.out.2 (Nat.le_refl _)) d _ _ (HA1.out hz))
 rw [<- ht] at HT1 HA2
 have HE:=hideR ht
 clear ht
 go_wp2
 rw [<- HE.out]
 clear HE fx fy HS1
 go_end0
 refine ⟨rfl,y0,0,0,_,_,_,_,_,_,_,_,_,i1,n1,z1,HT1.out,?_⟩
 rw [HG.out]
 exact fit_blk2 HFM.out HTB.out HF0.out HF1.out (fun hz=>⟨rfl,rfl,rfl,rfl,ints_nil _ _,at_lo HB.out.1 (HA2.out hz),at_nil _ _ d⟩)
set_option maxRecDepth 100000 in
set_option maxHeartbeats 8000000 in
theorem yOp3 (hf:form op=3):Calls Tryd.prog 21 #[.pointer (some ⟨p,0,none⟩),.pointer (some ⟨q,0,none⟩),.int .i64 dep] u (OSays w0 w p s en q d op (rblk (none_ d) s en (rseq s en d (dep+1)) op i n)):=by
 obtain ⟨sub,hsub⟩:∃sub,sub=rseq s en d (dep+1):=⟨_,rfl⟩
 have HTB:Hid (Tb sub):=hideR (by rw [hsub];exact rseq_tb s en d (dep+1))
 have HNB:Hid (Nb sub):=hideR (by rw [hsub];exact rseq_nb s en d (dep+1))
 have HIH:Hid (∀(i n:Nat) (z:Int) (w:World) (oth:Bool),DS w0 p s en i n z w->(z=0->n<=65536)->Calls Tryd.prog 12 #[.pointer (some ⟨p,0,none⟩),.int .i64 ((dep:Int)+1),.bool oth] w (YSeq w0 p s en d w (stk z (yq oth (sub i n))))):=hideR (fun i n z w oth h hn=>by
  rw [hsub];exact IH w0 p s en i n z w (dep+1) oth h hn hd (by omega))
 rw [<- hsub]
 obtain ⟨G,hG⟩:∃G,G=rblk (none_ d) s en sub op i n:=⟨_,rfl⟩
 rw [<- hG]
 have HG:=hideR hG
 have x0:=h.x.cell 0 _ rfl
 have HF:=hideR (refForm op u)
 rw [hf] at HF
 have q1:(op == 4)=true:=by rw [form_3 op hf];rfl
 have H:=hideR h
 have HFM:=hideR hf
 have hdw:IntKind.i64.wrap ((dep:Int)+1)=(dep:Int)+1:=by rw [IntKind.wrap_i64];omega
 clear h hf hsub IH hG hd hdep
 go_enter Tryd.func21,Tryd.ntmps21
 go_wp2_with fail
 refine HF.out.mono ?_
 rintro e u ⟨rfl,rfl⟩
 clear HF
 have HC0:=hideR (yResi w0 p s en i n 0 _ H.out.ds)
 go_wp2_with fail
 refine HC0.out.mono ?_
 rintro e u0 ⟨y0,i0,n0,z0,rfl,h1,h2,hF⟩
 have HS0:=hideR (H.out.call h1 h2)
 have HF0:=hideR hF
 clear h1 h2 hF HC0 H x0
 have fx:=HS0.out.x.cell 1 _ rfl
 have fy:=HS0.out.x.frz 1
 obtain ⟨t0,ht⟩:∃t,t=u0.setCell ⟨q,1,none⟩ (.int .i64 y0):=⟨_,rfl⟩
 have HT0:=hideR (HS0.out.set1 y0)
 rw [<- ht] at HT0
 have HE:=hideR ht
 clear ht
 go_upto_region 6 with fail
 rw [<- HE.out]
 clear HE fx fy HS0
 have x0:=HT0.out.x.cell 0 _ rfl
 have hn0:Hid (z0=0->n0<=65536):=hideR (fun hz=>by rw [fit_n HF0.out hz];exact hn)
 have HC1:=hideR (HIH.out i0 n0 z0 t0 true HT0.out.ds hn0.out)
 have HB:Hid (w.heap.size<=t0.heap.size/\q<t0.heap.size/\p<t0.heap.size):=hideR ⟨HT0.out.but.size,HT0.out.x.lt,HT0.out.ds.lt⟩
 go_wp2_with fail
 refine HC1.out.mono ?_
 rintro e u1 ⟨l,t,o5,n5,k5,i1,n1,z1,rfl,h1,h2,hF,hA,hT⟩
 have HS1:=hideR (HT0.out.call h1 h2)
 have HF1:=hideR hF
 have HA1:=hideR hA
 have HTT:=hideR hT
 clear h1 h2 hF hA hT HC1
 obtain ⟨B,hB⟩:∃B,B=t0.heap.size:=⟨_,rfl⟩
 rw [<- hB] at HA1 HB
 clear hB HT0 x0
 have fx:=HS1.out.x.cell 5 _ rfl
 have fy:=HS1.out.x.frz 5
 obtain ⟨t1,ht⟩:∃t,t=u1.setCell ⟨q,5,none⟩ (.slice o5 n5 k5):=⟨_,rfl⟩
 have HT1:=hideR (HS1.out.set5 (.slice o5 n5 k5))
 have HA2:=hideR (fun hz=>AtS.keep (since_set (r:=q) (j:=5) (v:=.slice o5 n5 k5) HB.out.2.1 (Nat.le_refl _)) d _ _ (HA1.out hz))
 rw [<- ht] at HT1 HA2
 have HE:=hideR ht
 clear ht
 by_cases h5:t=5
 ·subst h5
  have hz1:z1=0:=by
   by_cases hz:z1=0
   ·exact hz
   ·have:=HTT.out hz;omega
  have HC2:=hideR (HIH.out i1 n1 z1 t1 false HT1.out.ds (fun hz=>fit_nb HNB.out hn0.out HF1.out hz))
  have HB2:Hid (w.heap.size<=t1.heap.size/\q<t1.heap.size):=hideR ⟨HT1.out.but.size,HT1.out.x.lt⟩
  go_upto_region 8 with fail
  rw [<- HE.out]
  clear HE fx fy HS1 HA1
  go_wp2_with fail
  refine HC2.out.mono ?_
  rintro e u2 ⟨l2,t2,o6,n6,k6,i2,n2,z2,rfl,h1,h2,hF,hA,hT⟩
  have HS2:=hideR (HT1.out.call h1 h2)
  have HF2:=hideR hF
  have HA3:=hideR hA
  have HA4:=hideR (fun hz=>AtS.keep (since_but HB.out.2.2 h2) d _ _ (HA2.out hz))
  clear h1 h2 hF hA hT HC2 HA2
  obtain ⟨B2,hB2⟩:∃B2,B2=t1.heap.size:=⟨_,rfl⟩
  rw [<- hB2] at HA3 HB2
  clear hB2 HT1
  have fx:=HS2.out.x.cell 6 _ rfl
  have fy:=HS2.out.x.frz 6
  obtain ⟨t3,ht⟩:∃t,t=u2.setCell ⟨q,6,none⟩ (.slice o6 n6 k6):=⟨_,rfl⟩
  have HT2:=hideR (HS2.out.set6 (.slice o6 n6 k6))
  have HA5:=hideR (fun hz=>AtS.keep (since_set (r:=q) (j:=6) (v:=.slice o6 n6 k6) HB.out.2.1 (Nat.le_refl _)) d _ _ (HA4.out hz))
  have HA6:=hideR (fun hz=>AtS.keep (since_set (r:=q) (j:=6) (v:=.slice o6 n6 k6) HB2.out.2 (Nat.le_refl _)) d _ _ (HA3.out hz))
  rw [<- ht] at HT2 HA5 HA6
  have HE:=hideR ht
  clear ht
  go_wp2
  rw [<- HE.out]
  clear HE fx fy HS2
  go_end0
  refine ⟨rfl,y0,0,0,_,_,_,_,_,_,_,_,_,i2,n2,z2,HT2.out,?_⟩
  rw [HG.out]
  exact fit_blk5 HFM.out HF0.out HF1.out hz1 HF2.out (fun hz=>⟨rfl,rfl,rfl,rfl,ints_nil _ _,at_lo HB.out.1 (HA5.out hz1),at_lo HB2.out.1 (HA6.out hz)⟩)
 ·have q5:(t == 5)=false:=by rw [beq_eq_false_iff_ne];exact h5
  have HT5:=hideR h5
  clear h5
  go_wp2
  rw [<- HE.out]
  clear HE fx fy HS1
  go_end0
  refine ⟨rfl,y0,0,0,_,_,_,_,_,_,_,_,_,i1,n1,z1,HT1.out,?_⟩
  rw [HG.out]
  exact fit_blk3 HFM.out HTB.out HT5.out HF0.out HF1.out (fun hz=>⟨rfl,rfl,rfl,rfl,ints_nil _ _,at_lo HB.out.1 (HA2.out hz),at_nil _ _ d⟩)
end
end Go.Proofs.YthfapccopngfhaaDoor

namespace Go.Proofs.YthfapccopngfhaaDoor
open Go.RowKit Rep Dec
set_option linter.unusedVariables false
namespace Dec
theorem yi_new {w0 w u:World} {p:Nat} {s:ByteArray} {en i n:Nat} {z:Int} (op:Int) (h:DS w0 p s en i n z u) :
  YI w0 u p s en i n z u.heap.size op 0 0 0 (.slice none 0 0) (.slice none 0 0) (.slice none 0 0) (u.alloc (.cells #[.int .i64 op,.int .i64 0,.int .i64 0,.int .i64 0,.slice none 0 0,.slice none 0 0,.slice none 0 0] 56)) :=
 ⟨h.on (new_on' _ _),But.of p (new_on' _ _),Blk.new _ _ op 0 0 0 _ _ _ rfl,h.lt,Nat.le_refl _⟩
end Dec
set_option maxRecDepth 100000 in
set_option maxHeartbeats 4000000 in
theorem yStk (w0:World) (p:Nat) (s:ByteArray) (en i n:Nat) (z:Int) (w:World) (dep:Int) (oth:Bool) (d:Nat) (h:DS w0 p s en i n z w) (hz:z≠0) :
  Calls Tryd.prog 12 #[.pointer (some ⟨p,0,none⟩),.int .i64 dep,.bool oth] w (YSeq w0 p s en d w (.error z)):=by
 have c4:=h.cell 4 _ rfl
 have q1:(z == 0)=false:=by rw [beq_eq_false_iff_ne];exact hz
 have H:=hideR h
 have HZ:=hideR hz
 clear h hz
 go_enter Tryd.func12,Tryd.ntmps12
 go_wp2_with fail
 go_loopw [8] (fun t wr=>t=.slice none 0 0/\wr=w) (fun _ _=>0)
 case atStart=>exact ⟨rfl,rfl⟩
 case round =>
  obtain ⟨rfl,rfl⟩:=hrel
  go_wp2
  go_ret2
  exact ⟨none_ d,0,none,0,0,i,n,z,rfl,H.out,But.refl p _,⟨rfl,HZ.out⟩,fun h=>absurd h HZ.out,fun _=>rfl⟩
end Go.Proofs.YthfapccopngfhaaDoor

