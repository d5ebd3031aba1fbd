/- Texts that the claim needs. -/
import Derived.Test.YthfapccopngfhaaDoorQDex15
namespace Go.Proofs.YthfapccopngfhaaDoor
open Go.RowKit Rep Dec
set_option linter.unusedVariables false
section
variable (w0 w:World) (p:Nat) (s:ByteArray) (en i n q:Nat) (op:Int) (u:World) (h:YI w0 w p s en i n 0 q op 0 0 0 (.slice none 0 0) (.slice none 0 0) (.slice none 0 0) u) (d:Nat) (dep:Int)
include h
set_option maxRecDepth 100000 in
set_option maxHeartbeats 4000000 in
theorem yOp1 (hf:form op=1) (hn:¬ (op=63\/op=64)):Calls Tryd.prog 21 #[.pointer (some ⟨p,0,none⟩),.pointer (some ⟨q,0,none⟩),.int .i64 dep] u (OSays w0 w p s en q d op (lift (rsim (none_ d) s en op i) n)):=by
 obtain ⟨G,hG⟩:∃G,G=lift (rsim (none_ d) s en op i) n:=⟨_,rfl⟩
 rw [<- hG]
 have HG:=hideR hG
 have e0:lift (rsim (none_ d) s en op i) n=lift (.ok ({ op:=op,a:=0,b:=0,n:=0,labels:=[],body:=none_ d,els:=none_ d },i)) n:=by unfold rsim;simp only;rw [if_pos hf,if_neg hn]
 rw [e0] at HG
 clear e0 hG
 have x0:=h.x.cell 0 _ rfl
 have HF:=hideR (refForm op u)
 rw [hf] at HF
 have q1:(op == 63)=false:=by rw [beq_eq_false_iff_ne];omega
 have q2:(op == 64)=false:=by rw [beq_eq_false_iff_ne];omega
 have H:=hideR h
 clear h hf hn
 go_enter Tryd.func21,Tryd.ntmps21
 go_wp2_with fail
 refine HF.out.mono ?_
 rintro e u ⟨rfl,rfl⟩
 clear HF
 go_wp2
 go_end0
 refine ⟨rfl,0,0,0,_,_,_,_,_,_,_,_,_,i,n,0,H.out,?_⟩
 rw [HG.out]
 exact ⟨⟨rfl,rfl,rfl,rfl,ints_nil _ _,at_nil _ _ d,at_nil _ _ d⟩,rfl,rfl,rfl⟩
set_option maxRecDepth 100000 in
set_option maxHeartbeats 4000000 in
theorem yOp63 (hf:form op=1) (hn:op=63):Calls Tryd.prog 21 #[.pointer (some ⟨p,0,none⟩),.pointer (some ⟨q,0,none⟩),.int .i64 dep] u (OSays w0 w p s en q d op (lift (rsim (none_ d) s en op i) n)):=by
 obtain ⟨G,hG⟩:∃G,G=lift (rsim (none_ d) s en op i) n:=⟨_,rfl⟩
 rw [<- hG]
 have HG:=hideR hG
 have e0:lift (rsim (none_ d) s en op i) n=lift (bd (must s en 0 i) fun _ j=>.ok ({ op:=op,a:=0,b:=0,n:=0,labels:=[],body:=none_ d,els:=none_ d },j)) n:=by unfold rsim;simp only;rw [if_pos hf,if_pos (.inl hn)]
 rw [e0] at HG
 clear e0 hG
 have x0:=h.x.cell 0 _ rfl
 have HF:=hideR (refForm op u)
 rw [hf] at HF
 have q1:(op == 63)=true:=by rw [hn];rfl
 have H:=hideR h
 clear h hf hn
 go_enter Tryd.func21,Tryd.ntmps21
 go_wp2_with fail
 refine HF.out.mono ?_
 rintro e u ⟨rfl,rfl⟩
 clear HF
 have HC0:=hideR (yMusti w0 p s en i n 0 _ H.out.ds 0 (.inl rfl))
 go_wp2_with fail
 refine HC0.out.mono ?_
 rintro e u0 ⟨rfl,i0,n0,z0,h1,h2,hF⟩
 have HS0:=hideR (H.out.call h1 h2)
 have HF0:=hideR hF
 clear h1 h2 hF HC0 H
 go_wp2
 go_end0
 refine ⟨rfl,0,0,0,_,_,_,_,_,_,_,_,_,i0,n0,z0,HS0.out,?_⟩
 rw [HG.out]
 exact Fits.bd (Fits.t HF0.out) (Fits.fin (fun hz=>⟨rfl,rfl,rfl,rfl,ints_nil _ _,at_nil _ _ d,at_nil _ _ d⟩))
set_option maxRecDepth 100000 in
set_option maxHeartbeats 4000000 in
theorem yOp64 (hf:form op=1) (hn:op=64):Calls Tryd.prog 21 #[.pointer (some ⟨p,0,none⟩),.pointer (some ⟨q,0,none⟩),.int .i64 dep] u (OSays w0 w p s en q d op (lift (rsim (none_ d) s en op i) n)):=by
 obtain ⟨G,hG⟩:∃G,G=lift (rsim (none_ d) s en op i) n:=⟨_,rfl⟩
 rw [<- hG]
 have HG:=hideR hG
 have e0:lift (rsim (none_ d) s en op i) n=lift (bd (must s en 0 i) fun _ j=>.ok ({ op:=op,a:=0,b:=0,n:=0,labels:=[],body:=none_ d,els:=none_ d },j)) n:=by unfold rsim;simp only;rw [if_pos hf,if_pos (.inr hn)]
 rw [e0] at HG
 clear e0 hG
 have x0:=h.x.cell 0 _ rfl
 have HF:=hideR (refForm op u)
 rw [hf] at HF
 have q1:(op == 63)=false:=by rw [hn];rfl
 have q2:(op == 64)=true:=by rw [hn];rfl
 have H:=hideR h
 clear h hf hn
 go_enter Tryd.func21,Tryd.ntmps21
 go_wp2_with fail
 refine HF.out.mono ?_
 rintro e u ⟨rfl,rfl⟩
 clear HF
 have HC0:=hideR (yMusti w0 p s en i n 0 _ H.out.ds 0 (.inl rfl))
 go_wp2_with fail
 refine HC0.out.mono ?_
 rintro e u0 ⟨rfl,i0,n0,z0,h1,h2,hF⟩
 have HS0:=hideR (H.out.call h1 h2)
 have HF0:=hideR hF
 clear h1 h2 hF HC0 H
 go_wp2
 go_end0
 refine ⟨rfl,0,0,0,_,_,_,_,_,_,_,_,_,i0,n0,z0,HS0.out,?_⟩
 rw [HG.out]
 exact Fits.bd (Fits.t HF0.out) (Fits.fin (fun hz=>⟨rfl,rfl,rfl,rfl,ints_nil _ _,at_nil _ _ d,at_nil _ _ d⟩))
set_option maxRecDepth 100000 in
set_option maxHeartbeats 4000000 in
theorem yOp4 (hf:form op=4):Calls Tryd.prog 21 #[.pointer (some ⟨p,0,none⟩),.pointer (some ⟨q,0,none⟩),.int .i64 dep] u (OSays w0 w p s en q d op (lift (rsim (none_ d) s en op i) n)):=by
 obtain ⟨G,hG⟩:∃G,G=lift (rsim (none_ d) s en op i) n:=⟨_,rfl⟩
 rw [<- hG]
 have HG:=hideR hG
 have e0:lift (rsim (none_ d) s en op i) n=lift (bd (ru s en i) fun a j=>.ok ({ op:=op,a:=a,b:=0,n:=0,labels:=[],body:=none_ d,els:=none_ d },j)) n:=by unfold rsim;simp only;rw [if_neg (by omega),if_pos (.inl hf)]
 rw [e0] at HG
 clear e0 hG
 have x0:=h.x.cell 0 _ rfl
 have HF:=hideR (refForm op u)
 rw [hf] at HF
 have H:=hideR h
 clear h hf
 go_enter Tryd.func21,Tryd.ntmps21
 go_wp2_with fail
 refine HF.out.mono ?_
 rintro e u ⟨rfl,rfl⟩
 clear HF
 have HC0:=hideR (yUi w0 p s en i n 0 _ H.out.ds)
 go_wp2_with fail
 refine HC0.out.mono ?_
 rintro e u0 ⟨y0,i0,n0,z0,rfl,h1,h2,hF⟩
 have HS0:=hideR (H.out.call h1 h2)
 have HF0:=hideR hF
 clear h1 h2 hF HC0 H
 have fx:=HS0.out.x.cell 1 _ rfl
 have fy:=HS0.out.x.frz 1
 obtain ⟨t0,ht⟩:∃t,t=u0.setCell ⟨q,1,none⟩ (.int .i64 y0):=⟨_,rfl⟩
 have HT0:=hideR (HS0.out.set1 y0)
 rw [<- ht] at HT0
 have HE:=hideR ht
 clear ht
 go_wp2
 rw [<- HE.out]
 clear HE fx fy HS0
 go_end0
 refine ⟨rfl,y0,0,0,_,_,_,_,_,_,_,_,_,i0,n0,z0,HT0.out,?_⟩
 rw [HG.out]
 exact Fits.bd HF0.out (Fits.fin (fun hz=>⟨rfl,rfl,rfl,rfl,ints_nil _ _,at_nil _ _ d,at_nil _ _ d⟩))
set_option maxRecDepth 100000 in
set_option maxHeartbeats 4000000 in
theorem yOp6 (hf:form op=6):Calls Tryd.prog 21 #[.pointer (some ⟨p,0,none⟩),.pointer (some ⟨q,0,none⟩),.int .i64 dep] u (OSays w0 w p s en q d op (lift (rsim (none_ d) s en op i) n)):=by
 obtain ⟨G,hG⟩:∃G,G=lift (rsim (none_ d) s en op i) n:=⟨_,rfl⟩
 rw [<- hG]
 have HG:=hideR hG
 have e0:lift (rsim (none_ d) s en op i) n=lift (bd (ru s en i) fun a j=>.ok ({ op:=op,a:=a,b:=0,n:=0,labels:=[],body:=none_ d,els:=none_ d },j)) n:=by unfold rsim;simp only;rw [if_neg (by omega),if_pos (.inr hf)]
 rw [e0] at HG
 clear e0 hG
 have x0:=h.x.cell 0 _ rfl
 have HF:=hideR (refForm op u)
 rw [hf] at HF
 have H:=hideR h
 clear h hf
 go_enter Tryd.func21,Tryd.ntmps21
 go_wp2_with fail
 refine HF.out.mono ?_
 rintro e u ⟨rfl,rfl⟩
 clear HF
 have HC0:=hideR (yUi w0 p s en i n 0 _ H.out.ds)
 go_wp2_with fail
 refine HC0.out.mono ?_
 rintro e u0 ⟨y0,i0,n0,z0,rfl,h1,h2,hF⟩
 have HS0:=hideR (H.out.call h1 h2)
 have HF0:=hideR hF
 clear h1 h2 hF HC0 H
 have fx:=HS0.out.x.cell 1 _ rfl
 have fy:=HS0.out.x.frz 1
 obtain ⟨t0,ht⟩:∃t,t=u0.setCell ⟨q,1,none⟩ (.int .i64 y0):=⟨_,rfl⟩
 have HT0:=hideR (HS0.out.set1 y0)
 rw [<- ht] at HT0
 have HE:=hideR ht
 clear ht
 go_wp2
 rw [<- HE.out]
 clear HE fx fy HS0
 go_end0
 refine ⟨rfl,y0,0,0,_,_,_,_,_,_,_,_,_,i0,n0,z0,HT0.out,?_⟩
 rw [HG.out]
 exact Fits.bd HF0.out (Fits.fin (fun hz=>⟨rfl,rfl,rfl,rfl,ints_nil _ _,at_nil _ _ d,at_nil _ _ d⟩))
set_option maxRecDepth 100000 in
set_option maxHeartbeats 4000000 in
theorem yOp5 (hf:form op=5):Calls Tryd.prog 21 #[.pointer (some ⟨p,0,none⟩),.pointer (some ⟨q,0,none⟩),.int .i64 dep] u (OSays w0 w p s en q d op (lift (rsim (none_ d) s en op i) n)):=by
 obtain ⟨G,hG⟩:∃G,G=lift (rsim (none_ d) s en op i) n:=⟨_,rfl⟩
 rw [<- hG]
 have HG:=hideR hG
 have e0:lift (rsim (none_ d) s en op i) n=lift (bd (rl s en i) fun l j=>bd (ru s en j) fun a m=>.ok ({ op:=op,a:=a,b:=0,n:=0,labels:=l,body:=none_ d,els:=none_ d },m)) n:=by unfold rsim;simp only;rw [if_neg (by omega),if_neg (by omega),if_pos hf]
 rw [e0] at HG
 clear e0 hG
 have x0:=h.x.cell 0 _ rfl
 have HF:=hideR (refForm op u)
 rw [hf] at HF
 have H:=hideR h
 clear h hf
 go_enter Tryd.func21,Tryd.ntmps21
 go_wp2_with fail
 refine HF.out.mono ?_
 rintro e u ⟨rfl,rfl⟩
 clear HF
 have HC0:=hideR ((yList w0 p s en i n 0 _ H.out.ds).mono (fun _ _ h=>DR.list h))
 go_wp2_with fail
 refine HC0.out.mono ?_
 rintro e u0 ⟨l0,o0,k0,c0,i0,n0,z0,rfl,h1,h2,hF,hV⟩
 have HS0:=hideR (H.out.call h1 h2)
 have HF0:=hideR hF
 have HV0:=hideR hV
 have HB:Hid (w.heap.size<=u.heap.size/\p<u.heap.size/\q<u.heap.size):=hideR ⟨H.out.but.size,H.out.ds.lt,H.out.x.lt⟩
 obtain ⟨B,hB⟩:∃B,B=u.heap.size:=⟨_,rfl⟩
 rw [<- hB] at HV0 HB
 have HB:=hideR (And.intro (And.intro HB.out.1 HB.out.2.2) HB.out.2.1)
 clear hB
 clear h1 h2 hF HC0 H hV
 have fx:=HS0.out.x.cell 4 _ rfl
 have fy:=HS0.out.x.frz 4
 obtain ⟨t0,ht⟩:∃t,t=u0.setCell ⟨q,4,none⟩ (.slice o0 k0 c0):=⟨_,rfl⟩
 have HT0:=hideR (HS0.out.set4 (.slice o0 k0 c0))
 rw [<- ht] at HT0
 have HV20:=hideR (fun hz=>IntsS.keep (since_set (r:=q) (j:=4) (v:=.slice o0 k0 c0) HB.out.1.2 (Nat.le_refl _)) (HV0.out hz))
 rw [<- ht] at HV20
 have HE:=hideR ht
 clear ht
 go_upto_region 15 with fail
 rw [<- HE.out]
 clear HE fx fy HS0
 have HC1:=hideR (yUi w0 p s en i0 n0 z0 _ HT0.out.ds)
 go_wp2_with fail
 refine HC1.out.mono ?_
 rintro e u1 ⟨y1,i1,n1,z1,rfl,h1,h2,hF⟩
 have HS1:=hideR (HT0.out.call h1 h2)
 have HF1:=hideR hF
 have HV11:=hideR (fun hz=>IntsS.keep (since_but HB.out.2 h2) (HV20.out hz))
 clear h1 h2 hF HC1 HT0
 have fx:=HS1.out.x.cell 1 _ rfl
 have fy:=HS1.out.x.frz 1
 obtain ⟨t1,ht⟩:∃t,t=u1.setCell ⟨q,1,none⟩ (.int .i64 y1):=⟨_,rfl⟩
 have HT1:=hideR (HS1.out.set1 y1)
 rw [<- ht] at HT1
 have HV21:=hideR (fun hz=>IntsS.keep (since_set (r:=q) (j:=1) (v:=.int .i64 y1) HB.out.1.2 (Nat.le_refl _)) (HV11.out hz))
 rw [<- ht] at HV21
 have HE:=hideR ht
 clear ht
 go_wp2
 rw [<- HE.out]
 clear HE fx fy HS1
 go_end0
 refine ⟨rfl,y1,0,0,_,_,_,_,_,_,_,_,_,i1,n1,z1,HT1.out,?_⟩
 rw [HG.out]
 exact Fits.bd HF0.out (Fits.bdz HF1.out (Fits.fin (fun hz=>⟨rfl,rfl,rfl,rfl,ints_lo HB.out.1.1 (HV21.out (Fits.zero HF1.out hz)),at_nil _ _ d,at_nil _ _ d⟩)))
set_option maxRecDepth 100000 in
set_option maxHeartbeats 4000000 in
theorem yOp7 (hf:form op=7):Calls Tryd.prog 21 #[.pointer (some ⟨p,0,none⟩),.pointer (some ⟨q,0,none⟩),.int .i64 dep] u (OSays w0 w p s en q d op (lift (rsim (none_ d) s en op i) n)):=by
 obtain ⟨G,hG⟩:∃G,G=lift (rsim (none_ d) s en op i) n:=⟨_,rfl⟩
 rw [<- hG]
 have HG:=hideR hG
 have e0:lift (rsim (none_ d) s en op i) n=lift (bd (ru s en i) fun a j=>bd (must s en 0 j) fun _ m=>.ok ({ op:=op,a:=a,b:=0,n:=0,labels:=[],body:=none_ d,els:=none_ d },m)) n:=by unfold rsim;simp only;rw [if_neg (by omega),if_neg (by omega),if_neg (by omega),if_pos hf]
 rw [e0] at HG
 clear e0 hG
 have x0:=h.x.cell 0 _ rfl
 have HF:=hideR (refForm op u)
 rw [hf] at HF
 have H:=hideR h
 clear h hf
 go_enter Tryd.func21,Tryd.ntmps21
 go_wp2_with fail
 refine HF.out.mono ?_
 rintro e u ⟨rfl,rfl⟩
 clear HF
 have HC0:=hideR (yUi w0 p s en i n 0 _ H.out.ds)
 go_wp2_with fail
 refine HC0.out.mono ?_
 rintro e u0 ⟨y0,i0,n0,z0,rfl,h1,h2,hF⟩
 have HS0:=hideR (H.out.call h1 h2)
 have HF0:=hideR hF
 clear h1 h2 hF HC0 H
 have fx:=HS0.out.x.cell 1 _ rfl
 have fy:=HS0.out.x.frz 1
 obtain ⟨t0,ht⟩:∃t,t=u0.setCell ⟨q,1,none⟩ (.int .i64 y0):=⟨_,rfl⟩
 have HT0:=hideR (HS0.out.set1 y0)
 rw [<- ht] at HT0
 have HE:=hideR ht
 clear ht
 go_upto_region 18 with fail
 rw [<- HE.out]
 clear HE fx fy HS0
 have HC1:=hideR (yMusti w0 p s en i0 n0 z0 _ HT0.out.ds 0 (.inl rfl))
 go_wp2_with fail
 refine HC1.out.mono ?_
 rintro e u1 ⟨rfl,i1,n1,z1,h1,h2,hF⟩
 have HS1:=hideR (HT0.out.call h1 h2)
 have HF1:=hideR hF
 clear h1 h2 hF HC1 HT0
 go_wp2
 go_end0
 refine ⟨rfl,y0,0,0,_,_,_,_,_,_,_,_,_,i1,n1,z1,HS1.out,?_⟩
 rw [HG.out]
 exact Fits.bd HF0.out (Fits.bdz (Fits.t HF1.out) (Fits.fin (fun hz=>⟨rfl,rfl,rfl,rfl,ints_nil _ _,at_nil _ _ d,at_nil _ _ d⟩)))
set_option maxRecDepth 100000 in
set_option maxHeartbeats 4000000 in
theorem yOp8 (hf:form op=8):Calls Tryd.prog 21 #[.pointer (some ⟨p,0,none⟩),.pointer (some ⟨q,0,none⟩),.int .i64 dep] u (OSays w0 w p s en q d op (lift (rsim (none_ d) s en op i) n)):=by
 obtain ⟨G,hG⟩:∃G,G=lift (rsim (none_ d) s en op i) n:=⟨_,rfl⟩
 rw [<- hG]
 have HG:=hideR hG
 have e0:lift (rsim (none_ d) s en op i) n=lift (bd (ru s en i) fun a j=>bd (ru s en j) fun b m=>.ok ({ op:=op,a:=a,b:=b,n:=0,labels:=[],body:=none_ d,els:=none_ d },m)) n:=by unfold rsim;simp only;rw [if_neg (by omega),if_neg (by omega),if_neg (by omega),if_neg (by omega),if_pos hf]
 rw [e0] at HG
 clear e0 hG
 have x0:=h.x.cell 0 _ rfl
 have HF:=hideR (refForm op u)
 rw [hf] at HF
 have H:=hideR h
 clear h hf
 go_enter Tryd.func21,Tryd.ntmps21
 go_wp2_with fail
 refine HF.out.mono ?_
 rintro e u ⟨rfl,rfl⟩
 clear HF
 have HC0:=hideR (yUi w0 p s en i n 0 _ H.out.ds)
 go_wp2_with fail
 refine HC0.out.mono ?_
 rintro e u0 ⟨y0,i0,n0,z0,rfl,h1,h2,hF⟩
 have HS0:=hideR (H.out.call h1 h2)
 have HF0:=hideR hF
 clear h1 h2 hF HC0 H
 have fx:=HS0.out.x.cell 1 _ rfl
 have fy:=HS0.out.x.frz 1
 obtain ⟨t0,ht⟩:∃t,t=u0.setCell ⟨q,1,none⟩ (.int .i64 y0):=⟨_,rfl⟩
 have HT0:=hideR (HS0.out.set1 y0)
 rw [<- ht] at HT0
 have HE:=hideR ht
 clear ht
 go_upto_region 21 with fail
 rw [<- HE.out]
 clear HE fx fy HS0
 have HC1:=hideR (yUi w0 p s en i0 n0 z0 _ HT0.out.ds)
 go_wp2_with fail
 refine HC1.out.mono ?_
 rintro e u1 ⟨y1,i1,n1,z1,rfl,h1,h2,hF⟩
 have HS1:=hideR (HT0.out.call h1 h2)
 have HF1:=hideR hF
 clear h1 h2 hF HC1 HT0
 have fx:=HS1.out.x.cell 2 _ rfl
 have fy:=HS1.out.x.frz 2
 obtain ⟨t1,ht⟩:∃t,t=u1.setCell ⟨q,2,none⟩ (.int .i64 y1):=⟨_,rfl⟩
 have HT1:=hideR (HS1.out.set2 y1)
 rw [<- ht] at HT1
 have HE:=hideR ht
 clear ht
 go_wp2
 rw [<- HE.out]
 clear HE fx fy HS1
 go_end0
 refine ⟨rfl,y0,y1,0,_,_,_,_,_,_,_,_,_,i1,n1,z1,HT1.out,?_⟩
 rw [HG.out]
 exact Fits.bd HF0.out (Fits.bdz HF1.out (Fits.fin (fun hz=>⟨rfl,rfl,rfl,rfl,ints_nil _ _,at_nil _ _ d,at_nil _ _ d⟩)))
set_option maxRecDepth 100000 in
set_option maxHeartbeats 4000000 in
theorem yOp9a (hf:form op=9) (hn:op=65):Calls Tryd.prog 21 #[.pointer (some ⟨p,0,none⟩),.pointer (some ⟨q,0,none⟩),.int .i64 dep] u (OSays w0 w p s en q d op (lift (rsim (none_ d) s en op i) n)):=by
 obtain ⟨G,hG⟩:∃G,G=lift (rsim (none_ d) s en op i) n:=⟨_,rfl⟩
 rw [<- hG]
 have HG:=hideR hG
 have e0:lift (rsim (none_ d) s en op i) n=lift (bd (rs s en 32 i) fun b j=>.ok ({ op:=op,a:=0,b:=0,n:=b,labels:=[],body:=none_ d,els:=none_ d },j)) n:=by unfold rsim;simp only;rw [if_neg (by omega),if_neg (by omega),if_neg (by omega),if_neg (by omega),if_neg (by omega),if_pos hf,if_pos hn]
 rw [e0] at HG
 clear e0 hG
 have x0:=h.x.cell 0 _ rfl
 have HF:=hideR (refForm op u)
 rw [hf] at HF
 have q1:(op == 65)=true:=by rw [hn];rfl
 have H:=hideR h
 clear h hf hn
 go_enter Tryd.func21,Tryd.ntmps21
 go_wp2_with fail
 refine HF.out.mono ?_
 rintro e u ⟨rfl,rfl⟩
 clear HF
 have HC0:=hideR ((yS w0 p s en i n 0 _ H.out.ds 32).mono (fun _ _ h=>DR.int0 h))
 go_wp2_with fail
 refine HC0.out.mono ?_
 rintro e u0 ⟨y0,i0,n0,z0,rfl,h1,h2,hF⟩
 have HS0:=hideR (H.out.call h1 h2)
 have HF0:=hideR hF
 clear h1 h2 hF HC0 H
 have fx:=HS0.out.x.cell 3 _ rfl
 have fy:=HS0.out.x.frz 3
 obtain ⟨t0,ht⟩:∃t,t=u0.setCell ⟨q,3,none⟩ (.int .i64 y0):=⟨_,rfl⟩
 have HT0:=hideR (HS0.out.set3 y0)
 rw [<- ht] at HT0
 have HE:=hideR ht
 clear ht
 go_wp2
 rw [<- HE.out]
 clear HE fx fy HS0
 go_end0
 refine ⟨rfl,0,0,y0,_,_,_,_,_,_,_,_,_,i0,n0,z0,HT0.out,?_⟩
 rw [HG.out]
 exact Fits.bd HF0.out (Fits.fin (fun hz=>⟨rfl,rfl,rfl,rfl,ints_nil _ _,at_nil _ _ d,at_nil _ _ d⟩))
set_option maxRecDepth 100000 in
set_option maxHeartbeats 4000000 in
theorem yOp9b (hf:form op=9) (hn:op≠65):Calls Tryd.prog 21 #[.pointer (some ⟨p,0,none⟩),.pointer (some ⟨q,0,none⟩),.int .i64 dep] u (OSays w0 w p s en q d op (lift (rsim (none_ d) s en op i) n)):=by
 obtain ⟨G,hG⟩:∃G,G=lift (rsim (none_ d) s en op i) n:=⟨_,rfl⟩
 rw [<- hG]
 have HG:=hideR hG
 have e0:lift (rsim (none_ d) s en op i) n=lift (bd (rs s en 64 i) fun b j=>.ok ({ op:=op,a:=0,b:=0,n:=b,labels:=[],body:=none_ d,els:=none_ d },j)) n:=by unfold rsim;simp only;rw [if_neg (by omega),if_neg (by omega),if_neg (by omega),if_neg (by omega),if_neg (by omega),if_pos hf,if_neg hn]
 rw [e0] at HG
 clear e0 hG
 have x0:=h.x.cell 0 _ rfl
 have HF:=hideR (refForm op u)
 rw [hf] at HF
 have q1:(op == 65)=false:=by rw [beq_eq_false_iff_ne];exact hn
 have H:=hideR h
 clear h hf hn
 go_enter Tryd.func21,Tryd.ntmps21
 go_wp2_with fail
 refine HF.out.mono ?_
 rintro e u ⟨rfl,rfl⟩
 clear HF
 have HC0:=hideR ((yS w0 p s en i n 0 _ H.out.ds 64).mono (fun _ _ h=>DR.int0 h))
 go_wp2_with fail
 refine HC0.out.mono ?_
 rintro e u0 ⟨y0,i0,n0,z0,rfl,h1,h2,hF⟩
 have HS0:=hideR (H.out.call h1 h2)
 have HF0:=hideR hF
 clear h1 h2 hF HC0 H
 have fx:=HS0.out.x.cell 3 _ rfl
 have fy:=HS0.out.x.frz 3
 obtain ⟨t0,ht⟩:∃t,t=u0.setCell ⟨q,3,none⟩ (.int .i64 y0):=⟨_,rfl⟩
 have HT0:=hideR (HS0.out.set3 y0)
 rw [<- ht] at HT0
 have HE:=hideR ht
 clear ht
 go_wp2
 rw [<- HE.out]
 clear HE fx fy HS0
 go_end0
 refine ⟨rfl,0,0,y0,_,_,_,_,_,_,_,_,_,i0,n0,z0,HT0.out,?_⟩
 rw [HG.out]
 exact Fits.bd HF0.out (Fits.fin (fun hz=>⟨rfl,rfl,rfl,rfl,ints_nil _ _,at_nil _ _ d,at_nil _ _ d⟩))
end
end Go.Proofs.YthfapccopngfhaaDoor

