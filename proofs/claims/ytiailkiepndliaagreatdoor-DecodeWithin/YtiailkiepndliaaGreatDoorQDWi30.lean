/- Texts that the claim needs. -/
import Derived.Test.YtiailkiepndliaaGreatDoorQDWi29
namespace Go.Proofs.YtiailkiepndliaaGreatDoor
open Go.RowKit Rep Enc Go.Lib
set_option linter.unusedVariables false
theorem wBlock (w0:World) (p:Nat) (c:Nat->Value) (v:Value) (bs:List Int) {d:Nat} (IH:IS w0 p c d) (x:Ins (IL d)) (q4 q5 q6:Option Addr) (y4 z4 y5 z5 y6 z6:Nat) (w:World) (h:WS w0 p c v bs w) (he:size d x.els=y6) (a5:At w0 d (.slice q5 y5 z5) x.body) (a6:At w0 d (.slice q6 y6 z6) x.els) (r5:Rg d x.body) (r6:Rg d x.els) (hlen:bs.length+(blkB x).length<=39000000000000):Calls Tryz.prog 79 #[.pointer (some ⟨p,0,none⟩),.agg #[.int .i64 x.op,.int .i64 x.a,.int .i64 x.b,.int .i64 x.n,.slice q4 y4 z4,.slice q5 y5 z5,.slice q6 y6 z6]] w (DoesA w0 p c v w bs (blkB x)):=by
 unfold blkB at hlen ⊢
 by_cases hx:x.a=0
 ·rw [if_pos hx] at hlen ⊢
  by_cases hy:0<size d x.els
  ·rw [if_pos hy] at hlen ⊢
   have:=wBlk01 w0 p c v bs IH x q4 q5 q6 y4 z4 y5 z5 y6 z6 w h hx he (by omega) a5 a6 r5 r6 (by simpa [List.append_assoc] using hlen)
   simpa [List.append_assoc] using this
  ·rw [if_neg hy] at hlen ⊢
   have:=wBlk00 w0 p c v bs IH x q4 q5 q6 y4 z4 y5 z5 y6 z6 w h hx he (by omega) a5 a6 r5 r6 (by simpa [List.append_assoc] using hlen)
   simpa [List.append_assoc] using this
 ·rw [if_neg hx] at hlen ⊢
  by_cases hy:0<size d x.els
  ·rw [if_pos hy] at hlen ⊢
   have:=wBlk11 w0 p c v bs IH x q4 q5 q6 y4 z4 y5 z5 y6 z6 w h hx he (by omega) a5 a6 r5 r6 (by simpa [List.append_assoc] using hlen)
   simpa [List.append_assoc] using this
  ·rw [if_neg hy] at hlen ⊢
   have:=wBlk10 w0 p c v bs IH x q4 q5 q6 y4 z4 y5 z5 y6 z6 w h hx he (by omega) a5 a6 r5 r6 (by simpa [List.append_assoc] using hlen)
   simpa [List.append_assoc] using this
set_option maxRecDepth 100000 in
set_option maxHeartbeats 4000000 in
theorem wIns2 {I:World->Prop} (C:FormC I) (hI:∀w0 w:World,Below w0.heap.size w0 w->I w0->I w) (w0:World) (p:Nat) (c:Nat->Value) (v:Value) (bs:List Int) {d:Nat} (IH:IS w0 p c d) (x:Ins (IL d)) (q4 q5 q6:Option Addr) (y4 z4 y5 z5 y6 z6:Nat) (w:World) (h:WS w0 p c v bs w) (hI0:I w0) (hf:form x.op=2) (he:size d x.els=y6) (a5:At w0 d (.slice q5 y5 z5) x.body) (a6:At w0 d (.slice q6 y6 z6) x.els) (r5:Rg d x.body) (r6:Rg d x.els) (hlen:bs.length+([x.op%256]++blkB x).length<=39000000000000):Calls Tryz.prog 53 #[.pointer (some ⟨p,0,none⟩),.agg #[.int .i64 x.op,.int .i64 x.a,.int .i64 x.b,.int .i64 x.n,.slice q4 y4 z4,.slice q5 y5 z5,.slice q6 y6 z6]] w (DoesA w0 p c v w bs ([x.op%256]++blkB x)):=by
 have HA5:=hideR a5
 have HA6:=hideR a6
 have HR5:=hideR r5
 have HR6:=hideR r6
 have HHE:=hideR he
 clear a5 a6 r5 r6 he
 have HIH:=hideR IH
 clear IH
 have HII:=hideR hI0
 clear hI0 hI
 have hpw:p<w.heap.size:=h.lt
 have hown:∀k,v.ownBlock=some k->k<w.heap.size:=fun k hk=>(h.own.lt k hk).2
 have HBK0:=hideR (Blk.new w w.heap.size x.op x.a x.b x.n (.slice q4 y4 z4) (.slice q5 y5 z5) (.slice q6 y6 z6) rfl)
 obtain ⟨u1,hu1⟩:∃u1,u1=w.alloc (.cells #[.int .i64 x.op,.int .i64 x.a,.int .i64 x.b,.int .i64 x.n,.slice q4 y4 z4,.slice q5 y5 z5,.slice q6 y6 z6] 50):=⟨_,rfl⟩
 have HU:=hideR (new_on' w (.cells #[.int .i64 x.op,.int .i64 x.a,.int .i64 x.b,.int .i64 x.n,.slice q4 y4 z4,.slice q5 y5 z5,.slice q6 y6 z6] 50))
 rw [<- hu1] at HBK0 HU
 have HS0:=hideR (h.on HU.out)
 have HO0:Hid (some w.heap.size≠v.ownBlock):=hideR (fun e=>by have:=hown _ e.symm;omega)
 have HNP:Hid (w.heap.size≠p):=hideR (by omega)
 have HK0:Hid (Kept p v w v u1):=hideR (Kept.below HU.out)
 have HU1:=hideR hu1
 clear h hpw hown HU hu1
 have hlb:bs.length<=39000000000000:=by omega
 have HLEN:=hideR hlen
 clear hlen
 go_enter Tryz.func53,Tryz.ntmps53
 go_upto_region 1 with fail
 rw [<- HU1.out]
 generalize hp3:w.heap.size=p3 at HBK0 HO0 HNP ⊢
 clear HU1
 have k0:=HBK0.out.cell 0 _ rfl
 have HC:=hideR (wPut w0 p c v bs x.op u1 HS0.out (by omega))
 go_wp2_with fail
 refine HC.out.mono ?_
 rintro e w1 ⟨v1,rfl,h1,kk1⟩
 obtain ⟨bb1,bo1⟩:=kk1.box HBK0.out HNP.out HO0.out
 have HS1:=hideR h1
 have HBK1:=hideR bb1
 have HO1:=hideR bo1
 have HK1:=hideR (HK0.out.trans kk1)
 clear h1 kk1 bb1 bo1 HC k0 HS0 HBK0 HO0 HK0
 have k0:=HBK1.out.cell 0 _ rfl
 have HC:=hideR (C.form x.op w1 (C.keep HS1.out.below HII.out))
 rw [hf] at HC
 go_wp2_with fail
 refine HC.out.mono ?_
 rintro e w2 ⟨rfl,hb2⟩
 have HS2:=hideR (HS1.out.on hb2)
 have HBK2:=hideR (HBK1.out.keep (hb2.block p3 HBK1.out.lt))
 have HK2:=hideR (HK1.out.trans (Kept.below hb2))
 clear hb2 HC k0 HS1 HBK1 HK1
 have k0:=HBK2.out.cell 0 _ rfl
 have k1:=HBK2.out.cell 1 _ rfl
 have k2:=HBK2.out.cell 2 _ rfl
 have k3:=HBK2.out.cell 3 _ rfl
 have k4:=HBK2.out.cell 4 _ rfl
 have k5:=HBK2.out.cell 5 _ rfl
 have k6:=HBK2.out.cell 6 _ rfl
 have HC:=hideR (wBlock w0 p c v1 (bs++[x.op%256]) HIH.out x q4 q5 q6 y4 z4 y5 z5 y6 z6 w2 HS2.out HHE.out HA5.out HA6.out HR5.out HR6.out (by have:=HLEN.out;simp only [List.length_append,List.length_cons,List.length_nil] at this ⊢;omega))
 go_wp2_with fail
 refine HC.out.mono ?_
 rintro e w3 ⟨v3,b3,rfl,hh,kk,ha,hl⟩
 have HE:=hideR hh
 have HK3:=hideR (HK2.out.trans kk)
 have HSO:=hideR (((So.refl bs).app [x.op%256]).adds ha hl)
 have HF:Hid (So bs ([x.op%256]++blkB x) b3):=hideR (by have:=HSO.out;simpa using this)
 clear hh kk ha hl HSO HC HS2 HBK2 HK2
 go_wp2
 go_end0
 exact ⟨_,_,rfl,HE.out,HK3.out,HF.out.1,HF.out.2⟩
set_option maxRecDepth 100000 in
set_option maxHeartbeats 4000000 in
theorem wIns3 {I:World->Prop} (C:FormC I) (hI:∀w0 w:World,Below w0.heap.size w0 w->I w0->I w) (w0:World) (p:Nat) (c:Nat->Value) (v:Value) (bs:List Int) {d:Nat} (IH:IS w0 p c d) (x:Ins (IL d)) (q4 q5 q6:Option Addr) (y4 z4 y5 z5 y6 z6:Nat) (w:World) (h:WS w0 p c v bs w) (hI0:I w0) (hf:form x.op=3) (he:size d x.els=y6) (a5:At w0 d (.slice q5 y5 z5) x.body) (a6:At w0 d (.slice q6 y6 z6) x.els) (r5:Rg d x.body) (r6:Rg d x.els) (hlen:bs.length+([x.op%256]++blkB x).length<=39000000000000):Calls Tryz.prog 53 #[.pointer (some ⟨p,0,none⟩),.agg #[.int .i64 x.op,.int .i64 x.a,.int .i64 x.b,.int .i64 x.n,.slice q4 y4 z4,.slice q5 y5 z5,.slice q6 y6 z6]] w (DoesA w0 p c v w bs ([x.op%256]++blkB x)):=by
 have HA5:=hideR a5
 have HA6:=hideR a6
 have HR5:=hideR r5
 have HR6:=hideR r6
 have HHE:=hideR he
 clear a5 a6 r5 r6 he
 have HIH:=hideR IH
 clear IH
 have HII:=hideR hI0
 clear hI0 hI
 have hpw:p<w.heap.size:=h.lt
 have hown:∀k,v.ownBlock=some k->k<w.heap.size:=fun k hk=>(h.own.lt k hk).2
 have HBK0:=hideR (Blk.new w w.heap.size x.op x.a x.b x.n (.slice q4 y4 z4) (.slice q5 y5 z5) (.slice q6 y6 z6) rfl)
 obtain ⟨u1,hu1⟩:∃u1,u1=w.alloc (.cells #[.int .i64 x.op,.int .i64 x.a,.int .i64 x.b,.int .i64 x.n,.slice q4 y4 z4,.slice q5 y5 z5,.slice q6 y6 z6] 50):=⟨_,rfl⟩
 have HU:=hideR (new_on' w (.cells #[.int .i64 x.op,.int .i64 x.a,.int .i64 x.b,.int .i64 x.n,.slice q4 y4 z4,.slice q5 y5 z5,.slice q6 y6 z6] 50))
 rw [<- hu1] at HBK0 HU
 have HS0:=hideR (h.on HU.out)
 have HO0:Hid (some w.heap.size≠v.ownBlock):=hideR (fun e=>by have:=hown _ e.symm;omega)
 have HNP:Hid (w.heap.size≠p):=hideR (by omega)
 have HK0:Hid (Kept p v w v u1):=hideR (Kept.below HU.out)
 have HU1:=hideR hu1
 clear h hpw hown HU hu1
 have hlb:bs.length<=39000000000000:=by omega
 have HLEN:=hideR hlen
 clear hlen
 go_enter Tryz.func53,Tryz.ntmps53
 go_upto_region 1 with fail
 rw [<- HU1.out]
 generalize hp3:w.heap.size=p3 at HBK0 HO0 HNP ⊢
 clear HU1
 have k0:=HBK0.out.cell 0 _ rfl
 have HC:=hideR (wPut w0 p c v bs x.op u1 HS0.out (by omega))
 go_wp2_with fail
 refine HC.out.mono ?_
 rintro e w1 ⟨v1,rfl,h1,kk1⟩
 obtain ⟨bb1,bo1⟩:=kk1.box HBK0.out HNP.out HO0.out
 have HS1:=hideR h1
 have HBK1:=hideR bb1
 have HO1:=hideR bo1
 have HK1:=hideR (HK0.out.trans kk1)
 clear h1 kk1 bb1 bo1 HC k0 HS0 HBK0 HO0 HK0
 have k0:=HBK1.out.cell 0 _ rfl
 have HC:=hideR (C.form x.op w1 (C.keep HS1.out.below HII.out))
 rw [hf] at HC
 go_wp2_with fail
 refine HC.out.mono ?_
 rintro e w2 ⟨rfl,hb2⟩
 have HS2:=hideR (HS1.out.on hb2)
 have HBK2:=hideR (HBK1.out.keep (hb2.block p3 HBK1.out.lt))
 have HK2:=hideR (HK1.out.trans (Kept.below hb2))
 clear hb2 HC k0 HS1 HBK1 HK1
 have k0:=HBK2.out.cell 0 _ rfl
 have k1:=HBK2.out.cell 1 _ rfl
 have k2:=HBK2.out.cell 2 _ rfl
 have k3:=HBK2.out.cell 3 _ rfl
 have k4:=HBK2.out.cell 4 _ rfl
 have k5:=HBK2.out.cell 5 _ rfl
 have k6:=HBK2.out.cell 6 _ rfl
 have HC:=hideR (wBlock w0 p c v1 (bs++[x.op%256]) HIH.out x q4 q5 q6 y4 z4 y5 z5 y6 z6 w2 HS2.out HHE.out HA5.out HA6.out HR5.out HR6.out (by have:=HLEN.out;simp only [List.length_append,List.length_cons,List.length_nil] at this ⊢;omega))
 go_wp2_with fail
 refine HC.out.mono ?_
 rintro e w3 ⟨v3,b3,rfl,hh,kk,ha,hl⟩
 have HE:=hideR hh
 have HK3:=hideR (HK2.out.trans kk)
 have HSO:=hideR (((So.refl bs).app [x.op%256]).adds ha hl)
 have HF:Hid (So bs ([x.op%256]++blkB x) b3):=hideR (by have:=HSO.out;simpa using this)
 clear hh kk ha hl HSO HC HS2 HBK2 HK2
 go_wp2
 go_end0
 exact ⟨_,_,rfl,HE.out,HK3.out,HF.out.1,HF.out.2⟩
set_option maxRecDepth 100000 in
set_option maxHeartbeats 4000000 in
theorem wIns1a {I:World->Prop} (C:FormC I) (hI:∀w0 w:World,Below w0.heap.size w0 w->I w0->I w) (w0:World) (p:Nat) (c:Nat->Value) (v:Value) (bs:List Int) {d:Nat} (IH:IS w0 p c d) (x:Ins (IL d)) (q4 q5 q6:Option Addr) (y4 z4 y5 z5 y6 z6:Nat) (w:World) (h:WS w0 p c v bs w) (hI0:I w0) (hf:form x.op=1) (e63:(x.op == 63)=true) (hlen:bs.length+([x.op%256]++[0]).length<=39000000000000):Calls Tryz.prog 53 #[.pointer (some ⟨p,0,none⟩),.agg #[.int .i64 x.op,.int .i64 x.a,.int .i64 x.b,.int .i64 x.n,.slice q4 y4 z4,.slice q5 y5 z5,.slice q6 y6 z6]] w (DoesA w0 p c v w bs ([x.op%256]++[0])):=by
 have HIH:=hideR IH
 clear IH
 have HII:=hideR hI0
 clear hI0 hI
 have hpw:p<w.heap.size:=h.lt
 have hown:∀k,v.ownBlock=some k->k<w.heap.size:=fun k hk=>(h.own.lt k hk).2
 have HBK0:=hideR (Blk.new w w.heap.size x.op x.a x.b x.n (.slice q4 y4 z4) (.slice q5 y5 z5) (.slice q6 y6 z6) rfl)
 obtain ⟨u1,hu1⟩:∃u1,u1=w.alloc (.cells #[.int .i64 x.op,.int .i64 x.a,.int .i64 x.b,.int .i64 x.n,.slice q4 y4 z4,.slice q5 y5 z5,.slice q6 y6 z6] 50):=⟨_,rfl⟩
 have HU:=hideR (new_on' w (.cells #[.int .i64 x.op,.int .i64 x.a,.int .i64 x.b,.int .i64 x.n,.slice q4 y4 z4,.slice q5 y5 z5,.slice q6 y6 z6] 50))
 rw [<- hu1] at HBK0 HU
 have HS0:=hideR (h.on HU.out)
 have HO0:Hid (some w.heap.size≠v.ownBlock):=hideR (fun e=>by have:=hown _ e.symm;omega)
 have HNP:Hid (w.heap.size≠p):=hideR (by omega)
 have HK0:Hid (Kept p v w v u1):=hideR (Kept.below HU.out)
 have HU1:=hideR hu1
 clear h hpw hown HU hu1
 have hlb:bs.length<=39000000000000:=by omega
 have HLEN:=hideR hlen
 clear hlen
 go_enter Tryz.func53,Tryz.ntmps53
 go_upto_region 1 with fail
 rw [<- HU1.out]
 generalize hp3:w.heap.size=p3 at HBK0 HO0 HNP ⊢
 clear HU1
 have k0:=HBK0.out.cell 0 _ rfl
 have HC:=hideR (wPut w0 p c v bs x.op u1 HS0.out (by omega))
 go_wp2_with fail
 refine HC.out.mono ?_
 rintro e w1 ⟨v1,rfl,h1,kk1⟩
 obtain ⟨bb1,bo1⟩:=kk1.box HBK0.out HNP.out HO0.out
 have HS1:=hideR h1
 have HBK1:=hideR bb1
 have HO1:=hideR bo1
 have HK1:=hideR (HK0.out.trans kk1)
 clear h1 kk1 bb1 bo1 HC k0 HS0 HBK0 HO0 HK0
 have k0:=HBK1.out.cell 0 _ rfl
 have HC:=hideR (C.form x.op w1 (C.keep HS1.out.below HII.out))
 rw [hf] at HC
 go_wp2_with fail
 refine HC.out.mono ?_
 rintro e w2 ⟨rfl,hb2⟩
 have HS2:=hideR (HS1.out.on hb2)
 have HBK2:=hideR (HBK1.out.keep (hb2.block p3 HBK1.out.lt))
 have HK2:=hideR (HK1.out.trans (Kept.below hb2))
 clear hb2 HC k0 HS1 HBK1 HK1
 have k0:=HBK2.out.cell 0 _ rfl
 have k1:=HBK2.out.cell 1 _ rfl
 have k2:=HBK2.out.cell 2 _ rfl
 have k3:=HBK2.out.cell 3 _ rfl
 have k4:=HBK2.out.cell 4 _ rfl
 have k5:=HBK2.out.cell 5 _ rfl
 have k6:=HBK2.out.cell 6 _ rfl
 have HC:=hideR (wPut w0 p c v1 (bs++[x.op%256]) 0 w2 HS2.out (by simp only [List.length_append,List.length_cons,List.length_nil];omega))
 go_wp2_with fail
 refine HC.out.mono ?_
 rintro e w3 ⟨v3,rfl,hh,kk⟩
 have HE:=hideR hh
 have HK3:=hideR (HK2.out.trans kk)
 clear hh kk HC HS2 HBK2 HK2
 go_wp2
 go_end0
 exact ⟨_,_,rfl,HE.out,HK3.out,.inl (by simp),by simp⟩
set_option maxRecDepth 100000 in
set_option maxHeartbeats 4000000 in
theorem wIns1b {I:World->Prop} (C:FormC I) (hI:∀w0 w:World,Below w0.heap.size w0 w->I w0->I w) (w0:World) (p:Nat) (c:Nat->Value) (v:Value) (bs:List Int) {d:Nat} (IH:IS w0 p c d) (x:Ins (IL d)) (q4 q5 q6:Option Addr) (y4 z4 y5 z5 y6 z6:Nat) (w:World) (h:WS w0 p c v bs w) (hI0:I w0) (hf:form x.op=1) (e63:(x.op == 63)=false) (e64:(x.op == 64)=true) (hlen:bs.length+([x.op%256]++[0]).length<=39000000000000):Calls Tryz.prog 53 #[.pointer (some ⟨p,0,none⟩),.agg #[.int .i64 x.op,.int .i64 x.a,.int .i64 x.b,.int .i64 x.n,.slice q4 y4 z4,.slice q5 y5 z5,.slice q6 y6 z6]] w (DoesA w0 p c v w bs ([x.op%256]++[0])):=by
 have HIH:=hideR IH
 clear IH
 have HII:=hideR hI0
 clear hI0 hI
 have hpw:p<w.heap.size:=h.lt
 have hown:∀k,v.ownBlock=some k->k<w.heap.size:=fun k hk=>(h.own.lt k hk).2
 have HBK0:=hideR (Blk.new w w.heap.size x.op x.a x.b x.n (.slice q4 y4 z4) (.slice q5 y5 z5) (.slice q6 y6 z6) rfl)
 obtain ⟨u1,hu1⟩:∃u1,u1=w.alloc (.cells #[.int .i64 x.op,.int .i64 x.a,.int .i64 x.b,.int .i64 x.n,.slice q4 y4 z4,.slice q5 y5 z5,.slice q6 y6 z6] 50):=⟨_,rfl⟩
 have HU:=hideR (new_on' w (.cells #[.int .i64 x.op,.int .i64 x.a,.int .i64 x.b,.int .i64 x.n,.slice q4 y4 z4,.slice q5 y5 z5,.slice q6 y6 z6] 50))
 rw [<- hu1] at HBK0 HU
 have HS0:=hideR (h.on HU.out)
 have HO0:Hid (some w.heap.size≠v.ownBlock):=hideR (fun e=>by have:=hown _ e.symm;omega)
 have HNP:Hid (w.heap.size≠p):=hideR (by omega)
 have HK0:Hid (Kept p v w v u1):=hideR (Kept.below HU.out)
 have HU1:=hideR hu1
 clear h hpw hown HU hu1
 have hlb:bs.length<=39000000000000:=by omega
 have HLEN:=hideR hlen
 clear hlen
 go_enter Tryz.func53,Tryz.ntmps53
 go_upto_region 1 with fail
 rw [<- HU1.out]
 generalize hp3:w.heap.size=p3 at HBK0 HO0 HNP ⊢
 clear HU1
 have k0:=HBK0.out.cell 0 _ rfl
 have HC:=hideR (wPut w0 p c v bs x.op u1 HS0.out (by omega))
 go_wp2_with fail
 refine HC.out.mono ?_
 rintro e w1 ⟨v1,rfl,h1,kk1⟩
 obtain ⟨bb1,bo1⟩:=kk1.box HBK0.out HNP.out HO0.out
 have HS1:=hideR h1
 have HBK1:=hideR bb1
 have HO1:=hideR bo1
 have HK1:=hideR (HK0.out.trans kk1)
 clear h1 kk1 bb1 bo1 HC k0 HS0 HBK0 HO0 HK0
 have k0:=HBK1.out.cell 0 _ rfl
 have HC:=hideR (C.form x.op w1 (C.keep HS1.out.below HII.out))
 rw [hf] at HC
 go_wp2_with fail
 refine HC.out.mono ?_
 rintro e w2 ⟨rfl,hb2⟩
 have HS2:=hideR (HS1.out.on hb2)
 have HBK2:=hideR (HBK1.out.keep (hb2.block p3 HBK1.out.lt))
 have HK2:=hideR (HK1.out.trans (Kept.below hb2))
 clear hb2 HC k0 HS1 HBK1 HK1
 have k0:=HBK2.out.cell 0 _ rfl
 have k1:=HBK2.out.cell 1 _ rfl
 have k2:=HBK2.out.cell 2 _ rfl
 have k3:=HBK2.out.cell 3 _ rfl
 have k4:=HBK2.out.cell 4 _ rfl
 have k5:=HBK2.out.cell 5 _ rfl
 have k6:=HBK2.out.cell 6 _ rfl
 have HC:=hideR (wPut w0 p c v1 (bs++[x.op%256]) 0 w2 HS2.out (by simp only [List.length_append,List.length_cons,List.length_nil];omega))
 go_wp2_with fail
 refine HC.out.mono ?_
 rintro e w3 ⟨v3,rfl,hh,kk⟩
 have HE:=hideR hh
 have HK3:=hideR (HK2.out.trans kk)
 clear hh kk HC HS2 HBK2 HK2
 go_wp2
 go_end0
 exact ⟨_,_,rfl,HE.out,HK3.out,.inl (by simp),by simp⟩
end Go.Proofs.YtiailkiepndliaaGreatDoor

namespace Go.Proofs.YtiailkiepndliaaGreatDoor
open Go.RowKit Rep Enc Go.Lib
set_option linter.unusedVariables false
theorem wInstr {I:World->Prop} (C:FormC I) (w0:World) (p:Nat) (c:Nat->Value) (v:Value) (bs:List Int) {d:Nat} (IH:IS w0 p c d) (x:Ins (IL d)) (q4 q5 q6:Option Addr) (y4 z4 y5 z5 y6 z6:Nat) (w:World) (h:WS w0 p c v bs w) (hI:I w0) (he:size d x.els=y6) (a4:Ints w0 (.slice q4 y4 z4) x.labels) (a5:At w0 d (.slice q5 y5 z5) x.body) (a6:At w0 d (.slice q6 y6 z6) x.els) (r:Rg1 (Rg d) x) (hlen:bs.length+(insB (bytesI d) (size d) x).length<=39000000000000) :
  Calls Tryz.prog 53 #[.pointer (some ⟨p,0,none⟩),.agg #[.int .i64 x.op,.int .i64 x.a,.int .i64 x.b,.int .i64 x.n,.slice q4 y4 z4,.slice q5 y5 z5,.slice q6 y6 z6]] w (DoesA w0 p c v w bs (insB (bytesI d) (size d) x)):=by
 have hb:bs.length<=40000000000000:=by omega
 have key:∀t,insB (bytesI d) (size d) x=t->Calls Tryz.prog 53 #[.pointer (some ⟨p,0,none⟩),.agg #[.int .i64 x.op,.int .i64 x.a,.int .i64 x.b,.int .i64 x.n,.slice q4 y4 z4,.slice q5 y5 z5,.slice q6 y6 z6]] w (DoesA w0 p c v w bs t)->Calls Tryz.prog 53 #[.pointer (some ⟨p,0,none⟩),.agg #[.int .i64 x.op,.int .i64 x.a,.int .i64 x.b,.int .i64 x.n,.slice q4 y4 z4,.slice q5 y5 z5,.slice q6 y6 z6]] w (DoesA w0 p c v w bs (insB (bytesI d) (size d) x)):=fun t e hc=>by rw [e];exact hc
 have hF:form x.op=1\/form x.op=2\/form x.op=3\/form x.op=4\/form x.op=5\/form x.op=6\/form x.op=7\/form x.op=8\/form x.op=9\/(form x.op<1\/9<form x.op):=by omega
 rcases hF with hf|hf|hf|hf|hf|hf|hf|hf|hf|hf
 ·by_cases h63:x.op=63
  ·have e:insB (bytesI d) (size d) x = [x.op%256]++[0]:=by unfold insB;rw [if_pos hf,if_pos (.inl h63)]
   rw [e] at hlen
   exact key _ e (wIns1a C (fun _ _ hb h=>C.keep hb h) w0 p c v bs IH x q4 q5 q6 y4 z4 y5 z5 y6 z6 w h hI hf (by simp [h63]) hlen)
  ·by_cases h64:x.op=64
   ·have e:insB (bytesI d) (size d) x = [x.op%256]++[0]:=by unfold insB;rw [if_pos hf,if_pos (.inr h64)]
    rw [e] at hlen
    exact key _ e (wIns1b C (fun _ _ hb h=>C.keep hb h) w0 p c v bs IH x q4 q5 q6 y4 z4 y5 z5 y6 z6 w h hI hf (by simp [h63]) (by simp [h64]) hlen)
   ·have e:insB (bytesI d) (size d) x = [x.op%256]:=by unfold insB;rw [if_pos hf,if_neg (by omega)];simp
    exact key _ e ((wIns1 C w0 hI p c v bs x q4 q5 q6 y4 z4 y5 z5 y6 z6 w h hb hf (by omega)).mono fun _ _ h=>DoesA.of h)
 ·have e:insB (bytesI d) (size d) x = [x.op%256]++blkB x:=by unfold insB blkB;rw [if_neg (by omega),if_pos (.inl hf)]
  rw [e] at hlen
  exact key _ e (wIns2 C (fun _ _ hb h=>C.keep hb h) w0 p c v bs IH x q4 q5 q6 y4 z4 y5 z5 y6 z6 w h hI hf he a5 a6 r.body r.els hlen)
 ·have e:insB (bytesI d) (size d) x = [x.op%256]++blkB x:=by unfold insB blkB;rw [if_neg (by omega),if_pos (.inr hf)]
  rw [e] at hlen
  exact key _ e (wIns3 C (fun _ _ hb h=>C.keep hb h) w0 p c v bs IH x q4 q5 q6 y4 z4 y5 z5 y6 z6 w h hI hf he a5 a6 r.body r.els hlen)
 ·have e:insB (bytesI d) (size d) x = [x.op%256]++Leb.uB x.a:=by unfold insB;rw [if_neg (by omega),if_neg (by omega),if_pos (.inl hf)]
  exact key _ e ((wIns4 C w0 hI p c v bs x q4 q5 q6 y4 z4 y5 z5 y6 z6 w h hb hf (r.a (by omega) (by omega))).mono fun _ _ h=>DoesA.of h)
 ·have e:insB (bytesI d) (size d) x = [x.op%256]++idxB x.labels++Leb.uB x.a:=by unfold insB;rw [if_neg (by omega),if_neg (by omega),if_neg (by omega),if_pos hf,List.append_assoc]
  have hi:(idxB x.labels).length<=100000010:=by
   have h1:=Leb.uB_ten (n:=(x.labels.length:Int)) (by omega) (by have:=r.few;omega)
   have h2:=flat_le (f:=Leb.uB) 10 x.labels fun y hy=>Leb.uB_ten (r.labels hf y hy).1 (by have:=(r.labels hf y hy).2;omega)
   have h3:=r.few
   unfold idxB
   rw [List.length_append];omega
  exact key _ e ((wIns5 C w0 hI p c v bs x q4 q5 q6 y4 z4 y5 z5 y6 z6 w h hb hf (r.a (by omega) (by omega)) a4 (r.labels hf) r.few hi).mono fun _ _ h=>DoesA.of h)
 ·have e:insB (bytesI d) (size d) x = [x.op%256]++Leb.uB x.a:=by unfold insB;rw [if_neg (by omega),if_neg (by omega),if_pos (.inr hf)]
  exact key _ e ((wIns6 C w0 hI p c v bs x q4 q5 q6 y4 z4 y5 z5 y6 z6 w h hb hf (r.a (by omega) (by omega))).mono fun _ _ h=>DoesA.of h)
 ·have e:insB (bytesI d) (size d) x = [x.op%256]++Leb.uB x.a++[0]:=by unfold insB;rw [if_neg (by omega),if_neg (by omega),if_neg (by omega),if_neg (by omega),if_pos hf,List.append_assoc]
  have ha:=r.a (by omega) (by omega)
  exact key _ e ((wIns7 C w0 hI p c v bs x q4 q5 q6 y4 z4 y5 z5 y6 z6 w h hb hf ha (Leb.uB_ten ha.1 (by omega))).mono fun _ _ h=>DoesA.of h)
 ·have e:insB (bytesI d) (size d) x = [x.op%256]++Leb.uB x.a++Leb.uB x.b:=by unfold insB;rw [if_neg (by omega),if_neg (by omega),if_neg (by omega),if_neg (by omega),if_neg (by omega),if_pos hf,List.append_assoc]
  have ha:=r.a (by omega) (by omega)
  exact key _ e ((wIns8 C w0 hI p c v bs x q4 q5 q6 y4 z4 y5 z5 y6 z6 w h hb hf ha (r.b hf) (Leb.uB_ten ha.1 (by omega))).mono fun _ _ h=>DoesA.of h)
 ·have e:insB (bytesI d) (size d) x = [x.op%256]++Leb.sB x.n:=by unfold insB;rw [if_neg (by omega),if_neg (by omega),if_neg (by omega),if_neg (by omega),if_neg (by omega),if_neg (by omega),if_pos hf]
  exact key _ e ((wIns9 C w0 hI p c v bs x q4 q5 q6 y4 z4 y5 z5 y6 z6 w h hb hf (r.n hf)).mono fun _ _ h=>DoesA.of h)
 ·have e:insB (bytesI d) (size d) x = [x.op%256]:=by unfold insB;rw [if_neg (by omega),if_neg (by omega),if_neg (by omega),if_neg (by omega),if_neg (by omega),if_neg (by omega),if_neg (by omega)];simp
  exact key _ e ((wInsX C w0 hI p c v bs x q4 q5 q6 y4 z4 y5 z5 y6 z6 w h hb hf).mono fun _ _ h=>DoesA.of h)
namespace Enc
theorem insL_take {α:Type} {rec:α->List Int} {sz:α->Nat} {l:List (Ins α)} {j:Nat} {x:Ins α} (hx:l[j]?=some x):insL rec sz (l.take (j+1))=insL rec sz (l.take j)++insB rec sz x:=by
 unfold insL
 rw [List.take_add_one,hx,List.flatMap_append];simp
theorem insL_part {α:Type} (rec:α->List Int) (sz:α->Nat) (l:List (Ins α)) (j:Nat):(insL rec sz (l.take j)).length<=(insL rec sz l).length:=by
 conv=>rhs;rw [<- List.take_append_drop j l]
 unfold insL
 rw [List.flatMap_append,List.length_append];omega
end Enc
set_option maxRecDepth 100000 in
set_option maxHeartbeats 4000000 in
theorem isS {I:World->Prop} (C:FormC I) (w0:World) (hI:I w0) (p:Nat) (c:Nat->Value) (d:Nat) (IH:IS w0 p c d):IS w0 p c (d+1):=by
 intro lv l0 v bs w h hA0 hR0 hlen0
 obtain ⟨l,rfl⟩:∃l:List (Ins (IL d)),l=l0:=⟨l0,rfl⟩
 have hA:Row 7 (InsAt w0 (At w0 d)) lv l:=hA0
 have hR:∀x,x ∈ l->Rg1 (Rg d) x:=hR0
 have hlen:bs.length+(insL (bytesI d) (size d) l).length<=39000000000000:=hlen0
 clear hA0 hR0 hlen0
 show Calls Tryz.prog 34 #[.pointer (some ⟨p,0,none⟩),lv] w (DoesA w0 p c v w bs (insL (bytesI d) (size d) l))
 obtain ⟨oL,kL,rfl⟩:=Row.len hA
 have la:=hA.1
 have HA:=hideR hA
 have HR:=hideR hR
 have HIH:=hideR IH
 have HLEN:=hideR hlen
 have HS:=hideR h
 have HI:=hideR hI
 clear hA hR IH hlen h hI
 generalize hna:l.length=n at *
 go_enter Tryz.func34,Tryz.ntmps34
 go_wp2_with fail
 go_loopw [8] (fun i wr=>∃(j:Nat) (v2:Value) (b2:List Int),j<=n/\i=.int .i64 j/\Hid (WS w0 p c v2 b2 wr)/\Hid (Kept p v w v2 wr)/\Hid (So bs (insL (bytesI d) (size d) (l.take j)) b2)) (fun i _=>n-(RowKit.intOf i).toNat)
 case atStart=>exact ⟨0,v,bs,by omega,rfl,HS,hideR (Kept.refl _ _ _),hideR (So.refl bs)⟩
 case round =>
  clear HS
  obtain ⟨j,v2,b2,hj,rfl,HWS,HKW,HSO⟩:=hrel
  by_cases hgo:j<n
  ·obtain ⟨b1,off1,cap1,hv1,hx1⟩:=Row.some HA.out (by omega)
   injection hv1 with ho1 e11 e12
   subst ho1
   clear e11 e12
   obtain ⟨x,hxk⟩:∃x,l[j]?=some x:=⟨_,List.getElem?_eq_getElem (by omega)⟩
   have HXK:=hideR hxk
   obtain ⟨cx0,cx1,cx2,cx3,⟨v4,cx4,ax4⟩,⟨v5,cx5,ax5⟩,⟨v6,cx6,ax6⟩⟩:=hx1 j x hxk
   clear hx1 hxk
   obtain ⟨q4,z4,rfl⟩:=Row.len ax4
   obtain ⟨q5,z5,rfl⟩:=At.len d _ _ ax5
   obtain ⟨q6,z6,rfl⟩:=At.len d _ _ ax6
   have AX4:=hideR ax4
   have AX5:=hideR ax5
   have AX6:=hideR ax6
   clear ax4 ax5 ax6
   have cz0:=cell_on HWS.out.below cx0
   have cz1:=cell_on HWS.out.below cx1
   have cz2:=cell_on HWS.out.below cx2
   have cz3:=cell_on HWS.out.below cx3
   have cz4:=cell_on HWS.out.below cx4
   have cz5:=cell_on HWS.out.below cx5
   have cz6:=cell_on HWS.out.below cx6
   clear cx0 cx1 cx2 cx3 cx4 cx5 cx6
   generalize hy4:x.labels.length=y4 at *
   generalize hy5:size d x.body=y5 at *
   generalize hy6:size d x.els=y6 at *
   have hb2:b2.length<=39000000000000:=by have h1:=HSO.out.2;have h2:=insL_part (bytesI d) (size d) l j;have h3:=HLEN.out;omega
   go_upto_region 3 with fail
   obtain ⟨u1,hu1⟩:∃u1,u1=wr.alloc (.cells #[.int .i64 x.op,.int .i64 x.a,.int .i64 x.b,.int .i64 x.n,.slice q4 y4 z4,.slice q5 y5 z5,.slice q6 y6 z6] 50):=⟨_,rfl⟩
   have HBK:Hid (Blk u1 wr.heap.size x.op x.a x.b x.n (.slice q4 y4 z4) (.slice q5 y5 z5) (.slice q6 y6 z6)):=hideR (by rw [hu1];exact Blk.new wr wr.heap.size _ _ _ _ _ _ _ rfl)
   have HU:Hid (Below wr.heap.size wr u1):=hideR (by rw [hu1];exact new_on' _ _)
   rw [<- hu1]
   clear hu1 cz0 cz1 cz2 cz3 cz4 cz5 cz6
   have HS1:=hideR (HWS.out.on HU.out)
   have HK1:=hideR (HKW.out.trans (Kept.below (p:=p) (v:=v2) HU.out))
   clear HWS HKW HU
   generalize wr.heap.size=p3 at HBK ⊢
   have HC:=hideR (wFull w0 p c v2 b2 u1 HS1.out (by omega))
   go_wp2_with fail
   refine HC.out.mono ?_
   rintro e w3 ⟨rfl,rfl⟩
   clear HC
   by_cases hfull:262144<b2.length
   ·rw [decide_eq_true hfull]
    have HF:Hid (So bs (insL (bytesI d) (size d) l) b2):=hideR ⟨.inr ⟨hfull,by have h1:=HSO.out.2;have h2:=insL_part (bytesI d) (size d) l j;omega,HSO.out.1.le⟩,by have h1:=HSO.out.2;have h2:=insL_part (bytesI d) (size d) l j;omega⟩
    clear hfull
    go_wp2
    go_end0
    exact ⟨_,_,rfl,HS1.out,HK1.out,HF.out.1,HF.out.2⟩
   ·rw [decide_eq_false hfull]
    clear hfull
    have k0:=HBK.out.cell 0 _ rfl
    have k1:=HBK.out.cell 1 _ rfl
    have k2:=HBK.out.cell 2 _ rfl
    have k3:=HBK.out.cell 3 _ rfl
    have k4:=HBK.out.cell 4 _ rfl
    have k5:=HBK.out.cell 5 _ rfl
    have k6:=HBK.out.cell 6 _ rfl
    have HC:=hideR (wInstr C w0 p c v2 b2 HIH.out x q4 q5 q6 y4 z4 y5 z5 y6 z6 _ HS1.out HI.out hy6 AX4.out AX5.out AX6.out (HR.out x (List.mem_of_getElem? HXK.out)) (by
     have h1:=HSO.out.2
     have h2:=insL_part (bytesI d) (size d) l (j+1)
     rw [insL_take HXK.out,List.length_append] at h2
     have h3:=HLEN.out
     omega))
    go_wp2_with fail
    refine HC.out.mono ?_
    rintro e w4 ⟨v4,b4,rfl,hh,kk,ha,hl⟩
    have HS4:=hideR hh
    have HK4:=hideR (HK1.out.trans kk)
    have HSO4:Hid (So bs (insL (bytesI d) (size d) (l.take (j+1))) b4):=hideR (by rw [insL_take HXK.out];exact HSO.out.adds ha hl)
    clear hh kk ha hl HC HS1 HK1 HBK k0 k1 k2 k3 k4 k5 k6
    go_wp2
    go_roundw
    case rel=>exact ⟨j+1,v4,b4,by omega,by go_num,HS4,HK4,HSO4⟩
    case measure=>simp [RowKit.intOf];omega
  ·obtain rfl:n=j:=by omega
   have HF:Hid (So bs (insL (bytesI d) (size d) l) b2):=hideR (by have:=HSO.out;rw [List.take_of_length_le (by omega)] at this;exact this)
   go_wp2
   go_end0
   exact ⟨_,_,rfl,HWS.out,HKW.out,HF.out.1,HF.out.2⟩
theorem is0 (w0:World) (p:Nat) (c:Nat->Value):IS w0 p c 0:=by
 rintro lv l v bs w h ⟨oL,kL,rfl⟩ _ _
 have HS:=hideR h
 clear h
 go_enter Tryz.func34,Tryz.ntmps34
 go_wp2_with fail
 go_loopw [8] (fun i wr=>i=.int .i64 0/\wr=w) (fun _ _=>0)
 case atStart=>exact ⟨rfl,rfl⟩
 case round =>
  obtain ⟨rfl,rfl⟩:=hrel
  go_wp2
  go_end0
  exact ⟨_,_,rfl,HS.out,Kept.refl _ _ _,Adds.refl bs,by simp⟩
theorem isAll {I:World->Prop} (C:FormC I) (w0:World) (hI:I w0) (p:Nat) (c:Nat->Value):∀d,IS w0 p c d
 | 0=>is0 w0 p c
 | d+1=>isS C w0 hI p c d (isAll C w0 hI p c d)
end Go.Proofs.YtiailkiepndliaaGreatDoor

namespace Go.Proofs.YtiailkiepndliaaGreatDoor
open Go.RowKit Rep Enc Go.Lib
set_option linter.unusedVariables false
set_option maxRecDepth 100000 in
set_option maxHeartbeats 2000000 in
theorem wExpr {I:World->Prop} (C:FormC I) (w0:World) (hI:I w0) (p:Nat) (c:Nat->Value) (d:Nat) (lv:Value) (l:IL d) (v:Value) (bs:List Int) (w:World) (h:WS w0 p c v bs w) (hA:At w0 d lv l) (hR:Rg d l) (hlen:bs.length+(bytesI d l).length<=39000000000000) :
  Calls Tryz.prog 13 #[.pointer (some ⟨p,0,none⟩),lv] w (DoesA w0 p c v w bs (bytesI d l++[11])):=by
 obtain ⟨oL,kL,rfl⟩:=At.len d _ _ hA
 have HC:=hideR (isAll C w0 hI p c d _ l v bs w h hA hR hlen)
 have HLEN:=hideR hlen
 clear h hA hR hlen
 generalize size d l=n at *
 go_enter Tryz.func13,Tryz.ntmps13
 go_wp2_with fail
 refine HC.out.mono ?_
 rintro e w1 ⟨v1,b1,rfl,h1,k1,a1,l1⟩
 have HC2:=hideR (wPut w0 p c v1 b1 11 w1 h1 (by have:=HLEN.out;omega))
 have HSO:=hideR (((So.refl bs).adds a1 l1).app [11])
 have HK1:=hideR k1
 clear h1 k1 a1 l1 HC
 go_wp2_with fail
 refine HC2.out.mono ?_
 rintro e w2 ⟨v2,rfl,h2,k2⟩
 have HS:=hideR h2
 have HK2:=hideR (HK1.out.trans k2)
 have HF:Hid (So bs (bytesI d l++[11]) (b1++[11])):=hideR (by have:=HSO.out;simpa using this)
 clear h2 k2 HC2
 go_wp2
 go_end0
 exact ⟨_,_,rfl,HS.out,HK2.out,HF.out.1,HF.out.2⟩
end Go.Proofs.YtiailkiepndliaaGreatDoor

namespace Go.Proofs.YtiailkiepndliaaGreatDoor
open Go.RowKit Rep Enc Go.Lib
set_option linter.unusedVariables false
namespace Enc
def told (bs:List Int):Value:=if 262144<bs.length then .tuple #[.string ⟨#[]⟩,.int .i64 2] else .tuple #[.string (strOfNums bs),.int .i64 0]
end Enc
set_option maxRecDepth 100000 in
set_option maxHeartbeats 2000000 in
theorem wTold (w0:World) (p:Nat) (c:Nat->Value) (v:Value) (bs:List Int) (w:World) (h:WS w0 p c v bs w) (hn:bs.length<=100000000000000) (h0:0<bs.length) :
  Calls Tryz.prog 14 #[.pointer (some ⟨p,0,none⟩)] w fun e w'=>e=.returned (told bs)/\w'=w:=by
 have HC:=hideR (wFull w0 p c v bs w h hn)
 obtain ⟨g,cap,rfl,hcv⟩:=own_string h.own h0
 have kc:=h.cell
 clear h
 unfold told
 by_cases hf:262144<bs.length
 ·rw [if_pos hf]
  rw [decide_eq_true hf] at HC
  clear hf hcv
  go_enter Tryz.func14,Tryz.ntmps14
  go_wp2_with fail
  refine HC.out.mono ?_
  rintro e w1 ⟨rfl,rfl⟩
  go_wp2
  go_ret2
  exact ⟨rfl,rfl⟩
 ·rw [if_neg hf]
  rw [decide_eq_false hf] at HC
  clear hf
  go_enter Tryz.func14,Tryz.ntmps14
  go_wp2_with fail
  refine HC.out.mono ?_
  rintro e w1 ⟨rfl,rfl⟩
  go_wp2
  go_ret2
  exact ⟨rfl,rfl⟩
end Go.Proofs.YtiailkiepndliaaGreatDoor

