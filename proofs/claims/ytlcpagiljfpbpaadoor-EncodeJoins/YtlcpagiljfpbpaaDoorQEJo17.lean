/- Texts that the claim needs. -/
import Derived.Test.YtlcpagiljfpbpaaDoorQEJo16
namespace Go.Proofs.YtlcpagiljfpbpaaDoor
open Go.RowKit Rep Enc Go.Lib
set_option linter.unusedVariables false
theorem wBlock (w0:World) (p:Nat) (c:Nat->Value) (v:Value) (bs:List Int) {d:Nat} (IH:IS w0 p c d) (x:Ins (IL d)) (q4 q5 q6:Option Addr) (y4 z4 y5 z5 y6 z6:Nat) (w:World) (h:WS w0 p c v bs w) (he:size d x.els=y6) (a5:At w0 d (.slice q5 y5 z5) x.body) (a6:At w0 d (.slice q6 y6 z6) x.els) (r5:Rg d x.body) (r6:Rg d x.els) (hlen:bs.length+(blkB x).length<=39000000000000):Calls Tryd.prog 80 #[.pointer (some ⟨p,0,none⟩),.agg #[.int .i64 x.op,.int .i64 x.a,.int .i64 x.b,.int .i64 x.n,.slice q4 y4 z4,.slice q5 y5 z5,.slice q6 y6 z6]] w (DoesA w0 p c v w bs (blkB x)):=by
 unfold blkB at hlen ⊢
 by_cases hx:x.a=0
 ·rw [if_pos hx] at hlen ⊢
  by_cases hy:0<size d x.els
  ·rw [if_pos hy] at hlen ⊢
   have:=wBlk01 w0 p c v bs IH x q4 q5 q6 y4 z4 y5 z5 y6 z6 w h hx he (by omega) a5 a6 r5 r6 (by simpa [List.append_assoc] using hlen)
   simpa [List.append_assoc] using this
  ·rw [if_neg hy] at hlen ⊢
   have:=wBlk00 w0 p c v bs IH x q4 q5 q6 y4 z4 y5 z5 y6 z6 w h hx he (by omega) a5 a6 r5 r6 (by simpa [List.append_assoc] using hlen)
   simpa [List.append_assoc] using this
 ·rw [if_neg hx] at hlen ⊢
  by_cases hy:0<size d x.els
  ·rw [if_pos hy] at hlen ⊢
   have:=wBlk11 w0 p c v bs IH x q4 q5 q6 y4 z4 y5 z5 y6 z6 w h hx he (by omega) a5 a6 r5 r6 (by simpa [List.append_assoc] using hlen)
   simpa [List.append_assoc] using this
  ·rw [if_neg hy] at hlen ⊢
   have:=wBlk10 w0 p c v bs IH x q4 q5 q6 y4 z4 y5 z5 y6 z6 w h hx he (by omega) a5 a6 r5 r6 (by simpa [List.append_assoc] using hlen)
   simpa [List.append_assoc] using this
set_option maxRecDepth 100000 in
set_option maxHeartbeats 4000000 in
theorem wIns2 {I:World->Prop} (C:FormC I) (hI:∀w0 w:World,Below w0.heap.size w0 w->I w0->I w) (w0:World) (p:Nat) (c:Nat->Value) (v:Value) (bs:List Int) {d:Nat} (IH:IS w0 p c d) (x:Ins (IL d)) (q4 q5 q6:Option Addr) (y4 z4 y5 z5 y6 z6:Nat) (w:World) (h:WS w0 p c v bs w) (hI0:I w0) (hf:form x.op=2) (he:size d x.els=y6) (a5:At w0 d (.slice q5 y5 z5) x.body) (a6:At w0 d (.slice q6 y6 z6) x.els) (r5:Rg d x.body) (r6:Rg d x.els) (hlen:bs.length+([x.op%256]++blkB x).length<=39000000000000):Calls Tryd.prog 70 #[.pointer (some ⟨p,0,none⟩),.agg #[.int .i64 x.op,.int .i64 x.a,.int .i64 x.b,.int .i64 x.n,.slice q4 y4 z4,.slice q5 y5 z5,.slice q6 y6 z6]] w (DoesA w0 p c v w bs ([x.op%256]++blkB x)):=by
 have HA5:=hideR a5
 have HA6:=hideR a6
 have HR5:=hideR r5
 have HR6:=hideR r6
 have HHE:=hideR he
 clear a5 a6 r5 r6 he
 have HIH:=hideR IH
 clear IH
 have HII:=hideR hI0
 clear hI0 hI
 have hpw:p<w.heap.size:=h.lt
 have hown:∀k,v.ownBlock=some k->k<w.heap.size:=fun k hk=>(h.own.lt k hk).2
 have HBK0:=hideR (Blk.new w w.heap.size x.op x.a x.b x.n (.slice q4 y4 z4) (.slice q5 y5 z5) (.slice q6 y6 z6) rfl)
 obtain ⟨u1,hu1⟩:∃u1,u1=w.alloc (.cells #[.int .i64 x.op,.int .i64 x.a,.int .i64 x.b,.int .i64 x.n,.slice q4 y4 z4,.slice q5 y5 z5,.slice q6 y6 z6] 50):=⟨_,rfl⟩
 have HU:=hideR (new_on' w (.cells #[.int .i64 x.op,.int .i64 x.a,.int .i64 x.b,.int .i64 x.n,.slice q4 y4 z4,.slice q5 y5 z5,.slice q6 y6 z6] 50))
 rw [<- hu1] at HBK0 HU
 have HS0:=hideR (h.on HU.out)
 have HO0:Hid (some w.heap.size≠v.ownBlock):=hideR (fun e=>by have:=hown _ e.symm;omega)
 have HNP:Hid (w.heap.size≠p):=hideR (by omega)
 have HK0:Hid (Kept p v w v u1):=hideR (Kept.below HU.out)
 have HU1:=hideR hu1
 clear h hpw hown HU hu1
 have hlb:bs.length<=39000000000000:=by omega
 have HLEN:=hideR hlen
 clear hlen
 go_enter Tryd.func70,Tryd.ntmps70
 go_upto_region 1 with fail
 rw [<- HU1.out]
 generalize hp3:w.heap.size=p3 at HBK0 HO0 HNP ⊢
 clear HU1
 have k0:=HBK0.out.cell 0 _ rfl
 have HC:=hideR (wPut w0 p c v bs x.op u1 HS0.out (by omega))
 go_wp2_with fail
 refine HC.out.mono ?_
 rintro e w1 ⟨v1,rfl,h1,kk1⟩
 obtain ⟨bb1,bo1⟩:=kk1.box HBK0.out HNP.out HO0.out
 have HS1:=hideR h1
 have HBK1:=hideR bb1
 have HO1:=hideR bo1
 have HK1:=hideR (HK0.out.trans kk1)
 clear h1 kk1 bb1 bo1 HC k0 HS0 HBK0 HO0 HK0
 have k0:=HBK1.out.cell 0 _ rfl
 have HC:=hideR (C.form x.op w1 (C.keep HS1.out.below HII.out))
 rw [hf] at HC
 go_wp2_with fail
 refine HC.out.mono ?_
 rintro e w2 ⟨rfl,hb2⟩
 have HS2:=hideR (HS1.out.on hb2)
 have HBK2:=hideR (HBK1.out.keep (hb2.block p3 HBK1.out.lt))
 have HK2:=hideR (HK1.out.trans (Kept.below hb2))
 clear hb2 HC k0 HS1 HBK1 HK1
 have k0:=HBK2.out.cell 0 _ rfl
 have k1:=HBK2.out.cell 1 _ rfl
 have k2:=HBK2.out.cell 2 _ rfl
 have k3:=HBK2.out.cell 3 _ rfl
 have k4:=HBK2.out.cell 4 _ rfl
 have k5:=HBK2.out.cell 5 _ rfl
 have k6:=HBK2.out.cell 6 _ rfl
 have HC:=hideR (wBlock w0 p c v1 (bs++[x.op%256]) HIH.out x q4 q5 q6 y4 z4 y5 z5 y6 z6 w2 HS2.out HHE.out HA5.out HA6.out HR5.out HR6.out (by have:=HLEN.out;simp only [List.length_append,List.length_cons,List.length_nil] at this ⊢;omega))
 go_wp2_with fail
 refine HC.out.mono ?_
 rintro e w3 ⟨v3,b3,rfl,hh,kk,ha,hl⟩
 have HE:=hideR hh
 have HK3:=hideR (HK2.out.trans kk)
 have HSO:=hideR (((So.refl bs).app [x.op%256]).adds ha hl)
 have HF:Hid (So bs ([x.op%256]++blkB x) b3):=hideR (by have:=HSO.out;simpa using this)
 clear hh kk ha hl HSO HC HS2 HBK2 HK2
 go_wp2
 go_end0
 exact ⟨_,_,rfl,HE.out,HK3.out,HF.out.1,HF.out.2⟩
set_option maxRecDepth 100000 in
set_option maxHeartbeats 4000000 in
theorem wIns3 {I:World->Prop} (C:FormC I) (hI:∀w0 w:World,Below w0.heap.size w0 w->I w0->I w) (w0:World) (p:Nat) (c:Nat->Value) (v:Value) (bs:List Int) {d:Nat} (IH:IS w0 p c d) (x:Ins (IL d)) (q4 q5 q6:Option Addr) (y4 z4 y5 z5 y6 z6:Nat) (w:World) (h:WS w0 p c v bs w) (hI0:I w0) (hf:form x.op=3) (he:size d x.els=y6) (a5:At w0 d (.slice q5 y5 z5) x.body) (a6:At w0 d (.slice q6 y6 z6) x.els) (r5:Rg d x.body) (r6:Rg d x.els) (hlen:bs.length+([x.op%256]++blkB x).length<=39000000000000):Calls Tryd.prog 70 #[.pointer (some ⟨p,0,none⟩),.agg #[.int .i64 x.op,.int .i64 x.a,.int .i64 x.b,.int .i64 x.n,.slice q4 y4 z4,.slice q5 y5 z5,.slice q6 y6 z6]] w (DoesA w0 p c v w bs ([x.op%256]++blkB x)):=by
 have HA5:=hideR a5
 have HA6:=hideR a6
 have HR5:=hideR r5
 have HR6:=hideR r6
 have HHE:=hideR he
 clear a5 a6 r5 r6 he
 have HIH:=hideR IH
 clear IH
 have HII:=hideR hI0
 clear hI0 hI
 have hpw:p<w.heap.size:=h.lt
 have hown:∀k,v.ownBlock=some k->k<w.heap.size:=fun k hk=>(h.own.lt k hk).2
 have HBK0:=hideR (Blk.new w w.heap.size x.op x.a x.b x.n (.slice q4 y4 z4) (.slice q5 y5 z5) (.slice q6 y6 z6) rfl)
 obtain ⟨u1,hu1⟩:∃u1,u1=w.alloc (.cells #[.int .i64 x.op,.int .i64 x.a,.int .i64 x.b,.int .i64 x.n,.slice q4 y4 z4,.slice q5 y5 z5,.slice q6 y6 z6] 50):=⟨_,rfl⟩
 have HU:=hideR (new_on' w (.cells #[.int .i64 x.op,.int .i64 x.a,.int .i64 x.b,.int .i64 x.n,.slice q4 y4 z4,.slice q5 y5 z5,.slice q6 y6 z6] 50))
 rw [<- hu1] at HBK0 HU
 have HS0:=hideR (h.on HU.out)
 have HO0:Hid (some w.heap.size≠v.ownBlock):=hideR (fun e=>by have:=hown _ e.symm;omega)
 have HNP:Hid (w.heap.size≠p):=hideR (by omega)
 have HK0:Hid (Kept p v w v u1):=hideR (Kept.below HU.out)
 have HU1:=hideR hu1
 clear h hpw hown HU hu1
 have hlb:bs.length<=39000000000000:=by omega
 have HLEN:=hideR hlen
 clear hlen
 go_enter Tryd.func70,Tryd.ntmps70
 go_upto_region 1 with fail
 rw [<- HU1.out]
 generalize hp3:w.heap.size=p3 at HBK0 HO0 HNP ⊢
 clear HU1
 have k0:=HBK0.out.cell 0 _ rfl
 have HC:=hideR (wPut w0 p c v bs x.op u1 HS0.out (by omega))
 go_wp2_with fail
 refine HC.out.mono ?_
 rintro e w1 ⟨v1,rfl,h1,kk1⟩
 obtain ⟨bb1,bo1⟩:=kk1.box HBK0.out HNP.out HO0.out
 have HS1:=hideR h1
 have HBK1:=hideR bb1
 have HO1:=hideR bo1
 have HK1:=hideR (HK0.out.trans kk1)
 clear h1 kk1 bb1 bo1 HC k0 HS0 HBK0 HO0 HK0
 have k0:=HBK1.out.cell 0 _ rfl
 have HC:=hideR (C.form x.op w1 (C.keep HS1.out.below HII.out))
 rw [hf] at HC
 go_wp2_with fail
 refine HC.out.mono ?_
 rintro e w2 ⟨rfl,hb2⟩
 have HS2:=hideR (HS1.out.on hb2)
 have HBK2:=hideR (HBK1.out.keep (hb2.block p3 HBK1.out.lt))
 have HK2:=hideR (HK1.out.trans (Kept.below hb2))
 clear hb2 HC k0 HS1 HBK1 HK1
 have k0:=HBK2.out.cell 0 _ rfl
 have k1:=HBK2.out.cell 1 _ rfl
 have k2:=HBK2.out.cell 2 _ rfl
 have k3:=HBK2.out.cell 3 _ rfl
 have k4:=HBK2.out.cell 4 _ rfl
 have k5:=HBK2.out.cell 5 _ rfl
 have k6:=HBK2.out.cell 6 _ rfl
 have HC:=hideR (wBlock w0 p c v1 (bs++[x.op%256]) HIH.out x q4 q5 q6 y4 z4 y5 z5 y6 z6 w2 HS2.out HHE.out HA5.out HA6.out HR5.out HR6.out (by have:=HLEN.out;simp only [List.length_append,List.length_cons,List.length_nil] at this ⊢;omega))
 go_wp2_with fail
 refine HC.out.mono ?_
 rintro e w3 ⟨v3,b3,rfl,hh,kk,ha,hl⟩
 have HE:=hideR hh
 have HK3:=hideR (HK2.out.trans kk)
 have HSO:=hideR (((So.refl bs).app [x.op%256]).adds ha hl)
 have HF:Hid (So bs ([x.op%256]++blkB x) b3):=hideR (by have:=HSO.out;simpa using this)
 clear hh kk ha hl HSO HC HS2 HBK2 HK2
 go_wp2
 go_end0
 exact ⟨_,_,rfl,HE.out,HK3.out,HF.out.1,HF.out.2⟩
set_option maxRecDepth 100000 in
set_option maxHeartbeats 4000000 in
theorem wIns1a {I:World->Prop} (C:FormC I) (hI:∀w0 w:World,Below w0.heap.size w0 w->I w0->I w) (w0:World) (p:Nat) (c:Nat->Value) (v:Value) (bs:List Int) {d:Nat} (IH:IS w0 p c d) (x:Ins (IL d)) (q4 q5 q6:Option Addr) (y4 z4 y5 z5 y6 z6:Nat) (w:World) (h:WS w0 p c v bs w) (hI0:I w0) (hf:form x.op=1) (e63:(x.op == 63)=true) (hlen:bs.length+([x.op%256]++[0]).length<=39000000000000):Calls Tryd.prog 70 #[.pointer (some ⟨p,0,none⟩),.agg #[.int .i64 x.op,.int .i64 x.a,.int .i64 x.b,.int .i64 x.n,.slice q4 y4 z4,.slice q5 y5 z5,.slice q6 y6 z6]] w (DoesA w0 p c v w bs ([x.op%256]++[0])):=by
 have HIH:=hideR IH
 clear IH
 have HII:=hideR hI0
 clear hI0 hI
 have hpw:p<w.heap.size:=h.lt
 have hown:∀k,v.ownBlock=some k->k<w.heap.size:=fun k hk=>(h.own.lt k hk).2
 have HBK0:=hideR (Blk.new w w.heap.size x.op x.a x.b x.n (.slice q4 y4 z4) (.slice q5 y5 z5) (.slice q6 y6 z6) rfl)
 obtain ⟨u1,hu1⟩:∃u1,u1=w.alloc (.cells #[.int .i64 x.op,.int .i64 x.a,.int .i64 x.b,.int .i64 x.n,.slice q4 y4 z4,.slice q5 y5 z5,.slice q6 y6 z6] 50):=⟨_,rfl⟩
 have HU:=hideR (new_on' w (.cells #[.int .i64 x.op,.int .i64 x.a,.int .i64 x.b,.int .i64 x.n,.slice q4 y4 z4,.slice q5 y5 z5,.slice q6 y6 z6] 50))
 rw [<- hu1] at HBK0 HU
 have HS0:=hideR (h.on HU.out)
 have HO0:Hid (some w.heap.size≠v.ownBlock):=hideR (fun e=>by have:=hown _ e.symm;omega)
 have HNP:Hid (w.heap.size≠p):=hideR (by omega)
 have HK0:Hid (Kept p v w v u1):=hideR (Kept.below HU.out)
 have HU1:=hideR hu1
 clear h hpw hown HU hu1
 have hlb:bs.length<=39000000000000:=by omega
 have HLEN:=hideR hlen
 clear hlen
 go_enter Tryd.func70,Tryd.ntmps70
 go_upto_region 1 with fail
 rw [<- HU1.out]
 generalize hp3:w.heap.size=p3 at HBK0 HO0 HNP ⊢
 clear HU1
 have k0:=HBK0.out.cell 0 _ rfl
 have HC:=hideR (wPut w0 p c v bs x.op u1 HS0.out (by omega))
 go_wp2_with fail
 refine HC.out.mono ?_
 rintro e w1 ⟨v1,rfl,h1,kk1⟩
 obtain ⟨bb1,bo1⟩:=kk1.box HBK0.out HNP.out HO0.out
 have HS1:=hideR h1
 have HBK1:=hideR bb1
 have HO1:=hideR bo1
 have HK1:=hideR (HK0.out.trans kk1)
 clear h1 kk1 bb1 bo1 HC k0 HS0 HBK0 HO0 HK0
 have k0:=HBK1.out.cell 0 _ rfl
 have HC:=hideR (C.form x.op w1 (C.keep HS1.out.below HII.out))
 rw [hf] at HC
 go_wp2_with fail
 refine HC.out.mono ?_
 rintro e w2 ⟨rfl,hb2⟩
 have HS2:=hideR (HS1.out.on hb2)
 have HBK2:=hideR (HBK1.out.keep (hb2.block p3 HBK1.out.lt))
 have HK2:=hideR (HK1.out.trans (Kept.below hb2))
 clear hb2 HC k0 HS1 HBK1 HK1
 have k0:=HBK2.out.cell 0 _ rfl
 have k1:=HBK2.out.cell 1 _ rfl
 have k2:=HBK2.out.cell 2 _ rfl
 have k3:=HBK2.out.cell 3 _ rfl
 have k4:=HBK2.out.cell 4 _ rfl
 have k5:=HBK2.out.cell 5 _ rfl
 have k6:=HBK2.out.cell 6 _ rfl
 have HC:=hideR (wPut w0 p c v1 (bs++[x.op%256]) 0 w2 HS2.out (by simp only [List.length_append,List.length_cons,List.length_nil];omega))
 go_wp2_with fail
 refine HC.out.mono ?_
 rintro e w3 ⟨v3,rfl,hh,kk⟩
 have HE:=hideR hh
 have HK3:=hideR (HK2.out.trans kk)
 clear hh kk HC HS2 HBK2 HK2
 go_wp2
 go_end0
 exact ⟨_,_,rfl,HE.out,HK3.out,.inl (by simp),by simp⟩
set_option maxRecDepth 100000 in
set_option maxHeartbeats 4000000 in
theorem wIns1b {I:World->Prop} (C:FormC I) (hI:∀w0 w:World,Below w0.heap.size w0 w->I w0->I w) (w0:World) (p:Nat) (c:Nat->Value) (v:Value) (bs:List Int) {d:Nat} (IH:IS w0 p c d) (x:Ins (IL d)) (q4 q5 q6:Option Addr) (y4 z4 y5 z5 y6 z6:Nat) (w:World) (h:WS w0 p c v bs w) (hI0:I w0) (hf:form x.op=1) (e63:(x.op == 63)=false) (e64:(x.op == 64)=true) (hlen:bs.length+([x.op%256]++[0]).length<=39000000000000):Calls Tryd.prog 70 #[.pointer (some ⟨p,0,none⟩),.agg #[.int .i64 x.op,.int .i64 x.a,.int .i64 x.b,.int .i64 x.n,.slice q4 y4 z4,.slice q5 y5 z5,.slice q6 y6 z6]] w (DoesA w0 p c v w bs ([x.op%256]++[0])):=by
 have HIH:=hideR IH
 clear IH
 have HII:=hideR hI0
 clear hI0 hI
 have hpw:p<w.heap.size:=h.lt
 have hown:∀k,v.ownBlock=some k->k<w.heap.size:=fun k hk=>(h.own.lt k hk).2
 have HBK0:=hideR (Blk.new w w.heap.size x.op x.a x.b x.n (.slice q4 y4 z4) (.slice q5 y5 z5) (.slice q6 y6 z6) rfl)
 obtain ⟨u1,hu1⟩:∃u1,u1=w.alloc (.cells #[.int .i64 x.op,.int .i64 x.a,.int .i64 x.b,.int .i64 x.n,.slice q4 y4 z4,.slice q5 y5 z5,.slice q6 y6 z6] 50):=⟨_,rfl⟩
 have HU:=hideR (new_on' w (.cells #[.int .i64 x.op,.int .i64 x.a,.int .i64 x.b,.int .i64 x.n,.slice q4 y4 z4,.slice q5 y5 z5,.slice q6 y6 z6] 50))
 rw [<- hu1] at HBK0 HU
 have HS0:=hideR (h.on HU.out)
 have HO0:Hid (some w.heap.size≠v.ownBlock):=hideR (fun e=>by have:=hown _ e.symm;omega)
 have HNP:Hid (w.heap.size≠p):=hideR (by omega)
 have HK0:Hid (Kept p v w v u1):=hideR (Kept.below HU.out)
 have HU1:=hideR hu1
 clear h hpw hown HU hu1
 have hlb:bs.length<=39000000000000:=by omega
 have HLEN:=hideR hlen
 clear hlen
 go_enter Tryd.func70,Tryd.ntmps70
 go_upto_region 1 with fail
 rw [<- HU1.out]
 generalize hp3:w.heap.size=p3 at HBK0 HO0 HNP ⊢
 clear HU1
 have k0:=HBK0.out.cell 0 _ rfl
 have HC:=hideR (wPut w0 p c v bs x.op u1 HS0.out (by omega))
 go_wp2_with fail
 refine HC.out.mono ?_
 rintro e w1 ⟨v1,rfl,h1,kk1⟩
 obtain ⟨bb1,bo1⟩:=kk1.box HBK0.out HNP.out HO0.out
 have HS1:=hideR h1
 have HBK1:=hideR bb1
 have HO1:=hideR bo1
 have HK1:=hideR (HK0.out.trans kk1)
 clear h1 kk1 bb1 bo1 HC k0 HS0 HBK0 HO0 HK0
 have k0:=HBK1.out.cell 0 _ rfl
 have HC:=hideR (C.form x.op w1 (C.keep HS1.out.below HII.out))
 rw [hf] at HC
 go_wp2_with fail
 refine HC.out.mono ?_
 rintro e w2 ⟨rfl,hb2⟩
 have HS2:=hideR (HS1.out.on hb2)
 have HBK2:=hideR (HBK1.out.keep (hb2.block p3 HBK1.out.lt))
 have HK2:=hideR (HK1.out.trans (Kept.below hb2))
 clear hb2 HC k0 HS1 HBK1 HK1
 have k0:=HBK2.out.cell 0 _ rfl
 have k1:=HBK2.out.cell 1 _ rfl
 have k2:=HBK2.out.cell 2 _ rfl
 have k3:=HBK2.out.cell 3 _ rfl
 have k4:=HBK2.out.cell 4 _ rfl
 have k5:=HBK2.out.cell 5 _ rfl
 have k6:=HBK2.out.cell 6 _ rfl
 have HC:=hideR (wPut w0 p c v1 (bs++[x.op%256]) 0 w2 HS2.out (by simp only [List.length_append,List.length_cons,List.length_nil];omega))
 go_wp2_with fail
 refine HC.out.mono ?_
 rintro e w3 ⟨v3,rfl,hh,kk⟩
 have HE:=hideR hh
 have HK3:=hideR (HK2.out.trans kk)
 clear hh kk HC HS2 HBK2 HK2
 go_wp2
 go_end0
 exact ⟨_,_,rfl,HE.out,HK3.out,.inl (by simp),by simp⟩
end Go.Proofs.YtlcpagiljfpbpaaDoor

