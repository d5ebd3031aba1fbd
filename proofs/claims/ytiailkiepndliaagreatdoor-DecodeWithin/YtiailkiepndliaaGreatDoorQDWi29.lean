/- Texts that the claim needs. -/
import Derived.Test.YtiailkiepndliaaGreatDoorQDWi28
namespace Go.Proofs.YtiailkiepndliaaGreatDoor
open Go.RowKit Rep Enc Go.Lib
set_option linter.unusedVariables false
namespace Enc
def IS (w0:World) (p:Nat) (c:Nat->Value) (d:Nat):Prop:=∀(lv:Value) (l:IL d) (v:Value) (bs:List Int) (w:World),WS w0 p c v bs w->At w0 d lv l->Rg d l->bs.length+(bytesI d l).length<=39000000000000 ->
 Calls Tryz.prog 34 #[.pointer (some ⟨p,0,none⟩),lv] w (DoesA w0 p c v w bs (bytesI d l))
def So (bs add b:List Int):Prop:=Adds bs add b/\b.length<=bs.length+add.length
theorem So.refl (bs:List Int):So bs [] bs:=⟨Adds.refl bs,by simp⟩
theorem So.app {bs add b:List Int} (h:So bs add b) (x:List Int):So bs (add++x) (b++x):=⟨h.1.trans (.inl rfl),by have:=h.2;simp only [List.length_append];omega⟩
theorem So.adds {bs add b b' x:List Int} (h:So bs add b) (h':Adds b x b') (hl:b'.length<=b.length+x.length):So bs (add++x) b':=⟨h.1.trans h',by have:=h.2;simp only [List.length_append];omega⟩
def blkB {d:Nat} (x:Ins (IL d)):List Int:=(if x.a=0 then [64] else [x.a%256])++bytesI d x.body++(if 0<size d x.els then [5]++bytesI d x.els else [])++[11]
end Enc
set_option maxRecDepth 100000 in
set_option maxHeartbeats 4000000 in
theorem wBlk00 (w0:World) (p:Nat) (c:Nat->Value) (v:Value) (bs:List Int) {d:Nat} (IH:IS w0 p c d) (x:Ins (IL d)) (q4 q5 q6:Option Addr) (y4 z4 y5 z5 y6 z6:Nat) (w:World) (h:WS w0 p c v bs w) (hx:x.a=0) (he:size d x.els=y6) (hy:y6=0) (a5:At w0 d (.slice q5 y5 z5) x.body) (a6:At w0 d (.slice q6 y6 z6) x.els) (r5:Rg d x.body) (r6:Rg d x.els) (hlen:bs.length+([64]++bytesI d x.body++[11]).length<=39000000000000):Calls Tryz.prog 79 #[.pointer (some ⟨p,0,none⟩),.agg #[.int .i64 x.op,.int .i64 x.a,.int .i64 x.b,.int .i64 x.n,.slice q4 y4 z4,.slice q5 y5 z5,.slice q6 y6 z6]] w (DoesA w0 p c v w bs ([64]++bytesI d x.body++[11])):=by
 have HA5:=hideR a5
 have HA6:=hideR a6
 have HR5:=hideR r5
 have HR6:=hideR r6
 have HIH:=hideR IH
 have HRES:Hid ([64]++bytesI d x.body++[11] = [64]++bytesI d x.body++[11]):=hideR rfl
 clear a5 a6 r5 r6 IH
 have e0:(x.a == 0)=true:=by simp [hx]
 have hy1:y6<1:=by omega
 clear hx hy he
 have hpw:p<w.heap.size:=h.lt
 have hown:∀k,v.ownBlock=some k->k<w.heap.size:=fun k hk=>(h.own.lt k hk).2
 have HBK0:=hideR (Blk.new w w.heap.size x.op x.a x.b x.n (.slice q4 y4 z4) (.slice q5 y5 z5) (.slice q6 y6 z6) rfl)
 obtain ⟨u1,hu1⟩:∃u1,u1=w.alloc (.cells #[.int .i64 x.op,.int .i64 x.a,.int .i64 x.b,.int .i64 x.n,.slice q4 y4 z4,.slice q5 y5 z5,.slice q6 y6 z6] 50):=⟨_,rfl⟩
 have HU:=hideR (new_on' w (.cells #[.int .i64 x.op,.int .i64 x.a,.int .i64 x.b,.int .i64 x.n,.slice q4 y4 z4,.slice q5 y5 z5,.slice q6 y6 z6] 50))
 rw [<- hu1] at HBK0 HU
 have HS0:=hideR (h.on HU.out)
 have HO0:Hid (some w.heap.size≠v.ownBlock):=hideR (fun e=>by have:=hown _ e.symm;omega)
 have HNP:Hid (w.heap.size≠p):=hideR (by omega)
 have HK0:Hid (Kept p v w v u1):=hideR (Kept.below HU.out)
 have HSO0:Hid (So bs [] bs):=hideR (So.refl bs)
 have HU1:=hideR hu1
 clear h hpw hown HU hu1
 go_enter Tryz.func79,Tryz.ntmps79
 go_upto_region 1 with fail
 rw [<- HU1.out]
 generalize hp3:w.heap.size=p3 at HBK0 HO0 HNP ⊢
 clear HU1
 have k0:=HBK0.out.cell 0 _ rfl
 have k1:=HBK0.out.cell 1 _ rfl
 have k2:=HBK0.out.cell 2 _ rfl
 have k3:=HBK0.out.cell 3 _ rfl
 have k4:=HBK0.out.cell 4 _ rfl
 have k5:=HBK0.out.cell 5 _ rfl
 have k6:=HBK0.out.cell 6 _ rfl
 have HC:=hideR (wPut w0 p c v bs 64 u1 HS0.out (by have:=HSO0.out.2;simp only [List.length_append,List.length_cons,List.length_nil] at this hlen ⊢;omega))
 go_wp2_with fail
 refine HC.out.mono ?_
 rintro e w1 ⟨v1,rfl,hh,kk⟩
 have HSO1:=hideR (HSO0.out.app ([64%256]))
 obtain ⟨b1,hb1⟩:∃b,b=bs++([64%256]):=⟨_,rfl⟩
 rw [<- hb1] at hh HSO1
 clear hb1
 obtain ⟨bb,bo⟩:=kk.box HBK0.out HNP.out HO0.out
 have HS1:=hideR hh
 have HBK1:=hideR bb
 have HO1:=hideR bo
 have HK1:=hideR (HK0.out.trans kk)
 clear hh kk bb bo HC HS0 HBK0 HK0 HO0 k0 k1 k2 k3 k4 k5 k6
 have k0:=HBK1.out.cell 0 _ rfl
 have k1:=HBK1.out.cell 1 _ rfl
 have k2:=HBK1.out.cell 2 _ rfl
 have k3:=HBK1.out.cell 3 _ rfl
 have k4:=HBK1.out.cell 4 _ rfl
 have k5:=HBK1.out.cell 5 _ rfl
 have k6:=HBK1.out.cell 6 _ rfl
 have HC:=hideR (HIH.out _ x.body v1 b1 w1 HS1.out HA5.out HR5.out (by have:=HSO1.out.2;simp only [List.length_append,List.length_cons,List.length_nil] at this hlen ⊢;omega))
 go_wp2_with fail
 refine HC.out.mono ?_
 rintro e w2 ⟨v2,b2,rfl,hh,kk,ha,hl⟩
 have HSO2:=hideR (HSO1.out.adds ha hl)
 clear ha hl
 obtain ⟨bb,bo⟩:=kk.box HBK1.out HNP.out HO1.out
 have HS2:=hideR hh
 have HBK2:=hideR bb
 have HO2:=hideR bo
 have HK2:=hideR (HK1.out.trans kk)
 clear hh kk bb bo HC HS1 HBK1 HK1 HO1 k0 k1 k2 k3 k4 k5 k6
 have k0:=HBK2.out.cell 0 _ rfl
 have k1:=HBK2.out.cell 1 _ rfl
 have k2:=HBK2.out.cell 2 _ rfl
 have k3:=HBK2.out.cell 3 _ rfl
 have k4:=HBK2.out.cell 4 _ rfl
 have k5:=HBK2.out.cell 5 _ rfl
 have k6:=HBK2.out.cell 6 _ rfl
 have HC:=hideR (wPut w0 p c v2 b2 11 w2 HS2.out (by have:=HSO2.out.2;simp only [List.length_append,List.length_cons,List.length_nil] at this hlen ⊢;omega))
 go_wp2_with fail
 refine HC.out.mono ?_
 rintro e w3 ⟨v3,rfl,hh,kk⟩
 have HSO3:=hideR (HSO2.out.app ([11%256]))
 obtain ⟨b3,hb3⟩:∃b,b=b2++([11%256]):=⟨_,rfl⟩
 rw [<- hb3] at hh HSO3
 clear hb3
 obtain ⟨bb,bo⟩:=kk.box HBK2.out HNP.out HO2.out
 have HS3:=hideR hh
 have HBK3:=hideR bb
 have HO3:=hideR bo
 have HK3:=hideR (HK2.out.trans kk)
 clear hh kk bb bo HC HS2 HBK2 HK2 HO2 k0 k1 k2 k3 k4 k5 k6
 have HF:Hid (So bs ([64]++bytesI d x.body++[11]) b3):=hideR (by have:=HSO3.out;simpa using this)
 go_wp2
 go_end0
 exact ⟨_,_,rfl,HS3.out,HK3.out,HF.out.1,HF.out.2⟩
set_option maxRecDepth 100000 in
set_option maxHeartbeats 4000000 in
theorem wBlk01 (w0:World) (p:Nat) (c:Nat->Value) (v:Value) (bs:List Int) {d:Nat} (IH:IS w0 p c d) (x:Ins (IL d)) (q4 q5 q6:Option Addr) (y4 z4 y5 z5 y6 z6:Nat) (w:World) (h:WS w0 p c v bs w) (hx:x.a=0) (he:size d x.els=y6) (hy:0<y6) (a5:At w0 d (.slice q5 y5 z5) x.body) (a6:At w0 d (.slice q6 y6 z6) x.els) (r5:Rg d x.body) (r6:Rg d x.els) (hlen:bs.length+([64]++bytesI d x.body++[5]++bytesI d x.els++[11]).length<=39000000000000):Calls Tryz.prog 79 #[.pointer (some ⟨p,0,none⟩),.agg #[.int .i64 x.op,.int .i64 x.a,.int .i64 x.b,.int .i64 x.n,.slice q4 y4 z4,.slice q5 y5 z5,.slice q6 y6 z6]] w (DoesA w0 p c v w bs ([64]++bytesI d x.body++[5]++bytesI d x.els++[11])):=by
 have HA5:=hideR a5
 have HA6:=hideR a6
 have HR5:=hideR r5
 have HR6:=hideR r6
 have HIH:=hideR IH
 have HRES:Hid ([64]++bytesI d x.body++[5]++bytesI d x.els++[11] = [64]++bytesI d x.body++[5]++bytesI d x.els++[11]):=hideR rfl
 clear a5 a6 r5 r6 IH
 have e0:(x.a == 0)=true:=by simp [hx]
 clear hx he
 have hpw:p<w.heap.size:=h.lt
 have hown:∀k,v.ownBlock=some k->k<w.heap.size:=fun k hk=>(h.own.lt k hk).2
 have HBK0:=hideR (Blk.new w w.heap.size x.op x.a x.b x.n (.slice q4 y4 z4) (.slice q5 y5 z5) (.slice q6 y6 z6) rfl)
 obtain ⟨u1,hu1⟩:∃u1,u1=w.alloc (.cells #[.int .i64 x.op,.int .i64 x.a,.int .i64 x.b,.int .i64 x.n,.slice q4 y4 z4,.slice q5 y5 z5,.slice q6 y6 z6] 50):=⟨_,rfl⟩
 have HU:=hideR (new_on' w (.cells #[.int .i64 x.op,.int .i64 x.a,.int .i64 x.b,.int .i64 x.n,.slice q4 y4 z4,.slice q5 y5 z5,.slice q6 y6 z6] 50))
 rw [<- hu1] at HBK0 HU
 have HS0:=hideR (h.on HU.out)
 have HO0:Hid (some w.heap.size≠v.ownBlock):=hideR (fun e=>by have:=hown _ e.symm;omega)
 have HNP:Hid (w.heap.size≠p):=hideR (by omega)
 have HK0:Hid (Kept p v w v u1):=hideR (Kept.below HU.out)
 have HSO0:Hid (So bs [] bs):=hideR (So.refl bs)
 have HU1:=hideR hu1
 clear h hpw hown HU hu1
 go_enter Tryz.func79,Tryz.ntmps79
 go_upto_region 1 with fail
 rw [<- HU1.out]
 generalize hp3:w.heap.size=p3 at HBK0 HO0 HNP ⊢
 clear HU1
 have k0:=HBK0.out.cell 0 _ rfl
 have k1:=HBK0.out.cell 1 _ rfl
 have k2:=HBK0.out.cell 2 _ rfl
 have k3:=HBK0.out.cell 3 _ rfl
 have k4:=HBK0.out.cell 4 _ rfl
 have k5:=HBK0.out.cell 5 _ rfl
 have k6:=HBK0.out.cell 6 _ rfl
 have HC:=hideR (wPut w0 p c v bs 64 u1 HS0.out (by have:=HSO0.out.2;simp only [List.length_append,List.length_cons,List.length_nil] at this hlen ⊢;omega))
 go_wp2_with fail
 refine HC.out.mono ?_
 rintro e w1 ⟨v1,rfl,hh,kk⟩
 have HSO1:=hideR (HSO0.out.app ([64%256]))
 obtain ⟨b1,hb1⟩:∃b,b=bs++([64%256]):=⟨_,rfl⟩
 rw [<- hb1] at hh HSO1
 clear hb1
 obtain ⟨bb,bo⟩:=kk.box HBK0.out HNP.out HO0.out
 have HS1:=hideR hh
 have HBK1:=hideR bb
 have HO1:=hideR bo
 have HK1:=hideR (HK0.out.trans kk)
 clear hh kk bb bo HC HS0 HBK0 HK0 HO0 k0 k1 k2 k3 k4 k5 k6
 have k0:=HBK1.out.cell 0 _ rfl
 have k1:=HBK1.out.cell 1 _ rfl
 have k2:=HBK1.out.cell 2 _ rfl
 have k3:=HBK1.out.cell 3 _ rfl
 have k4:=HBK1.out.cell 4 _ rfl
 have k5:=HBK1.out.cell 5 _ rfl
 have k6:=HBK1.out.cell 6 _ rfl
 have HC:=hideR (HIH.out _ x.body v1 b1 w1 HS1.out HA5.out HR5.out (by have:=HSO1.out.2;simp only [List.length_append,List.length_cons,List.length_nil] at this hlen ⊢;omega))
 go_wp2_with fail
 refine HC.out.mono ?_
 rintro e w2 ⟨v2,b2,rfl,hh,kk,ha,hl⟩
 have HSO2:=hideR (HSO1.out.adds ha hl)
 clear ha hl
 obtain ⟨bb,bo⟩:=kk.box HBK1.out HNP.out HO1.out
 have HS2:=hideR hh
 have HBK2:=hideR bb
 have HO2:=hideR bo
 have HK2:=hideR (HK1.out.trans kk)
 clear hh kk bb bo HC HS1 HBK1 HK1 HO1 k0 k1 k2 k3 k4 k5 k6
 have k0:=HBK2.out.cell 0 _ rfl
 have k1:=HBK2.out.cell 1 _ rfl
 have k2:=HBK2.out.cell 2 _ rfl
 have k3:=HBK2.out.cell 3 _ rfl
 have k4:=HBK2.out.cell 4 _ rfl
 have k5:=HBK2.out.cell 5 _ rfl
 have k6:=HBK2.out.cell 6 _ rfl
 have HC:=hideR (wPut w0 p c v2 b2 5 w2 HS2.out (by have:=HSO2.out.2;simp only [List.length_append,List.length_cons,List.length_nil] at this hlen ⊢;omega))
 go_wp2_with fail
 refine HC.out.mono ?_
 rintro e w3 ⟨v3,rfl,hh,kk⟩
 have HSO3:=hideR (HSO2.out.app ([5%256]))
 obtain ⟨b3,hb3⟩:∃b,b=b2++([5%256]):=⟨_,rfl⟩
 rw [<- hb3] at hh HSO3
 clear hb3
 obtain ⟨bb,bo⟩:=kk.box HBK2.out HNP.out HO2.out
 have HS3:=hideR hh
 have HBK3:=hideR bb
 have HO3:=hideR bo
 have HK3:=hideR (HK2.out.trans kk)
 clear hh kk bb bo HC HS2 HBK2 HK2 HO2 k0 k1 k2 k3 k4 k5 k6
 have k0:=HBK3.out.cell 0 _ rfl
 have k1:=HBK3.out.cell 1 _ rfl
 have k2:=HBK3.out.cell 2 _ rfl
 have k3:=HBK3.out.cell 3 _ rfl
 have k4:=HBK3.out.cell 4 _ rfl
 have k5:=HBK3.out.cell 5 _ rfl
 have k6:=HBK3.out.cell 6 _ rfl
 have HC:=hideR (HIH.out _ x.els v3 b3 w3 HS3.out HA6.out HR6.out (by have:=HSO3.out.2;simp only [List.length_append,List.length_cons,List.length_nil] at this hlen ⊢;omega))
 go_wp2_with fail
 refine HC.out.mono ?_
 rintro e w4 ⟨v4,b4,rfl,hh,kk,ha,hl⟩
 have HSO4:=hideR (HSO3.out.adds ha hl)
 clear ha hl
 obtain ⟨bb,bo⟩:=kk.box HBK3.out HNP.out HO3.out
 have HS4:=hideR hh
 have HBK4:=hideR bb
 have HO4:=hideR bo
 have HK4:=hideR (HK3.out.trans kk)
 clear hh kk bb bo HC HS3 HBK3 HK3 HO3 k0 k1 k2 k3 k4 k5 k6
 have k0:=HBK4.out.cell 0 _ rfl
 have k1:=HBK4.out.cell 1 _ rfl
 have k2:=HBK4.out.cell 2 _ rfl
 have k3:=HBK4.out.cell 3 _ rfl
 have k4:=HBK4.out.cell 4 _ rfl
 have k5:=HBK4.out.cell 5 _ rfl
 have k6:=HBK4.out.cell 6 _ rfl
 have HC:=hideR (wPut w0 p c v4 b4 11 w4 HS4.out (by have:=HSO4.out.2;simp only [List.length_append,List.length_cons,List.length_nil] at this hlen ⊢;omega))
 go_wp2_with fail
 refine HC.out.mono ?_
 rintro e w5 ⟨v5,rfl,hh,kk⟩
 have HSO5:=hideR (HSO4.out.app ([11%256]))
 obtain ⟨b5,hb5⟩:∃b,b=b4++([11%256]):=⟨_,rfl⟩
 rw [<- hb5] at hh HSO5
 clear hb5
 obtain ⟨bb,bo⟩:=kk.box HBK4.out HNP.out HO4.out
 have HS5:=hideR hh
 have HBK5:=hideR bb
 have HO5:=hideR bo
 have HK5:=hideR (HK4.out.trans kk)
 clear hh kk bb bo HC HS4 HBK4 HK4 HO4 k0 k1 k2 k3 k4 k5 k6
 have HF:Hid (So bs ([64]++bytesI d x.body++[5]++bytesI d x.els++[11]) b5):=hideR (by have:=HSO5.out;simpa using this)
 go_wp2
 go_end0
 exact ⟨_,_,rfl,HS5.out,HK5.out,HF.out.1,HF.out.2⟩
set_option maxRecDepth 100000 in
set_option maxHeartbeats 4000000 in
theorem wBlk10 (w0:World) (p:Nat) (c:Nat->Value) (v:Value) (bs:List Int) {d:Nat} (IH:IS w0 p c d) (x:Ins (IL d)) (q4 q5 q6:Option Addr) (y4 z4 y5 z5 y6 z6:Nat) (w:World) (h:WS w0 p c v bs w) (hx:x.a≠0) (he:size d x.els=y6) (hy:y6=0) (a5:At w0 d (.slice q5 y5 z5) x.body) (a6:At w0 d (.slice q6 y6 z6) x.els) (r5:Rg d x.body) (r6:Rg d x.els) (hlen:bs.length+([x.a%256]++bytesI d x.body++[11]).length<=39000000000000):Calls Tryz.prog 79 #[.pointer (some ⟨p,0,none⟩),.agg #[.int .i64 x.op,.int .i64 x.a,.int .i64 x.b,.int .i64 x.n,.slice q4 y4 z4,.slice q5 y5 z5,.slice q6 y6 z6]] w (DoesA w0 p c v w bs ([x.a%256]++bytesI d x.body++[11])):=by
 have HA5:=hideR a5
 have HA6:=hideR a6
 have HR5:=hideR r5
 have HR6:=hideR r6
 have HIH:=hideR IH
 have HRES:Hid ([x.a%256]++bytesI d x.body++[11] = [x.a%256]++bytesI d x.body++[11]):=hideR rfl
 clear a5 a6 r5 r6 IH
 have e0:(x.a == 0)=false:=by simpa using hx
 have hy1:y6<1:=by omega
 clear hx hy he
 have hpw:p<w.heap.size:=h.lt
 have hown:∀k,v.ownBlock=some k->k<w.heap.size:=fun k hk=>(h.own.lt k hk).2
 have HBK0:=hideR (Blk.new w w.heap.size x.op x.a x.b x.n (.slice q4 y4 z4) (.slice q5 y5 z5) (.slice q6 y6 z6) rfl)
 obtain ⟨u1,hu1⟩:∃u1,u1=w.alloc (.cells #[.int .i64 x.op,.int .i64 x.a,.int .i64 x.b,.int .i64 x.n,.slice q4 y4 z4,.slice q5 y5 z5,.slice q6 y6 z6] 50):=⟨_,rfl⟩
 have HU:=hideR (new_on' w (.cells #[.int .i64 x.op,.int .i64 x.a,.int .i64 x.b,.int .i64 x.n,.slice q4 y4 z4,.slice q5 y5 z5,.slice q6 y6 z6] 50))
 rw [<- hu1] at HBK0 HU
 have HS0:=hideR (h.on HU.out)
 have HO0:Hid (some w.heap.size≠v.ownBlock):=hideR (fun e=>by have:=hown _ e.symm;omega)
 have HNP:Hid (w.heap.size≠p):=hideR (by omega)
 have HK0:Hid (Kept p v w v u1):=hideR (Kept.below HU.out)
 have HSO0:Hid (So bs [] bs):=hideR (So.refl bs)
 have HU1:=hideR hu1
 clear h hpw hown HU hu1
 go_enter Tryz.func79,Tryz.ntmps79
 go_upto_region 1 with fail
 rw [<- HU1.out]
 generalize hp3:w.heap.size=p3 at HBK0 HO0 HNP ⊢
 clear HU1
 have k0:=HBK0.out.cell 0 _ rfl
 have k1:=HBK0.out.cell 1 _ rfl
 have k2:=HBK0.out.cell 2 _ rfl
 have k3:=HBK0.out.cell 3 _ rfl
 have k4:=HBK0.out.cell 4 _ rfl
 have k5:=HBK0.out.cell 5 _ rfl
 have k6:=HBK0.out.cell 6 _ rfl
 have HC:=hideR (wPut w0 p c v bs x.a u1 HS0.out (by have:=HSO0.out.2;simp only [List.length_append,List.length_cons,List.length_nil] at this hlen ⊢;omega))
 go_wp2_with fail
 refine HC.out.mono ?_
 rintro e w1 ⟨v1,rfl,hh,kk⟩
 have HSO1:=hideR (HSO0.out.app ([x.a%256]))
 obtain ⟨b1,hb1⟩:∃b,b=bs++([x.a%256]):=⟨_,rfl⟩
 rw [<- hb1] at hh HSO1
 clear hb1
 obtain ⟨bb,bo⟩:=kk.box HBK0.out HNP.out HO0.out
 have HS1:=hideR hh
 have HBK1:=hideR bb
 have HO1:=hideR bo
 have HK1:=hideR (HK0.out.trans kk)
 clear hh kk bb bo HC HS0 HBK0 HK0 HO0 k0 k1 k2 k3 k4 k5 k6
 have k0:=HBK1.out.cell 0 _ rfl
 have k1:=HBK1.out.cell 1 _ rfl
 have k2:=HBK1.out.cell 2 _ rfl
 have k3:=HBK1.out.cell 3 _ rfl
 have k4:=HBK1.out.cell 4 _ rfl
 have k5:=HBK1.out.cell 5 _ rfl
 have k6:=HBK1.out.cell 6 _ rfl
 have HC:=hideR (HIH.out _ x.body v1 b1 w1 HS1.out HA5.out HR5.out (by have:=HSO1.out.2;simp only [List.length_append,List.length_cons,List.length_nil] at this hlen ⊢;omega))
 go_wp2_with fail
 refine HC.out.mono ?_
 rintro e w2 ⟨v2,b2,rfl,hh,kk,ha,hl⟩
 have HSO2:=hideR (HSO1.out.adds ha hl)
 clear ha hl
 obtain ⟨bb,bo⟩:=kk.box HBK1.out HNP.out HO1.out
 have HS2:=hideR hh
 have HBK2:=hideR bb
 have HO2:=hideR bo
 have HK2:=hideR (HK1.out.trans kk)
 clear hh kk bb bo HC HS1 HBK1 HK1 HO1 k0 k1 k2 k3 k4 k5 k6
 have k0:=HBK2.out.cell 0 _ rfl
 have k1:=HBK2.out.cell 1 _ rfl
 have k2:=HBK2.out.cell 2 _ rfl
 have k3:=HBK2.out.cell 3 _ rfl
 have k4:=HBK2.out.cell 4 _ rfl
 have k5:=HBK2.out.cell 5 _ rfl
 have k6:=HBK2.out.cell 6 _ rfl
 have HC:=hideR (wPut w0 p c v2 b2 11 w2 HS2.out (by have:=HSO2.out.2;simp only [List.length_append,List.length_cons,List.length_nil] at this hlen ⊢;omega))
 go_wp2_with fail
 refine HC.out.mono ?_
 rintro e w3 ⟨v3,rfl,hh,kk⟩
 have HSO3:=hideR (HSO2.out.app ([11%256]))
 obtain ⟨b3,hb3⟩:∃b,b=b2++([11%256]):=⟨_,rfl⟩
 rw [<- hb3] at hh HSO3
 clear hb3
 obtain ⟨bb,bo⟩:=kk.box HBK2.out HNP.out HO2.out
 have HS3:=hideR hh
 have HBK3:=hideR bb
 have HO3:=hideR bo
 have HK3:=hideR (HK2.out.trans kk)
 clear hh kk bb bo HC HS2 HBK2 HK2 HO2 k0 k1 k2 k3 k4 k5 k6
 have HF:Hid (So bs ([x.a%256]++bytesI d x.body++[11]) b3):=hideR (by have:=HSO3.out;simpa using this)
 go_wp2
 go_end0
 exact ⟨_,_,rfl,HS3.out,HK3.out,HF.out.1,HF.out.2⟩
set_option maxRecDepth 100000 in
set_option maxHeartbeats 4000000 in
theorem wBlk11 (w0:World) (p:Nat) (c:Nat->Value) (v:Value) (bs:List Int) {d:Nat} (IH:IS w0 p c d) (x:Ins (IL d)) (q4 q5 q6:Option Addr) (y4 z4 y5 z5 y6 z6:Nat) (w:World) (h:WS w0 p c v bs w) (hx:x.a≠0) (he:size d x.els=y6) (hy:0<y6) (a5:At w0 d (.slice q5 y5 z5) x.body) (a6:At w0 d (.slice q6 y6 z6) x.els) (r5:Rg d x.body) (r6:Rg d x.els) (hlen:bs.length+([x.a%256]++bytesI d x.body++[5]++bytesI d x.els++[11]).length<=39000000000000):Calls Tryz.prog 79 #[.pointer (some ⟨p,0,none⟩),.agg #[.int .i64 x.op,.int .i64 x.a,.int .i64 x.b,.int .i64 x.n,.slice q4 y4 z4,.slice q5 y5 z5,.slice q6 y6 z6]] w (DoesA w0 p c v w bs ([x.a%256]++bytesI d x.body++[5]++bytesI d x.els++[11])):=by
 have HA5:=hideR a5
 have HA6:=hideR a6
 have HR5:=hideR r5
 have HR6:=hideR r6
 have HIH:=hideR IH
 have HRES:Hid ([x.a%256]++bytesI d x.body++[5]++bytesI d x.els++[11] = [x.a%256]++bytesI d x.body++[5]++bytesI d x.els++[11]):=hideR rfl
 clear a5 a6 r5 r6 IH
 have e0:(x.a == 0)=false:=by simpa using hx
 clear hx he
 have hpw:p<w.heap.size:=h.lt
 have hown:∀k,v.ownBlock=some k->k<w.heap.size:=fun k hk=>(h.own.lt k hk).2
 have HBK0:=hideR (Blk.new w w.heap.size x.op x.a x.b x.n (.slice q4 y4 z4) (.slice q5 y5 z5) (.slice q6 y6 z6) rfl)
 obtain ⟨u1,hu1⟩:∃u1,u1=w.alloc (.cells #[.int .i64 x.op,.int .i64 x.a,.int .i64 x.b,.int .i64 x.n,.slice q4 y4 z4,.slice q5 y5 z5,.slice q6 y6 z6] 50):=⟨_,rfl⟩
 have HU:=hideR (new_on' w (.cells #[.int .i64 x.op,.int .i64 x.a,.int .i64 x.b,.int .i64 x.n,.slice q4 y4 z4,.slice q5 y5 z5,.slice q6 y6 z6] 50))
 rw [<- hu1] at HBK0 HU
 have HS0:=hideR (h.on HU.out)
 have HO0:Hid (some w.heap.size≠v.ownBlock):=hideR (fun e=>by have:=hown _ e.symm;omega)
 have HNP:Hid (w.heap.size≠p):=hideR (by omega)
 have HK0:Hid (Kept p v w v u1):=hideR (Kept.below HU.out)
 have HSO0:Hid (So bs [] bs):=hideR (So.refl bs)
 have HU1:=hideR hu1
 clear h hpw hown HU hu1
 go_enter Tryz.func79,Tryz.ntmps79
 go_upto_region 1 with fail
 rw [<- HU1.out]
 generalize hp3:w.heap.size=p3 at HBK0 HO0 HNP ⊢
 clear HU1
 have k0:=HBK0.out.cell 0 _ rfl
 have k1:=HBK0.out.cell 1 _ rfl
 have k2:=HBK0.out.cell 2 _ rfl
 have k3:=HBK0.out.cell 3 _ rfl
 have k4:=HBK0.out.cell 4 _ rfl
 have k5:=HBK0.out.cell 5 _ rfl
 have k6:=HBK0.out.cell 6 _ rfl
 have HC:=hideR (wPut w0 p c v bs x.a u1 HS0.out (by have:=HSO0.out.2;simp only [List.length_append,List.length_cons,List.length_nil] at this hlen ⊢;omega))
 go_wp2_with fail
 refine HC.out.mono ?_
 rintro e w1 ⟨v1,rfl,hh,kk⟩
 have HSO1:=hideR (HSO0.out.app ([x.a%256]))
 obtain ⟨b1,hb1⟩:∃b,b=bs++([x.a%256]):=⟨_,rfl⟩
 rw [<- hb1] at hh HSO1
 clear hb1
 obtain ⟨bb,bo⟩:=kk.box HBK0.out HNP.out HO0.out
 have HS1:=hideR hh
 have HBK1:=hideR bb
 have HO1:=hideR bo
 have HK1:=hideR (HK0.out.trans kk)
 clear hh kk bb bo HC HS0 HBK0 HK0 HO0 k0 k1 k2 k3 k4 k5 k6
 have k0:=HBK1.out.cell 0 _ rfl
 have k1:=HBK1.out.cell 1 _ rfl
 have k2:=HBK1.out.cell 2 _ rfl
 have k3:=HBK1.out.cell 3 _ rfl
 have k4:=HBK1.out.cell 4 _ rfl
 have k5:=HBK1.out.cell 5 _ rfl
 have k6:=HBK1.out.cell 6 _ rfl
 have HC:=hideR (HIH.out _ x.body v1 b1 w1 HS1.out HA5.out HR5.out (by have:=HSO1.out.2;simp only [List.length_append,List.length_cons,List.length_nil] at this hlen ⊢;omega))
 go_wp2_with fail
 refine HC.out.mono ?_
 rintro e w2 ⟨v2,b2,rfl,hh,kk,ha,hl⟩
 have HSO2:=hideR (HSO1.out.adds ha hl)
 clear ha hl
 obtain ⟨bb,bo⟩:=kk.box HBK1.out HNP.out HO1.out
 have HS2:=hideR hh
 have HBK2:=hideR bb
 have HO2:=hideR bo
 have HK2:=hideR (HK1.out.trans kk)
 clear hh kk bb bo HC HS1 HBK1 HK1 HO1 k0 k1 k2 k3 k4 k5 k6
 have k0:=HBK2.out.cell 0 _ rfl
 have k1:=HBK2.out.cell 1 _ rfl
 have k2:=HBK2.out.cell 2 _ rfl
 have k3:=HBK2.out.cell 3 _ rfl
 have k4:=HBK2.out.cell 4 _ rfl
 have k5:=HBK2.out.cell 5 _ rfl
 have k6:=HBK2.out.cell 6 _ rfl
 have HC:=hideR (wPut w0 p c v2 b2 5 w2 HS2.out (by have:=HSO2.out.2;simp only [List.length_append,List.length_cons,List.length_nil] at this hlen ⊢;omega))
 go_wp2_with fail
 refine HC.out.mono ?_
 rintro e w3 ⟨v3,rfl,hh,kk⟩
 have HSO3:=hideR (HSO2.out.app ([5%256]))
 obtain ⟨b3,hb3⟩:∃b,b=b2++([5%256]):=⟨_,rfl⟩
 rw [<- hb3] at hh HSO3
 clear hb3
 obtain ⟨bb,bo⟩:=kk.box HBK2.out HNP.out HO2.out
 have HS3:=hideR hh
 have HBK3:=hideR bb
 have HO3:=hideR bo
 have HK3:=hideR (HK2.out.trans kk)
 clear hh kk bb bo HC HS2 HBK2 HK2 HO2 k0 k1 k2 k3 k4 k5 k6
 have k0:=HBK3.out.cell 0 _ rfl
 have k1:=HBK3.out.cell 1 _ rfl
 have k2:=HBK3.out.cell 2 _ rfl
 have k3:=HBK3.out.cell 3 _ rfl
 have k4:=HBK3.out.cell 4 _ rfl
 have k5:=HBK3.out.cell 5 _ rfl
 have k6:=HBK3.out.cell 6 _ rfl
 have HC:=hideR (HIH.out _ x.els v3 b3 w3 HS3.out HA6.out HR6.out (by have:=HSO3.out.2;simp only [List.length_append,List.length_cons,List.length_nil] at this hlen ⊢;omega))
 go_wp2_with fail
 refine HC.out.mono ?_
 rintro e w4 ⟨v4,b4,rfl,hh,kk,ha,hl⟩
 have HSO4:=hideR (HSO3.out.adds ha hl)
 clear ha hl
 obtain ⟨bb,bo⟩:=kk.box HBK3.out HNP.out HO3.out
 have HS4:=hideR hh
 have HBK4:=hideR bb
 have HO4:=hideR bo
 have HK4:=hideR (HK3.out.trans kk)
 clear hh kk bb bo HC HS3 HBK3 HK3 HO3 k0 k1 k2 k3 k4 k5 k6
 have k0:=HBK4.out.cell 0 _ rfl
 have k1:=HBK4.out.cell 1 _ rfl
 have k2:=HBK4.out.cell 2 _ rfl
 have k3:=HBK4.out.cell 3 _ rfl
 have k4:=HBK4.out.cell 4 _ rfl
 have k5:=HBK4.out.cell 5 _ rfl
 have k6:=HBK4.out.cell 6 _ rfl
 have HC:=hideR (wPut w0 p c v4 b4 11 w4 HS4.out (by have:=HSO4.out.2;simp only [List.length_append,List.length_cons,List.length_nil] at this hlen ⊢;omega))
 go_wp2_with fail
 refine HC.out.mono ?_
 rintro e w5 ⟨v5,rfl,hh,kk⟩
 have HSO5:=hideR (HSO4.out.app ([11%256]))
 obtain ⟨b5,hb5⟩:∃b,b=b4++([11%256]):=⟨_,rfl⟩
 rw [<- hb5] at hh HSO5
 clear hb5
 obtain ⟨bb,bo⟩:=kk.box HBK4.out HNP.out HO4.out
 have HS5:=hideR hh
 have HBK5:=hideR bb
 have HO5:=hideR bo
 have HK5:=hideR (HK4.out.trans kk)
 clear hh kk bb bo HC HS4 HBK4 HK4 HO4 k0 k1 k2 k3 k4 k5 k6
 have HF:Hid (So bs ([x.a%256]++bytesI d x.body++[5]++bytesI d x.els++[11]) b5):=hideR (by have:=HSO5.out;simpa using this)
 go_wp2
 go_end0
 exact ⟨_,_,rfl,HS5.out,HK5.out,HF.out.1,HF.out.2⟩
end Go.Proofs.YtiailkiepndliaaGreatDoor

