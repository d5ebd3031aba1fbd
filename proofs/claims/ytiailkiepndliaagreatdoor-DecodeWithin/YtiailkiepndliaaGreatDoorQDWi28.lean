/- Texts that the claim needs. -/
import Derived.Test.YtiailkiepndliaaGreatDoorQDWi27
import Derived.Test.YtiailkiepndliaaGreatDoorQDWi26
import Derived.Test.YtiailkiepndliaaGreatDoorQDWi22
namespace Go.Proofs.YtiailkiepndliaaGreatDoor
open Go.RowKit Rep Enc Go.Lib
set_option linter.unusedVariables false
namespace Enc
def insB {α:Type} (rec:α->List Int) (sz:α->Nat) (x:Ins α):List Int :=
 [x.op%256]++(if form x.op=1 then (if x.op=63\/x.op=64 then [0] else [])
  else if form x.op=2\/form x.op=3 then (if x.a=0 then [64] else [x.a%256])++rec x.body++(if 0<sz x.els then [5]++rec x.els else [])++[11]
  else if form x.op=4\/form x.op=6 then Leb.uB x.a
  else if form x.op=5 then idxB x.labels++Leb.uB x.a
  else if form x.op=7 then Leb.uB x.a++[0]
  else if form x.op=8 then Leb.uB x.a++Leb.uB x.b
  else if form x.op=9 then Leb.sB x.n else [])
def insL {α:Type} (rec:α->List Int) (sz:α->Nat) (l:List (Ins α)):List Int:=l.flatMap (insB rec sz)
def bytesI:(d:Nat)->IL d->List Int
 | 0,_=>[]
 | d+1,l=>insL (bytesI d) (size d) l
structure Rg1 {α:Type} (rec:α->Prop) (x:Ins α):Prop where
 a:4<=form x.op->form x.op<=8->0<=x.a/\x.a<=4294967295
 b:form x.op=8->0<=x.b/\x.b<=4294967295
 n:form x.op=9->-9223372036854775808<=x.n/\x.n<=9223372036854775807
 labels:form x.op=5->∀y ∈ x.labels,0<=y/\y<=4294967295
 few:x.labels.length<=10000000
 body:rec x.body
 els:rec x.els
def Rg:(d:Nat)->IL d->Prop
 | 0,_=>True
 | d+1,l=>∀x,x ∈ (show List (Ins (IL d)) from l)->Rg1 (Rg d) x
def DoesA (w0:World) (p:Nat) (c:Nat->Value) (v:Value) (w:World) (bs add:List Int) (e:Ending) (w':World):Prop:=∃v' bs',e=.returned (.tuple #[])/\WS w0 p c v' bs' w'/\Kept p v w v' w'/\Adds bs add bs'/\bs'.length<=bs.length+add.length
theorem DoesA.of {w0:World} {p:Nat} {c:Nat->Value} {v:Value} {w:World} {bs add:List Int} {e:Ending} {w':World} (h:Does w0 p c v w (bs++add) e w'):DoesA w0 p c v w bs add e w':=by
 obtain ⟨v',h1,h2,h3⟩:=h
 exact ⟨v',_,h1,h2,h3,.inl rfl,by rw [List.length_append];omega⟩
theorem Kept.box {p p3:Nat} {v v':Value} {w w':World} {op a b n:Int} {v4 v5 v6:Value} (h:Kept p v w v' w') (hb:Blk w p3 op a b n v4 v5 v6) (hp:p3≠p) (ho:some p3≠v.ownBlock):Blk w' p3 op a b n v4 v5 v6/\some p3≠v'.ownBlock :=
 ⟨hb.keep (h.block p3 hb.lt hp ho),fun e=>by
  rcases h.own p3 e.symm with h1|h1
  ·exact ho h1.symm
  ·have:=hb.lt;omega⟩
end Enc
set_option maxRecDepth 100000 in
set_option maxHeartbeats 4000000 in
theorem wIns1 {I:World->Prop} (C:FormC I) (w0:World) (hI:I w0) (p:Nat) (c:Nat->Value) (v:Value) (bs:List Int) {d:Nat} (x:Ins (IL d)) (q4 q5 q6:Option Addr) (y4 z4 y5 z5 y6 z6:Nat) (w:World) (h:WS w0 p c v bs w) (hn:bs.length<=40000000000000) (hf:form x.op=1) (ho:¬ (x.op=63\/x.op=64)):Calls Tryz.prog 53 #[.pointer (some ⟨p,0,none⟩),.agg #[.int .i64 x.op,.int .i64 x.a,.int .i64 x.b,.int .i64 x.n,.slice q4 y4 z4,.slice q5 y5 z5,.slice q6 y6 z6]] w (Does w0 p c v w (bs++([x.op%256]))):=by
 have hpw:p<w.heap.size:=h.lt
 have hown:∀k,v.ownBlock=some k->k<w.heap.size:=fun k hk=>(h.own.lt k hk).2
 have HBK0:=hideR (Blk.new w w.heap.size x.op x.a x.b x.n (.slice q4 y4 z4) (.slice q5 y5 z5) (.slice q6 y6 z6) rfl)
 obtain ⟨u1,hu1⟩:∃u1,u1=w.alloc (.cells #[.int .i64 x.op,.int .i64 x.a,.int .i64 x.b,.int .i64 x.n,.slice q4 y4 z4,.slice q5 y5 z5,.slice q6 y6 z6] 50):=⟨_,rfl⟩
 have HU:=hideR (new_on' w (.cells #[.int .i64 x.op,.int .i64 x.a,.int .i64 x.b,.int .i64 x.n,.slice q4 y4 z4,.slice q5 y5 z5,.slice q6 y6 z6] 50))
 rw [<- hu1] at HBK0 HU
 have HS0:=hideR (h.on HU.out)
 have HO0:Hid (some w.heap.size≠v.ownBlock):=hideR (fun e=>by have:=hown _ e.symm;omega)
 have HNP:Hid (w.heap.size≠p):=hideR (by omega)
 have HK0:Hid (Kept p v w v u1):=hideR (Kept.below HU.out)
 have HU1:=hideR hu1
 clear h hpw hown HU hu1
 obtain ⟨b3,hb3⟩:∃b3,b3=bs++([x.op%256]):=⟨_,rfl⟩
 rw [<- hb3]
 have HB3:=hideR hb3
 clear hb3
 go_enter Tryz.func53,Tryz.ntmps53
 go_upto_region 1 with fail
 rw [<- HU1.out]
 generalize hp3:w.heap.size=p3 at HBK0 HO0 HNP ⊢
 clear HU1
 have e63:(x.op == 63)=false:=by simp;omega
 have e64:(x.op == 64)=false:=by simp;omega
 have k0:=HBK0.out.cell 0 _ rfl
 have HC:=hideR (wPut w0 p c v bs x.op u1 HS0.out (by omega))
 go_wp2_with fail
 refine HC.out.mono ?_
 rintro e w1 ⟨v1,rfl,h1,kk1⟩
 obtain ⟨bb1,bo1⟩:=kk1.box HBK0.out HNP.out HO0.out
 have HS1:=hideR h1
 have HBK1:=hideR bb1
 have HO1:=hideR bo1
 have HK1:=hideR (HK0.out.trans kk1)
 clear h1 kk1 bb1 bo1 HC k0 HS0 HBK0 HO0 HK0
 have k0:=HBK1.out.cell 0 _ rfl
 have HC:=hideR (C.form x.op w1 (C.keep HS1.out.below hI))
 rw [hf] at HC
 go_wp2_with fail
 refine HC.out.mono ?_
 rintro e w2 ⟨rfl,hb2⟩
 have HS2:=hideR (HS1.out.on hb2)
 have HBK2:=hideR (HBK1.out.keep (hb2.block p3 HBK1.out.lt))
 have HK2:=hideR (HK1.out.trans (Kept.below hb2))
 clear hb2 HC k0 HS1 HBK1 HK1
 have k0:=HBK2.out.cell 0 _ rfl
 have k1:=HBK2.out.cell 1 _ rfl
 have k2:=HBK2.out.cell 2 _ rfl
 have k3:=HBK2.out.cell 3 _ rfl
 have k4:=HBK2.out.cell 4 _ rfl
 have k5:=HBK2.out.cell 5 _ rfl
 have k6:=HBK2.out.cell 6 _ rfl
 have HE:Hid (WS w0 p c v1 b3 w2):=hideR (by rw [HB3.out];simpa using HS2.out)
 go_wp2
 go_end0
 exact ⟨_,rfl,HE.out,HK2.out⟩
set_option maxRecDepth 100000 in
set_option maxHeartbeats 4000000 in
theorem wIns4 {I:World->Prop} (C:FormC I) (w0:World) (hI:I w0) (p:Nat) (c:Nat->Value) (v:Value) (bs:List Int) {d:Nat} (x:Ins (IL d)) (q4 q5 q6:Option Addr) (y4 z4 y5 z5 y6 z6:Nat) (w:World) (h:WS w0 p c v bs w) (hn:bs.length<=40000000000000) (hf:form x.op=4) (ha:0<=x.a/\x.a<=4294967295):Calls Tryz.prog 53 #[.pointer (some ⟨p,0,none⟩),.agg #[.int .i64 x.op,.int .i64 x.a,.int .i64 x.b,.int .i64 x.n,.slice q4 y4 z4,.slice q5 y5 z5,.slice q6 y6 z6]] w (Does w0 p c v w (bs++([x.op%256]++Leb.uB x.a))):=by
 have hpw:p<w.heap.size:=h.lt
 have hown:∀k,v.ownBlock=some k->k<w.heap.size:=fun k hk=>(h.own.lt k hk).2
 have HBK0:=hideR (Blk.new w w.heap.size x.op x.a x.b x.n (.slice q4 y4 z4) (.slice q5 y5 z5) (.slice q6 y6 z6) rfl)
 obtain ⟨u1,hu1⟩:∃u1,u1=w.alloc (.cells #[.int .i64 x.op,.int .i64 x.a,.int .i64 x.b,.int .i64 x.n,.slice q4 y4 z4,.slice q5 y5 z5,.slice q6 y6 z6] 50):=⟨_,rfl⟩
 have HU:=hideR (new_on' w (.cells #[.int .i64 x.op,.int .i64 x.a,.int .i64 x.b,.int .i64 x.n,.slice q4 y4 z4,.slice q5 y5 z5,.slice q6 y6 z6] 50))
 rw [<- hu1] at HBK0 HU
 have HS0:=hideR (h.on HU.out)
 have HO0:Hid (some w.heap.size≠v.ownBlock):=hideR (fun e=>by have:=hown _ e.symm;omega)
 have HNP:Hid (w.heap.size≠p):=hideR (by omega)
 have HK0:Hid (Kept p v w v u1):=hideR (Kept.below HU.out)
 have HU1:=hideR hu1
 clear h hpw hown HU hu1
 obtain ⟨b3,hb3⟩:∃b3,b3=bs++([x.op%256]++Leb.uB x.a):=⟨_,rfl⟩
 rw [<- hb3]
 have HB3:=hideR hb3
 clear hb3
 go_enter Tryz.func53,Tryz.ntmps53
 go_upto_region 1 with fail
 rw [<- HU1.out]
 generalize hp3:w.heap.size=p3 at HBK0 HO0 HNP ⊢
 clear HU1
 have k0:=HBK0.out.cell 0 _ rfl
 have HC:=hideR (wPut w0 p c v bs x.op u1 HS0.out (by omega))
 go_wp2_with fail
 refine HC.out.mono ?_
 rintro e w1 ⟨v1,rfl,h1,kk1⟩
 obtain ⟨bb1,bo1⟩:=kk1.box HBK0.out HNP.out HO0.out
 have HS1:=hideR h1
 have HBK1:=hideR bb1
 have HO1:=hideR bo1
 have HK1:=hideR (HK0.out.trans kk1)
 clear h1 kk1 bb1 bo1 HC k0 HS0 HBK0 HO0 HK0
 have k0:=HBK1.out.cell 0 _ rfl
 have HC:=hideR (C.form x.op w1 (C.keep HS1.out.below hI))
 rw [hf] at HC
 go_wp2_with fail
 refine HC.out.mono ?_
 rintro e w2 ⟨rfl,hb2⟩
 have HS2:=hideR (HS1.out.on hb2)
 have HBK2:=hideR (HBK1.out.keep (hb2.block p3 HBK1.out.lt))
 have HK2:=hideR (HK1.out.trans (Kept.below hb2))
 clear hb2 HC k0 HS1 HBK1 HK1
 have k0:=HBK2.out.cell 0 _ rfl
 have k1:=HBK2.out.cell 1 _ rfl
 have k2:=HBK2.out.cell 2 _ rfl
 have k3:=HBK2.out.cell 3 _ rfl
 have k4:=HBK2.out.cell 4 _ rfl
 have k5:=HBK2.out.cell 5 _ rfl
 have k6:=HBK2.out.cell 6 _ rfl
 have HC:=hideR (wU w0 p c v1 (bs++[x.op%256]) x.a w2 HS2.out ha.1 (by omega) (by simp only [List.length_append,List.length_cons,List.length_nil];omega))
 go_wp2_with fail
 refine HC.out.mono ?_
 rintro e w3 ⟨v3,rfl,hh,kk⟩
 obtain ⟨bb,bo⟩:=kk.box HBK2.out HNP.out HO1.out
 have HS3:=hideR hh
 have HBK3:=hideR bb
 have HO3:=hideR bo
 have HK3:=hideR (HK2.out.trans kk)
 clear hh kk bb bo HC HS2 HBK2 HK2 k0 k1 k2 k3 k4 k5 k6
 have k0:=HBK3.out.cell 0 _ rfl
 have k1:=HBK3.out.cell 1 _ rfl
 have k2:=HBK3.out.cell 2 _ rfl
 have k3:=HBK3.out.cell 3 _ rfl
 have k4:=HBK3.out.cell 4 _ rfl
 have k5:=HBK3.out.cell 5 _ rfl
 have k6:=HBK3.out.cell 6 _ rfl
 have HE:Hid (WS w0 p c v3 b3 w3):=hideR (by rw [HB3.out];simpa using HS3.out)
 go_wp2
 go_end0
 exact ⟨_,rfl,HE.out,HK3.out⟩
set_option maxRecDepth 100000 in
set_option maxHeartbeats 4000000 in
theorem wIns6 {I:World->Prop} (C:FormC I) (w0:World) (hI:I w0) (p:Nat) (c:Nat->Value) (v:Value) (bs:List Int) {d:Nat} (x:Ins (IL d)) (q4 q5 q6:Option Addr) (y4 z4 y5 z5 y6 z6:Nat) (w:World) (h:WS w0 p c v bs w) (hn:bs.length<=40000000000000) (hf:form x.op=6) (ha:0<=x.a/\x.a<=4294967295):Calls Tryz.prog 53 #[.pointer (some ⟨p,0,none⟩),.agg #[.int .i64 x.op,.int .i64 x.a,.int .i64 x.b,.int .i64 x.n,.slice q4 y4 z4,.slice q5 y5 z5,.slice q6 y6 z6]] w (Does w0 p c v w (bs++([x.op%256]++Leb.uB x.a))):=by
 have hpw:p<w.heap.size:=h.lt
 have hown:∀k,v.ownBlock=some k->k<w.heap.size:=fun k hk=>(h.own.lt k hk).2
 have HBK0:=hideR (Blk.new w w.heap.size x.op x.a x.b x.n (.slice q4 y4 z4) (.slice q5 y5 z5) (.slice q6 y6 z6) rfl)
 obtain ⟨u1,hu1⟩:∃u1,u1=w.alloc (.cells #[.int .i64 x.op,.int .i64 x.a,.int .i64 x.b,.int .i64 x.n,.slice q4 y4 z4,.slice q5 y5 z5,.slice q6 y6 z6] 50):=⟨_,rfl⟩
 have HU:=hideR (new_on' w (.cells #[.int .i64 x.op,.int .i64 x.a,.int .i64 x.b,.int .i64 x.n,.slice q4 y4 z4,.slice q5 y5 z5,.slice q6 y6 z6] 50))
 rw [<- hu1] at HBK0 HU
 have HS0:=hideR (h.on HU.out)
 have HO0:Hid (some w.heap.size≠v.ownBlock):=hideR (fun e=>by have:=hown _ e.symm;omega)
 have HNP:Hid (w.heap.size≠p):=hideR (by omega)
 have HK0:Hid (Kept p v w v u1):=hideR (Kept.below HU.out)
 have HU1:=hideR hu1
 clear h hpw hown HU hu1
 obtain ⟨b3,hb3⟩:∃b3,b3=bs++([x.op%256]++Leb.uB x.a):=⟨_,rfl⟩
 rw [<- hb3]
 have HB3:=hideR hb3
 clear hb3
 go_enter Tryz.func53,Tryz.ntmps53
 go_upto_region 1 with fail
 rw [<- HU1.out]
 generalize hp3:w.heap.size=p3 at HBK0 HO0 HNP ⊢
 clear HU1
 have k0:=HBK0.out.cell 0 _ rfl
 have HC:=hideR (wPut w0 p c v bs x.op u1 HS0.out (by omega))
 go_wp2_with fail
 refine HC.out.mono ?_
 rintro e w1 ⟨v1,rfl,h1,kk1⟩
 obtain ⟨bb1,bo1⟩:=kk1.box HBK0.out HNP.out HO0.out
 have HS1:=hideR h1
 have HBK1:=hideR bb1
 have HO1:=hideR bo1
 have HK1:=hideR (HK0.out.trans kk1)
 clear h1 kk1 bb1 bo1 HC k0 HS0 HBK0 HO0 HK0
 have k0:=HBK1.out.cell 0 _ rfl
 have HC:=hideR (C.form x.op w1 (C.keep HS1.out.below hI))
 rw [hf] at HC
 go_wp2_with fail
 refine HC.out.mono ?_
 rintro e w2 ⟨rfl,hb2⟩
 have HS2:=hideR (HS1.out.on hb2)
 have HBK2:=hideR (HBK1.out.keep (hb2.block p3 HBK1.out.lt))
 have HK2:=hideR (HK1.out.trans (Kept.below hb2))
 clear hb2 HC k0 HS1 HBK1 HK1
 have k0:=HBK2.out.cell 0 _ rfl
 have k1:=HBK2.out.cell 1 _ rfl
 have k2:=HBK2.out.cell 2 _ rfl
 have k3:=HBK2.out.cell 3 _ rfl
 have k4:=HBK2.out.cell 4 _ rfl
 have k5:=HBK2.out.cell 5 _ rfl
 have k6:=HBK2.out.cell 6 _ rfl
 have HC:=hideR (wU w0 p c v1 (bs++[x.op%256]) x.a w2 HS2.out ha.1 (by omega) (by simp only [List.length_append,List.length_cons,List.length_nil];omega))
 go_wp2_with fail
 refine HC.out.mono ?_
 rintro e w3 ⟨v3,rfl,hh,kk⟩
 obtain ⟨bb,bo⟩:=kk.box HBK2.out HNP.out HO1.out
 have HS3:=hideR hh
 have HBK3:=hideR bb
 have HO3:=hideR bo
 have HK3:=hideR (HK2.out.trans kk)
 clear hh kk bb bo HC HS2 HBK2 HK2 k0 k1 k2 k3 k4 k5 k6
 have k0:=HBK3.out.cell 0 _ rfl
 have k1:=HBK3.out.cell 1 _ rfl
 have k2:=HBK3.out.cell 2 _ rfl
 have k3:=HBK3.out.cell 3 _ rfl
 have k4:=HBK3.out.cell 4 _ rfl
 have k5:=HBK3.out.cell 5 _ rfl
 have k6:=HBK3.out.cell 6 _ rfl
 have HE:Hid (WS w0 p c v3 b3 w3):=hideR (by rw [HB3.out];simpa using HS3.out)
 go_wp2
 go_end0
 exact ⟨_,rfl,HE.out,HK3.out⟩
set_option maxRecDepth 100000 in
set_option maxHeartbeats 4000000 in
theorem wIns9 {I:World->Prop} (C:FormC I) (w0:World) (hI:I w0) (p:Nat) (c:Nat->Value) (v:Value) (bs:List Int) {d:Nat} (x:Ins (IL d)) (q4 q5 q6:Option Addr) (y4 z4 y5 z5 y6 z6:Nat) (w:World) (h:WS w0 p c v bs w) (hn:bs.length<=40000000000000) (hf:form x.op=9) (hx:-9223372036854775808<=x.n/\x.n<=9223372036854775807):Calls Tryz.prog 53 #[.pointer (some ⟨p,0,none⟩),.agg #[.int .i64 x.op,.int .i64 x.a,.int .i64 x.b,.int .i64 x.n,.slice q4 y4 z4,.slice q5 y5 z5,.slice q6 y6 z6]] w (Does w0 p c v w (bs++([x.op%256]++Leb.sB x.n))):=by
 have hpw:p<w.heap.size:=h.lt
 have hown:∀k,v.ownBlock=some k->k<w.heap.size:=fun k hk=>(h.own.lt k hk).2
 have HBK0:=hideR (Blk.new w w.heap.size x.op x.a x.b x.n (.slice q4 y4 z4) (.slice q5 y5 z5) (.slice q6 y6 z6) rfl)
 obtain ⟨u1,hu1⟩:∃u1,u1=w.alloc (.cells #[.int .i64 x.op,.int .i64 x.a,.int .i64 x.b,.int .i64 x.n,.slice q4 y4 z4,.slice q5 y5 z5,.slice q6 y6 z6] 50):=⟨_,rfl⟩
 have HU:=hideR (new_on' w (.cells #[.int .i64 x.op,.int .i64 x.a,.int .i64 x.b,.int .i64 x.n,.slice q4 y4 z4,.slice q5 y5 z5,.slice q6 y6 z6] 50))
 rw [<- hu1] at HBK0 HU
 have HS0:=hideR (h.on HU.out)
 have HO0:Hid (some w.heap.size≠v.ownBlock):=hideR (fun e=>by have:=hown _ e.symm;omega)
 have HNP:Hid (w.heap.size≠p):=hideR (by omega)
 have HK0:Hid (Kept p v w v u1):=hideR (Kept.below HU.out)
 have HU1:=hideR hu1
 clear h hpw hown HU hu1
 obtain ⟨b3,hb3⟩:∃b3,b3=bs++([x.op%256]++Leb.sB x.n):=⟨_,rfl⟩
 rw [<- hb3]
 have HB3:=hideR hb3
 clear hb3
 go_enter Tryz.func53,Tryz.ntmps53
 go_upto_region 1 with fail
 rw [<- HU1.out]
 generalize hp3:w.heap.size=p3 at HBK0 HO0 HNP ⊢
 clear HU1
 have k0:=HBK0.out.cell 0 _ rfl
 have HC:=hideR (wPut w0 p c v bs x.op u1 HS0.out (by omega))
 go_wp2_with fail
 refine HC.out.mono ?_
 rintro e w1 ⟨v1,rfl,h1,kk1⟩
 obtain ⟨bb1,bo1⟩:=kk1.box HBK0.out HNP.out HO0.out
 have HS1:=hideR h1
 have HBK1:=hideR bb1
 have HO1:=hideR bo1
 have HK1:=hideR (HK0.out.trans kk1)
 clear h1 kk1 bb1 bo1 HC k0 HS0 HBK0 HO0 HK0
 have k0:=HBK1.out.cell 0 _ rfl
 have HC:=hideR (C.form x.op w1 (C.keep HS1.out.below hI))
 rw [hf] at HC
 go_wp2_with fail
 refine HC.out.mono ?_
 rintro e w2 ⟨rfl,hb2⟩
 have HS2:=hideR (HS1.out.on hb2)
 have HBK2:=hideR (HBK1.out.keep (hb2.block p3 HBK1.out.lt))
 have HK2:=hideR (HK1.out.trans (Kept.below hb2))
 clear hb2 HC k0 HS1 HBK1 HK1
 have k0:=HBK2.out.cell 0 _ rfl
 have k1:=HBK2.out.cell 1 _ rfl
 have k2:=HBK2.out.cell 2 _ rfl
 have k3:=HBK2.out.cell 3 _ rfl
 have k4:=HBK2.out.cell 4 _ rfl
 have k5:=HBK2.out.cell 5 _ rfl
 have k6:=HBK2.out.cell 6 _ rfl
 have HC:=hideR (wS w0 p c v1 (bs++[x.op%256]) x.n w2 HS2.out hx.1 hx.2 (by simp only [List.length_append,List.length_cons,List.length_nil];omega))
 go_wp2_with fail
 refine HC.out.mono ?_
 rintro e w3 ⟨v3,rfl,hh,kk⟩
 obtain ⟨bb,bo⟩:=kk.box HBK2.out HNP.out HO1.out
 have HS3:=hideR hh
 have HBK3:=hideR bb
 have HO3:=hideR bo
 have HK3:=hideR (HK2.out.trans kk)
 clear hh kk bb bo HC HS2 HBK2 HK2 k0 k1 k2 k3 k4 k5 k6
 have k0:=HBK3.out.cell 0 _ rfl
 have k1:=HBK3.out.cell 1 _ rfl
 have k2:=HBK3.out.cell 2 _ rfl
 have k3:=HBK3.out.cell 3 _ rfl
 have k4:=HBK3.out.cell 4 _ rfl
 have k5:=HBK3.out.cell 5 _ rfl
 have k6:=HBK3.out.cell 6 _ rfl
 have HE:Hid (WS w0 p c v3 b3 w3):=hideR (by rw [HB3.out];simpa using HS3.out)
 go_wp2
 go_end0
 exact ⟨_,rfl,HE.out,HK3.out⟩
set_option maxRecDepth 100000 in
set_option maxHeartbeats 4000000 in
theorem wIns8 {I:World->Prop} (C:FormC I) (w0:World) (hI:I w0) (p:Nat) (c:Nat->Value) (v:Value) (bs:List Int) {d:Nat} (x:Ins (IL d)) (q4 q5 q6:Option Addr) (y4 z4 y5 z5 y6 z6:Nat) (w:World) (h:WS w0 p c v bs w) (hn:bs.length<=40000000000000) (hf:form x.op=8) (ha:0<=x.a/\x.a<=4294967295) (hb:0<=x.b/\x.b<=4294967295) (hu:(Leb.uB x.a).length<=10):Calls Tryz.prog 53 #[.pointer (some ⟨p,0,none⟩),.agg #[.int .i64 x.op,.int .i64 x.a,.int .i64 x.b,.int .i64 x.n,.slice q4 y4 z4,.slice q5 y5 z5,.slice q6 y6 z6]] w (Does w0 p c v w (bs++([x.op%256]++Leb.uB x.a++Leb.uB x.b))):=by
 have hpw:p<w.heap.size:=h.lt
 have hown:∀k,v.ownBlock=some k->k<w.heap.size:=fun k hk=>(h.own.lt k hk).2
 have HBK0:=hideR (Blk.new w w.heap.size x.op x.a x.b x.n (.slice q4 y4 z4) (.slice q5 y5 z5) (.slice q6 y6 z6) rfl)
 obtain ⟨u1,hu1⟩:∃u1,u1=w.alloc (.cells #[.int .i64 x.op,.int .i64 x.a,.int .i64 x.b,.int .i64 x.n,.slice q4 y4 z4,.slice q5 y5 z5,.slice q6 y6 z6] 50):=⟨_,rfl⟩
 have HU:=hideR (new_on' w (.cells #[.int .i64 x.op,.int .i64 x.a,.int .i64 x.b,.int .i64 x.n,.slice q4 y4 z4,.slice q5 y5 z5,.slice q6 y6 z6] 50))
 rw [<- hu1] at HBK0 HU
 have HS0:=hideR (h.on HU.out)
 have HO0:Hid (some w.heap.size≠v.ownBlock):=hideR (fun e=>by have:=hown _ e.symm;omega)
 have HNP:Hid (w.heap.size≠p):=hideR (by omega)
 have HK0:Hid (Kept p v w v u1):=hideR (Kept.below HU.out)
 have HU1:=hideR hu1
 clear h hpw hown HU hu1
 obtain ⟨b3,hb3⟩:∃b3,b3=bs++([x.op%256]++Leb.uB x.a++Leb.uB x.b):=⟨_,rfl⟩
 rw [<- hb3]
 have HB3:=hideR hb3
 clear hb3
 go_enter Tryz.func53,Tryz.ntmps53
 go_upto_region 1 with fail
 rw [<- HU1.out]
 generalize hp3:w.heap.size=p3 at HBK0 HO0 HNP ⊢
 clear HU1
 have k0:=HBK0.out.cell 0 _ rfl
 have HC:=hideR (wPut w0 p c v bs x.op u1 HS0.out (by omega))
 go_wp2_with fail
 refine HC.out.mono ?_
 rintro e w1 ⟨v1,rfl,h1,kk1⟩
 obtain ⟨bb1,bo1⟩:=kk1.box HBK0.out HNP.out HO0.out
 have HS1:=hideR h1
 have HBK1:=hideR bb1
 have HO1:=hideR bo1
 have HK1:=hideR (HK0.out.trans kk1)
 clear h1 kk1 bb1 bo1 HC k0 HS0 HBK0 HO0 HK0
 have k0:=HBK1.out.cell 0 _ rfl
 have HC:=hideR (C.form x.op w1 (C.keep HS1.out.below hI))
 rw [hf] at HC
 go_wp2_with fail
 refine HC.out.mono ?_
 rintro e w2 ⟨rfl,hb2⟩
 have HS2:=hideR (HS1.out.on hb2)
 have HBK2:=hideR (HBK1.out.keep (hb2.block p3 HBK1.out.lt))
 have HK2:=hideR (HK1.out.trans (Kept.below hb2))
 clear hb2 HC k0 HS1 HBK1 HK1
 have k0:=HBK2.out.cell 0 _ rfl
 have k1:=HBK2.out.cell 1 _ rfl
 have k2:=HBK2.out.cell 2 _ rfl
 have k3:=HBK2.out.cell 3 _ rfl
 have k4:=HBK2.out.cell 4 _ rfl
 have k5:=HBK2.out.cell 5 _ rfl
 have k6:=HBK2.out.cell 6 _ rfl
 have HC:=hideR (wU w0 p c v1 (bs++[x.op%256]) x.a w2 HS2.out ha.1 (by omega) (by simp only [List.length_append,List.length_cons,List.length_nil];omega))
 go_wp2_with fail
 refine HC.out.mono ?_
 rintro e w3 ⟨v3,rfl,hh,kk⟩
 obtain ⟨bb,bo⟩:=kk.box HBK2.out HNP.out HO1.out
 have HS3:=hideR hh
 have HBK3:=hideR bb
 have HO3:=hideR bo
 have HK3:=hideR (HK2.out.trans kk)
 clear hh kk bb bo HC HS2 HBK2 HK2 k0 k1 k2 k3 k4 k5 k6
 have k0:=HBK3.out.cell 0 _ rfl
 have k1:=HBK3.out.cell 1 _ rfl
 have k2:=HBK3.out.cell 2 _ rfl
 have k3:=HBK3.out.cell 3 _ rfl
 have k4:=HBK3.out.cell 4 _ rfl
 have k5:=HBK3.out.cell 5 _ rfl
 have k6:=HBK3.out.cell 6 _ rfl
 have HC:=hideR (wU w0 p c v3 (bs++[x.op%256]++Leb.uB x.a) x.b w3 HS3.out hb.1 (by omega) (by simp only [List.length_append,List.length_cons,List.length_nil];omega))
 go_wp2_with fail
 refine HC.out.mono ?_
 rintro e w4 ⟨v4,rfl,hh,kk⟩
 obtain ⟨bb,bo⟩:=kk.box HBK3.out HNP.out HO3.out
 have HS4:=hideR hh
 have HBK4:=hideR bb
 have HO4:=hideR bo
 have HK4:=hideR (HK3.out.trans kk)
 clear hh kk bb bo HC HS3 HBK3 HK3 k0 k1 k2 k3 k4 k5 k6
 have k0:=HBK4.out.cell 0 _ rfl
 have k1:=HBK4.out.cell 1 _ rfl
 have k2:=HBK4.out.cell 2 _ rfl
 have k3:=HBK4.out.cell 3 _ rfl
 have k4:=HBK4.out.cell 4 _ rfl
 have k5:=HBK4.out.cell 5 _ rfl
 have k6:=HBK4.out.cell 6 _ rfl
 have HE:Hid (WS w0 p c v4 b3 w4):=hideR (by rw [HB3.out];simpa using HS4.out)
 go_wp2
 go_end0
 exact ⟨_,rfl,HE.out,HK4.out⟩
set_option maxRecDepth 100000 in
set_option maxHeartbeats 4000000 in
theorem wIns7 {I:World->Prop} (C:FormC I) (w0:World) (hI:I w0) (p:Nat) (c:Nat->Value) (v:Value) (bs:List Int) {d:Nat} (x:Ins (IL d)) (q4 q5 q6:Option Addr) (y4 z4 y5 z5 y6 z6:Nat) (w:World) (h:WS w0 p c v bs w) (hn:bs.length<=40000000000000) (hf:form x.op=7) (ha:0<=x.a/\x.a<=4294967295) (hu:(Leb.uB x.a).length<=10):Calls Tryz.prog 53 #[.pointer (some ⟨p,0,none⟩),.agg #[.int .i64 x.op,.int .i64 x.a,.int .i64 x.b,.int .i64 x.n,.slice q4 y4 z4,.slice q5 y5 z5,.slice q6 y6 z6]] w (Does w0 p c v w (bs++([x.op%256]++Leb.uB x.a++[0]))):=by
 have hpw:p<w.heap.size:=h.lt
 have hown:∀k,v.ownBlock=some k->k<w.heap.size:=fun k hk=>(h.own.lt k hk).2
 have HBK0:=hideR (Blk.new w w.heap.size x.op x.a x.b x.n (.slice q4 y4 z4) (.slice q5 y5 z5) (.slice q6 y6 z6) rfl)
 obtain ⟨u1,hu1⟩:∃u1,u1=w.alloc (.cells #[.int .i64 x.op,.int .i64 x.a,.int .i64 x.b,.int .i64 x.n,.slice q4 y4 z4,.slice q5 y5 z5,.slice q6 y6 z6] 50):=⟨_,rfl⟩
 have HU:=hideR (new_on' w (.cells #[.int .i64 x.op,.int .i64 x.a,.int .i64 x.b,.int .i64 x.n,.slice q4 y4 z4,.slice q5 y5 z5,.slice q6 y6 z6] 50))
 rw [<- hu1] at HBK0 HU
 have HS0:=hideR (h.on HU.out)
 have HO0:Hid (some w.heap.size≠v.ownBlock):=hideR (fun e=>by have:=hown _ e.symm;omega)
 have HNP:Hid (w.heap.size≠p):=hideR (by omega)
 have HK0:Hid (Kept p v w v u1):=hideR (Kept.below HU.out)
 have HU1:=hideR hu1
 clear h hpw hown HU hu1
 obtain ⟨b3,hb3⟩:∃b3,b3=bs++([x.op%256]++Leb.uB x.a++[0]):=⟨_,rfl⟩
 rw [<- hb3]
 have HB3:=hideR hb3
 clear hb3
 go_enter Tryz.func53,Tryz.ntmps53
 go_upto_region 1 with fail
 rw [<- HU1.out]
 generalize hp3:w.heap.size=p3 at HBK0 HO0 HNP ⊢
 clear HU1
 have k0:=HBK0.out.cell 0 _ rfl
 have HC:=hideR (wPut w0 p c v bs x.op u1 HS0.out (by omega))
 go_wp2_with fail
 refine HC.out.mono ?_
 rintro e w1 ⟨v1,rfl,h1,kk1⟩
 obtain ⟨bb1,bo1⟩:=kk1.box HBK0.out HNP.out HO0.out
 have HS1:=hideR h1
 have HBK1:=hideR bb1
 have HO1:=hideR bo1
 have HK1:=hideR (HK0.out.trans kk1)
 clear h1 kk1 bb1 bo1 HC k0 HS0 HBK0 HO0 HK0
 have k0:=HBK1.out.cell 0 _ rfl
 have HC:=hideR (C.form x.op w1 (C.keep HS1.out.below hI))
 rw [hf] at HC
 go_wp2_with fail
 refine HC.out.mono ?_
 rintro e w2 ⟨rfl,hb2⟩
 have HS2:=hideR (HS1.out.on hb2)
 have HBK2:=hideR (HBK1.out.keep (hb2.block p3 HBK1.out.lt))
 have HK2:=hideR (HK1.out.trans (Kept.below hb2))
 clear hb2 HC k0 HS1 HBK1 HK1
 have k0:=HBK2.out.cell 0 _ rfl
 have k1:=HBK2.out.cell 1 _ rfl
 have k2:=HBK2.out.cell 2 _ rfl
 have k3:=HBK2.out.cell 3 _ rfl
 have k4:=HBK2.out.cell 4 _ rfl
 have k5:=HBK2.out.cell 5 _ rfl
 have k6:=HBK2.out.cell 6 _ rfl
 have HC:=hideR (wU w0 p c v1 (bs++[x.op%256]) x.a w2 HS2.out ha.1 (by omega) (by simp only [List.length_append,List.length_cons,List.length_nil];omega))
 go_wp2_with fail
 refine HC.out.mono ?_
 rintro e w3 ⟨v3,rfl,hh,kk⟩
 obtain ⟨bb,bo⟩:=kk.box HBK2.out HNP.out HO1.out
 have HS3:=hideR hh
 have HBK3:=hideR bb
 have HO3:=hideR bo
 have HK3:=hideR (HK2.out.trans kk)
 clear hh kk bb bo HC HS2 HBK2 HK2 k0 k1 k2 k3 k4 k5 k6
 have k0:=HBK3.out.cell 0 _ rfl
 have k1:=HBK3.out.cell 1 _ rfl
 have k2:=HBK3.out.cell 2 _ rfl
 have k3:=HBK3.out.cell 3 _ rfl
 have k4:=HBK3.out.cell 4 _ rfl
 have k5:=HBK3.out.cell 5 _ rfl
 have k6:=HBK3.out.cell 6 _ rfl
 have HC:=hideR (wPut w0 p c v3 (bs++[x.op%256]++Leb.uB x.a) 0 w3 HS3.out (by simp only [List.length_append,List.length_cons,List.length_nil];omega))
 go_wp2_with fail
 refine HC.out.mono ?_
 rintro e w4 ⟨v4,rfl,hh,kk⟩
 obtain ⟨bb,bo⟩:=kk.box HBK3.out HNP.out HO3.out
 have HS4:=hideR hh
 have HBK4:=hideR bb
 have HO4:=hideR bo
 have HK4:=hideR (HK3.out.trans kk)
 clear hh kk bb bo HC HS3 HBK3 HK3 k0 k1 k2 k3 k4 k5 k6
 have k0:=HBK4.out.cell 0 _ rfl
 have k1:=HBK4.out.cell 1 _ rfl
 have k2:=HBK4.out.cell 2 _ rfl
 have k3:=HBK4.out.cell 3 _ rfl
 have k4:=HBK4.out.cell 4 _ rfl
 have k5:=HBK4.out.cell 5 _ rfl
 have k6:=HBK4.out.cell 6 _ rfl
 have HE:Hid (WS w0 p c v4 b3 w4):=hideR (by rw [HB3.out];simpa using HS4.out)
 go_wp2
 go_end0
 exact ⟨_,rfl,HE.out,HK4.out⟩
set_option maxRecDepth 100000 in
set_option maxHeartbeats 4000000 in
theorem wIns5 {I:World->Prop} (C:FormC I) (w0:World) (hI:I w0) (p:Nat) (c:Nat->Value) (v:Value) (bs:List Int) {d:Nat} (x:Ins (IL d)) (q4 q5 q6:Option Addr) (y4 z4 y5 z5 y6 z6:Nat) (w:World) (h:WS w0 p c v bs w) (hn:bs.length<=40000000000000) (hf:form x.op=5) (ha:0<=x.a/\x.a<=4294967295) (hL:Ints w0 (.slice q4 y4 z4) x.labels) (hr:∀y ∈ x.labels,0<=y/\y<=4294967295) (hl:x.labels.length<=10000000) (hu:(idxB x.labels).length<=100000010):Calls Tryz.prog 53 #[.pointer (some ⟨p,0,none⟩),.agg #[.int .i64 x.op,.int .i64 x.a,.int .i64 x.b,.int .i64 x.n,.slice q4 y4 z4,.slice q5 y5 z5,.slice q6 y6 z6]] w (Does w0 p c v w (bs++([x.op%256]++idxB x.labels++Leb.uB x.a))):=by
 have hpw:p<w.heap.size:=h.lt
 have hown:∀k,v.ownBlock=some k->k<w.heap.size:=fun k hk=>(h.own.lt k hk).2
 have HBK0:=hideR (Blk.new w w.heap.size x.op x.a x.b x.n (.slice q4 y4 z4) (.slice q5 y5 z5) (.slice q6 y6 z6) rfl)
 obtain ⟨u1,hu1⟩:∃u1,u1=w.alloc (.cells #[.int .i64 x.op,.int .i64 x.a,.int .i64 x.b,.int .i64 x.n,.slice q4 y4 z4,.slice q5 y5 z5,.slice q6 y6 z6] 50):=⟨_,rfl⟩
 have HU:=hideR (new_on' w (.cells #[.int .i64 x.op,.int .i64 x.a,.int .i64 x.b,.int .i64 x.n,.slice q4 y4 z4,.slice q5 y5 z5,.slice q6 y6 z6] 50))
 rw [<- hu1] at HBK0 HU
 have HS0:=hideR (h.on HU.out)
 have HO0:Hid (some w.heap.size≠v.ownBlock):=hideR (fun e=>by have:=hown _ e.symm;omega)
 have HNP:Hid (w.heap.size≠p):=hideR (by omega)
 have HK0:Hid (Kept p v w v u1):=hideR (Kept.below HU.out)
 have HU1:=hideR hu1
 clear h hpw hown HU hu1
 obtain ⟨b3,hb3⟩:∃b3,b3=bs++([x.op%256]++idxB x.labels++Leb.uB x.a):=⟨_,rfl⟩
 rw [<- hb3]
 have HB3:=hideR hb3
 clear hb3
 go_enter Tryz.func53,Tryz.ntmps53
 go_upto_region 1 with fail
 rw [<- HU1.out]
 generalize hp3:w.heap.size=p3 at HBK0 HO0 HNP ⊢
 clear HU1
 have k0:=HBK0.out.cell 0 _ rfl
 have HC:=hideR (wPut w0 p c v bs x.op u1 HS0.out (by omega))
 go_wp2_with fail
 refine HC.out.mono ?_
 rintro e w1 ⟨v1,rfl,h1,kk1⟩
 obtain ⟨bb1,bo1⟩:=kk1.box HBK0.out HNP.out HO0.out
 have HS1:=hideR h1
 have HBK1:=hideR bb1
 have HO1:=hideR bo1
 have HK1:=hideR (HK0.out.trans kk1)
 clear h1 kk1 bb1 bo1 HC k0 HS0 HBK0 HO0 HK0
 have k0:=HBK1.out.cell 0 _ rfl
 have HC:=hideR (C.form x.op w1 (C.keep HS1.out.below hI))
 rw [hf] at HC
 go_wp2_with fail
 refine HC.out.mono ?_
 rintro e w2 ⟨rfl,hb2⟩
 have HS2:=hideR (HS1.out.on hb2)
 have HBK2:=hideR (HBK1.out.keep (hb2.block p3 HBK1.out.lt))
 have HK2:=hideR (HK1.out.trans (Kept.below hb2))
 clear hb2 HC k0 HS1 HBK1 HK1
 have k0:=HBK2.out.cell 0 _ rfl
 have k1:=HBK2.out.cell 1 _ rfl
 have k2:=HBK2.out.cell 2 _ rfl
 have k3:=HBK2.out.cell 3 _ rfl
 have k4:=HBK2.out.cell 4 _ rfl
 have k5:=HBK2.out.cell 5 _ rfl
 have k6:=HBK2.out.cell 6 _ rfl
 have HC:=hideR (wIdx w0 p c v1 (bs++[x.op%256]) _ x.labels w2 HS2.out hL hr hl (by simp only [List.length_append,List.length_cons,List.length_nil];omega))
 go_wp2_with fail
 refine HC.out.mono ?_
 rintro e w3 ⟨v3,rfl,hh,kk⟩
 obtain ⟨bb,bo⟩:=kk.box HBK2.out HNP.out HO1.out
 have HS3:=hideR hh
 have HBK3:=hideR bb
 have HO3:=hideR bo
 have HK3:=hideR (HK2.out.trans kk)
 clear hh kk bb bo HC HS2 HBK2 HK2 k0 k1 k2 k3 k4 k5 k6
 have k0:=HBK3.out.cell 0 _ rfl
 have k1:=HBK3.out.cell 1 _ rfl
 have k2:=HBK3.out.cell 2 _ rfl
 have k3:=HBK3.out.cell 3 _ rfl
 have k4:=HBK3.out.cell 4 _ rfl
 have k5:=HBK3.out.cell 5 _ rfl
 have k6:=HBK3.out.cell 6 _ rfl
 have HC:=hideR (wU w0 p c v3 (bs++[x.op%256]++idxB x.labels) x.a w3 HS3.out ha.1 (by omega) (by simp only [List.length_append,List.length_cons,List.length_nil];omega))
 go_wp2_with fail
 refine HC.out.mono ?_
 rintro e w4 ⟨v4,rfl,hh,kk⟩
 obtain ⟨bb,bo⟩:=kk.box HBK3.out HNP.out HO3.out
 have HS4:=hideR hh
 have HBK4:=hideR bb
 have HO4:=hideR bo
 have HK4:=hideR (HK3.out.trans kk)
 clear hh kk bb bo HC HS3 HBK3 HK3 k0 k1 k2 k3 k4 k5 k6
 have k0:=HBK4.out.cell 0 _ rfl
 have k1:=HBK4.out.cell 1 _ rfl
 have k2:=HBK4.out.cell 2 _ rfl
 have k3:=HBK4.out.cell 3 _ rfl
 have k4:=HBK4.out.cell 4 _ rfl
 have k5:=HBK4.out.cell 5 _ rfl
 have k6:=HBK4.out.cell 6 _ rfl
 have HE:Hid (WS w0 p c v4 b3 w4):=hideR (by rw [HB3.out];simpa using HS4.out)
 go_wp2
 go_end0
 exact ⟨_,rfl,HE.out,HK4.out⟩
set_option maxRecDepth 100000 in
set_option maxHeartbeats 4000000 in
theorem wInsX {I:World->Prop} (C:FormC I) (w0:World) (hI:I w0) (p:Nat) (c:Nat->Value) (v:Value) (bs:List Int) {d:Nat} (x:Ins (IL d)) (q4 q5 q6:Option Addr) (y4 z4 y5 z5 y6 z6:Nat) (w:World) (h:WS w0 p c v bs w) (hn:bs.length<=40000000000000) (hf:form x.op<1\/9<form x.op)  : Calls Tryz.prog 53 #[.pointer (some ⟨p,0,none⟩),.agg #[.int .i64 x.op,.int .i64 x.a,.int .i64 x.b,.int .i64 x.n,.slice q4 y4 z4,.slice q5 y5 z5,.slice q6 y6 z6]] w (Does w0 p c v w (bs++([x.op%256]))):=by
 have hpw:p<w.heap.size:=h.lt
 have hown:∀k,v.ownBlock=some k->k<w.heap.size:=fun k hk=>(h.own.lt k hk).2
 have HBK0:=hideR (Blk.new w w.heap.size x.op x.a x.b x.n (.slice q4 y4 z4) (.slice q5 y5 z5) (.slice q6 y6 z6) rfl)
 obtain ⟨u1,hu1⟩:∃u1,u1=w.alloc (.cells #[.int .i64 x.op,.int .i64 x.a,.int .i64 x.b,.int .i64 x.n,.slice q4 y4 z4,.slice q5 y5 z5,.slice q6 y6 z6] 50):=⟨_,rfl⟩
 have HU:=hideR (new_on' w (.cells #[.int .i64 x.op,.int .i64 x.a,.int .i64 x.b,.int .i64 x.n,.slice q4 y4 z4,.slice q5 y5 z5,.slice q6 y6 z6] 50))
 rw [<- hu1] at HBK0 HU
 have HS0:=hideR (h.on HU.out)
 have HO0:Hid (some w.heap.size≠v.ownBlock):=hideR (fun e=>by have:=hown _ e.symm;omega)
 have HNP:Hid (w.heap.size≠p):=hideR (by omega)
 have HK0:Hid (Kept p v w v u1):=hideR (Kept.below HU.out)
 have HU1:=hideR hu1
 clear h hpw hown HU hu1
 obtain ⟨b3,hb3⟩:∃b3,b3=bs++([x.op%256]):=⟨_,rfl⟩
 rw [<- hb3]
 have HB3:=hideR hb3
 clear hb3
 go_enter Tryz.func53,Tryz.ntmps53
 go_upto_region 1 with fail
 rw [<- HU1.out]
 generalize hp3:w.heap.size=p3 at HBK0 HO0 HNP ⊢
 clear HU1
 have k0:=HBK0.out.cell 0 _ rfl
 have HC:=hideR (wPut w0 p c v bs x.op u1 HS0.out (by omega))
 go_wp2_with fail
 refine HC.out.mono ?_
 rintro e w1 ⟨v1,rfl,h1,kk1⟩
 obtain ⟨bb1,bo1⟩:=kk1.box HBK0.out HNP.out HO0.out
 have HS1:=hideR h1
 have HBK1:=hideR bb1
 have HO1:=hideR bo1
 have HK1:=hideR (HK0.out.trans kk1)
 clear h1 kk1 bb1 bo1 HC k0 HS0 HBK0 HO0 HK0
 have k0:=HBK1.out.cell 0 _ rfl
 have HC:=hideR (C.form x.op w1 (C.keep HS1.out.below hI))
 generalize form x.op=f at HC hf
 have n1:(f == 1)=false:=by simp;omega
 have n2:(f == 2)=false:=by simp;omega
 have n3:(f == 3)=false:=by simp;omega
 have n4:(f == 4)=false:=by simp;omega
 have n5:(f == 5)=false:=by simp;omega
 have n6:(f == 6)=false:=by simp;omega
 have n7:(f == 7)=false:=by simp;omega
 have n8:(f == 8)=false:=by simp;omega
 have n9:(f == 9)=false:=by simp;omega
 go_wp2_with fail
 refine HC.out.mono ?_
 rintro e w2 ⟨rfl,hb2⟩
 have HS2:=hideR (HS1.out.on hb2)
 have HBK2:=hideR (HBK1.out.keep (hb2.block p3 HBK1.out.lt))
 have HK2:=hideR (HK1.out.trans (Kept.below hb2))
 clear hb2 HC k0 HS1 HBK1 HK1
 have k0:=HBK2.out.cell 0 _ rfl
 have k1:=HBK2.out.cell 1 _ rfl
 have k2:=HBK2.out.cell 2 _ rfl
 have k3:=HBK2.out.cell 3 _ rfl
 have k4:=HBK2.out.cell 4 _ rfl
 have k5:=HBK2.out.cell 5 _ rfl
 have k6:=HBK2.out.cell 6 _ rfl
 have HE:Hid (WS w0 p c v1 b3 w2):=hideR (by rw [HB3.out];simpa using HS2.out)
 go_wp2
 go_end0
 exact ⟨_,rfl,HE.out,HK2.out⟩
end Go.Proofs.YtiailkiepndliaaGreatDoor

