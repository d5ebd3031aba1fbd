/- Texts that the claim needs. -/
import Derived.Test.YtlcpagiljfpbpaaGreatDoorQELo33
namespace Go.Proofs.YtlcpagiljfpbpaaGreatDoor
open Go.RowKit Rep Enc Go.Lib
set_option linter.unusedVariables false
set_option maxRecDepth 100000 in
set_option maxHeartbeats 4000000 in
theorem dIns1 (w0:World) (p:Nat) (ov:Bool) (v:Value) (bs id:List Int) {d:Nat} (IH:DIS w0 p d) (x:Ins (IL d)) (q4 q5 q6:Option Addr) (y4 z4 y5 z5 y6 z6:Nat) (w:World) (h:PS w0 p ov v bs w) (hS:St id ov bs) (f:Int) (hf:form x.op=f) (hff:f<2\/9<f) (h63:(x.op == 63)=false) (h64:(x.op == 64)=false) (a4:Ints w0 (.slice q4 y4 z4) x.labels) (a5:At w0 d (.slice q5 y5 z5) x.body) (a6:At w0 d (.slice q6 y6 z6) x.els) (r:Rg1 (Rg d) x) :
  Calls Tryz.prog 112 #[.pointer (some ⟨p,0,none⟩),.agg #[.int .i64 x.op,.int .i64 x.a,.int .i64 x.b,.int .i64 x.n,.slice q4 y4 z4,.slice q5 y5 z5,.slice q6 y6 z6]] w (PDo w0 p v w (id++([x.op%256]))):=by
 have hb:=new_on' w (.cells #[.int .i64 x.op,.int .i64 x.a,.int .i64 x.b,.int .i64 x.n,.slice q4 y4 z4,.slice q5 y5 z5,.slice q6 y6 z6] 52)
 have HBK0:=hideR (Bx.new (w:=w) (b:=w.heap.size) (t:=52) (cs:=#[.int .i64 x.op,.int .i64 x.a,.int .i64 x.b,.int .i64 x.n,.slice q4 y4 z4,.slice q5 y5 z5,.slice q6 y6 z6]) rfl)
 obtain ⟨u1,hu1⟩:∃u1,u1=w.alloc (.cells #[.int .i64 x.op,.int .i64 x.a,.int .i64 x.b,.int .i64 x.n,.slice q4 y4 z4,.slice q5 y5 z5,.slice q6 y6 z6] 52):=⟨_,rfl⟩
 rw [<- hu1] at hb HBK0
 have HP0:=hideR (h.on hb)
 have HT0:=hideR hS
 have HK0:Hid (Kept p v w v u1):=hideR (Kept.below hb)
 have HO0:Hid (some w.heap.size≠v.ownBlock):=hideR (fun e=>by have:=(h.own.lt _ e.symm).2;omega)
 have HNP:Hid (w.heap.size≠p):=hideR (by have:=h.lt;omega)
 have HU:=hideR hu1
 have HIH:=hideR IH
 have HA:=hideR (⟨a4,a5,a6,r⟩:Ints w0 (.slice q4 y4 z4) x.labels/\At w0 d (.slice q5 y5 z5) x.body/\At w0 d (.slice q6 y6 z6) x.els/\Rg1 (Rg d) x)
 clear h hS IH a4 a5 a6 r hb hu1
 have HFO:Hid (form x.op=f):=hideR hf
 have f2:(f == 2)=false:=by simp;omega
 have f3:(f == 3)=false:=by simp;omega
 have f4:(f == 4)=false:=by simp;omega
 have f5:(f == 5)=false:=by simp;omega
 have f6:(f == 6)=false:=by simp;omega
 have f7:(f == 7)=false:=by simp;omega
 have f8:(f == 8)=false:=by simp;omega
 have f9:(f == 9)=false:=by simp;omega
 clear hf hff
 go_enter Tryz.func112,Tryz.ntmps112
 go_upto_region 1 with fail
 rw [<- HU.out]
 clear HU
 generalize w.heap.size=p3 at *
 have k0:=HBK0.out.cell 0 _ rfl
 have k1:=HBK0.out.cell 1 _ rfl
 have k2:=HBK0.out.cell 2 _ rfl
 have k3:=HBK0.out.cell 3 _ rfl
 have k4:=HBK0.out.cell 4 _ rfl
 have k5:=HBK0.out.cell 5 _ rfl
 have k6:=HBK0.out.cell 6 _ rfl
 have HC:=hideR (dByte w0 p ov v bs id x.op u1 HP0.out HT0.out)
 go_wp2_with fail
 refine HC.out.mono ?_
 rintro e w1 ⟨ov1,v1,b1,rfl,hh,ss,kk⟩
 obtain ⟨bb,bo⟩:=kk.bx HBK0.out HNP.out HO0.out
 have HP1:=hideR hh
 have HT1:=hideR ss
 have HK1:=hideR (HK0.out.trans kk)
 have HBK1:=hideR bb
 have HO1:=hideR bo
 clear hh ss kk bb bo HC HP0 HT0 HK0 HBK0 HO0 k0 k1 k2 k3 k4 k5 k6
 have k0:=HBK1.out.cell 0 _ rfl
 have k1:=HBK1.out.cell 1 _ rfl
 have k2:=HBK1.out.cell 2 _ rfl
 have k3:=HBK1.out.cell 3 _ rfl
 have k4:=HBK1.out.cell 4 _ rfl
 have k5:=HBK1.out.cell 5 _ rfl
 have k6:=HBK1.out.cell 6 _ rfl
 have HFM:=hideR (refForm x.op w1)
 go_wp2_with fail
 refine HFM.out.mono ?_
 rintro e wf ⟨rfl,rfl⟩
 clear HFM
 rw [HFO.out]
 have HF:Hid (St (id++([x.op%256])) ov1 b1):=hideR (by simpa [List.append_assoc] using HT1.out)
 go_wp2
 go_end0
 exact ⟨_,_,_,rfl,HP1.out,HF.out,HK1.out⟩
set_option maxRecDepth 100000 in
set_option maxHeartbeats 4000000 in
theorem dIns1a (w0:World) (p:Nat) (ov:Bool) (v:Value) (bs id:List Int) {d:Nat} (IH:DIS w0 p d) (x:Ins (IL d)) (q4 q5 q6:Option Addr) (y4 z4 y5 z5 y6 z6:Nat) (w:World) (h:PS w0 p ov v bs w) (hS:St id ov bs) (hf:form x.op=1) (h63:(x.op == 63)=true) (a4:Ints w0 (.slice q4 y4 z4) x.labels) (a5:At w0 d (.slice q5 y5 z5) x.body) (a6:At w0 d (.slice q6 y6 z6) x.els) (r:Rg1 (Rg d) x) :
  Calls Tryz.prog 112 #[.pointer (some ⟨p,0,none⟩),.agg #[.int .i64 x.op,.int .i64 x.a,.int .i64 x.b,.int .i64 x.n,.slice q4 y4 z4,.slice q5 y5 z5,.slice q6 y6 z6]] w (PDo w0 p v w (id++([x.op%256]++[0]))):=by
 have hb:=new_on' w (.cells #[.int .i64 x.op,.int .i64 x.a,.int .i64 x.b,.int .i64 x.n,.slice q4 y4 z4,.slice q5 y5 z5,.slice q6 y6 z6] 52)
 have HBK0:=hideR (Bx.new (w:=w) (b:=w.heap.size) (t:=52) (cs:=#[.int .i64 x.op,.int .i64 x.a,.int .i64 x.b,.int .i64 x.n,.slice q4 y4 z4,.slice q5 y5 z5,.slice q6 y6 z6]) rfl)
 obtain ⟨u1,hu1⟩:∃u1,u1=w.alloc (.cells #[.int .i64 x.op,.int .i64 x.a,.int .i64 x.b,.int .i64 x.n,.slice q4 y4 z4,.slice q5 y5 z5,.slice q6 y6 z6] 52):=⟨_,rfl⟩
 rw [<- hu1] at hb HBK0
 have HP0:=hideR (h.on hb)
 have HT0:=hideR hS
 have HK0:Hid (Kept p v w v u1):=hideR (Kept.below hb)
 have HO0:Hid (some w.heap.size≠v.ownBlock):=hideR (fun e=>by have:=(h.own.lt _ e.symm).2;omega)
 have HNP:Hid (w.heap.size≠p):=hideR (by have:=h.lt;omega)
 have HU:=hideR hu1
 have HIH:=hideR IH
 have HA:=hideR (⟨a4,a5,a6,r⟩:Ints w0 (.slice q4 y4 z4) x.labels/\At w0 d (.slice q5 y5 z5) x.body/\At w0 d (.slice q6 y6 z6) x.els/\Rg1 (Rg d) x)
 clear h hS IH a4 a5 a6 r hb hu1
 have HFO:Hid (form x.op=1):=hideR hf
 clear hf
 go_enter Tryz.func112,Tryz.ntmps112
 go_upto_region 1 with fail
 rw [<- HU.out]
 clear HU
 generalize w.heap.size=p3 at *
 have k0:=HBK0.out.cell 0 _ rfl
 have k1:=HBK0.out.cell 1 _ rfl
 have k2:=HBK0.out.cell 2 _ rfl
 have k3:=HBK0.out.cell 3 _ rfl
 have k4:=HBK0.out.cell 4 _ rfl
 have k5:=HBK0.out.cell 5 _ rfl
 have k6:=HBK0.out.cell 6 _ rfl
 have HC:=hideR (dByte w0 p ov v bs id x.op u1 HP0.out HT0.out)
 go_wp2_with fail
 refine HC.out.mono ?_
 rintro e w1 ⟨ov1,v1,b1,rfl,hh,ss,kk⟩
 obtain ⟨bb,bo⟩:=kk.bx HBK0.out HNP.out HO0.out
 have HP1:=hideR hh
 have HT1:=hideR ss
 have HK1:=hideR (HK0.out.trans kk)
 have HBK1:=hideR bb
 have HO1:=hideR bo
 clear hh ss kk bb bo HC HP0 HT0 HK0 HBK0 HO0 k0 k1 k2 k3 k4 k5 k6
 have k0:=HBK1.out.cell 0 _ rfl
 have k1:=HBK1.out.cell 1 _ rfl
 have k2:=HBK1.out.cell 2 _ rfl
 have k3:=HBK1.out.cell 3 _ rfl
 have k4:=HBK1.out.cell 4 _ rfl
 have k5:=HBK1.out.cell 5 _ rfl
 have k6:=HBK1.out.cell 6 _ rfl
 have HC:=hideR (dByte w0 p ov1 v1 b1 _ 0 w1 HP1.out HT1.out)
 have HFM:=hideR (refForm x.op w1)
 go_wp2_with fail
 refine HFM.out.mono ?_
 rintro e wf ⟨rfl,rfl⟩
 clear HFM
 rw [HFO.out]
 go_wp2_with fail
 refine HC.out.mono ?_
 rintro e w2 ⟨ov2,v2,b2,rfl,hh,ss,kk⟩
 obtain ⟨bb,bo⟩:=kk.bx HBK1.out HNP.out HO1.out
 have HP2:=hideR hh
 have HT2:=hideR ss
 have HK2:=hideR (HK1.out.trans kk)
 have HBK2:=hideR bb
 have HO2:=hideR bo
 clear hh ss kk bb bo HC HP1 HT1 HK1 HBK1 HO1 k0 k1 k2 k3 k4 k5 k6
 have HF:Hid (St (id++([x.op%256]++[0])) ov2 b2):=hideR (by simpa [List.append_assoc] using HT2.out)
 go_wp2
 go_end0
 exact ⟨_,_,_,rfl,HP2.out,HF.out,HK2.out⟩
set_option maxRecDepth 100000 in
set_option maxHeartbeats 4000000 in
theorem dIns1b (w0:World) (p:Nat) (ov:Bool) (v:Value) (bs id:List Int) {d:Nat} (IH:DIS w0 p d) (x:Ins (IL d)) (q4 q5 q6:Option Addr) (y4 z4 y5 z5 y6 z6:Nat) (w:World) (h:PS w0 p ov v bs w) (hS:St id ov bs) (hf:form x.op=1) (h63:(x.op == 63)=false) (h64:(x.op == 64)=true) (a4:Ints w0 (.slice q4 y4 z4) x.labels) (a5:At w0 d (.slice q5 y5 z5) x.body) (a6:At w0 d (.slice q6 y6 z6) x.els) (r:Rg1 (Rg d) x) :
  Calls Tryz.prog 112 #[.pointer (some ⟨p,0,none⟩),.agg #[.int .i64 x.op,.int .i64 x.a,.int .i64 x.b,.int .i64 x.n,.slice q4 y4 z4,.slice q5 y5 z5,.slice q6 y6 z6]] w (PDo w0 p v w (id++([x.op%256]++[0]))):=by
 have hb:=new_on' w (.cells #[.int .i64 x.op,.int .i64 x.a,.int .i64 x.b,.int .i64 x.n,.slice q4 y4 z4,.slice q5 y5 z5,.slice q6 y6 z6] 52)
 have HBK0:=hideR (Bx.new (w:=w) (b:=w.heap.size) (t:=52) (cs:=#[.int .i64 x.op,.int .i64 x.a,.int .i64 x.b,.int .i64 x.n,.slice q4 y4 z4,.slice q5 y5 z5,.slice q6 y6 z6]) rfl)
 obtain ⟨u1,hu1⟩:∃u1,u1=w.alloc (.cells #[.int .i64 x.op,.int .i64 x.a,.int .i64 x.b,.int .i64 x.n,.slice q4 y4 z4,.slice q5 y5 z5,.slice q6 y6 z6] 52):=⟨_,rfl⟩
 rw [<- hu1] at hb HBK0
 have HP0:=hideR (h.on hb)
 have HT0:=hideR hS
 have HK0:Hid (Kept p v w v u1):=hideR (Kept.below hb)
 have HO0:Hid (some w.heap.size≠v.ownBlock):=hideR (fun e=>by have:=(h.own.lt _ e.symm).2;omega)
 have HNP:Hid (w.heap.size≠p):=hideR (by have:=h.lt;omega)
 have HU:=hideR hu1
 have HIH:=hideR IH
 have HA:=hideR (⟨a4,a5,a6,r⟩:Ints w0 (.slice q4 y4 z4) x.labels/\At w0 d (.slice q5 y5 z5) x.body/\At w0 d (.slice q6 y6 z6) x.els/\Rg1 (Rg d) x)
 clear h hS IH a4 a5 a6 r hb hu1
 have HFO:Hid (form x.op=1):=hideR hf
 clear hf
 go_enter Tryz.func112,Tryz.ntmps112
 go_upto_region 1 with fail
 rw [<- HU.out]
 clear HU
 generalize w.heap.size=p3 at *
 have k0:=HBK0.out.cell 0 _ rfl
 have k1:=HBK0.out.cell 1 _ rfl
 have k2:=HBK0.out.cell 2 _ rfl
 have k3:=HBK0.out.cell 3 _ rfl
 have k4:=HBK0.out.cell 4 _ rfl
 have k5:=HBK0.out.cell 5 _ rfl
 have k6:=HBK0.out.cell 6 _ rfl
 have HC:=hideR (dByte w0 p ov v bs id x.op u1 HP0.out HT0.out)
 go_wp2_with fail
 refine HC.out.mono ?_
 rintro e w1 ⟨ov1,v1,b1,rfl,hh,ss,kk⟩
 obtain ⟨bb,bo⟩:=kk.bx HBK0.out HNP.out HO0.out
 have HP1:=hideR hh
 have HT1:=hideR ss
 have HK1:=hideR (HK0.out.trans kk)
 have HBK1:=hideR bb
 have HO1:=hideR bo
 clear hh ss kk bb bo HC HP0 HT0 HK0 HBK0 HO0 k0 k1 k2 k3 k4 k5 k6
 have k0:=HBK1.out.cell 0 _ rfl
 have k1:=HBK1.out.cell 1 _ rfl
 have k2:=HBK1.out.cell 2 _ rfl
 have k3:=HBK1.out.cell 3 _ rfl
 have k4:=HBK1.out.cell 4 _ rfl
 have k5:=HBK1.out.cell 5 _ rfl
 have k6:=HBK1.out.cell 6 _ rfl
 have HC:=hideR (dByte w0 p ov1 v1 b1 _ 0 w1 HP1.out HT1.out)
 have HFM:=hideR (refForm x.op w1)
 go_wp2_with fail
 refine HFM.out.mono ?_
 rintro e wf ⟨rfl,rfl⟩
 clear HFM
 rw [HFO.out]
 go_wp2_with fail
 refine HC.out.mono ?_
 rintro e w2 ⟨ov2,v2,b2,rfl,hh,ss,kk⟩
 obtain ⟨bb,bo⟩:=kk.bx HBK1.out HNP.out HO1.out
 have HP2:=hideR hh
 have HT2:=hideR ss
 have HK2:=hideR (HK1.out.trans kk)
 have HBK2:=hideR bb
 have HO2:=hideR bo
 clear hh ss kk bb bo HC HP1 HT1 HK1 HBK1 HO1 k0 k1 k2 k3 k4 k5 k6
 have HF:Hid (St (id++([x.op%256]++[0])) ov2 b2):=hideR (by simpa [List.append_assoc] using HT2.out)
 go_wp2
 go_end0
 exact ⟨_,_,_,rfl,HP2.out,HF.out,HK2.out⟩
set_option maxRecDepth 100000 in
set_option maxHeartbeats 4000000 in
theorem dIns4 (w0:World) (p:Nat) (ov:Bool) (v:Value) (bs id:List Int) {d:Nat} (IH:DIS w0 p d) (x:Ins (IL d)) (q4 q5 q6:Option Addr) (y4 z4 y5 z5 y6 z6:Nat) (w:World) (h:PS w0 p ov v bs w) (hS:St id ov bs) (hf:form x.op=4) (a4:Ints w0 (.slice q4 y4 z4) x.labels) (a5:At w0 d (.slice q5 y5 z5) x.body) (a6:At w0 d (.slice q6 y6 z6) x.els) (r:Rg1 (Rg d) x) :
  Calls Tryz.prog 112 #[.pointer (some ⟨p,0,none⟩),.agg #[.int .i64 x.op,.int .i64 x.a,.int .i64 x.b,.int .i64 x.n,.slice q4 y4 z4,.slice q5 y5 z5,.slice q6 y6 z6]] w (PDo w0 p v w (id++([x.op%256]++Leb.uB x.a))):=by
 have hb:=new_on' w (.cells #[.int .i64 x.op,.int .i64 x.a,.int .i64 x.b,.int .i64 x.n,.slice q4 y4 z4,.slice q5 y5 z5,.slice q6 y6 z6] 52)
 have HBK0:=hideR (Bx.new (w:=w) (b:=w.heap.size) (t:=52) (cs:=#[.int .i64 x.op,.int .i64 x.a,.int .i64 x.b,.int .i64 x.n,.slice q4 y4 z4,.slice q5 y5 z5,.slice q6 y6 z6]) rfl)
 obtain ⟨u1,hu1⟩:∃u1,u1=w.alloc (.cells #[.int .i64 x.op,.int .i64 x.a,.int .i64 x.b,.int .i64 x.n,.slice q4 y4 z4,.slice q5 y5 z5,.slice q6 y6 z6] 52):=⟨_,rfl⟩
 rw [<- hu1] at hb HBK0
 have HP0:=hideR (h.on hb)
 have HT0:=hideR hS
 have HK0:Hid (Kept p v w v u1):=hideR (Kept.below hb)
 have HO0:Hid (some w.heap.size≠v.ownBlock):=hideR (fun e=>by have:=(h.own.lt _ e.symm).2;omega)
 have HNP:Hid (w.heap.size≠p):=hideR (by have:=h.lt;omega)
 have HU:=hideR hu1
 have HIH:=hideR IH
 have HA:=hideR (⟨a4,a5,a6,r⟩:Ints w0 (.slice q4 y4 z4) x.labels/\At w0 d (.slice q5 y5 z5) x.body/\At w0 d (.slice q6 y6 z6) x.els/\Rg1 (Rg d) x)
 clear h hS IH a4 a5 a6 r hb hu1
 have HFO:Hid (form x.op=4):=hideR hf
 clear hf
 go_enter Tryz.func112,Tryz.ntmps112
 go_upto_region 1 with fail
 rw [<- HU.out]
 clear HU
 generalize w.heap.size=p3 at *
 have k0:=HBK0.out.cell 0 _ rfl
 have k1:=HBK0.out.cell 1 _ rfl
 have k2:=HBK0.out.cell 2 _ rfl
 have k3:=HBK0.out.cell 3 _ rfl
 have k4:=HBK0.out.cell 4 _ rfl
 have k5:=HBK0.out.cell 5 _ rfl
 have k6:=HBK0.out.cell 6 _ rfl
 have HC:=hideR (dByte w0 p ov v bs id x.op u1 HP0.out HT0.out)
 go_wp2_with fail
 refine HC.out.mono ?_
 rintro e w1 ⟨ov1,v1,b1,rfl,hh,ss,kk⟩
 obtain ⟨bb,bo⟩:=kk.bx HBK0.out HNP.out HO0.out
 have HP1:=hideR hh
 have HT1:=hideR ss
 have HK1:=hideR (HK0.out.trans kk)
 have HBK1:=hideR bb
 have HO1:=hideR bo
 clear hh ss kk bb bo HC HP0 HT0 HK0 HBK0 HO0 k0 k1 k2 k3 k4 k5 k6
 have k0:=HBK1.out.cell 0 _ rfl
 have k1:=HBK1.out.cell 1 _ rfl
 have k2:=HBK1.out.cell 2 _ rfl
 have k3:=HBK1.out.cell 3 _ rfl
 have k4:=HBK1.out.cell 4 _ rfl
 have k5:=HBK1.out.cell 5 _ rfl
 have k6:=HBK1.out.cell 6 _ rfl
 have HC:=hideR (dU w0 p ov1 v1 b1 _ x.a w1 HP1.out HT1.out (HA.out.2.2.2.a (by have:=HFO.out;omega) (by have:=HFO.out;omega)).1 (by have:=(HA.out.2.2.2.a (by have:=HFO.out;omega) (by have:=HFO.out;omega)).2;omega))
 have HFM:=hideR (refForm x.op w1)
 go_wp2_with fail
 refine HFM.out.mono ?_
 rintro e wf ⟨rfl,rfl⟩
 clear HFM
 rw [HFO.out]
 go_wp2_with fail
 refine HC.out.mono ?_
 rintro e w2 ⟨ov2,v2,b2,rfl,hh,ss,kk⟩
 obtain ⟨bb,bo⟩:=kk.bx HBK1.out HNP.out HO1.out
 have HP2:=hideR hh
 have HT2:=hideR ss
 have HK2:=hideR (HK1.out.trans kk)
 have HBK2:=hideR bb
 have HO2:=hideR bo
 clear hh ss kk bb bo HC HP1 HT1 HK1 HBK1 HO1 k0 k1 k2 k3 k4 k5 k6
 have HF:Hid (St (id++([x.op%256]++Leb.uB x.a)) ov2 b2):=hideR (by simpa [List.append_assoc] using HT2.out)
 go_wp2
 go_end0
 exact ⟨_,_,_,rfl,HP2.out,HF.out,HK2.out⟩
set_option maxRecDepth 100000 in
set_option maxHeartbeats 4000000 in
theorem dIns6 (w0:World) (p:Nat) (ov:Bool) (v:Value) (bs id:List Int) {d:Nat} (IH:DIS w0 p d) (x:Ins (IL d)) (q4 q5 q6:Option Addr) (y4 z4 y5 z5 y6 z6:Nat) (w:World) (h:PS w0 p ov v bs w) (hS:St id ov bs) (hf:form x.op=6) (a4:Ints w0 (.slice q4 y4 z4) x.labels) (a5:At w0 d (.slice q5 y5 z5) x.body) (a6:At w0 d (.slice q6 y6 z6) x.els) (r:Rg1 (Rg d) x) :
  Calls Tryz.prog 112 #[.pointer (some ⟨p,0,none⟩),.agg #[.int .i64 x.op,.int .i64 x.a,.int .i64 x.b,.int .i64 x.n,.slice q4 y4 z4,.slice q5 y5 z5,.slice q6 y6 z6]] w (PDo w0 p v w (id++([x.op%256]++Leb.uB x.a))):=by
 have hb:=new_on' w (.cells #[.int .i64 x.op,.int .i64 x.a,.int .i64 x.b,.int .i64 x.n,.slice q4 y4 z4,.slice q5 y5 z5,.slice q6 y6 z6] 52)
 have HBK0:=hideR (Bx.new (w:=w) (b:=w.heap.size) (t:=52) (cs:=#[.int .i64 x.op,.int .i64 x.a,.int .i64 x.b,.int .i64 x.n,.slice q4 y4 z4,.slice q5 y5 z5,.slice q6 y6 z6]) rfl)
 obtain ⟨u1,hu1⟩:∃u1,u1=w.alloc (.cells #[.int .i64 x.op,.int .i64 x.a,.int .i64 x.b,.int .i64 x.n,.slice q4 y4 z4,.slice q5 y5 z5,.slice q6 y6 z6] 52):=⟨_,rfl⟩
 rw [<- hu1] at hb HBK0
 have HP0:=hideR (h.on hb)
 have HT0:=hideR hS
 have HK0:Hid (Kept p v w v u1):=hideR (Kept.below hb)
 have HO0:Hid (some w.heap.size≠v.ownBlock):=hideR (fun e=>by have:=(h.own.lt _ e.symm).2;omega)
 have HNP:Hid (w.heap.size≠p):=hideR (by have:=h.lt;omega)
 have HU:=hideR hu1
 have HIH:=hideR IH
 have HA:=hideR (⟨a4,a5,a6,r⟩:Ints w0 (.slice q4 y4 z4) x.labels/\At w0 d (.slice q5 y5 z5) x.body/\At w0 d (.slice q6 y6 z6) x.els/\Rg1 (Rg d) x)
 clear h hS IH a4 a5 a6 r hb hu1
 have HFO:Hid (form x.op=6):=hideR hf
 clear hf
 go_enter Tryz.func112,Tryz.ntmps112
 go_upto_region 1 with fail
 rw [<- HU.out]
 clear HU
 generalize w.heap.size=p3 at *
 have k0:=HBK0.out.cell 0 _ rfl
 have k1:=HBK0.out.cell 1 _ rfl
 have k2:=HBK0.out.cell 2 _ rfl
 have k3:=HBK0.out.cell 3 _ rfl
 have k4:=HBK0.out.cell 4 _ rfl
 have k5:=HBK0.out.cell 5 _ rfl
 have k6:=HBK0.out.cell 6 _ rfl
 have HC:=hideR (dByte w0 p ov v bs id x.op u1 HP0.out HT0.out)
 go_wp2_with fail
 refine HC.out.mono ?_
 rintro e w1 ⟨ov1,v1,b1,rfl,hh,ss,kk⟩
 obtain ⟨bb,bo⟩:=kk.bx HBK0.out HNP.out HO0.out
 have HP1:=hideR hh
 have HT1:=hideR ss
 have HK1:=hideR (HK0.out.trans kk)
 have HBK1:=hideR bb
 have HO1:=hideR bo
 clear hh ss kk bb bo HC HP0 HT0 HK0 HBK0 HO0 k0 k1 k2 k3 k4 k5 k6
 have k0:=HBK1.out.cell 0 _ rfl
 have k1:=HBK1.out.cell 1 _ rfl
 have k2:=HBK1.out.cell 2 _ rfl
 have k3:=HBK1.out.cell 3 _ rfl
 have k4:=HBK1.out.cell 4 _ rfl
 have k5:=HBK1.out.cell 5 _ rfl
 have k6:=HBK1.out.cell 6 _ rfl
 have HC:=hideR (dU w0 p ov1 v1 b1 _ x.a w1 HP1.out HT1.out (HA.out.2.2.2.a (by have:=HFO.out;omega) (by have:=HFO.out;omega)).1 (by have:=(HA.out.2.2.2.a (by have:=HFO.out;omega) (by have:=HFO.out;omega)).2;omega))
 have HFM:=hideR (refForm x.op w1)
 go_wp2_with fail
 refine HFM.out.mono ?_
 rintro e wf ⟨rfl,rfl⟩
 clear HFM
 rw [HFO.out]
 go_wp2_with fail
 refine HC.out.mono ?_
 rintro e w2 ⟨ov2,v2,b2,rfl,hh,ss,kk⟩
 obtain ⟨bb,bo⟩:=kk.bx HBK1.out HNP.out HO1.out
 have HP2:=hideR hh
 have HT2:=hideR ss
 have HK2:=hideR (HK1.out.trans kk)
 have HBK2:=hideR bb
 have HO2:=hideR bo
 clear hh ss kk bb bo HC HP1 HT1 HK1 HBK1 HO1 k0 k1 k2 k3 k4 k5 k6
 have HF:Hid (St (id++([x.op%256]++Leb.uB x.a)) ov2 b2):=hideR (by simpa [List.append_assoc] using HT2.out)
 go_wp2
 go_end0
 exact ⟨_,_,_,rfl,HP2.out,HF.out,HK2.out⟩
set_option maxRecDepth 100000 in
set_option maxHeartbeats 4000000 in
theorem dIns5 (w0:World) (p:Nat) (ov:Bool) (v:Value) (bs id:List Int) {d:Nat} (IH:DIS w0 p d) (x:Ins (IL d)) (q4 q5 q6:Option Addr) (y4 z4 y5 z5 y6 z6:Nat) (w:World) (h:PS w0 p ov v bs w) (hS:St id ov bs) (hf:form x.op=5) (a4:Ints w0 (.slice q4 y4 z4) x.labels) (a5:At w0 d (.slice q5 y5 z5) x.body) (a6:At w0 d (.slice q6 y6 z6) x.els) (r:Rg1 (Rg d) x) :
  Calls Tryz.prog 112 #[.pointer (some ⟨p,0,none⟩),.agg #[.int .i64 x.op,.int .i64 x.a,.int .i64 x.b,.int .i64 x.n,.slice q4 y4 z4,.slice q5 y5 z5,.slice q6 y6 z6]] w (PDo w0 p v w (id++([x.op%256]++idxB x.labels++Leb.uB x.a))):=by
 have hb:=new_on' w (.cells #[.int .i64 x.op,.int .i64 x.a,.int .i64 x.b,.int .i64 x.n,.slice q4 y4 z4,.slice q5 y5 z5,.slice q6 y6 z6] 52)
 have HBK0:=hideR (Bx.new (w:=w) (b:=w.heap.size) (t:=52) (cs:=#[.int .i64 x.op,.int .i64 x.a,.int .i64 x.b,.int .i64 x.n,.slice q4 y4 z4,.slice q5 y5 z5,.slice q6 y6 z6]) rfl)
 obtain ⟨u1,hu1⟩:∃u1,u1=w.alloc (.cells #[.int .i64 x.op,.int .i64 x.a,.int .i64 x.b,.int .i64 x.n,.slice q4 y4 z4,.slice q5 y5 z5,.slice q6 y6 z6] 52):=⟨_,rfl⟩
 rw [<- hu1] at hb HBK0
 have HP0:=hideR (h.on hb)
 have HT0:=hideR hS
 have HK0:Hid (Kept p v w v u1):=hideR (Kept.below hb)
 have HO0:Hid (some w.heap.size≠v.ownBlock):=hideR (fun e=>by have:=(h.own.lt _ e.symm).2;omega)
 have HNP:Hid (w.heap.size≠p):=hideR (by have:=h.lt;omega)
 have HU:=hideR hu1
 have HIH:=hideR IH
 have HA:=hideR (⟨a4,a5,a6,r⟩:Ints w0 (.slice q4 y4 z4) x.labels/\At w0 d (.slice q5 y5 z5) x.body/\At w0 d (.slice q6 y6 z6) x.els/\Rg1 (Rg d) x)
 clear h hS IH a4 a5 a6 r hb hu1
 have HFO:Hid (form x.op=5):=hideR hf
 clear hf
 go_enter Tryz.func112,Tryz.ntmps112
 go_upto_region 1 with fail
 rw [<- HU.out]
 clear HU
 generalize w.heap.size=p3 at *
 have k0:=HBK0.out.cell 0 _ rfl
 have k1:=HBK0.out.cell 1 _ rfl
 have k2:=HBK0.out.cell 2 _ rfl
 have k3:=HBK0.out.cell 3 _ rfl
 have k4:=HBK0.out.cell 4 _ rfl
 have k5:=HBK0.out.cell 5 _ rfl
 have k6:=HBK0.out.cell 6 _ rfl
 have HC:=hideR (dByte w0 p ov v bs id x.op u1 HP0.out HT0.out)
 go_wp2_with fail
 refine HC.out.mono ?_
 rintro e w1 ⟨ov1,v1,b1,rfl,hh,ss,kk⟩
 obtain ⟨bb,bo⟩:=kk.bx HBK0.out HNP.out HO0.out
 have HP1:=hideR hh
 have HT1:=hideR ss
 have HK1:=hideR (HK0.out.trans kk)
 have HBK1:=hideR bb
 have HO1:=hideR bo
 clear hh ss kk bb bo HC HP0 HT0 HK0 HBK0 HO0 k0 k1 k2 k3 k4 k5 k6
 have k0:=HBK1.out.cell 0 _ rfl
 have k1:=HBK1.out.cell 1 _ rfl
 have k2:=HBK1.out.cell 2 _ rfl
 have k3:=HBK1.out.cell 3 _ rfl
 have k4:=HBK1.out.cell 4 _ rfl
 have k5:=HBK1.out.cell 5 _ rfl
 have k6:=HBK1.out.cell 6 _ rfl
 have HC:=hideR (dList w0 p ov1 v1 b1 _ _ x.labels w1 HP1.out HT1.out HA.out.1 (HA.out.2.2.2.labels HFO.out))
 have HFM:=hideR (refForm x.op w1)
 go_wp2_with fail
 refine HFM.out.mono ?_
 rintro e wf ⟨rfl,rfl⟩
 clear HFM
 rw [HFO.out]
 go_wp2_with fail
 refine HC.out.mono ?_
 rintro e w2 ⟨ov2,v2,b2,rfl,hh,ss,kk⟩
 obtain ⟨bb,bo⟩:=kk.bx HBK1.out HNP.out HO1.out
 have HP2:=hideR hh
 have HT2:=hideR ss
 have HK2:=hideR (HK1.out.trans kk)
 have HBK2:=hideR bb
 have HO2:=hideR bo
 clear hh ss kk bb bo HC HP1 HT1 HK1 HBK1 HO1 k0 k1 k2 k3 k4 k5 k6
 have k0:=HBK2.out.cell 0 _ rfl
 have k1:=HBK2.out.cell 1 _ rfl
 have k2:=HBK2.out.cell 2 _ rfl
 have k3:=HBK2.out.cell 3 _ rfl
 have k4:=HBK2.out.cell 4 _ rfl
 have k5:=HBK2.out.cell 5 _ rfl
 have k6:=HBK2.out.cell 6 _ rfl
 have HC:=hideR (dU w0 p ov2 v2 b2 _ x.a w2 HP2.out HT2.out (HA.out.2.2.2.a (by have:=HFO.out;omega) (by have:=HFO.out;omega)).1 (by have:=(HA.out.2.2.2.a (by have:=HFO.out;omega) (by have:=HFO.out;omega)).2;omega))
 go_wp2_with fail
 refine HC.out.mono ?_
 rintro e w3 ⟨ov3,v3,b3,rfl,hh,ss,kk⟩
 obtain ⟨bb,bo⟩:=kk.bx HBK2.out HNP.out HO2.out
 have HP3:=hideR hh
 have HT3:=hideR ss
 have HK3:=hideR (HK2.out.trans kk)
 have HBK3:=hideR bb
 have HO3:=hideR bo
 clear hh ss kk bb bo HC HP2 HT2 HK2 HBK2 HO2 k0 k1 k2 k3 k4 k5 k6
 have HF:Hid (St (id++([x.op%256]++idxB x.labels++Leb.uB x.a)) ov3 b3):=hideR (by simpa [List.append_assoc] using HT3.out)
 go_wp2
 go_end0
 exact ⟨_,_,_,rfl,HP3.out,HF.out,HK3.out⟩
set_option maxRecDepth 100000 in
set_option maxHeartbeats 4000000 in
theorem dIns7 (w0:World) (p:Nat) (ov:Bool) (v:Value) (bs id:List Int) {d:Nat} (IH:DIS w0 p d) (x:Ins (IL d)) (q4 q5 q6:Option Addr) (y4 z4 y5 z5 y6 z6:Nat) (w:World) (h:PS w0 p ov v bs w) (hS:St id ov bs) (hf:form x.op=7) (a4:Ints w0 (.slice q4 y4 z4) x.labels) (a5:At w0 d (.slice q5 y5 z5) x.body) (a6:At w0 d (.slice q6 y6 z6) x.els) (r:Rg1 (Rg d) x) :
  Calls Tryz.prog 112 #[.pointer (some ⟨p,0,none⟩),.agg #[.int .i64 x.op,.int .i64 x.a,.int .i64 x.b,.int .i64 x.n,.slice q4 y4 z4,.slice q5 y5 z5,.slice q6 y6 z6]] w (PDo w0 p v w (id++([x.op%256]++Leb.uB x.a++[0]))):=by
 have hb:=new_on' w (.cells #[.int .i64 x.op,.int .i64 x.a,.int .i64 x.b,.int .i64 x.n,.slice q4 y4 z4,.slice q5 y5 z5,.slice q6 y6 z6] 52)
 have HBK0:=hideR (Bx.new (w:=w) (b:=w.heap.size) (t:=52) (cs:=#[.int .i64 x.op,.int .i64 x.a,.int .i64 x.b,.int .i64 x.n,.slice q4 y4 z4,.slice q5 y5 z5,.slice q6 y6 z6]) rfl)
 obtain ⟨u1,hu1⟩:∃u1,u1=w.alloc (.cells #[.int .i64 x.op,.int .i64 x.a,.int .i64 x.b,.int .i64 x.n,.slice q4 y4 z4,.slice q5 y5 z5,.slice q6 y6 z6] 52):=⟨_,rfl⟩
 rw [<- hu1] at hb HBK0
 have HP0:=hideR (h.on hb)
 have HT0:=hideR hS
 have HK0:Hid (Kept p v w v u1):=hideR (Kept.below hb)
 have HO0:Hid (some w.heap.size≠v.ownBlock):=hideR (fun e=>by have:=(h.own.lt _ e.symm).2;omega)
 have HNP:Hid (w.heap.size≠p):=hideR (by have:=h.lt;omega)
 have HU:=hideR hu1
 have HIH:=hideR IH
 have HA:=hideR (⟨a4,a5,a6,r⟩:Ints w0 (.slice q4 y4 z4) x.labels/\At w0 d (.slice q5 y5 z5) x.body/\At w0 d (.slice q6 y6 z6) x.els/\Rg1 (Rg d) x)
 clear h hS IH a4 a5 a6 r hb hu1
 have HFO:Hid (form x.op=7):=hideR hf
 clear hf
 go_enter Tryz.func112,Tryz.ntmps112
 go_upto_region 1 with fail
 rw [<- HU.out]
 clear HU
 generalize w.heap.size=p3 at *
 have k0:=HBK0.out.cell 0 _ rfl
 have k1:=HBK0.out.cell 1 _ rfl
 have k2:=HBK0.out.cell 2 _ rfl
 have k3:=HBK0.out.cell 3 _ rfl
 have k4:=HBK0.out.cell 4 _ rfl
 have k5:=HBK0.out.cell 5 _ rfl
 have k6:=HBK0.out.cell 6 _ rfl
 have HC:=hideR (dByte w0 p ov v bs id x.op u1 HP0.out HT0.out)
 go_wp2_with fail
 refine HC.out.mono ?_
 rintro e w1 ⟨ov1,v1,b1,rfl,hh,ss,kk⟩
 obtain ⟨bb,bo⟩:=kk.bx HBK0.out HNP.out HO0.out
 have HP1:=hideR hh
 have HT1:=hideR ss
 have HK1:=hideR (HK0.out.trans kk)
 have HBK1:=hideR bb
 have HO1:=hideR bo
 clear hh ss kk bb bo HC HP0 HT0 HK0 HBK0 HO0 k0 k1 k2 k3 k4 k5 k6
 have k0:=HBK1.out.cell 0 _ rfl
 have k1:=HBK1.out.cell 1 _ rfl
 have k2:=HBK1.out.cell 2 _ rfl
 have k3:=HBK1.out.cell 3 _ rfl
 have k4:=HBK1.out.cell 4 _ rfl
 have k5:=HBK1.out.cell 5 _ rfl
 have k6:=HBK1.out.cell 6 _ rfl
 have HC:=hideR (dU w0 p ov1 v1 b1 _ x.a w1 HP1.out HT1.out (HA.out.2.2.2.a (by have:=HFO.out;omega) (by have:=HFO.out;omega)).1 (by have:=(HA.out.2.2.2.a (by have:=HFO.out;omega) (by have:=HFO.out;omega)).2;omega))
 have HFM:=hideR (refForm x.op w1)
 go_wp2_with fail
 refine HFM.out.mono ?_
 rintro e wf ⟨rfl,rfl⟩
 clear HFM
 rw [HFO.out]
 go_wp2_with fail
 refine HC.out.mono ?_
 rintro e w2 ⟨ov2,v2,b2,rfl,hh,ss,kk⟩
 obtain ⟨bb,bo⟩:=kk.bx HBK1.out HNP.out HO1.out
 have HP2:=hideR hh
 have HT2:=hideR ss
 have HK2:=hideR (HK1.out.trans kk)
 have HBK2:=hideR bb
 have HO2:=hideR bo
 clear hh ss kk bb bo HC HP1 HT1 HK1 HBK1 HO1 k0 k1 k2 k3 k4 k5 k6
 have k0:=HBK2.out.cell 0 _ rfl
 have k1:=HBK2.out.cell 1 _ rfl
 have k2:=HBK2.out.cell 2 _ rfl
 have k3:=HBK2.out.cell 3 _ rfl
 have k4:=HBK2.out.cell 4 _ rfl
 have k5:=HBK2.out.cell 5 _ rfl
 have k6:=HBK2.out.cell 6 _ rfl
 have HC:=hideR (dByte w0 p ov2 v2 b2 _ 0 w2 HP2.out HT2.out)
 go_wp2_with fail
 refine HC.out.mono ?_
 rintro e w3 ⟨ov3,v3,b3,rfl,hh,ss,kk⟩
 obtain ⟨bb,bo⟩:=kk.bx HBK2.out HNP.out HO2.out
 have HP3:=hideR hh
 have HT3:=hideR ss
 have HK3:=hideR (HK2.out.trans kk)
 have HBK3:=hideR bb
 have HO3:=hideR bo
 clear hh ss kk bb bo HC HP2 HT2 HK2 HBK2 HO2 k0 k1 k2 k3 k4 k5 k6
 have HF:Hid (St (id++([x.op%256]++Leb.uB x.a++[0])) ov3 b3):=hideR (by simpa [List.append_assoc] using HT3.out)
 go_wp2
 go_end0
 exact ⟨_,_,_,rfl,HP3.out,HF.out,HK3.out⟩
set_option maxRecDepth 100000 in
set_option maxHeartbeats 4000000 in
theorem dIns8 (w0:World) (p:Nat) (ov:Bool) (v:Value) (bs id:List Int) {d:Nat} (IH:DIS w0 p d) (x:Ins (IL d)) (q4 q5 q6:Option Addr) (y4 z4 y5 z5 y6 z6:Nat) (w:World) (h:PS w0 p ov v bs w) (hS:St id ov bs) (hf:form x.op=8) (a4:Ints w0 (.slice q4 y4 z4) x.labels) (a5:At w0 d (.slice q5 y5 z5) x.body) (a6:At w0 d (.slice q6 y6 z6) x.els) (r:Rg1 (Rg d) x) :
  Calls Tryz.prog 112 #[.pointer (some ⟨p,0,none⟩),.agg #[.int .i64 x.op,.int .i64 x.a,.int .i64 x.b,.int .i64 x.n,.slice q4 y4 z4,.slice q5 y5 z5,.slice q6 y6 z6]] w (PDo w0 p v w (id++([x.op%256]++Leb.uB x.a++Leb.uB x.b))):=by
 have hb:=new_on' w (.cells #[.int .i64 x.op,.int .i64 x.a,.int .i64 x.b,.int .i64 x.n,.slice q4 y4 z4,.slice q5 y5 z5,.slice q6 y6 z6] 52)
 have HBK0:=hideR (Bx.new (w:=w) (b:=w.heap.size) (t:=52) (cs:=#[.int .i64 x.op,.int .i64 x.a,.int .i64 x.b,.int .i64 x.n,.slice q4 y4 z4,.slice q5 y5 z5,.slice q6 y6 z6]) rfl)
 obtain ⟨u1,hu1⟩:∃u1,u1=w.alloc (.cells #[.int .i64 x.op,.int .i64 x.a,.int .i64 x.b,.int .i64 x.n,.slice q4 y4 z4,.slice q5 y5 z5,.slice q6 y6 z6] 52):=⟨_,rfl⟩
 rw [<- hu1] at hb HBK0
 have HP0:=hideR (h.on hb)
 have HT0:=hideR hS
 have HK0:Hid (Kept p v w v u1):=hideR (Kept.below hb)
 have HO0:Hid (some w.heap.size≠v.ownBlock):=hideR (fun e=>by have:=(h.own.lt _ e.symm).2;omega)
 have HNP:Hid (w.heap.size≠p):=hideR (by have:=h.lt;omega)
 have HU:=hideR hu1
 have HIH:=hideR IH
 have HA:=hideR (⟨a4,a5,a6,r⟩:Ints w0 (.slice q4 y4 z4) x.labels/\At w0 d (.slice q5 y5 z5) x.body/\At w0 d (.slice q6 y6 z6) x.els/\Rg1 (Rg d) x)
 clear h hS IH a4 a5 a6 r hb hu1
 have HFO:Hid (form x.op=8):=hideR hf
 clear hf
 go_enter Tryz.func112,Tryz.ntmps112
 go_upto_region 1 with fail
 rw [<- HU.out]
 clear HU
 generalize w.heap.size=p3 at *
 have k0:=HBK0.out.cell 0 _ rfl
 have k1:=HBK0.out.cell 1 _ rfl
 have k2:=HBK0.out.cell 2 _ rfl
 have k3:=HBK0.out.cell 3 _ rfl
 have k4:=HBK0.out.cell 4 _ rfl
 have k5:=HBK0.out.cell 5 _ rfl
 have k6:=HBK0.out.cell 6 _ rfl
 have HC:=hideR (dByte w0 p ov v bs id x.op u1 HP0.out HT0.out)
 go_wp2_with fail
 refine HC.out.mono ?_
 rintro e w1 ⟨ov1,v1,b1,rfl,hh,ss,kk⟩
 obtain ⟨bb,bo⟩:=kk.bx HBK0.out HNP.out HO0.out
 have HP1:=hideR hh
 have HT1:=hideR ss
 have HK1:=hideR (HK0.out.trans kk)
 have HBK1:=hideR bb
 have HO1:=hideR bo
 clear hh ss kk bb bo HC HP0 HT0 HK0 HBK0 HO0 k0 k1 k2 k3 k4 k5 k6
 have k0:=HBK1.out.cell 0 _ rfl
 have k1:=HBK1.out.cell 1 _ rfl
 have k2:=HBK1.out.cell 2 _ rfl
 have k3:=HBK1.out.cell 3 _ rfl
 have k4:=HBK1.out.cell 4 _ rfl
 have k5:=HBK1.out.cell 5 _ rfl
 have k6:=HBK1.out.cell 6 _ rfl
 have HC:=hideR (dU w0 p ov1 v1 b1 _ x.a w1 HP1.out HT1.out (HA.out.2.2.2.a (by have:=HFO.out;omega) (by have:=HFO.out;omega)).1 (by have:=(HA.out.2.2.2.a (by have:=HFO.out;omega) (by have:=HFO.out;omega)).2;omega))
 have HFM:=hideR (refForm x.op w1)
 go_wp2_with fail
 refine HFM.out.mono ?_
 rintro e wf ⟨rfl,rfl⟩
 clear HFM
 rw [HFO.out]
 go_wp2_with fail
 refine HC.out.mono ?_
 rintro e w2 ⟨ov2,v2,b2,rfl,hh,ss,kk⟩
 obtain ⟨bb,bo⟩:=kk.bx HBK1.out HNP.out HO1.out
 have HP2:=hideR hh
 have HT2:=hideR ss
 have HK2:=hideR (HK1.out.trans kk)
 have HBK2:=hideR bb
 have HO2:=hideR bo
 clear hh ss kk bb bo HC HP1 HT1 HK1 HBK1 HO1 k0 k1 k2 k3 k4 k5 k6
 have k0:=HBK2.out.cell 0 _ rfl
 have k1:=HBK2.out.cell 1 _ rfl
 have k2:=HBK2.out.cell 2 _ rfl
 have k3:=HBK2.out.cell 3 _ rfl
 have k4:=HBK2.out.cell 4 _ rfl
 have k5:=HBK2.out.cell 5 _ rfl
 have k6:=HBK2.out.cell 6 _ rfl
 have HC:=hideR (dU w0 p ov2 v2 b2 _ x.b w2 HP2.out HT2.out (HA.out.2.2.2.b HFO.out).1 (by have:=(HA.out.2.2.2.b HFO.out).2;omega))
 go_wp2_with fail
 refine HC.out.mono ?_
 rintro e w3 ⟨ov3,v3,b3,rfl,hh,ss,kk⟩
 obtain ⟨bb,bo⟩:=kk.bx HBK2.out HNP.out HO2.out
 have HP3:=hideR hh
 have HT3:=hideR ss
 have HK3:=hideR (HK2.out.trans kk)
 have HBK3:=hideR bb
 have HO3:=hideR bo
 clear hh ss kk bb bo HC HP2 HT2 HK2 HBK2 HO2 k0 k1 k2 k3 k4 k5 k6
 have HF:Hid (St (id++([x.op%256]++Leb.uB x.a++Leb.uB x.b)) ov3 b3):=hideR (by simpa [List.append_assoc] using HT3.out)
 go_wp2
 go_end0
 exact ⟨_,_,_,rfl,HP3.out,HF.out,HK3.out⟩
set_option maxRecDepth 100000 in
set_option maxHeartbeats 4000000 in
theorem dIns9 (w0:World) (p:Nat) (ov:Bool) (v:Value) (bs id:List Int) {d:Nat} (IH:DIS w0 p d) (x:Ins (IL d)) (q4 q5 q6:Option Addr) (y4 z4 y5 z5 y6 z6:Nat) (w:World) (h:PS w0 p ov v bs w) (hS:St id ov bs) (hf:form x.op=9) (a4:Ints w0 (.slice q4 y4 z4) x.labels) (a5:At w0 d (.slice q5 y5 z5) x.body) (a6:At w0 d (.slice q6 y6 z6) x.els) (r:Rg1 (Rg d) x) :
  Calls Tryz.prog 112 #[.pointer (some ⟨p,0,none⟩),.agg #[.int .i64 x.op,.int .i64 x.a,.int .i64 x.b,.int .i64 x.n,.slice q4 y4 z4,.slice q5 y5 z5,.slice q6 y6 z6]] w (PDo w0 p v w (id++([x.op%256]++Leb.sB x.n))):=by
 have hb:=new_on' w (.cells #[.int .i64 x.op,.int .i64 x.a,.int .i64 x.b,.int .i64 x.n,.slice q4 y4 z4,.slice q5 y5 z5,.slice q6 y6 z6] 52)
 have HBK0:=hideR (Bx.new (w:=w) (b:=w.heap.size) (t:=52) (cs:=#[.int .i64 x.op,.int .i64 x.a,.int .i64 x.b,.int .i64 x.n,.slice q4 y4 z4,.slice q5 y5 z5,.slice q6 y6 z6]) rfl)
 obtain ⟨u1,hu1⟩:∃u1,u1=w.alloc (.cells #[.int .i64 x.op,.int .i64 x.a,.int .i64 x.b,.int .i64 x.n,.slice q4 y4 z4,.slice q5 y5 z5,.slice q6 y6 z6] 52):=⟨_,rfl⟩
 rw [<- hu1] at hb HBK0
 have HP0:=hideR (h.on hb)
 have HT0:=hideR hS
 have HK0:Hid (Kept p v w v u1):=hideR (Kept.below hb)
 have HO0:Hid (some w.heap.size≠v.ownBlock):=hideR (fun e=>by have:=(h.own.lt _ e.symm).2;omega)
 have HNP:Hid (w.heap.size≠p):=hideR (by have:=h.lt;omega)
 have HU:=hideR hu1
 have HIH:=hideR IH
 have HA:=hideR (⟨a4,a5,a6,r⟩:Ints w0 (.slice q4 y4 z4) x.labels/\At w0 d (.slice q5 y5 z5) x.body/\At w0 d (.slice q6 y6 z6) x.els/\Rg1 (Rg d) x)
 clear h hS IH a4 a5 a6 r hb hu1
 have HFO:Hid (form x.op=9):=hideR hf
 clear hf
 go_enter Tryz.func112,Tryz.ntmps112
 go_upto_region 1 with fail
 rw [<- HU.out]
 clear HU
 generalize w.heap.size=p3 at *
 have k0:=HBK0.out.cell 0 _ rfl
 have k1:=HBK0.out.cell 1 _ rfl
 have k2:=HBK0.out.cell 2 _ rfl
 have k3:=HBK0.out.cell 3 _ rfl
 have k4:=HBK0.out.cell 4 _ rfl
 have k5:=HBK0.out.cell 5 _ rfl
 have k6:=HBK0.out.cell 6 _ rfl
 have HC:=hideR (dByte w0 p ov v bs id x.op u1 HP0.out HT0.out)
 go_wp2_with fail
 refine HC.out.mono ?_
 rintro e w1 ⟨ov1,v1,b1,rfl,hh,ss,kk⟩
 obtain ⟨bb,bo⟩:=kk.bx HBK0.out HNP.out HO0.out
 have HP1:=hideR hh
 have HT1:=hideR ss
 have HK1:=hideR (HK0.out.trans kk)
 have HBK1:=hideR bb
 have HO1:=hideR bo
 clear hh ss kk bb bo HC HP0 HT0 HK0 HBK0 HO0 k0 k1 k2 k3 k4 k5 k6
 have k0:=HBK1.out.cell 0 _ rfl
 have k1:=HBK1.out.cell 1 _ rfl
 have k2:=HBK1.out.cell 2 _ rfl
 have k3:=HBK1.out.cell 3 _ rfl
 have k4:=HBK1.out.cell 4 _ rfl
 have k5:=HBK1.out.cell 5 _ rfl
 have k6:=HBK1.out.cell 6 _ rfl
 have HC:=hideR (dS w0 p ov1 v1 b1 _ x.n w1 HP1.out HT1.out (HA.out.2.2.2.n HFO.out).1 (HA.out.2.2.2.n HFO.out).2)
 have HFM:=hideR (refForm x.op w1)
 go_wp2_with fail
 refine HFM.out.mono ?_
 rintro e wf ⟨rfl,rfl⟩
 clear HFM
 rw [HFO.out]
 go_wp2_with fail
 refine HC.out.mono ?_
 rintro e w2 ⟨ov2,v2,b2,rfl,hh,ss,kk⟩
 obtain ⟨bb,bo⟩:=kk.bx HBK1.out HNP.out HO1.out
 have HP2:=hideR hh
 have HT2:=hideR ss
 have HK2:=hideR (HK1.out.trans kk)
 have HBK2:=hideR bb
 have HO2:=hideR bo
 clear hh ss kk bb bo HC HP1 HT1 HK1 HBK1 HO1 k0 k1 k2 k3 k4 k5 k6
 have HF:Hid (St (id++([x.op%256]++Leb.sB x.n)) ov2 b2):=hideR (by simpa [List.append_assoc] using HT2.out)
 go_wp2
 go_end0
 exact ⟨_,_,_,rfl,HP2.out,HF.out,HK2.out⟩
end Go.Proofs.YtlcpagiljfpbpaaGreatDoor

