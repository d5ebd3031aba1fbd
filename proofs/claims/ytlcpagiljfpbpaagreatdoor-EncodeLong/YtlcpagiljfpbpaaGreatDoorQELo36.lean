/- Texts that the claim needs. -/
import Derived.Test.YtlcpagiljfpbpaaGreatDoorQELo33
namespace Go.Proofs.YtlcpagiljfpbpaaGreatDoor
open Go.RowKit Rep Enc Go.Lib
set_option linter.unusedVariables false
set_option maxRecDepth 100000 in
set_option maxHeartbeats 4000000 in
theorem dIns300 (w0:World) (p:Nat) (ov:Bool) (v:Value) (bs id:List Int) {d:Nat} (IH:DIS w0 p d) (x:Ins (IL d)) (q4 q5 q6:Option Addr) (y4 z4 y5 z5 y6 z6:Nat) (w:World) (h:PS w0 p ov v bs w) (hS:St id ov bs) (hf:form x.op=3) (ha:(x.a == 0)=true) (hy:y6<1) (a4:Ints w0 (.slice q4 y4 z4) x.labels) (a5:At w0 d (.slice q5 y5 z5) x.body) (a6:At w0 d (.slice q6 y6 z6) x.els) (r:Rg1 (Rg d) x) :
  Calls Tryz.prog 112 #[.pointer (some ⟨p,0,none⟩),.agg #[.int .i64 x.op,.int .i64 x.a,.int .i64 x.b,.int .i64 x.n,.slice q4 y4 z4,.slice q5 y5 z5,.slice q6 y6 z6]] w (PDo w0 p v w (id++([x.op%256]++[64]++bytesI d x.body++[11]))):=by
 have hb:=new_on' w (.cells #[.int .i64 x.op,.int .i64 x.a,.int .i64 x.b,.int .i64 x.n,.slice q4 y4 z4,.slice q5 y5 z5,.slice q6 y6 z6] 52)
 have HBK0:=hideR (Bx.new (w:=w) (b:=w.heap.size) (t:=52) (cs:=#[.int .i64 x.op,.int .i64 x.a,.int .i64 x.b,.int .i64 x.n,.slice q4 y4 z4,.slice q5 y5 z5,.slice q6 y6 z6]) rfl)
 obtain ⟨u1,hu1⟩:∃u1,u1=w.alloc (.cells #[.int .i64 x.op,.int .i64 x.a,.int .i64 x.b,.int .i64 x.n,.slice q4 y4 z4,.slice q5 y5 z5,.slice q6 y6 z6] 52):=⟨_,rfl⟩
 rw [<- hu1] at hb HBK0
 have HP0:=hideR (h.on hb)
 have HT0:=hideR hS
 have HK0:Hid (Kept p v w v u1):=hideR (Kept.below hb)
 have HO0:Hid (some w.heap.size≠v.ownBlock):=hideR (fun e=>by have:=(h.own.lt _ e.symm).2;omega)
 have HNP:Hid (w.heap.size≠p):=hideR (by have:=h.lt;omega)
 have HU:=hideR hu1
 have HIH:=hideR IH
 have HA:=hideR (⟨a4,a5,a6,r⟩:Ints w0 (.slice q4 y4 z4) x.labels/\At w0 d (.slice q5 y5 z5) x.body/\At w0 d (.slice q6 y6 z6) x.els/\Rg1 (Rg d) x)
 clear h hS IH a4 a5 a6 r hb hu1
 have HFO:Hid (form x.op=3):=hideR hf
 clear hf
 go_enter Tryz.func112,Tryz.ntmps112
 go_upto_region 1 with fail
 rw [<- HU.out]
 clear HU
 generalize w.heap.size=p3 at *
 have k0:=HBK0.out.cell 0 _ rfl
 have k1:=HBK0.out.cell 1 _ rfl
 have k2:=HBK0.out.cell 2 _ rfl
 have k3:=HBK0.out.cell 3 _ rfl
 have k4:=HBK0.out.cell 4 _ rfl
 have k5:=HBK0.out.cell 5 _ rfl
 have k6:=HBK0.out.cell 6 _ rfl
 have HC:=hideR (dByte w0 p ov v bs id x.op u1 HP0.out HT0.out)
 go_wp2_with fail
 refine HC.out.mono ?_
 rintro e w1 ⟨ov1,v1,b1,rfl,hh,ss,kk⟩
 obtain ⟨bb,bo⟩:=kk.bx HBK0.out HNP.out HO0.out
 have HP1:=hideR hh
 have HT1:=hideR ss
 have HK1:=hideR (HK0.out.trans kk)
 have HBK1:=hideR bb
 have HO1:=hideR bo
 clear hh ss kk bb bo HC HP0 HT0 HK0 HBK0 HO0 k0 k1 k2 k3 k4 k5 k6
 have k0:=HBK1.out.cell 0 _ rfl
 have k1:=HBK1.out.cell 1 _ rfl
 have k2:=HBK1.out.cell 2 _ rfl
 have k3:=HBK1.out.cell 3 _ rfl
 have k4:=HBK1.out.cell 4 _ rfl
 have k5:=HBK1.out.cell 5 _ rfl
 have k6:=HBK1.out.cell 6 _ rfl
 have HC:=hideR (dByte w0 p ov1 v1 b1 _ 64 w1 HP1.out HT1.out)
 have HFM:=hideR (refForm x.op w1)
 go_wp2_with fail
 refine HFM.out.mono ?_
 rintro e wf ⟨rfl,rfl⟩
 clear HFM
 rw [HFO.out]
 go_wp2_with fail
 refine HC.out.mono ?_
 rintro e w2 ⟨ov2,v2,b2,rfl,hh,ss,kk⟩
 obtain ⟨bb,bo⟩:=kk.bx HBK1.out HNP.out HO1.out
 have HP2:=hideR hh
 have HT2:=hideR ss
 have HK2:=hideR (HK1.out.trans kk)
 have HBK2:=hideR bb
 have HO2:=hideR bo
 clear hh ss kk bb bo HC HP1 HT1 HK1 HBK1 HO1 k0 k1 k2 k3 k4 k5 k6
 have k0:=HBK2.out.cell 0 _ rfl
 have k1:=HBK2.out.cell 1 _ rfl
 have k2:=HBK2.out.cell 2 _ rfl
 have k3:=HBK2.out.cell 3 _ rfl
 have k4:=HBK2.out.cell 4 _ rfl
 have k5:=HBK2.out.cell 5 _ rfl
 have k6:=HBK2.out.cell 6 _ rfl
 have HC:=hideR (HIH.out _ x.body ov2 v2 b2 _ w2 HP2.out HT2.out HA.out.2.1 HA.out.2.2.2.body)
 go_wp2_with fail
 refine HC.out.mono ?_
 rintro e w3 ⟨ov3,v3,b3,rfl,hh,ss,kk⟩
 obtain ⟨bb,bo⟩:=kk.bx HBK2.out HNP.out HO2.out
 have HP3:=hideR hh
 have HT3:=hideR ss
 have HK3:=hideR (HK2.out.trans kk)
 have HBK3:=hideR bb
 have HO3:=hideR bo
 clear hh ss kk bb bo HC HP2 HT2 HK2 HBK2 HO2 k0 k1 k2 k3 k4 k5 k6
 have k0:=HBK3.out.cell 0 _ rfl
 have k1:=HBK3.out.cell 1 _ rfl
 have k2:=HBK3.out.cell 2 _ rfl
 have k3:=HBK3.out.cell 3 _ rfl
 have k4:=HBK3.out.cell 4 _ rfl
 have k5:=HBK3.out.cell 5 _ rfl
 have k6:=HBK3.out.cell 6 _ rfl
 have HC:=hideR (dByte w0 p ov3 v3 b3 _ 11 w3 HP3.out HT3.out)
 go_wp2_with fail
 refine HC.out.mono ?_
 rintro e w4 ⟨ov4,v4,b4,rfl,hh,ss,kk⟩
 obtain ⟨bb,bo⟩:=kk.bx HBK3.out HNP.out HO3.out
 have HP4:=hideR hh
 have HT4:=hideR ss
 have HK4:=hideR (HK3.out.trans kk)
 have HBK4:=hideR bb
 have HO4:=hideR bo
 clear hh ss kk bb bo HC HP3 HT3 HK3 HBK3 HO3 k0 k1 k2 k3 k4 k5 k6
 have HF:Hid (St (id++([x.op%256]++[64]++bytesI d x.body++[11])) ov4 b4):=hideR (by simpa [List.append_assoc] using HT4.out)
 go_wp2
 go_end0
 exact ⟨_,_,_,rfl,HP4.out,HF.out,HK4.out⟩
set_option maxRecDepth 100000 in
set_option maxHeartbeats 4000000 in
theorem dIns301 (w0:World) (p:Nat) (ov:Bool) (v:Value) (bs id:List Int) {d:Nat} (IH:DIS w0 p d) (x:Ins (IL d)) (q4 q5 q6:Option Addr) (y4 z4 y5 z5 y6 z6:Nat) (w:World) (h:PS w0 p ov v bs w) (hS:St id ov bs) (hf:form x.op=3) (ha:(x.a == 0)=true) (hy:0<y6) (a4:Ints w0 (.slice q4 y4 z4) x.labels) (a5:At w0 d (.slice q5 y5 z5) x.body) (a6:At w0 d (.slice q6 y6 z6) x.els) (r:Rg1 (Rg d) x) :
  Calls Tryz.prog 112 #[.pointer (some ⟨p,0,none⟩),.agg #[.int .i64 x.op,.int .i64 x.a,.int .i64 x.b,.int .i64 x.n,.slice q4 y4 z4,.slice q5 y5 z5,.slice q6 y6 z6]] w (PDo w0 p v w (id++([x.op%256]++[64]++bytesI d x.body++[5]++bytesI d x.els++[11]))):=by
 have hb:=new_on' w (.cells #[.int .i64 x.op,.int .i64 x.a,.int .i64 x.b,.int .i64 x.n,.slice q4 y4 z4,.slice q5 y5 z5,.slice q6 y6 z6] 52)
 have HBK0:=hideR (Bx.new (w:=w) (b:=w.heap.size) (t:=52) (cs:=#[.int .i64 x.op,.int .i64 x.a,.int .i64 x.b,.int .i64 x.n,.slice q4 y4 z4,.slice q5 y5 z5,.slice q6 y6 z6]) rfl)
 obtain ⟨u1,hu1⟩:∃u1,u1=w.alloc (.cells #[.int .i64 x.op,.int .i64 x.a,.int .i64 x.b,.int .i64 x.n,.slice q4 y4 z4,.slice q5 y5 z5,.slice q6 y6 z6] 52):=⟨_,rfl⟩
 rw [<- hu1] at hb HBK0
 have HP0:=hideR (h.on hb)
 have HT0:=hideR hS
 have HK0:Hid (Kept p v w v u1):=hideR (Kept.below hb)
 have HO0:Hid (some w.heap.size≠v.ownBlock):=hideR (fun e=>by have:=(h.own.lt _ e.symm).2;omega)
 have HNP:Hid (w.heap.size≠p):=hideR (by have:=h.lt;omega)
 have HU:=hideR hu1
 have HIH:=hideR IH
 have HA:=hideR (⟨a4,a5,a6,r⟩:Ints w0 (.slice q4 y4 z4) x.labels/\At w0 d (.slice q5 y5 z5) x.body/\At w0 d (.slice q6 y6 z6) x.els/\Rg1 (Rg d) x)
 clear h hS IH a4 a5 a6 r hb hu1
 have HFO:Hid (form x.op=3):=hideR hf
 clear hf
 go_enter Tryz.func112,Tryz.ntmps112
 go_upto_region 1 with fail
 rw [<- HU.out]
 clear HU
 generalize w.heap.size=p3 at *
 have k0:=HBK0.out.cell 0 _ rfl
 have k1:=HBK0.out.cell 1 _ rfl
 have k2:=HBK0.out.cell 2 _ rfl
 have k3:=HBK0.out.cell 3 _ rfl
 have k4:=HBK0.out.cell 4 _ rfl
 have k5:=HBK0.out.cell 5 _ rfl
 have k6:=HBK0.out.cell 6 _ rfl
 have HC:=hideR (dByte w0 p ov v bs id x.op u1 HP0.out HT0.out)
 go_wp2_with fail
 refine HC.out.mono ?_
 rintro e w1 ⟨ov1,v1,b1,rfl,hh,ss,kk⟩
 obtain ⟨bb,bo⟩:=kk.bx HBK0.out HNP.out HO0.out
 have HP1:=hideR hh
 have HT1:=hideR ss
 have HK1:=hideR (HK0.out.trans kk)
 have HBK1:=hideR bb
 have HO1:=hideR bo
 clear hh ss kk bb bo HC HP0 HT0 HK0 HBK0 HO0 k0 k1 k2 k3 k4 k5 k6
 have k0:=HBK1.out.cell 0 _ rfl
 have k1:=HBK1.out.cell 1 _ rfl
 have k2:=HBK1.out.cell 2 _ rfl
 have k3:=HBK1.out.cell 3 _ rfl
 have k4:=HBK1.out.cell 4 _ rfl
 have k5:=HBK1.out.cell 5 _ rfl
 have k6:=HBK1.out.cell 6 _ rfl
 have HC:=hideR (dByte w0 p ov1 v1 b1 _ 64 w1 HP1.out HT1.out)
 have HFM:=hideR (refForm x.op w1)
 go_wp2_with fail
 refine HFM.out.mono ?_
 rintro e wf ⟨rfl,rfl⟩
 clear HFM
 rw [HFO.out]
 go_wp2_with fail
 refine HC.out.mono ?_
 rintro e w2 ⟨ov2,v2,b2,rfl,hh,ss,kk⟩
 obtain ⟨bb,bo⟩:=kk.bx HBK1.out HNP.out HO1.out
 have HP2:=hideR hh
 have HT2:=hideR ss
 have HK2:=hideR (HK1.out.trans kk)
 have HBK2:=hideR bb
 have HO2:=hideR bo
 clear hh ss kk bb bo HC HP1 HT1 HK1 HBK1 HO1 k0 k1 k2 k3 k4 k5 k6
 have k0:=HBK2.out.cell 0 _ rfl
 have k1:=HBK2.out.cell 1 _ rfl
 have k2:=HBK2.out.cell 2 _ rfl
 have k3:=HBK2.out.cell 3 _ rfl
 have k4:=HBK2.out.cell 4 _ rfl
 have k5:=HBK2.out.cell 5 _ rfl
 have k6:=HBK2.out.cell 6 _ rfl
 have HC:=hideR (HIH.out _ x.body ov2 v2 b2 _ w2 HP2.out HT2.out HA.out.2.1 HA.out.2.2.2.body)
 go_wp2_with fail
 refine HC.out.mono ?_
 rintro e w3 ⟨ov3,v3,b3,rfl,hh,ss,kk⟩
 obtain ⟨bb,bo⟩:=kk.bx HBK2.out HNP.out HO2.out
 have HP3:=hideR hh
 have HT3:=hideR ss
 have HK3:=hideR (HK2.out.trans kk)
 have HBK3:=hideR bb
 have HO3:=hideR bo
 clear hh ss kk bb bo HC HP2 HT2 HK2 HBK2 HO2 k0 k1 k2 k3 k4 k5 k6
 have k0:=HBK3.out.cell 0 _ rfl
 have k1:=HBK3.out.cell 1 _ rfl
 have k2:=HBK3.out.cell 2 _ rfl
 have k3:=HBK3.out.cell 3 _ rfl
 have k4:=HBK3.out.cell 4 _ rfl
 have k5:=HBK3.out.cell 5 _ rfl
 have k6:=HBK3.out.cell 6 _ rfl
 have HC:=hideR (dByte w0 p ov3 v3 b3 _ 5 w3 HP3.out HT3.out)
 go_wp2_with fail
 refine HC.out.mono ?_
 rintro e w4 ⟨ov4,v4,b4,rfl,hh,ss,kk⟩
 obtain ⟨bb,bo⟩:=kk.bx HBK3.out HNP.out HO3.out
 have HP4:=hideR hh
 have HT4:=hideR ss
 have HK4:=hideR (HK3.out.trans kk)
 have HBK4:=hideR bb
 have HO4:=hideR bo
 clear hh ss kk bb bo HC HP3 HT3 HK3 HBK3 HO3 k0 k1 k2 k3 k4 k5 k6
 have k0:=HBK4.out.cell 0 _ rfl
 have k1:=HBK4.out.cell 1 _ rfl
 have k2:=HBK4.out.cell 2 _ rfl
 have k3:=HBK4.out.cell 3 _ rfl
 have k4:=HBK4.out.cell 4 _ rfl
 have k5:=HBK4.out.cell 5 _ rfl
 have k6:=HBK4.out.cell 6 _ rfl
 have HC:=hideR (HIH.out _ x.els ov4 v4 b4 _ w4 HP4.out HT4.out HA.out.2.2.1 HA.out.2.2.2.els)
 go_wp2_with fail
 refine HC.out.mono ?_
 rintro e w5 ⟨ov5,v5,b5,rfl,hh,ss,kk⟩
 obtain ⟨bb,bo⟩:=kk.bx HBK4.out HNP.out HO4.out
 have HP5:=hideR hh
 have HT5:=hideR ss
 have HK5:=hideR (HK4.out.trans kk)
 have HBK5:=hideR bb
 have HO5:=hideR bo
 clear hh ss kk bb bo HC HP4 HT4 HK4 HBK4 HO4 k0 k1 k2 k3 k4 k5 k6
 have k0:=HBK5.out.cell 0 _ rfl
 have k1:=HBK5.out.cell 1 _ rfl
 have k2:=HBK5.out.cell 2 _ rfl
 have k3:=HBK5.out.cell 3 _ rfl
 have k4:=HBK5.out.cell 4 _ rfl
 have k5:=HBK5.out.cell 5 _ rfl
 have k6:=HBK5.out.cell 6 _ rfl
 have HC:=hideR (dByte w0 p ov5 v5 b5 _ 11 w5 HP5.out HT5.out)
 go_wp2_with fail
 refine HC.out.mono ?_
 rintro e w6 ⟨ov6,v6,b6,rfl,hh,ss,kk⟩
 obtain ⟨bb,bo⟩:=kk.bx HBK5.out HNP.out HO5.out
 have HP6:=hideR hh
 have HT6:=hideR ss
 have HK6:=hideR (HK5.out.trans kk)
 have HBK6:=hideR bb
 have HO6:=hideR bo
 clear hh ss kk bb bo HC HP5 HT5 HK5 HBK5 HO5 k0 k1 k2 k3 k4 k5 k6
 have HF:Hid (St (id++([x.op%256]++[64]++bytesI d x.body++[5]++bytesI d x.els++[11])) ov6 b6):=hideR (by simpa [List.append_assoc] using HT6.out)
 go_wp2
 go_end0
 exact ⟨_,_,_,rfl,HP6.out,HF.out,HK6.out⟩
set_option maxRecDepth 100000 in
set_option maxHeartbeats 4000000 in
theorem dIns310 (w0:World) (p:Nat) (ov:Bool) (v:Value) (bs id:List Int) {d:Nat} (IH:DIS w0 p d) (x:Ins (IL d)) (q4 q5 q6:Option Addr) (y4 z4 y5 z5 y6 z6:Nat) (w:World) (h:PS w0 p ov v bs w) (hS:St id ov bs) (hf:form x.op=3) (ha:(x.a == 0)=false) (hy:y6<1) (a4:Ints w0 (.slice q4 y4 z4) x.labels) (a5:At w0 d (.slice q5 y5 z5) x.body) (a6:At w0 d (.slice q6 y6 z6) x.els) (r:Rg1 (Rg d) x) :
  Calls Tryz.prog 112 #[.pointer (some ⟨p,0,none⟩),.agg #[.int .i64 x.op,.int .i64 x.a,.int .i64 x.b,.int .i64 x.n,.slice q4 y4 z4,.slice q5 y5 z5,.slice q6 y6 z6]] w (PDo w0 p v w (id++([x.op%256]++[x.a%256]++bytesI d x.body++[11]))):=by
 have hb:=new_on' w (.cells #[.int .i64 x.op,.int .i64 x.a,.int .i64 x.b,.int .i64 x.n,.slice q4 y4 z4,.slice q5 y5 z5,.slice q6 y6 z6] 52)
 have HBK0:=hideR (Bx.new (w:=w) (b:=w.heap.size) (t:=52) (cs:=#[.int .i64 x.op,.int .i64 x.a,.int .i64 x.b,.int .i64 x.n,.slice q4 y4 z4,.slice q5 y5 z5,.slice q6 y6 z6]) rfl)
 obtain ⟨u1,hu1⟩:∃u1,u1=w.alloc (.cells #[.int .i64 x.op,.int .i64 x.a,.int .i64 x.b,.int .i64 x.n,.slice q4 y4 z4,.slice q5 y5 z5,.slice q6 y6 z6] 52):=⟨_,rfl⟩
 rw [<- hu1] at hb HBK0
 have HP0:=hideR (h.on hb)
 have HT0:=hideR hS
 have HK0:Hid (Kept p v w v u1):=hideR (Kept.below hb)
 have HO0:Hid (some w.heap.size≠v.ownBlock):=hideR (fun e=>by have:=(h.own.lt _ e.symm).2;omega)
 have HNP:Hid (w.heap.size≠p):=hideR (by have:=h.lt;omega)
 have HU:=hideR hu1
 have HIH:=hideR IH
 have HA:=hideR (⟨a4,a5,a6,r⟩:Ints w0 (.slice q4 y4 z4) x.labels/\At w0 d (.slice q5 y5 z5) x.body/\At w0 d (.slice q6 y6 z6) x.els/\Rg1 (Rg d) x)
 clear h hS IH a4 a5 a6 r hb hu1
 have HFO:Hid (form x.op=3):=hideR hf
 clear hf
 go_enter Tryz.func112,Tryz.ntmps112
 go_upto_region 1 with fail
 rw [<- HU.out]
 clear HU
 generalize w.heap.size=p3 at *
 have k0:=HBK0.out.cell 0 _ rfl
 have k1:=HBK0.out.cell 1 _ rfl
 have k2:=HBK0.out.cell 2 _ rfl
 have k3:=HBK0.out.cell 3 _ rfl
 have k4:=HBK0.out.cell 4 _ rfl
 have k5:=HBK0.out.cell 5 _ rfl
 have k6:=HBK0.out.cell 6 _ rfl
 have HC:=hideR (dByte w0 p ov v bs id x.op u1 HP0.out HT0.out)
 go_wp2_with fail
 refine HC.out.mono ?_
 rintro e w1 ⟨ov1,v1,b1,rfl,hh,ss,kk⟩
 obtain ⟨bb,bo⟩:=kk.bx HBK0.out HNP.out HO0.out
 have HP1:=hideR hh
 have HT1:=hideR ss
 have HK1:=hideR (HK0.out.trans kk)
 have HBK1:=hideR bb
 have HO1:=hideR bo
 clear hh ss kk bb bo HC HP0 HT0 HK0 HBK0 HO0 k0 k1 k2 k3 k4 k5 k6
 have k0:=HBK1.out.cell 0 _ rfl
 have k1:=HBK1.out.cell 1 _ rfl
 have k2:=HBK1.out.cell 2 _ rfl
 have k3:=HBK1.out.cell 3 _ rfl
 have k4:=HBK1.out.cell 4 _ rfl
 have k5:=HBK1.out.cell 5 _ rfl
 have k6:=HBK1.out.cell 6 _ rfl
 have HC:=hideR (dByte w0 p ov1 v1 b1 _ x.a w1 HP1.out HT1.out)
 have HFM:=hideR (refForm x.op w1)
 go_wp2_with fail
 refine HFM.out.mono ?_
 rintro e wf ⟨rfl,rfl⟩
 clear HFM
 rw [HFO.out]
 go_wp2_with fail
 refine HC.out.mono ?_
 rintro e w2 ⟨ov2,v2,b2,rfl,hh,ss,kk⟩
 obtain ⟨bb,bo⟩:=kk.bx HBK1.out HNP.out HO1.out
 have HP2:=hideR hh
 have HT2:=hideR ss
 have HK2:=hideR (HK1.out.trans kk)
 have HBK2:=hideR bb
 have HO2:=hideR bo
 clear hh ss kk bb bo HC HP1 HT1 HK1 HBK1 HO1 k0 k1 k2 k3 k4 k5 k6
 have k0:=HBK2.out.cell 0 _ rfl
 have k1:=HBK2.out.cell 1 _ rfl
 have k2:=HBK2.out.cell 2 _ rfl
 have k3:=HBK2.out.cell 3 _ rfl
 have k4:=HBK2.out.cell 4 _ rfl
 have k5:=HBK2.out.cell 5 _ rfl
 have k6:=HBK2.out.cell 6 _ rfl
 have HC:=hideR (HIH.out _ x.body ov2 v2 b2 _ w2 HP2.out HT2.out HA.out.2.1 HA.out.2.2.2.body)
 go_wp2_with fail
 refine HC.out.mono ?_
 rintro e w3 ⟨ov3,v3,b3,rfl,hh,ss,kk⟩
 obtain ⟨bb,bo⟩:=kk.bx HBK2.out HNP.out HO2.out
 have HP3:=hideR hh
 have HT3:=hideR ss
 have HK3:=hideR (HK2.out.trans kk)
 have HBK3:=hideR bb
 have HO3:=hideR bo
 clear hh ss kk bb bo HC HP2 HT2 HK2 HBK2 HO2 k0 k1 k2 k3 k4 k5 k6
 have k0:=HBK3.out.cell 0 _ rfl
 have k1:=HBK3.out.cell 1 _ rfl
 have k2:=HBK3.out.cell 2 _ rfl
 have k3:=HBK3.out.cell 3 _ rfl
 have k4:=HBK3.out.cell 4 _ rfl
 have k5:=HBK3.out.cell 5 _ rfl
 have k6:=HBK3.out.cell 6 _ rfl
 have HC:=hideR (dByte w0 p ov3 v3 b3 _ 11 w3 HP3.out HT3.out)
 go_wp2_with fail
 refine HC.out.mono ?_
 rintro e w4 ⟨ov4,v4,b4,rfl,hh,ss,kk⟩
 obtain ⟨bb,bo⟩:=kk.bx HBK3.out HNP.out HO3.out
 have HP4:=hideR hh
 have HT4:=hideR ss
 have HK4:=hideR (HK3.out.trans kk)
 have HBK4:=hideR bb
 have HO4:=hideR bo
 clear hh ss kk bb bo HC HP3 HT3 HK3 HBK3 HO3 k0 k1 k2 k3 k4 k5 k6
 have HF:Hid (St (id++([x.op%256]++[x.a%256]++bytesI d x.body++[11])) ov4 b4):=hideR (by simpa [List.append_assoc] using HT4.out)
 go_wp2
 go_end0
 exact ⟨_,_,_,rfl,HP4.out,HF.out,HK4.out⟩
set_option maxRecDepth 100000 in
set_option maxHeartbeats 4000000 in
theorem dIns311 (w0:World) (p:Nat) (ov:Bool) (v:Value) (bs id:List Int) {d:Nat} (IH:DIS w0 p d) (x:Ins (IL d)) (q4 q5 q6:Option Addr) (y4 z4 y5 z5 y6 z6:Nat) (w:World) (h:PS w0 p ov v bs w) (hS:St id ov bs) (hf:form x.op=3) (ha:(x.a == 0)=false) (hy:0<y6) (a4:Ints w0 (.slice q4 y4 z4) x.labels) (a5:At w0 d (.slice q5 y5 z5) x.body) (a6:At w0 d (.slice q6 y6 z6) x.els) (r:Rg1 (Rg d) x) :
  Calls Tryz.prog 112 #[.pointer (some ⟨p,0,none⟩),.agg #[.int .i64 x.op,.int .i64 x.a,.int .i64 x.b,.int .i64 x.n,.slice q4 y4 z4,.slice q5 y5 z5,.slice q6 y6 z6]] w (PDo w0 p v w (id++([x.op%256]++[x.a%256]++bytesI d x.body++[5]++bytesI d x.els++[11]))):=by
 have hb:=new_on' w (.cells #[.int .i64 x.op,.int .i64 x.a,.int .i64 x.b,.int .i64 x.n,.slice q4 y4 z4,.slice q5 y5 z5,.slice q6 y6 z6] 52)
 have HBK0:=hideR (Bx.new (w:=w) (b:=w.heap.size) (t:=52) (cs:=#[.int .i64 x.op,.int .i64 x.a,.int .i64 x.b,.int .i64 x.n,.slice q4 y4 z4,.slice q5 y5 z5,.slice q6 y6 z6]) rfl)
 obtain ⟨u1,hu1⟩:∃u1,u1=w.alloc (.cells #[.int .i64 x.op,.int .i64 x.a,.int .i64 x.b,.int .i64 x.n,.slice q4 y4 z4,.slice q5 y5 z5,.slice q6 y6 z6] 52):=⟨_,rfl⟩
 rw [<- hu1] at hb HBK0
 have HP0:=hideR (h.on hb)
 have HT0:=hideR hS
 have HK0:Hid (Kept p v w v u1):=hideR (Kept.below hb)
 have HO0:Hid (some w.heap.size≠v.ownBlock):=hideR (fun e=>by have:=(h.own.lt _ e.symm).2;omega)
 have HNP:Hid (w.heap.size≠p):=hideR (by have:=h.lt;omega)
 have HU:=hideR hu1
 have HIH:=hideR IH
 have HA:=hideR (⟨a4,a5,a6,r⟩:Ints w0 (.slice q4 y4 z4) x.labels/\At w0 d (.slice q5 y5 z5) x.body/\At w0 d (.slice q6 y6 z6) x.els/\Rg1 (Rg d) x)
 clear h hS IH a4 a5 a6 r hb hu1
 have HFO:Hid (form x.op=3):=hideR hf
 clear hf
 go_enter Tryz.func112,Tryz.ntmps112
 go_upto_region 1 with fail
 rw [<- HU.out]
 clear HU
 generalize w.heap.size=p3 at *
 have k0:=HBK0.out.cell 0 _ rfl
 have k1:=HBK0.out.cell 1 _ rfl
 have k2:=HBK0.out.cell 2 _ rfl
 have k3:=HBK0.out.cell 3 _ rfl
 have k4:=HBK0.out.cell 4 _ rfl
 have k5:=HBK0.out.cell 5 _ rfl
 have k6:=HBK0.out.cell 6 _ rfl
 have HC:=hideR (dByte w0 p ov v bs id x.op u1 HP0.out HT0.out)
 go_wp2_with fail
 refine HC.out.mono ?_
 rintro e w1 ⟨ov1,v1,b1,rfl,hh,ss,kk⟩
 obtain ⟨bb,bo⟩:=kk.bx HBK0.out HNP.out HO0.out
 have HP1:=hideR hh
 have HT1:=hideR ss
 have HK1:=hideR (HK0.out.trans kk)
 have HBK1:=hideR bb
 have HO1:=hideR bo
 clear hh ss kk bb bo HC HP0 HT0 HK0 HBK0 HO0 k0 k1 k2 k3 k4 k5 k6
 have k0:=HBK1.out.cell 0 _ rfl
 have k1:=HBK1.out.cell 1 _ rfl
 have k2:=HBK1.out.cell 2 _ rfl
 have k3:=HBK1.out.cell 3 _ rfl
 have k4:=HBK1.out.cell 4 _ rfl
 have k5:=HBK1.out.cell 5 _ rfl
 have k6:=HBK1.out.cell 6 _ rfl
 have HC:=hideR (dByte w0 p ov1 v1 b1 _ x.a w1 HP1.out HT1.out)
 have HFM:=hideR (refForm x.op w1)
 go_wp2_with fail
 refine HFM.out.mono ?_
 rintro e wf ⟨rfl,rfl⟩
 clear HFM
 rw [HFO.out]
 go_wp2_with fail
 refine HC.out.mono ?_
 rintro e w2 ⟨ov2,v2,b2,rfl,hh,ss,kk⟩
 obtain ⟨bb,bo⟩:=kk.bx HBK1.out HNP.out HO1.out
 have HP2:=hideR hh
 have HT2:=hideR ss
 have HK2:=hideR (HK1.out.trans kk)
 have HBK2:=hideR bb
 have HO2:=hideR bo
 clear hh ss kk bb bo HC HP1 HT1 HK1 HBK1 HO1 k0 k1 k2 k3 k4 k5 k6
 have k0:=HBK2.out.cell 0 _ rfl
 have k1:=HBK2.out.cell 1 _ rfl
 have k2:=HBK2.out.cell 2 _ rfl
 have k3:=HBK2.out.cell 3 _ rfl
 have k4:=HBK2.out.cell 4 _ rfl
 have k5:=HBK2.out.cell 5 _ rfl
 have k6:=HBK2.out.cell 6 _ rfl
 have HC:=hideR (HIH.out _ x.body ov2 v2 b2 _ w2 HP2.out HT2.out HA.out.2.1 HA.out.2.2.2.body)
 go_wp2_with fail
 refine HC.out.mono ?_
 rintro e w3 ⟨ov3,v3,b3,rfl,hh,ss,kk⟩
 obtain ⟨bb,bo⟩:=kk.bx HBK2.out HNP.out HO2.out
 have HP3:=hideR hh
 have HT3:=hideR ss
 have HK3:=hideR (HK2.out.trans kk)
 have HBK3:=hideR bb
 have HO3:=hideR bo
 clear hh ss kk bb bo HC HP2 HT2 HK2 HBK2 HO2 k0 k1 k2 k3 k4 k5 k6
 have k0:=HBK3.out.cell 0 _ rfl
 have k1:=HBK3.out.cell 1 _ rfl
 have k2:=HBK3.out.cell 2 _ rfl
 have k3:=HBK3.out.cell 3 _ rfl
 have k4:=HBK3.out.cell 4 _ rfl
 have k5:=HBK3.out.cell 5 _ rfl
 have k6:=HBK3.out.cell 6 _ rfl
 have HC:=hideR (dByte w0 p ov3 v3 b3 _ 5 w3 HP3.out HT3.out)
 go_wp2_with fail
 refine HC.out.mono ?_
 rintro e w4 ⟨ov4,v4,b4,rfl,hh,ss,kk⟩
 obtain ⟨bb,bo⟩:=kk.bx HBK3.out HNP.out HO3.out
 have HP4:=hideR hh
 have HT4:=hideR ss
 have HK4:=hideR (HK3.out.trans kk)
 have HBK4:=hideR bb
 have HO4:=hideR bo
 clear hh ss kk bb bo HC HP3 HT3 HK3 HBK3 HO3 k0 k1 k2 k3 k4 k5 k6
 have k0:=HBK4.out.cell 0 _ rfl
 have k1:=HBK4.out.cell 1 _ rfl
 have k2:=HBK4.out.cell 2 _ rfl
 have k3:=HBK4.out.cell 3 _ rfl
 have k4:=HBK4.out.cell 4 _ rfl
 have k5:=HBK4.out.cell 5 _ rfl
 have k6:=HBK4.out.cell 6 _ rfl
 have HC:=hideR (HIH.out _ x.els ov4 v4 b4 _ w4 HP4.out HT4.out HA.out.2.2.1 HA.out.2.2.2.els)
 go_wp2_with fail
 refine HC.out.mono ?_
 rintro e w5 ⟨ov5,v5,b5,rfl,hh,ss,kk⟩
 obtain ⟨bb,bo⟩:=kk.bx HBK4.out HNP.out HO4.out
 have HP5:=hideR hh
 have HT5:=hideR ss
 have HK5:=hideR (HK4.out.trans kk)
 have HBK5:=hideR bb
 have HO5:=hideR bo
 clear hh ss kk bb bo HC HP4 HT4 HK4 HBK4 HO4 k0 k1 k2 k3 k4 k5 k6
 have k0:=HBK5.out.cell 0 _ rfl
 have k1:=HBK5.out.cell 1 _ rfl
 have k2:=HBK5.out.cell 2 _ rfl
 have k3:=HBK5.out.cell 3 _ rfl
 have k4:=HBK5.out.cell 4 _ rfl
 have k5:=HBK5.out.cell 5 _ rfl
 have k6:=HBK5.out.cell 6 _ rfl
 have HC:=hideR (dByte w0 p ov5 v5 b5 _ 11 w5 HP5.out HT5.out)
 go_wp2_with fail
 refine HC.out.mono ?_
 rintro e w6 ⟨ov6,v6,b6,rfl,hh,ss,kk⟩
 obtain ⟨bb,bo⟩:=kk.bx HBK5.out HNP.out HO5.out
 have HP6:=hideR hh
 have HT6:=hideR ss
 have HK6:=hideR (HK5.out.trans kk)
 have HBK6:=hideR bb
 have HO6:=hideR bo
 clear hh ss kk bb bo HC HP5 HT5 HK5 HBK5 HO5 k0 k1 k2 k3 k4 k5 k6
 have HF:Hid (St (id++([x.op%256]++[x.a%256]++bytesI d x.body++[5]++bytesI d x.els++[11])) ov6 b6):=hideR (by simpa [List.append_assoc] using HT6.out)
 go_wp2
 go_end0
 exact ⟨_,_,_,rfl,HP6.out,HF.out,HK6.out⟩
end Go.Proofs.YtlcpagiljfpbpaaGreatDoor

