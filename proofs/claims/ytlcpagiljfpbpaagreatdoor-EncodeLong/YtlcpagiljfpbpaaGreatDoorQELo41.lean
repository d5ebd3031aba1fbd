/- Texts that the claim needs. -/
import Derived.Test.YtlcpagiljfpbpaaGreatDoorQELo37
namespace Go.Proofs.YtlcpagiljfpbpaaGreatDoor
open Go.RowKit Rep Enc Go.Lib
set_option linter.unusedVariables false
set_option maxRecDepth 100000 in
set_option maxHeartbeats 8000000 in
theorem dFun (d:Nat) (v0 v1 v2 v3 v4 v5 v6 v7 v8 v9:Value) (m:Mod d) (w:World) (hM:ModAt w d v0 v1 v2 v3 v4 v5 v6 v7 v8 v9 m) (hr:∀x ∈ m.funcs,0<=x.type/\x.type<=4294967295) :
  Calls Tryz.prog 65 #[.agg #[v0,v1,v2,v3,v4,v5,v6,v7,v8,v9]] w (PMade w (lisB (fun x=>Leb.uB x.type) m.funcs)):=by
 obtain ⟨o0,k0,rfl⟩:=Row.len hM.types
 obtain ⟨o1,k1,rfl⟩:=Row.len hM.imports
 obtain ⟨o2,k2,rfl⟩:=Row.len hM.funcs
 obtain ⟨o3,k3,rfl⟩:=Row.len hM.tables
 obtain ⟨o4,k4,rfl⟩:=Row.len hM.mems
 obtain ⟨o5,k5,rfl⟩:=Row.len hM.globals
 obtain ⟨o6,k6,rfl⟩:=Row.len hM.exports
 obtain ⟨o7,k7,rfl⟩:=Row.len hM.start
 obtain ⟨o8,k8,rfl⟩:=Row.len hM.elems
 obtain ⟨o9,k9,rfl⟩:=Row.len hM.datas
 have hb:=new_on' w (.cells #[.slice o0 m.types.length k0,.slice o1 m.imports.length k1,.slice o2 m.funcs.length k2,.slice o3 m.tables.length k3,.slice o4 m.mems.length k4,.slice o5 m.globals.length k5,.slice o6 m.exports.length k6,.slice o7 m.start.length k7,.slice o8 m.elems.length k8,.slice o9 m.datas.length k9] 32)
 have la:=hM.funcs.1
 have HBX:=hideR (Bx.new (w:=w) (b:=w.heap.size) (t:=32) (cs:=#[.slice o0 m.types.length k0,.slice o1 m.imports.length k1,.slice o2 m.funcs.length k2,.slice o3 m.tables.length k3,.slice o4 m.mems.length k4,.slice o5 m.globals.length k5,.slice o6 m.exports.length k6,.slice o7 m.start.length k7,.slice o8 m.elems.length k8,.slice o9 m.datas.length k9]) rfl)
 have HC0:=hideR (dCounted (m.funcs.length:Int) (w.alloc (.cells #[.slice o0 m.types.length k0,.slice o1 m.imports.length k1,.slice o2 m.funcs.length k2,.slice o3 m.tables.length k3,.slice o4 m.mems.length k4,.slice o5 m.globals.length k5,.slice o6 m.exports.length k6,.slice o7 m.start.length k7,.slice o8 m.elems.length k8,.slice o9 m.datas.length k9] 32)) (by omega) (by omega))
 have HB:=hideR hb
 have HL:=hideR hM.funcs
 have HR:=hideR hr
 have hws:(w.alloc (.cells #[.slice o0 m.types.length k0,.slice o1 m.imports.length k1,.slice o2 m.funcs.length k2,.slice o3 m.tables.length k3,.slice o4 m.mems.length k4,.slice o5 m.globals.length k5,.slice o6 m.exports.length k6,.slice o7 m.start.length k7,.slice o8 m.elems.length k8,.slice o9 m.datas.length k9] 32)).heap.size=w.heap.size+1:=by simp
 have HWS:=hideR hws
 clear hM hr hb hws
 generalize hn0:m.types.length=n0 at *
 generalize hn1:m.imports.length=n1 at *
 generalize hn2:m.funcs.length=n2 at *
 generalize hn3:m.tables.length=n3 at *
 generalize hn4:m.mems.length=n4 at *
 generalize hn5:m.globals.length=n5 at *
 generalize hn6:m.exports.length=n6 at *
 generalize hn7:m.start.length=n7 at *
 generalize hn8:m.elems.length=n8 at *
 generalize hn9:m.datas.length=n9 at *
 have HNA:=hideR hn2
 clear hn0 hn1 hn2 hn3 hn4 hn5 hn6 hn7 hn8 hn9
 obtain ⟨u0,hu0⟩:∃u0,Leb.uB (n2:Int)=u0:=⟨_,rfl⟩
 rw [hu0] at HC0
 have HU0:=hideR hu0
 clear hu0
 have kM:=HBX.out.cell 2 _ rfl
 obtain ⟨wa,hwa⟩:∃wa,wa=w.alloc (.cells #[.slice o0 n0 k0,.slice o1 n1 k1,.slice o2 n2 k2,.slice o3 n3 k3,.slice o4 n4 k4,.slice o5 n5 k5,.slice o6 n6 k6,.slice o7 n7 k7,.slice o8 n8 k8,.slice o9 n9 k9] 32):=⟨_,rfl⟩
 rw [<- hwa] at HBX HC0 HB HWS kM
 have HWA:=hideR hwa
 clear hwa
 go_enter Tryz.func65,Tryz.ntmps65
 go_upto_region 1 with fail
 rw [<- HWA.out]
 clear HWA
 go_wp2_with fail
 refine HC0.out.mono ?_
 rintro e w2 ⟨q,ov2,v2,b2,rfl,h2,s2⟩
 have HBM:Hid (Bx w2 w.heap.size 32 #[.slice o0 n0 k0,.slice o1 n1 k1,.slice o2 n2 k2,.slice o3 n3 k3,.slice o4 n4 k4,.slice o5 n5 k5,.slice o6 n6 k6,.slice o7 n7 k7,.slice o8 n8 k8,.slice o9 n9 k9]):=hideR (by unfold Bx;rw [h2.below.block _ HBX.out.lt];exact HBX.out)
 have HNE:Hid (w.heap.size≠q/\some w.heap.size≠v2.ownBlock):=hideR ⟨by have:=h2.base;have:=HWS.out;omega,fun e=>by have:=(h2.own.lt _ e.symm).1;have:=HWS.out;omega⟩
 have HPS2:=hideR (h2.mono HB.out)
 have HST2:=hideR s2
 clear h2 s2 HC0 HBX HB HWS kM
 generalize w.heap.size=bM at HBM HNE ⊢
 go_wp2_with fail
 go_loopw [4] (fun i wr=>∃(j:Nat) (ov3:Bool) (v3:Value) (b3:List Int),j<=n2/\i=.int .i64 j/\Hid (PS w q ov3 v3 b3 wr)/\Hid (St (u0++(m.funcs.take j).flatMap (fun x=>Leb.uB x.type)) ov3 b3)/\Hid (Kept q v2 w2 v3 wr)) (fun i _=>n2-(Lib.intOf i).toNat)
 case atStart=>exact ⟨0,ov2,v2,b2,by omega,rfl,HPS2,hideR (by simpa using HST2.out),hideR (Kept.refl _ _ _)⟩
 case round =>
  clear HPS2 HST2
  obtain ⟨j,ov3,v3,b3,hj,rfl,HPS3,HST3,HKW3⟩:=hrel
  have kM:=(HKW3.out.bx HBM.out HNE.out.1 HNE.out.2).1.cell 2 _ rfl
  by_cases hgo:j<n2
  ·obtain ⟨bR,off1,cap1,hv1,hx1⟩:=Row.some HL.out (by have:=HNA.out;omega)
   injection hv1 with ho1 e11 e12
   subst ho1
   clear e11 e12
   obtain ⟨x,hxk⟩:∃x,m.funcs[j]?=some x:=⟨_,List.getElem?_eq_getElem (by have:=HNA.out;omega)⟩
   have hx:=hx1 j x hxk
   have HRX:=hideR (HR.out x (List.mem_of_getElem? hxk))
   have HTK:Hid ((m.funcs.take (j+1)).flatMap (fun x=>Leb.uB x.type)=(m.funcs.take j).flatMap (fun x=>Leb.uB x.type)++(Leb.uB x.type)):=hideR (fm_take hxk)
   clear hxk hx1
   have H0:=hideR hx.type
   clear hx
   have c0:=cell_on HPS3.out.below H0.out
   have HC:=hideR (dU w q ov3 v3 b3 _ x.type wr HPS3.out HST3.out (HRX.out).1 (by have:=(HRX.out).2;omega))
   go_wp2_with fail
   refine HC.out.mono ?_
   rintro e w4 ⟨ov4,v4,b4,rfl,hh,ss,kk⟩
   have HPS4:=hideR hh
   have HST4:=hideR ss
   have HKW4:=hideR (HKW3.out.trans kk)
   clear hh ss kk HC HPS3 HST3 HKW3 kM c0
   have kM:=(HKW4.out.bx HBM.out HNE.out.1 HNE.out.2).1.cell 2 _ rfl
   have HSF:Hid (St (u0++(m.funcs.take (j+1)).flatMap (fun x=>Leb.uB x.type)) ov4 b4):=hideR (by rw [HTK.out];simpa [one,List.append_assoc] using HST4.out)
   go_wp2
   go_roundw
   case rel=>exact ⟨j+1,ov4,v4,b4,by omega,by go_num,HPS4,HSF,HKW4⟩
   case measure=>simp [Lib.intOf];omega
  ·obtain rfl:n2=j:=by omega
   have HF:Hid (St (lisB (fun x=>Leb.uB x.type) m.funcs) ov3 b3):=hideR (by
    have h1:=HST3.out
    rw [List.take_of_length_le (by have:=HNA.out;omega)] at h1
    unfold lisB;rw [HNA.out,HU0.out];exact h1)
   go_wp2
   go_ret
   exact ⟨_,_,_,_,rfl,HPS3.out,HF.out⟩
set_option maxRecDepth 100000 in
set_option maxHeartbeats 8000000 in
theorem dExp (d:Nat) (v0 v1 v2 v3 v4 v5 v6 v7 v8 v9:Value) (m:Mod d) (w:World) (hM:ModAt w d v0 v1 v2 v3 v4 v5 v6 v7 v8 v9 m) (hr:∀x ∈ m.exports,x.name.size<=1000000/\0<=x.index/\x.index<=4294967295) :
  Calls Tryz.prog 68 #[.agg #[v0,v1,v2,v3,v4,v5,v6,v7,v8,v9]] w (PMade w (lisB expB m.exports)):=by
 obtain ⟨o0,k0,rfl⟩:=Row.len hM.types
 obtain ⟨o1,k1,rfl⟩:=Row.len hM.imports
 obtain ⟨o2,k2,rfl⟩:=Row.len hM.funcs
 obtain ⟨o3,k3,rfl⟩:=Row.len hM.tables
 obtain ⟨o4,k4,rfl⟩:=Row.len hM.mems
 obtain ⟨o5,k5,rfl⟩:=Row.len hM.globals
 obtain ⟨o6,k6,rfl⟩:=Row.len hM.exports
 obtain ⟨o7,k7,rfl⟩:=Row.len hM.start
 obtain ⟨o8,k8,rfl⟩:=Row.len hM.elems
 obtain ⟨o9,k9,rfl⟩:=Row.len hM.datas
 have hb:=new_on' w (.cells #[.slice o0 m.types.length k0,.slice o1 m.imports.length k1,.slice o2 m.funcs.length k2,.slice o3 m.tables.length k3,.slice o4 m.mems.length k4,.slice o5 m.globals.length k5,.slice o6 m.exports.length k6,.slice o7 m.start.length k7,.slice o8 m.elems.length k8,.slice o9 m.datas.length k9] 32)
 have la:=hM.exports.1
 have HBX:=hideR (Bx.new (w:=w) (b:=w.heap.size) (t:=32) (cs:=#[.slice o0 m.types.length k0,.slice o1 m.imports.length k1,.slice o2 m.funcs.length k2,.slice o3 m.tables.length k3,.slice o4 m.mems.length k4,.slice o5 m.globals.length k5,.slice o6 m.exports.length k6,.slice o7 m.start.length k7,.slice o8 m.elems.length k8,.slice o9 m.datas.length k9]) rfl)
 have HC0:=hideR (dCounted (m.exports.length:Int) (w.alloc (.cells #[.slice o0 m.types.length k0,.slice o1 m.imports.length k1,.slice o2 m.funcs.length k2,.slice o3 m.tables.length k3,.slice o4 m.mems.length k4,.slice o5 m.globals.length k5,.slice o6 m.exports.length k6,.slice o7 m.start.length k7,.slice o8 m.elems.length k8,.slice o9 m.datas.length k9] 32)) (by omega) (by omega))
 have HB:=hideR hb
 have HL:=hideR hM.exports
 have HR:=hideR hr
 have hws:(w.alloc (.cells #[.slice o0 m.types.length k0,.slice o1 m.imports.length k1,.slice o2 m.funcs.length k2,.slice o3 m.tables.length k3,.slice o4 m.mems.length k4,.slice o5 m.globals.length k5,.slice o6 m.exports.length k6,.slice o7 m.start.length k7,.slice o8 m.elems.length k8,.slice o9 m.datas.length k9] 32)).heap.size=w.heap.size+1:=by simp
 have HWS:=hideR hws
 clear hM hr hb hws
 generalize hn0:m.types.length=n0 at *
 generalize hn1:m.imports.length=n1 at *
 generalize hn2:m.funcs.length=n2 at *
 generalize hn3:m.tables.length=n3 at *
 generalize hn4:m.mems.length=n4 at *
 generalize hn5:m.globals.length=n5 at *
 generalize hn6:m.exports.length=n6 at *
 generalize hn7:m.start.length=n7 at *
 generalize hn8:m.elems.length=n8 at *
 generalize hn9:m.datas.length=n9 at *
 have HNA:=hideR hn6
 clear hn0 hn1 hn2 hn3 hn4 hn5 hn6 hn7 hn8 hn9
 obtain ⟨u0,hu0⟩:∃u0,Leb.uB (n6:Int)=u0:=⟨_,rfl⟩
 rw [hu0] at HC0
 have HU0:=hideR hu0
 clear hu0
 have kM:=HBX.out.cell 6 _ rfl
 obtain ⟨wa,hwa⟩:∃wa,wa=w.alloc (.cells #[.slice o0 n0 k0,.slice o1 n1 k1,.slice o2 n2 k2,.slice o3 n3 k3,.slice o4 n4 k4,.slice o5 n5 k5,.slice o6 n6 k6,.slice o7 n7 k7,.slice o8 n8 k8,.slice o9 n9 k9] 32):=⟨_,rfl⟩
 rw [<- hwa] at HBX HC0 HB HWS kM
 have HWA:=hideR hwa
 clear hwa
 go_enter Tryz.func68,Tryz.ntmps68
 go_upto_region 1 with fail
 rw [<- HWA.out]
 clear HWA
 go_wp2_with fail
 refine HC0.out.mono ?_
 rintro e w2 ⟨q,ov2,v2,b2,rfl,h2,s2⟩
 have HBM:Hid (Bx w2 w.heap.size 32 #[.slice o0 n0 k0,.slice o1 n1 k1,.slice o2 n2 k2,.slice o3 n3 k3,.slice o4 n4 k4,.slice o5 n5 k5,.slice o6 n6 k6,.slice o7 n7 k7,.slice o8 n8 k8,.slice o9 n9 k9]):=hideR (by unfold Bx;rw [h2.below.block _ HBX.out.lt];exact HBX.out)
 have HNE:Hid (w.heap.size≠q/\some w.heap.size≠v2.ownBlock):=hideR ⟨by have:=h2.base;have:=HWS.out;omega,fun e=>by have:=(h2.own.lt _ e.symm).1;have:=HWS.out;omega⟩
 have HPS2:=hideR (h2.mono HB.out)
 have HST2:=hideR s2
 clear h2 s2 HC0 HBX HB HWS kM
 generalize w.heap.size=bM at HBM HNE ⊢
 go_wp2_with fail
 go_loopw [4] (fun i wr=>∃(j:Nat) (ov3:Bool) (v3:Value) (b3:List Int),j<=n6/\i=.int .i64 j/\Hid (PS w q ov3 v3 b3 wr)/\Hid (St (u0++(m.exports.take j).flatMap expB) ov3 b3)/\Hid (Kept q v2 w2 v3 wr)) (fun i _=>n6-(Lib.intOf i).toNat)
 case atStart=>exact ⟨0,ov2,v2,b2,by omega,rfl,HPS2,hideR (by simpa using HST2.out),hideR (Kept.refl _ _ _)⟩
 case round =>
  clear HPS2 HST2
  obtain ⟨j,ov3,v3,b3,hj,rfl,HPS3,HST3,HKW3⟩:=hrel
  have kM:=(HKW3.out.bx HBM.out HNE.out.1 HNE.out.2).1.cell 6 _ rfl
  by_cases hgo:j<n6
  ·obtain ⟨bR,off1,cap1,hv1,hx1⟩:=Row.some HL.out (by have:=HNA.out;omega)
   injection hv1 with ho1 e11 e12
   subst ho1
   clear e11 e12
   obtain ⟨x,hxk⟩:∃x,m.exports[j]?=some x:=⟨_,List.getElem?_eq_getElem (by have:=HNA.out;omega)⟩
   have hx:=hx1 j x hxk
   have HRX:=hideR (HR.out x (List.mem_of_getElem? hxk))
   have HTK:Hid ((m.exports.take (j+1)).flatMap expB=(m.exports.take j).flatMap expB++expB x):=hideR (fm_take hxk)
   clear hxk hx1
   have H0:=hideR hx.name
   have H1:=hideR hx.kind
   have H2:=hideR hx.index
   clear hx
   have c0:=cell_on HPS3.out.below H0.out
   have c1:=cell_on HPS3.out.below H1.out
   have c2:=cell_on HPS3.out.below H2.out
   have HC:=hideR (dName w q ov3 v3 b3 _ x.name wr HPS3.out HST3.out (by have:=HRX.out.1;omega))
   go_wp2_with fail
   refine HC.out.mono ?_
   rintro e w4 ⟨ov4,v4,b4,rfl,hh,ss,kk⟩
   have HPS4:=hideR hh
   have HST4:=hideR ss
   have HKW4:=hideR (HKW3.out.trans kk)
   clear hh ss kk HC HPS3 HST3 HKW3 kM c0 c1 c2
   have kM:=(HKW4.out.bx HBM.out HNE.out.1 HNE.out.2).1.cell 6 _ rfl
   have c0:=cell_on HPS4.out.below H0.out
   have c1:=cell_on HPS4.out.below H1.out
   have c2:=cell_on HPS4.out.below H2.out
   have HC:=hideR (dByte w q ov4 v4 b4 _ x.kind w4 HPS4.out HST4.out)
   go_wp2_with fail
   refine HC.out.mono ?_
   rintro e w5 ⟨ov5,v5,b5,rfl,hh,ss,kk⟩
   have HPS5:=hideR hh
   have HST5:=hideR ss
   have HKW5:=hideR (HKW4.out.trans kk)
   clear hh ss kk HC HPS4 HST4 HKW4 kM c0 c1 c2
   have kM:=(HKW5.out.bx HBM.out HNE.out.1 HNE.out.2).1.cell 6 _ rfl
   have c0:=cell_on HPS5.out.below H0.out
   have c1:=cell_on HPS5.out.below H1.out
   have c2:=cell_on HPS5.out.below H2.out
   have HC:=hideR (dU w q ov5 v5 b5 _ x.index w5 HPS5.out HST5.out (HRX.out.2).1 (by have:=(HRX.out.2).2;omega))
   go_wp2_with fail
   refine HC.out.mono ?_
   rintro e w6 ⟨ov6,v6,b6,rfl,hh,ss,kk⟩
   have HPS6:=hideR hh
   have HST6:=hideR ss
   have HKW6:=hideR (HKW5.out.trans kk)
   clear hh ss kk HC HPS5 HST5 HKW5 kM c0 c1 c2
   have kM:=(HKW6.out.bx HBM.out HNE.out.1 HNE.out.2).1.cell 6 _ rfl
   have HSF:Hid (St (u0++(m.exports.take (j+1)).flatMap expB) ov6 b6):=hideR (by rw [HTK.out];simpa [one,expB,List.append_assoc] using HST6.out)
   go_wp2
   go_roundw
   case rel=>exact ⟨j+1,ov6,v6,b6,by omega,by go_num,HPS6,HSF,HKW6⟩
   case measure=>simp [Lib.intOf];omega
  ·obtain rfl:n6=j:=by omega
   have HF:Hid (St (lisB expB m.exports) ov3 b3):=hideR (by
    have h1:=HST3.out
    rw [List.take_of_length_le (by have:=HNA.out;omega)] at h1
    unfold lisB;rw [HNA.out,HU0.out];exact h1)
   go_wp2
   go_ret
   exact ⟨_,_,_,_,rfl,HPS3.out,HF.out⟩
end Go.Proofs.YtlcpagiljfpbpaaGreatDoor

namespace Go.Proofs.YtlcpagiljfpbpaaGreatDoor
open Go.RowKit Rep Enc Go.Lib
set_option linter.unusedVariables false
set_option maxRecDepth 100000 in
set_option maxHeartbeats 8000000 in
theorem dGlo (d:Nat) (v0 v1 v2 v3 v4 v5 v6 v7 v8 v9:Value) (m:Mod d) (w:World) (hM:ModAt w d v0 v1 v2 v3 v4 v5 v6 v7 v8 v9 m) (hr:∀x ∈ m.globals,Rg1 (Rg d) x.init) :
  Calls Tryz.prog 67 #[.agg #[v0,v1,v2,v3,v4,v5,v6,v7,v8,v9]] w (PMade w (lisB gloB m.globals)):=by
 obtain ⟨o0,k0,rfl⟩:=Row.len hM.types
 obtain ⟨o1,k1,rfl⟩:=Row.len hM.imports
 obtain ⟨o2,k2,rfl⟩:=Row.len hM.funcs
 obtain ⟨o3,k3,rfl⟩:=Row.len hM.tables
 obtain ⟨o4,k4,rfl⟩:=Row.len hM.mems
 obtain ⟨o5,k5,rfl⟩:=Row.len hM.globals
 obtain ⟨o6,k6,rfl⟩:=Row.len hM.exports
 obtain ⟨o7,k7,rfl⟩:=Row.len hM.start
 obtain ⟨o8,k8,rfl⟩:=Row.len hM.elems
 obtain ⟨o9,k9,rfl⟩:=Row.len hM.datas
 have hb:=new_on' w (.cells #[.slice o0 m.types.length k0,.slice o1 m.imports.length k1,.slice o2 m.funcs.length k2,.slice o3 m.tables.length k3,.slice o4 m.mems.length k4,.slice o5 m.globals.length k5,.slice o6 m.exports.length k6,.slice o7 m.start.length k7,.slice o8 m.elems.length k8,.slice o9 m.datas.length k9] 32)
 have la:=hM.globals.1
 have HBX:=hideR (Bx.new (w:=w) (b:=w.heap.size) (t:=32) (cs:=#[.slice o0 m.types.length k0,.slice o1 m.imports.length k1,.slice o2 m.funcs.length k2,.slice o3 m.tables.length k3,.slice o4 m.mems.length k4,.slice o5 m.globals.length k5,.slice o6 m.exports.length k6,.slice o7 m.start.length k7,.slice o8 m.elems.length k8,.slice o9 m.datas.length k9]) rfl)
 have HC0:=hideR (dCounted (m.globals.length:Int) (w.alloc (.cells #[.slice o0 m.types.length k0,.slice o1 m.imports.length k1,.slice o2 m.funcs.length k2,.slice o3 m.tables.length k3,.slice o4 m.mems.length k4,.slice o5 m.globals.length k5,.slice o6 m.exports.length k6,.slice o7 m.start.length k7,.slice o8 m.elems.length k8,.slice o9 m.datas.length k9] 32)) (by omega) (by omega))
 have HB:=hideR hb
 have HL:=hideR hM.globals
 have HR:=hideR hr
 have hws:(w.alloc (.cells #[.slice o0 m.types.length k0,.slice o1 m.imports.length k1,.slice o2 m.funcs.length k2,.slice o3 m.tables.length k3,.slice o4 m.mems.length k4,.slice o5 m.globals.length k5,.slice o6 m.exports.length k6,.slice o7 m.start.length k7,.slice o8 m.elems.length k8,.slice o9 m.datas.length k9] 32)).heap.size=w.heap.size+1:=by simp
 have HWS:=hideR hws
 clear hM hr hb hws
 generalize hn0:m.types.length=n0 at *
 generalize hn1:m.imports.length=n1 at *
 generalize hn2:m.funcs.length=n2 at *
 generalize hn3:m.tables.length=n3 at *
 generalize hn4:m.mems.length=n4 at *
 generalize hn5:m.globals.length=n5 at *
 generalize hn6:m.exports.length=n6 at *
 generalize hn7:m.start.length=n7 at *
 generalize hn8:m.elems.length=n8 at *
 generalize hn9:m.datas.length=n9 at *
 have HNA:=hideR hn5
 clear hn0 hn1 hn2 hn3 hn4 hn5 hn6 hn7 hn8 hn9
 obtain ⟨u0,hu0⟩:∃u0,Leb.uB (n5:Int)=u0:=⟨_,rfl⟩
 rw [hu0] at HC0
 have HU0:=hideR hu0
 clear hu0
 have kM:=HBX.out.cell 5 _ rfl
 obtain ⟨wa,hwa⟩:∃wa,wa=w.alloc (.cells #[.slice o0 n0 k0,.slice o1 n1 k1,.slice o2 n2 k2,.slice o3 n3 k3,.slice o4 n4 k4,.slice o5 n5 k5,.slice o6 n6 k6,.slice o7 n7 k7,.slice o8 n8 k8,.slice o9 n9 k9] 32):=⟨_,rfl⟩
 rw [<- hwa] at HBX HC0 HB HWS kM
 have HWA:=hideR hwa
 clear hwa
 go_enter Tryz.func67,Tryz.ntmps67
 go_upto_region 1 with fail
 rw [<- HWA.out]
 clear HWA
 go_wp2_with fail
 refine HC0.out.mono ?_
 rintro e w2 ⟨q,ov2,v2,b2,rfl,h2,s2⟩
 have HBM:Hid (Bx w2 w.heap.size 32 #[.slice o0 n0 k0,.slice o1 n1 k1,.slice o2 n2 k2,.slice o3 n3 k3,.slice o4 n4 k4,.slice o5 n5 k5,.slice o6 n6 k6,.slice o7 n7 k7,.slice o8 n8 k8,.slice o9 n9 k9]):=hideR (by unfold Bx;rw [h2.below.block _ HBX.out.lt];exact HBX.out)
 have HNE:Hid (w.heap.size≠q/\some w.heap.size≠v2.ownBlock):=hideR ⟨by have:=h2.base;have:=HWS.out;omega,fun e=>by have:=(h2.own.lt _ e.symm).1;have:=HWS.out;omega⟩
 have HPS2:=hideR (h2.mono HB.out)
 have HST2:=hideR s2
 clear h2 s2 HC0 HBX HB HWS kM
 generalize w.heap.size=bM at HBM HNE ⊢
 go_wp2_with fail
 go_loopw [4] (fun i wr=>∃(j:Nat) (ov3:Bool) (v3:Value) (b3:List Int),j<=n5/\i=.int .i64 j/\Hid (PS w q ov3 v3 b3 wr)/\Hid (St (u0++(m.globals.take j).flatMap gloB) ov3 b3)/\Hid (Kept q v2 w2 v3 wr)) (fun i _=>n5-(Lib.intOf i).toNat)
 case atStart=>exact ⟨0,ov2,v2,b2,by omega,rfl,HPS2,hideR (by simpa using HST2.out),hideR (Kept.refl _ _ _)⟩
 case round =>
  clear HPS2 HST2
  obtain ⟨j,ov3,v3,b3,hj,rfl,HPS3,HST3,HKW3⟩:=hrel
  have kM:=(HKW3.out.bx HBM.out HNE.out.1 HNE.out.2).1.cell 5 _ rfl
  by_cases hgo:j<n5
  ·obtain ⟨bR,off1,cap1,hv1,hx1⟩:=Row.some HL.out (by have:=HNA.out;omega)
   injection hv1 with ho1 e11 e12
   subst ho1
   clear e11 e12
   obtain ⟨x,hxk⟩:∃x,m.globals[j]?=some x:=⟨_,List.getElem?_eq_getElem (by have:=HNA.out;omega)⟩
   have hx:=hx1 j x hxk
   have HRX:=hideR (HR.out x (List.mem_of_getElem? hxk))
   have HTK:Hid ((m.globals.take (j+1)).flatMap gloB=(m.globals.take j).flatMap gloB++gloB x):=hideR (fm_take hxk)
   clear hxk hx1
   have c0:=hx.type
   have c1:=hx.mtb
   obtain ⟨c2,c3,c4,c5,⟨w4,c6,ax4⟩,⟨w5,c7,ax5⟩,⟨w6,c8,ax6⟩⟩:=hx.init
   obtain ⟨q4,z4,rfl⟩:=Row.len ax4
   obtain ⟨q5,z5,rfl⟩:=At.len d _ _ ax5
   obtain ⟨q6,z6,rfl⟩:=At.len d _ _ ax6
   have HAX:=hideR (⟨ax4,ax5,ax6⟩:_/\_/\_)
   generalize hy4:x.init.labels.length=y4 at *
   generalize hy5:size d x.init.body=y5 at *
   generalize hy6:size d x.init.els=y6 at *
   clear ax4 ax5 ax6
   have H0:=hideR c0
   have H1:=hideR c1
   have H2:=hideR c2
   have H3:=hideR c3
   have H4:=hideR c4
   have H5:=hideR c5
   have H6:=hideR c6
   have H7:=hideR c7
   have H8:=hideR c8
   clear hx c0 c1 c2 c3 c4 c5 c6 c7 c8
   generalize hmt:x.mtb=mt at *
   have HMT:=hideR hmt
   clear hmt
   have c0:=cell_on HPS3.out.below H0.out
   have c1:=cell_on HPS3.out.below H1.out
   have c2:=cell_on HPS3.out.below H2.out
   have c3:=cell_on HPS3.out.below H3.out
   have c4:=cell_on HPS3.out.below H4.out
   have c5:=cell_on HPS3.out.below H5.out
   have c6:=cell_on HPS3.out.below H6.out
   have c7:=cell_on HPS3.out.below H7.out
   have c8:=cell_on HPS3.out.below H8.out
   have HC:=hideR (dByte w q ov3 v3 b3 _ x.type wr HPS3.out HST3.out)
   go_wp2_with fail
   refine HC.out.mono ?_
   rintro e w4 ⟨ov4,v4,b4,rfl,hh,ss,kk⟩
   have HPS4:=hideR hh
   have HST4:=hideR ss
   have HKW4:=hideR (HKW3.out.trans kk)
   clear hh ss kk HC HPS3 HST3 HKW3 kM c0 c1 c2 c3 c4 c5 c6 c7 c8
   have kM:=(HKW4.out.bx HBM.out HNE.out.1 HNE.out.2).1.cell 5 _ rfl
   cases mt with
   | true =>
    have c0:=cell_on HPS4.out.below H0.out
    have c1:=cell_on HPS4.out.below H1.out
    have c2:=cell_on HPS4.out.below H2.out
    have c3:=cell_on HPS4.out.below H3.out
    have c4:=cell_on HPS4.out.below H4.out
    have c5:=cell_on HPS4.out.below H5.out
    have c6:=cell_on HPS4.out.below H6.out
    have c7:=cell_on HPS4.out.below H7.out
    have c8:=cell_on HPS4.out.below H8.out
    have HC:=hideR (dByte w q ov4 v4 b4 _ 1 w4 HPS4.out HST4.out)
    go_wp2_with fail
    refine HC.out.mono ?_
    rintro e w5 ⟨ov5,v5,b5,rfl,hh,ss,kk⟩
    have HPS5:=hideR hh
    have HST5:=hideR ss
    have HKW5:=hideR (HKW4.out.trans kk)
    clear hh ss kk HC HPS4 HST4 HKW4 kM c0 c1 c2 c3 c4 c5 c6 c7 c8
    have kM:=(HKW5.out.bx HBM.out HNE.out.1 HNE.out.2).1.cell 5 _ rfl
    have c0:=cell_on HPS5.out.below H0.out
    have c1:=cell_on HPS5.out.below H1.out
    have c2:=cell_on HPS5.out.below H2.out
    have c3:=cell_on HPS5.out.below H3.out
    have c4:=cell_on HPS5.out.below H4.out
    have c5:=cell_on HPS5.out.below H5.out
    have c6:=cell_on HPS5.out.below H6.out
    have c7:=cell_on HPS5.out.below H7.out
    have c8:=cell_on HPS5.out.below H8.out
    have hown:∀k,v5.ownBlock=some k->k<w5.heap.size:=fun k hk=>(HPS5.out.own.lt k hk).2
    have hpl:=HPS5.out.lt
    have HC:=hideR (dExpr1 w q d w5.heap.size 1 x.init ov5 v5 b5 _ (w5.alloc (.cells #[.int .i64 x.init.op,.int .i64 x.init.a,.int .i64 x.init.b,.int .i64 x.init.n,.slice q4 y4 z4,.slice q5 y5 z5,.slice q6 y6 z6] 52)) (HPS5.out.on (new_on' _ _)) HST5.out (insN_new HAX.out.1 HAX.out.2.1 HAX.out.2.2) (by simp) (by omega) (fun e=>by have:=hown _ e.symm;omega) (HRX.out))
    clear hown hpl
    go_wp2_with fail
    refine HC.out.mono ?_
    rintro e w6 ⟨ov6,v6,b6,rfl,hh,ss,kk⟩
    have HPS6:=hideR hh
    have HST6:=hideR ss
    have HKW6:=hideR ((HKW5.out.trans (Kept.below (p:=q) (v:=v5) (new_on' w5 (.cells #[.int .i64 x.init.op,.int .i64 x.init.a,.int .i64 x.init.b,.int .i64 x.init.n,.slice q4 y4 z4,.slice q5 y5 z5,.slice q6 y6 z6] 52)))).trans kk)
    clear hh ss kk HC HPS5 HST5 HKW5 kM c0 c1 c2 c3 c4 c5 c6 c7 c8
    have kM:=(HKW6.out.bx HBM.out HNE.out.1 HNE.out.2).1.cell 5 _ rfl
    have HSF:Hid (St (u0++(m.globals.take (j+1)).flatMap gloB) ov6 b6):=hideR (by rw [HTK.out];simpa [one,gloB,HMT.out,List.append_assoc] using HST6.out)
    go_wp2
    go_roundw
    case rel=>exact ⟨j+1,ov6,v6,b6,by omega,by go_num,HPS6,HSF,HKW6⟩
    case measure=>simp [Lib.intOf];omega
   | false =>
    have c0:=cell_on HPS4.out.below H0.out
    have c1:=cell_on HPS4.out.below H1.out
    have c2:=cell_on HPS4.out.below H2.out
    have c3:=cell_on HPS4.out.below H3.out
    have c4:=cell_on HPS4.out.below H4.out
    have c5:=cell_on HPS4.out.below H5.out
    have c6:=cell_on HPS4.out.below H6.out
    have c7:=cell_on HPS4.out.below H7.out
    have c8:=cell_on HPS4.out.below H8.out
    have HC:=hideR (dByte w q ov4 v4 b4 _ 0 w4 HPS4.out HST4.out)
    go_wp2_with fail
    refine HC.out.mono ?_
    rintro e w5 ⟨ov5,v5,b5,rfl,hh,ss,kk⟩
    have HPS5:=hideR hh
    have HST5:=hideR ss
    have HKW5:=hideR (HKW4.out.trans kk)
    clear hh ss kk HC HPS4 HST4 HKW4 kM c0 c1 c2 c3 c4 c5 c6 c7 c8
    have kM:=(HKW5.out.bx HBM.out HNE.out.1 HNE.out.2).1.cell 5 _ rfl
    have c0:=cell_on HPS5.out.below H0.out
    have c1:=cell_on HPS5.out.below H1.out
    have c2:=cell_on HPS5.out.below H2.out
    have c3:=cell_on HPS5.out.below H3.out
    have c4:=cell_on HPS5.out.below H4.out
    have c5:=cell_on HPS5.out.below H5.out
    have c6:=cell_on HPS5.out.below H6.out
    have c7:=cell_on HPS5.out.below H7.out
    have c8:=cell_on HPS5.out.below H8.out
    have hown:∀k,v5.ownBlock=some k->k<w5.heap.size:=fun k hk=>(HPS5.out.own.lt k hk).2
    have hpl:=HPS5.out.lt
    have HC:=hideR (dExpr1 w q d w5.heap.size 1 x.init ov5 v5 b5 _ (w5.alloc (.cells #[.int .i64 x.init.op,.int .i64 x.init.a,.int .i64 x.init.b,.int .i64 x.init.n,.slice q4 y4 z4,.slice q5 y5 z5,.slice q6 y6 z6] 52)) (HPS5.out.on (new_on' _ _)) HST5.out (insN_new HAX.out.1 HAX.out.2.1 HAX.out.2.2) (by simp) (by omega) (fun e=>by have:=hown _ e.symm;omega) (HRX.out))
    clear hown hpl
    go_wp2_with fail
    refine HC.out.mono ?_
    rintro e w6 ⟨ov6,v6,b6,rfl,hh,ss,kk⟩
    have HPS6:=hideR hh
    have HST6:=hideR ss
    have HKW6:=hideR ((HKW5.out.trans (Kept.below (p:=q) (v:=v5) (new_on' w5 (.cells #[.int .i64 x.init.op,.int .i64 x.init.a,.int .i64 x.init.b,.int .i64 x.init.n,.slice q4 y4 z4,.slice q5 y5 z5,.slice q6 y6 z6] 52)))).trans kk)
    clear hh ss kk HC HPS5 HST5 HKW5 kM c0 c1 c2 c3 c4 c5 c6 c7 c8
    have kM:=(HKW6.out.bx HBM.out HNE.out.1 HNE.out.2).1.cell 5 _ rfl
    have HSF:Hid (St (u0++(m.globals.take (j+1)).flatMap gloB) ov6 b6):=hideR (by rw [HTK.out];simpa [one,gloB,HMT.out,List.append_assoc] using HST6.out)
    go_wp2
    go_roundw
    case rel=>exact ⟨j+1,ov6,v6,b6,by omega,by go_num,HPS6,HSF,HKW6⟩
    case measure=>simp [Lib.intOf];omega
  ·obtain rfl:n5=j:=by omega
   have HF:Hid (St (lisB gloB m.globals) ov3 b3):=hideR (by
    have h1:=HST3.out
    rw [List.take_of_length_le (by have:=HNA.out;omega)] at h1
    unfold lisB;rw [HNA.out,HU0.out];exact h1)
   go_wp2
   go_ret
   exact ⟨_,_,_,_,rfl,HPS3.out,HF.out⟩
end Go.Proofs.YtlcpagiljfpbpaaGreatDoor

