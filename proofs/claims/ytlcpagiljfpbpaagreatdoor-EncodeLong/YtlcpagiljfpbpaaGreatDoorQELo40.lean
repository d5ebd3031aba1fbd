/- Texts that the claim needs. -/
import Derived.Test.YtlcpagiljfpbpaaGreatDoorQELo39
import Derived.Test.YtlcpagiljfpbpaaGreatDoorQELo37
namespace Go.Proofs.YtlcpagiljfpbpaaGreatDoor
open Go.RowKit Rep Enc Go.Lib
set_option linter.unusedVariables false
set_option maxRecDepth 100000 in
set_option maxHeartbeats 8000000 in
theorem dCods (d:Nat) (v0 v1 v2 v3 v4 v5 v6 v7 v8 v9:Value) (m:Mod d) (w:World) (hM:ModAt w d v0 v1 v2 v3 v4 v5 v6 v7 v8 v9 m) (hr:∀x ∈ m.funcs,Rg d x.body/\x.locals.length<=1000000/\∀y ∈ x.locals,y=126\/y=127) :
  Calls Tryz.prog 71 #[.agg #[v0,v1,v2,v3,v4,v5,v6,v7,v8,v9]] w (PMade w (lisB (fun x=>sizB (codB x)) m.funcs)):=by
 obtain ⟨o0,k0,rfl⟩:=Row.len hM.types
 obtain ⟨o1,k1,rfl⟩:=Row.len hM.imports
 obtain ⟨o2,k2,rfl⟩:=Row.len hM.funcs
 obtain ⟨o3,k3,rfl⟩:=Row.len hM.tables
 obtain ⟨o4,k4,rfl⟩:=Row.len hM.mems
 obtain ⟨o5,k5,rfl⟩:=Row.len hM.globals
 obtain ⟨o6,k6,rfl⟩:=Row.len hM.exports
 obtain ⟨o7,k7,rfl⟩:=Row.len hM.start
 obtain ⟨o8,k8,rfl⟩:=Row.len hM.elems
 obtain ⟨o9,k9,rfl⟩:=Row.len hM.datas
 have hb:=new_on' w (.cells #[.slice o0 m.types.length k0,.slice o1 m.imports.length k1,.slice o2 m.funcs.length k2,.slice o3 m.tables.length k3,.slice o4 m.mems.length k4,.slice o5 m.globals.length k5,.slice o6 m.exports.length k6,.slice o7 m.start.length k7,.slice o8 m.elems.length k8,.slice o9 m.datas.length k9] 32)
 have la:=hM.funcs.1
 have HBX:=hideR (Bx.new (w:=w) (b:=w.heap.size) (t:=32) (cs:=#[.slice o0 m.types.length k0,.slice o1 m.imports.length k1,.slice o2 m.funcs.length k2,.slice o3 m.tables.length k3,.slice o4 m.mems.length k4,.slice o5 m.globals.length k5,.slice o6 m.exports.length k6,.slice o7 m.start.length k7,.slice o8 m.elems.length k8,.slice o9 m.datas.length k9]) rfl)
 have HC0:=hideR (dCounted (m.funcs.length:Int) (w.alloc (.cells #[.slice o0 m.types.length k0,.slice o1 m.imports.length k1,.slice o2 m.funcs.length k2,.slice o3 m.tables.length k3,.slice o4 m.mems.length k4,.slice o5 m.globals.length k5,.slice o6 m.exports.length k6,.slice o7 m.start.length k7,.slice o8 m.elems.length k8,.slice o9 m.datas.length k9] 32)) (by omega) (by omega))
 have HB:=hideR hb
 have HL:=hideR hM.funcs
 have HR:=hideR hr
 have hws:(w.alloc (.cells #[.slice o0 m.types.length k0,.slice o1 m.imports.length k1,.slice o2 m.funcs.length k2,.slice o3 m.tables.length k3,.slice o4 m.mems.length k4,.slice o5 m.globals.length k5,.slice o6 m.exports.length k6,.slice o7 m.start.length k7,.slice o8 m.elems.length k8,.slice o9 m.datas.length k9] 32)).heap.size=w.heap.size+1:=by simp
 have HWS:=hideR hws
 clear hM hr hb hws
 generalize hn0:m.types.length=n0 at *
 generalize hn1:m.imports.length=n1 at *
 generalize hn2:m.funcs.length=n2 at *
 generalize hn3:m.tables.length=n3 at *
 generalize hn4:m.mems.length=n4 at *
 generalize hn5:m.globals.length=n5 at *
 generalize hn6:m.exports.length=n6 at *
 generalize hn7:m.start.length=n7 at *
 generalize hn8:m.elems.length=n8 at *
 generalize hn9:m.datas.length=n9 at *
 have HNA:=hideR hn2
 clear hn0 hn1 hn2 hn3 hn4 hn5 hn6 hn7 hn8 hn9
 obtain ⟨u0,hu0⟩:∃u0,Leb.uB (n2:Int)=u0:=⟨_,rfl⟩
 rw [hu0] at HC0
 have HU0:=hideR hu0
 clear hu0
 have kM:=HBX.out.cell 2 _ rfl
 obtain ⟨wa,hwa⟩:∃wa,wa=w.alloc (.cells #[.slice o0 n0 k0,.slice o1 n1 k1,.slice o2 n2 k2,.slice o3 n3 k3,.slice o4 n4 k4,.slice o5 n5 k5,.slice o6 n6 k6,.slice o7 n7 k7,.slice o8 n8 k8,.slice o9 n9 k9] 32):=⟨_,rfl⟩
 rw [<- hwa] at HBX HC0 HB HWS kM
 have HWA:=hideR hwa
 clear hwa
 go_enter Tryz.func71,Tryz.ntmps71
 go_upto_region 1 with fail
 rw [<- HWA.out]
 clear HWA
 go_wp2_with fail
 refine HC0.out.mono ?_
 rintro e w2 ⟨q,ov2,v2,b2,rfl,h2,s2⟩
 have HBM:Hid (Bx w2 w.heap.size 32 #[.slice o0 n0 k0,.slice o1 n1 k1,.slice o2 n2 k2,.slice o3 n3 k3,.slice o4 n4 k4,.slice o5 n5 k5,.slice o6 n6 k6,.slice o7 n7 k7,.slice o8 n8 k8,.slice o9 n9 k9]):=hideR (by unfold Bx;rw [h2.below.block _ HBX.out.lt];exact HBX.out)
 have HNE:Hid (w.heap.size≠q/\some w.heap.size≠v2.ownBlock):=hideR ⟨by have:=h2.base;have:=HWS.out;omega,fun e=>by have:=(h2.own.lt _ e.symm).1;have:=HWS.out;omega⟩
 have HPS2:=hideR (h2.mono HB.out)
 have HST2:=hideR s2
 clear h2 s2 HC0 HBX HB HWS kM
 generalize w.heap.size=bM at HBM HNE ⊢
 go_wp2_with fail
 go_loopw [4] (fun i wr=>∃(j:Nat) (ov3:Bool) (v3:Value) (b3:List Int),j<=n2/\i=.int .i64 j/\Hid (PS w q ov3 v3 b3 wr)/\Hid (St (u0++(m.funcs.take j).flatMap (fun x=>sizB (codB x))) ov3 b3)/\Hid (Kept q v2 w2 v3 wr)) (fun i _=>n2-(Lib.intOf i).toNat)
 case atStart=>exact ⟨0,ov2,v2,b2,by omega,rfl,HPS2,hideR (by simpa using HST2.out),hideR (Kept.refl _ _ _)⟩
 case round =>
  clear HPS2 HST2
  obtain ⟨j,ov3,v3,b3,hj,rfl,HPS3,HST3,HKW3⟩:=hrel
  have kM:=(HKW3.out.bx HBM.out HNE.out.1 HNE.out.2).1.cell 2 _ rfl
  by_cases hgo:j<n2
  ·obtain ⟨bR,off1,cap1,hv1,hx1⟩:=Row.some HL.out (by have:=HNA.out;omega)
   injection hv1 with ho1 e11 e12
   subst ho1
   clear e11 e12
   obtain ⟨x,hxk⟩:∃x,m.funcs[j]?=some x:=⟨_,List.getElem?_eq_getElem (by have:=HNA.out;omega)⟩
   have hx:=hx1 j x hxk
   have HRX:=hideR (HR.out x (List.mem_of_getElem? hxk))
   have HTK:Hid ((m.funcs.take (j+1)).flatMap (fun x=>sizB (codB x))=(m.funcs.take j).flatMap (fun x=>sizB (codB x))++(sizB (codB x))):=hideR (fm_take hxk)
   clear hxk hx1
   obtain ⟨lv,c1,al⟩:=hx.locals
   obtain ⟨bv,c2,ab⟩:=hx.body
   obtain ⟨qa,za,rfl⟩:=Row.len al
   obtain ⟨qb,zb,rfl⟩:=At.len d _ _ ab
   have c0:=cell_on HPS3.out.below hx.type
   have c1:=cell_on HPS3.out.below c1
   have c2:=cell_on HPS3.out.below c2
   have ko:=HPS3.out.cellO
   cases ov3 with
   | true =>
    have HF:Hid (St (lisB (fun x=>sizB (codB x)) m.funcs) true b3):=hideR (by
     have h1:=(HST3.out.more rfl ((m.funcs.drop j).flatMap (fun x=>sizB (codB x))))
     rw [List.append_assoc,<- List.flatMap_append,List.take_append_drop] at h1
     unfold lisB;rw [HNA.out,HU0.out];exact h1)
    clear al ab hx
    generalize x.locals.length=ya at *
    generalize size d x.body=yb at *
    go_wp2
    go_ret
    exact ⟨_,_,_,_,rfl,HPS3.out,HF.out⟩
   | false =>
    have HC:=hideR (dCode d x _ _ wr (al.on HPS3.out.below) (At.on HPS3.out.below d _ _ ab) HRX.out.1 HRX.out.2.1 HRX.out.2.2)
    clear al ab hx
    generalize x.locals.length=ya at *
    generalize size d x.body=yb at *
    go_wp2_with fail
    refine HC.out.mono ?_
    rintro e w4 ⟨r,ov4,v4,b4,rfl,h4,s4⟩
    have HP4:=hideR (HPS3.out.on h4.below)
    have HK4:=hideR (HKW3.out.trans (Kept.below (p:=q) (v:=v3) h4.below))
    have HC2:=hideR (dPart w wr q r false ov4 v3 v4 b3 _ b4 (codB x) w4 (HPS3.out.on h4.below) HST3.out h4 s4 HPS3.out.lt)
    clear h4 s4 HC HPS3 HKW3 c0 c1 c2 ko kM
    go_wp2_with fail
    refine HC2.out.mono ?_
    rintro e w5 ⟨ov5,v5,b5,rfl,h5,s5,k5⟩
    have HP5:=hideR h5
    have HS5:Hid (St (u0++(m.funcs.take (j+1)).flatMap (fun x=>sizB (codB x))) ov5 b5):=hideR (by rw [HTK.out,<- List.append_assoc];exact s5)
    have HK5:=hideR (HK4.out.trans k5)
    clear h5 s5 k5 HC2
    go_wp2
    go_roundw
    case rel=>exact ⟨j+1,ov5,v5,b5,by omega,by go_num,HP5,HS5,HK5⟩
    case measure=>simp [Lib.intOf];omega
  ·obtain rfl:n2=j:=by omega
   have HF:Hid (St (lisB (fun x=>sizB (codB x)) m.funcs) ov3 b3):=hideR (by
    have h1:=HST3.out
    rw [List.take_of_length_le (by have:=HNA.out;omega)] at h1
    unfold lisB;rw [HNA.out,HU0.out];exact h1)
   go_wp2
   go_ret
   exact ⟨_,_,_,_,rfl,HPS3.out,HF.out⟩
set_option maxRecDepth 100000 in
set_option maxHeartbeats 4000000 in
theorem dSection (w0 w1:World) (p q:Nat) (ov oq:Bool) (v u:Value) (bs id bq iq:List Int) (k:Int) (n:Nat) (w:World) (h:PS w0 p ov v bs w) (hS:St id ov bs) (hq:PS w1 q oq u bq w) (hQ:St iq oq bq) (hpq:p<w1.heap.size) (hp1:Below w1.heap.size w1 w) (hown:∀b,v.ownBlock=some b->b<w1.heap.size) (hk:0<=k/\k<=255) (hn:n<=9223372036854775807) :
  Calls Tryz.prog 62 #[.pointer (some ⟨p,0,none⟩),.int .i64 k,.int .i64 (n:Nat),.pointer (some ⟨q,0,none⟩)] w (PDo w0 p v w (id++secB k n iq)):=by
 have ko:=h.cellO
 have hk':k%256=k:=by omega
 rcases Nat.eq_zero_or_pos n with h0|h0
 ·have hz:((n:Int) == 0)=true:=by simp [h0]
  have HF:Hid (PS w0 p ov v bs w/\St (id++secB k n iq) ov bs):=hideR ⟨h,by unfold secB;rw [if_pos h0,List.append_nil];exact hS⟩
  clear h hS hq hQ hpq hp1 hown hk hk' h0
  go_enter Tryz.func62,Tryz.ntmps62
  go_wp2
  refine bodyPost_ret (results_none rfl _ _ _) rfl ?_
  exact ⟨_,_,_,rfl,HF.out.1,HF.out.2,Kept.refl _ _ _⟩
 ·have hz:((n:Int) == 0)=false:=by simp;omega
  have hsec:secB k n iq = [k]++sizB iq:=by unfold secB;rw [if_neg (by omega)]
  rw [hsec]
  cases ov with
  | true =>
   have HF:Hid (PS w0 p true v bs w/\St (id++([k]++sizB iq)) true bs):=hideR ⟨h,hS.more rfl _⟩
   clear h hS hq hQ hpq hp1 hown hk hk' h0 hsec
   go_enter Tryz.func62,Tryz.ntmps62
   go_wp2
   refine bodyPost_ret (results_none rfl _ _ _) rfl ?_
   exact ⟨_,_,_,rfl,HF.out.1,HF.out.2,Kept.refl _ _ _⟩
  | false =>
   have HC:=hideR (dByte w0 p false v bs id k w h hS)
   rw [hk'] at HC
   have HQ:=hideR (⟨hq,hQ,hpq,hown⟩:_/\_/\_/\_)
   clear h hS hq hQ hpq hp1 hown hk hk' h0 hsec
   go_enter Tryz.func62,Tryz.ntmps62
   go_wp2_with fail
   refine HC.out.mono ?_
   rintro e w3 ⟨ov3,v3,b3,rfl,h3,s3,k3⟩
   have hq3:PS1 w1 q oq u bq w3:=PS1.of HQ.out.1 HQ.out.2.2.1 HQ.out.2.2.2 k3
   have HC2:=hideR (dPart1 w0 w1 p q ov3 oq v3 u b3 _ bq iq w3 h3 s3 hq3 HQ.out.2.1 HQ.out.2.2.1)
   have HK3:=hideR k3
   clear h3 s3 k3 hq3 HC HQ ko
   go_wp2_with fail
   refine HC2.out.mono ?_
   rintro e w4 ⟨ov4,v4,b4,rfl,h4,s4,k4⟩
   have HF:=hideR (⟨h4,by rw [<- List.append_assoc];exact s4,HK3.out.trans k4⟩:PS w0 p ov4 v4 b4 w4/\St (id++([k]++sizB iq)) ov4 b4/\Kept p v w v4 w4)
   clear h4 s4 k4 HC2 HK3
   go_wp2
   go_end0
   exact ⟨_,_,_,rfl,HF.out.1,HF.out.2.1,HF.out.2.2⟩
end Go.Proofs.YtlcpagiljfpbpaaGreatDoor

namespace Go.Proofs.YtlcpagiljfpbpaaGreatDoor
open Go.RowKit Rep Enc Go.Lib
set_option linter.unusedVariables false
set_option maxRecDepth 100000 in
set_option maxHeartbeats 8000000 in
theorem dTyp (d:Nat) (v0 v1 v2 v3 v4 v5 v6 v7 v8 v9:Value) (m:Mod d) (w:World) (hM:ModAt w d v0 v1 v2 v3 v4 v5 v6 v7 v8 v9 m) (hr:∀x ∈ m.types,True) :
  Calls Tryz.prog 63 #[.agg #[v0,v1,v2,v3,v4,v5,v6,v7,v8,v9]] w (PMade w (lisB ftB m.types)):=by
 obtain ⟨o0,k0,rfl⟩:=Row.len hM.types
 obtain ⟨o1,k1,rfl⟩:=Row.len hM.imports
 obtain ⟨o2,k2,rfl⟩:=Row.len hM.funcs
 obtain ⟨o3,k3,rfl⟩:=Row.len hM.tables
 obtain ⟨o4,k4,rfl⟩:=Row.len hM.mems
 obtain ⟨o5,k5,rfl⟩:=Row.len hM.globals
 obtain ⟨o6,k6,rfl⟩:=Row.len hM.exports
 obtain ⟨o7,k7,rfl⟩:=Row.len hM.start
 obtain ⟨o8,k8,rfl⟩:=Row.len hM.elems
 obtain ⟨o9,k9,rfl⟩:=Row.len hM.datas
 have hb:=new_on' w (.cells #[.slice o0 m.types.length k0,.slice o1 m.imports.length k1,.slice o2 m.funcs.length k2,.slice o3 m.tables.length k3,.slice o4 m.mems.length k4,.slice o5 m.globals.length k5,.slice o6 m.exports.length k6,.slice o7 m.start.length k7,.slice o8 m.elems.length k8,.slice o9 m.datas.length k9] 32)
 have la:=hM.types.1
 have HBX:=hideR (Bx.new (w:=w) (b:=w.heap.size) (t:=32) (cs:=#[.slice o0 m.types.length k0,.slice o1 m.imports.length k1,.slice o2 m.funcs.length k2,.slice o3 m.tables.length k3,.slice o4 m.mems.length k4,.slice o5 m.globals.length k5,.slice o6 m.exports.length k6,.slice o7 m.start.length k7,.slice o8 m.elems.length k8,.slice o9 m.datas.length k9]) rfl)
 have HC0:=hideR (dCounted (m.types.length:Int) (w.alloc (.cells #[.slice o0 m.types.length k0,.slice o1 m.imports.length k1,.slice o2 m.funcs.length k2,.slice o3 m.tables.length k3,.slice o4 m.mems.length k4,.slice o5 m.globals.length k5,.slice o6 m.exports.length k6,.slice o7 m.start.length k7,.slice o8 m.elems.length k8,.slice o9 m.datas.length k9] 32)) (by omega) (by omega))
 have HB:=hideR hb
 have HL:=hideR hM.types
 have HR:=hideR hr
 have hws:(w.alloc (.cells #[.slice o0 m.types.length k0,.slice o1 m.imports.length k1,.slice o2 m.funcs.length k2,.slice o3 m.tables.length k3,.slice o4 m.mems.length k4,.slice o5 m.globals.length k5,.slice o6 m.exports.length k6,.slice o7 m.start.length k7,.slice o8 m.elems.length k8,.slice o9 m.datas.length k9] 32)).heap.size=w.heap.size+1:=by simp
 have HWS:=hideR hws
 clear hM hr hb hws
 generalize hn0:m.types.length=n0 at *
 generalize hn1:m.imports.length=n1 at *
 generalize hn2:m.funcs.length=n2 at *
 generalize hn3:m.tables.length=n3 at *
 generalize hn4:m.mems.length=n4 at *
 generalize hn5:m.globals.length=n5 at *
 generalize hn6:m.exports.length=n6 at *
 generalize hn7:m.start.length=n7 at *
 generalize hn8:m.elems.length=n8 at *
 generalize hn9:m.datas.length=n9 at *
 have HNA:=hideR hn0
 clear hn0 hn1 hn2 hn3 hn4 hn5 hn6 hn7 hn8 hn9
 obtain ⟨u0,hu0⟩:∃u0,Leb.uB (n0:Int)=u0:=⟨_,rfl⟩
 rw [hu0] at HC0
 have HU0:=hideR hu0
 clear hu0
 have kM:=HBX.out.cell 0 _ rfl
 obtain ⟨wa,hwa⟩:∃wa,wa=w.alloc (.cells #[.slice o0 n0 k0,.slice o1 n1 k1,.slice o2 n2 k2,.slice o3 n3 k3,.slice o4 n4 k4,.slice o5 n5 k5,.slice o6 n6 k6,.slice o7 n7 k7,.slice o8 n8 k8,.slice o9 n9 k9] 32):=⟨_,rfl⟩
 rw [<- hwa] at HBX HC0 HB HWS kM
 have HWA:=hideR hwa
 clear hwa
 go_enter Tryz.func63,Tryz.ntmps63
 go_upto_region 1 with fail
 rw [<- HWA.out]
 clear HWA
 go_wp2_with fail
 refine HC0.out.mono ?_
 rintro e w2 ⟨q,ov2,v2,b2,rfl,h2,s2⟩
 have HBM:Hid (Bx w2 w.heap.size 32 #[.slice o0 n0 k0,.slice o1 n1 k1,.slice o2 n2 k2,.slice o3 n3 k3,.slice o4 n4 k4,.slice o5 n5 k5,.slice o6 n6 k6,.slice o7 n7 k7,.slice o8 n8 k8,.slice o9 n9 k9]):=hideR (by unfold Bx;rw [h2.below.block _ HBX.out.lt];exact HBX.out)
 have HNE:Hid (w.heap.size≠q/\some w.heap.size≠v2.ownBlock):=hideR ⟨by have:=h2.base;have:=HWS.out;omega,fun e=>by have:=(h2.own.lt _ e.symm).1;have:=HWS.out;omega⟩
 have HPS2:=hideR (h2.mono HB.out)
 have HST2:=hideR s2
 clear h2 s2 HC0 HBX HB HWS kM
 generalize w.heap.size=bM at HBM HNE ⊢
 go_wp2_with fail
 go_loopw [4] (fun i wr=>∃(j:Nat) (ov3:Bool) (v3:Value) (b3:List Int),j<=n0/\i=.int .i64 j/\Hid (PS w q ov3 v3 b3 wr)/\Hid (St (u0++(m.types.take j).flatMap ftB) ov3 b3)/\Hid (Kept q v2 w2 v3 wr)) (fun i _=>n0-(Lib.intOf i).toNat)
 case atStart=>exact ⟨0,ov2,v2,b2,by omega,rfl,HPS2,hideR (by simpa using HST2.out),hideR (Kept.refl _ _ _)⟩
 case round =>
  clear HPS2 HST2
  obtain ⟨j,ov3,v3,b3,hj,rfl,HPS3,HST3,HKW3⟩:=hrel
  have kM:=(HKW3.out.bx HBM.out HNE.out.1 HNE.out.2).1.cell 0 _ rfl
  by_cases hgo:j<n0
  ·obtain ⟨bR,off1,cap1,hv1,hx1⟩:=Row.some HL.out (by have:=HNA.out;omega)
   injection hv1 with ho1 e11 e12
   subst ho1
   clear e11 e12
   obtain ⟨x,hxk⟩:∃x,m.types[j]?=some x:=⟨_,List.getElem?_eq_getElem (by have:=HNA.out;omega)⟩
   have hx:=hx1 j x hxk
   have HRX:=hideR (HR.out x (List.mem_of_getElem? hxk))
   have HTK:Hid ((m.types.take (j+1)).flatMap ftB=(m.types.take j).flatMap ftB++ftB x):=hideR (fm_take hxk)
   clear hxk hx1
   obtain ⟨pv,c0,ha⟩:=hx.params
   obtain ⟨rv,c1,hb⟩:=hx.results
   obtain ⟨qa,za,rfl⟩:=Row.len ha
   obtain ⟨qb,zb,rfl⟩:=Row.len hb
   have H0:=hideR c0
   have H1:=hideR c1
   have HAX:=hideR (⟨ha,hb⟩:_/\_)
   clear hx c0 c1 ha hb
   generalize hya:x.params.length=ya at *
   generalize hyb:x.results.length=yb at *
   have c0:=cell_on HPS3.out.below H0.out
   have c1:=cell_on HPS3.out.below H1.out
   have HC:=hideR (dByte w q ov3 v3 b3 _ 96 wr HPS3.out HST3.out)
   go_wp2_with fail
   refine HC.out.mono ?_
   rintro e w4 ⟨ov4,v4,b4,rfl,hh,ss,kk⟩
   have HPS4:=hideR hh
   have HST4:=hideR ss
   have HKW4:=hideR (HKW3.out.trans kk)
   clear hh ss kk HC HPS3 HST3 HKW3 kM c0 c1
   have kM:=(HKW4.out.bx HBM.out HNE.out.1 HNE.out.2).1.cell 0 _ rfl
   have c0:=cell_on HPS4.out.below H0.out
   have c1:=cell_on HPS4.out.below H1.out
   have HC:=hideR (dTypes w q ov4 v4 b4 _ _ x.params w4 HPS4.out HST4.out HAX.out.1)
   go_wp2_with fail
   refine HC.out.mono ?_
   rintro e w5 ⟨ov5,v5,b5,rfl,hh,ss,kk⟩
   have HPS5:=hideR hh
   have HST5:=hideR ss
   have HKW5:=hideR (HKW4.out.trans kk)
   clear hh ss kk HC HPS4 HST4 HKW4 kM c0 c1
   have kM:=(HKW5.out.bx HBM.out HNE.out.1 HNE.out.2).1.cell 0 _ rfl
   have c0:=cell_on HPS5.out.below H0.out
   have c1:=cell_on HPS5.out.below H1.out
   have HC:=hideR (dTypes w q ov5 v5 b5 _ _ x.results w5 HPS5.out HST5.out HAX.out.2)
   go_wp2_with fail
   refine HC.out.mono ?_
   rintro e w6 ⟨ov6,v6,b6,rfl,hh,ss,kk⟩
   have HPS6:=hideR hh
   have HST6:=hideR ss
   have HKW6:=hideR (HKW5.out.trans kk)
   clear hh ss kk HC HPS5 HST5 HKW5 kM c0 c1
   have kM:=(HKW6.out.bx HBM.out HNE.out.1 HNE.out.2).1.cell 0 _ rfl
   have HSF:Hid (St (u0++(m.types.take (j+1)).flatMap ftB) ov6 b6):=hideR (by rw [HTK.out];simpa [one,ftB,List.append_assoc] using HST6.out)
   go_wp2
   go_roundw
   case rel=>exact ⟨j+1,ov6,v6,b6,by omega,by go_num,HPS6,HSF,HKW6⟩
   case measure=>simp [Lib.intOf];omega
  ·obtain rfl:n0=j:=by omega
   have HF:Hid (St (lisB ftB m.types) ov3 b3):=hideR (by
    have h1:=HST3.out
    rw [List.take_of_length_le (by have:=HNA.out;omega)] at h1
    unfold lisB;rw [HNA.out,HU0.out];exact h1)
   go_wp2
   go_ret
   exact ⟨_,_,_,_,rfl,HPS3.out,HF.out⟩
set_option maxRecDepth 100000 in
set_option maxHeartbeats 8000000 in
theorem dImp (d:Nat) (v0 v1 v2 v3 v4 v5 v6 v7 v8 v9:Value) (m:Mod d) (w:World) (hM:ModAt w d v0 v1 v2 v3 v4 v5 v6 v7 v8 v9 m) (hr:∀x ∈ m.imports,x.mod.size<=1000000/\x.name.size<=1000000/\0<=x.type/\x.type<=4294967295) :
  Calls Tryz.prog 64 #[.agg #[v0,v1,v2,v3,v4,v5,v6,v7,v8,v9]] w (PMade w (lisB impB m.imports)):=by
 obtain ⟨o0,k0,rfl⟩:=Row.len hM.types
 obtain ⟨o1,k1,rfl⟩:=Row.len hM.imports
 obtain ⟨o2,k2,rfl⟩:=Row.len hM.funcs
 obtain ⟨o3,k3,rfl⟩:=Row.len hM.tables
 obtain ⟨o4,k4,rfl⟩:=Row.len hM.mems
 obtain ⟨o5,k5,rfl⟩:=Row.len hM.globals
 obtain ⟨o6,k6,rfl⟩:=Row.len hM.exports
 obtain ⟨o7,k7,rfl⟩:=Row.len hM.start
 obtain ⟨o8,k8,rfl⟩:=Row.len hM.elems
 obtain ⟨o9,k9,rfl⟩:=Row.len hM.datas
 have hb:=new_on' w (.cells #[.slice o0 m.types.length k0,.slice o1 m.imports.length k1,.slice o2 m.funcs.length k2,.slice o3 m.tables.length k3,.slice o4 m.mems.length k4,.slice o5 m.globals.length k5,.slice o6 m.exports.length k6,.slice o7 m.start.length k7,.slice o8 m.elems.length k8,.slice o9 m.datas.length k9] 32)
 have la:=hM.imports.1
 have HBX:=hideR (Bx.new (w:=w) (b:=w.heap.size) (t:=32) (cs:=#[.slice o0 m.types.length k0,.slice o1 m.imports.length k1,.slice o2 m.funcs.length k2,.slice o3 m.tables.length k3,.slice o4 m.mems.length k4,.slice o5 m.globals.length k5,.slice o6 m.exports.length k6,.slice o7 m.start.length k7,.slice o8 m.elems.length k8,.slice o9 m.datas.length k9]) rfl)
 have HC0:=hideR (dCounted (m.imports.length:Int) (w.alloc (.cells #[.slice o0 m.types.length k0,.slice o1 m.imports.length k1,.slice o2 m.funcs.length k2,.slice o3 m.tables.length k3,.slice o4 m.mems.length k4,.slice o5 m.globals.length k5,.slice o6 m.exports.length k6,.slice o7 m.start.length k7,.slice o8 m.elems.length k8,.slice o9 m.datas.length k9] 32)) (by omega) (by omega))
 have HB:=hideR hb
 have HL:=hideR hM.imports
 have HR:=hideR hr
 have hws:(w.alloc (.cells #[.slice o0 m.types.length k0,.slice o1 m.imports.length k1,.slice o2 m.funcs.length k2,.slice o3 m.tables.length k3,.slice o4 m.mems.length k4,.slice o5 m.globals.length k5,.slice o6 m.exports.length k6,.slice o7 m.start.length k7,.slice o8 m.elems.length k8,.slice o9 m.datas.length k9] 32)).heap.size=w.heap.size+1:=by simp
 have HWS:=hideR hws
 clear hM hr hb hws
 generalize hn0:m.types.length=n0 at *
 generalize hn1:m.imports.length=n1 at *
 generalize hn2:m.funcs.length=n2 at *
 generalize hn3:m.tables.length=n3 at *
 generalize hn4:m.mems.length=n4 at *
 generalize hn5:m.globals.length=n5 at *
 generalize hn6:m.exports.length=n6 at *
 generalize hn7:m.start.length=n7 at *
 generalize hn8:m.elems.length=n8 at *
 generalize hn9:m.datas.length=n9 at *
 have HNA:=hideR hn1
 clear hn0 hn1 hn2 hn3 hn4 hn5 hn6 hn7 hn8 hn9
 obtain ⟨u0,hu0⟩:∃u0,Leb.uB (n1:Int)=u0:=⟨_,rfl⟩
 rw [hu0] at HC0
 have HU0:=hideR hu0
 clear hu0
 have kM:=HBX.out.cell 1 _ rfl
 obtain ⟨wa,hwa⟩:∃wa,wa=w.alloc (.cells #[.slice o0 n0 k0,.slice o1 n1 k1,.slice o2 n2 k2,.slice o3 n3 k3,.slice o4 n4 k4,.slice o5 n5 k5,.slice o6 n6 k6,.slice o7 n7 k7,.slice o8 n8 k8,.slice o9 n9 k9] 32):=⟨_,rfl⟩
 rw [<- hwa] at HBX HC0 HB HWS kM
 have HWA:=hideR hwa
 clear hwa
 go_enter Tryz.func64,Tryz.ntmps64
 go_upto_region 1 with fail
 rw [<- HWA.out]
 clear HWA
 go_wp2_with fail
 refine HC0.out.mono ?_
 rintro e w2 ⟨q,ov2,v2,b2,rfl,h2,s2⟩
 have HBM:Hid (Bx w2 w.heap.size 32 #[.slice o0 n0 k0,.slice o1 n1 k1,.slice o2 n2 k2,.slice o3 n3 k3,.slice o4 n4 k4,.slice o5 n5 k5,.slice o6 n6 k6,.slice o7 n7 k7,.slice o8 n8 k8,.slice o9 n9 k9]):=hideR (by unfold Bx;rw [h2.below.block _ HBX.out.lt];exact HBX.out)
 have HNE:Hid (w.heap.size≠q/\some w.heap.size≠v2.ownBlock):=hideR ⟨by have:=h2.base;have:=HWS.out;omega,fun e=>by have:=(h2.own.lt _ e.symm).1;have:=HWS.out;omega⟩
 have HPS2:=hideR (h2.mono HB.out)
 have HST2:=hideR s2
 clear h2 s2 HC0 HBX HB HWS kM
 generalize w.heap.size=bM at HBM HNE ⊢
 go_wp2_with fail
 go_loopw [4] (fun i wr=>∃(j:Nat) (ov3:Bool) (v3:Value) (b3:List Int),j<=n1/\i=.int .i64 j/\Hid (PS w q ov3 v3 b3 wr)/\Hid (St (u0++(m.imports.take j).flatMap impB) ov3 b3)/\Hid (Kept q v2 w2 v3 wr)) (fun i _=>n1-(Lib.intOf i).toNat)
 case atStart=>exact ⟨0,ov2,v2,b2,by omega,rfl,HPS2,hideR (by simpa using HST2.out),hideR (Kept.refl _ _ _)⟩
 case round =>
  clear HPS2 HST2
  obtain ⟨j,ov3,v3,b3,hj,rfl,HPS3,HST3,HKW3⟩:=hrel
  have kM:=(HKW3.out.bx HBM.out HNE.out.1 HNE.out.2).1.cell 1 _ rfl
  by_cases hgo:j<n1
  ·obtain ⟨bR,off1,cap1,hv1,hx1⟩:=Row.some HL.out (by have:=HNA.out;omega)
   injection hv1 with ho1 e11 e12
   subst ho1
   clear e11 e12
   obtain ⟨x,hxk⟩:∃x,m.imports[j]?=some x:=⟨_,List.getElem?_eq_getElem (by have:=HNA.out;omega)⟩
   have hx:=hx1 j x hxk
   have HRX:=hideR (HR.out x (List.mem_of_getElem? hxk))
   have HTK:Hid ((m.imports.take (j+1)).flatMap impB=(m.imports.take j).flatMap impB++impB x):=hideR (fm_take hxk)
   clear hxk hx1
   have H0:=hideR hx.mod
   have H1:=hideR hx.name
   have H2:=hideR hx.type
   clear hx
   have c0:=cell_on HPS3.out.below H0.out
   have c1:=cell_on HPS3.out.below H1.out
   have c2:=cell_on HPS3.out.below H2.out
   have HC:=hideR (dName w q ov3 v3 b3 _ x.mod wr HPS3.out HST3.out (by have:=HRX.out.1;omega))
   go_wp2_with fail
   refine HC.out.mono ?_
   rintro e w4 ⟨ov4,v4,b4,rfl,hh,ss,kk⟩
   have HPS4:=hideR hh
   have HST4:=hideR ss
   have HKW4:=hideR (HKW3.out.trans kk)
   clear hh ss kk HC HPS3 HST3 HKW3 kM c0 c1 c2
   have kM:=(HKW4.out.bx HBM.out HNE.out.1 HNE.out.2).1.cell 1 _ rfl
   have c0:=cell_on HPS4.out.below H0.out
   have c1:=cell_on HPS4.out.below H1.out
   have c2:=cell_on HPS4.out.below H2.out
   have HC:=hideR (dName w q ov4 v4 b4 _ x.name w4 HPS4.out HST4.out (by have:=HRX.out.2.1;omega))
   go_wp2_with fail
   refine HC.out.mono ?_
   rintro e w5 ⟨ov5,v5,b5,rfl,hh,ss,kk⟩
   have HPS5:=hideR hh
   have HST5:=hideR ss
   have HKW5:=hideR (HKW4.out.trans kk)
   clear hh ss kk HC HPS4 HST4 HKW4 kM c0 c1 c2
   have kM:=(HKW5.out.bx HBM.out HNE.out.1 HNE.out.2).1.cell 1 _ rfl
   have c0:=cell_on HPS5.out.below H0.out
   have c1:=cell_on HPS5.out.below H1.out
   have c2:=cell_on HPS5.out.below H2.out
   have HC:=hideR (dByte w q ov5 v5 b5 _ 0 w5 HPS5.out HST5.out)
   go_wp2_with fail
   refine HC.out.mono ?_
   rintro e w6 ⟨ov6,v6,b6,rfl,hh,ss,kk⟩
   have HPS6:=hideR hh
   have HST6:=hideR ss
   have HKW6:=hideR (HKW5.out.trans kk)
   clear hh ss kk HC HPS5 HST5 HKW5 kM c0 c1 c2
   have kM:=(HKW6.out.bx HBM.out HNE.out.1 HNE.out.2).1.cell 1 _ rfl
   have c0:=cell_on HPS6.out.below H0.out
   have c1:=cell_on HPS6.out.below H1.out
   have c2:=cell_on HPS6.out.below H2.out
   have HC:=hideR (dU w q ov6 v6 b6 _ x.type w6 HPS6.out HST6.out (HRX.out.2.2).1 (by have:=(HRX.out.2.2).2;omega))
   go_wp2_with fail
   refine HC.out.mono ?_
   rintro e w7 ⟨ov7,v7,b7,rfl,hh,ss,kk⟩
   have HPS7:=hideR hh
   have HST7:=hideR ss
   have HKW7:=hideR (HKW6.out.trans kk)
   clear hh ss kk HC HPS6 HST6 HKW6 kM c0 c1 c2
   have kM:=(HKW7.out.bx HBM.out HNE.out.1 HNE.out.2).1.cell 1 _ rfl
   have HSF:Hid (St (u0++(m.imports.take (j+1)).flatMap impB) ov7 b7):=hideR (by rw [HTK.out];simpa [one,impB,List.append_assoc] using HST7.out)
   go_wp2
   go_roundw
   case rel=>exact ⟨j+1,ov7,v7,b7,by omega,by go_num,HPS7,HSF,HKW7⟩
   case measure=>simp [Lib.intOf];omega
  ·obtain rfl:n1=j:=by omega
   have HF:Hid (St (lisB impB m.imports) ov3 b3):=hideR (by
    have h1:=HST3.out
    rw [List.take_of_length_le (by have:=HNA.out;omega)] at h1
    unfold lisB;rw [HNA.out,HU0.out];exact h1)
   go_wp2
   go_ret
   exact ⟨_,_,_,_,rfl,HPS3.out,HF.out⟩
end Go.Proofs.YtlcpagiljfpbpaaGreatDoor

