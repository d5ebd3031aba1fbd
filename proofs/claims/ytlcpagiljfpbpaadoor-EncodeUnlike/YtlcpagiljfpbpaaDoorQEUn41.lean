/- Texts that the claim needs. -/
import Derived.Test.YtlcpagiljfpbpaaDoorQEUn14
import Derived.Test.YtlcpagiljfpbpaaDoorQEUn17
import Derived.Test.YtlcpagiljfpbpaaDoorQEUn37
import Derived.Test.YtlcpagiljfpbpaaDoorQEUn39
import Derived.Test.YtlcpagiljfpbpaaDoorQEUn40
import Derived.Test.YtlcpagiljfpbpaaDoorQEUn34
import Derived.Test.YtlcpagiljfpbpaaDoorRows
import Derived.Lib.LaidIn
import Derived.Lib.LaidU8T
import Derived.ProofKit
namespace Go.Proofs.YtlcpagiljfpbpaaDoor
open Go.RowKit Rep Enc
set_option linter.unusedVariables false
namespace Enc
def eM {d:Nat} (m:Mod d):Int:=if chk m=0 then toldE (modB m) else chk m
def sM {d:Nat} (m:Mod d):ByteArray:=if eM m=0 then strOfNums (modB m) else ⟨#[]⟩
theorem encA_two {d:Nat} (m:Mod d):encA m=.tuple #[.string (sM m),.int .i64 (eM m)]:=by
 unfold encA sM eM
 by_cases h:chk m=0
 ·rw [if_pos h,if_pos h,told_eq]
  unfold toldS toldE
  by_cases h2:262144<(modB m).length
  ·rw [if_pos h2,if_pos h2,if_neg (by decide)]
  ·rw [if_neg h2,if_neg h2,if_pos rfl]
 ·rw [if_neg h,if_neg h,if_neg h]
theorem eM_chk {d:Nat} {m:Mod d} (h:eM m=0):chk m=0:=by
 unfold eM at h
 by_cases h2:chk m=0
 ·exact h2
 ·rw [if_neg h2] at h;exact absurd h h2
def UnSays (S1 S2:ByteArray) (E1 E2:Int) (b:Bool):Prop:=(E1=0->E2=0->(S1.toList == S2.toList)=b)/\(E1≠0->S1=⟨#[]⟩)/\(E2≠0->S2=⟨#[]⟩)
theorem un_says {d:Nat} (m k:Mod d):UnSays (sM m) (sM k) (eM m) (eM k) (samM m k):=by
 refine ⟨fun h1 h2=>?_,fun h=>by unfold sM;rw [if_neg h],fun h=>by unfold sM;rw [if_neg h]⟩
 have w1:=wm_of (eM_chk h1)
 have w2:=wm_of (eM_chk h2)
 have e1:sM m=strOfNums (modB m):=by unfold sM;rw [if_pos h1]
 have e2:sM k=strOfNums (modB k):=by unfold sM;rw [if_pos h2]
 cases hs:samM m k with
 | true =>
  have:=samM_eq hs
  rw [this];simp
 | false =>
  cases hb:((sM m).toList == (sM k).toList) with
  | false=>rfl
  | true =>
   have h3:=bs_eq hb
   rw [e1,e2] at h3
   have h4:=modB_in w1 w2 (str_in (bd_modB w1) (bd_modB w2) h3)
   rw [h4,samM_refl] at hs
   cases hs
end Enc
set_option maxRecDepth 100000 in
set_option maxHeartbeats 16000000 in
theorem unlikeC {I:World->Prop} (C:WastC I) (d1:Nat) (v0 v1 v2 v3 v4 v5 v6 v7 v8 v9:Value) (m:Mod d1) (d2:Nat) (u0 u1 u2 u3 u4 u5 u6 u7 u8 u9:Value) (k:Mod d2) (w:World) (hI:I w) (hM:ModAt w d1 v0 v1 v2 v3 v4 v5 v6 v7 v8 v9 m) (hN:NRM m) (hsz:∀x ∈ m.datas,x.bytes.size<=9223372036854775807) (hX:Texts m) (hK:ModAt w d2 u0 u1 u2 u3 u4 u5 u6 u7 u8 u9 k) (hN2:NRM k) (hsz2:∀x ∈ k.datas,x.bytes.size<=9223372036854775807) (hX2:Texts k) :
  Calls Tryd.prog 3 #[.agg #[v0,v1,v2,v3,v4,v5,v6,v7,v8,v9],.agg #[u0,u1,u2,u3,u4,u5,u6,u7,u8,u9]] w fun e w'=>e=.returned (.bool true)/\Below w.heap.size w w':=by
 obtain ⟨o0,k0,rfl⟩:=Row.len hM.types
 obtain ⟨o1,k1,rfl⟩:=Row.len hM.imports
 obtain ⟨o2,k2,rfl⟩:=Row.len hM.funcs
 obtain ⟨o3,k3,rfl⟩:=Row.len hM.tables
 obtain ⟨o4,k4,rfl⟩:=Row.len hM.mems
 obtain ⟨o5,k5,rfl⟩:=Row.len hM.globals
 obtain ⟨o6,k6,rfl⟩:=Row.len hM.exports
 obtain ⟨o7,k7,rfl⟩:=Row.len hM.start
 obtain ⟨o8,k8,rfl⟩:=Row.len hM.elems
 obtain ⟨o9,k9,rfl⟩:=Row.len hM.datas
 obtain ⟨g0,j0,rfl⟩:=Row.len hK.types
 obtain ⟨g1,j1,rfl⟩:=Row.len hK.imports
 obtain ⟨g2,j2,rfl⟩:=Row.len hK.funcs
 obtain ⟨g3,j3,rfl⟩:=Row.len hK.tables
 obtain ⟨g4,j4,rfl⟩:=Row.len hK.mems
 obtain ⟨g5,j5,rfl⟩:=Row.len hK.globals
 obtain ⟨g6,j6,rfl⟩:=Row.len hK.exports
 obtain ⟨g7,j7,rfl⟩:=Row.len hK.start
 obtain ⟨g8,j8,rfl⟩:=Row.len hK.elems
 obtain ⟨g9,j9,rfl⟩:=Row.len hK.datas
 have HLG:=fun (w2:World) (hb:Below w.heap.size w w2)=>hideR (pLarge d1 _ _ _ _ _ _ _ _ _ _ m w2 (hM.on hb) hsz)
 have HLK:=fun (w2:World) (hb:Below w.heap.size w w2)=>hideR (pLarge d2 _ _ _ _ _ _ _ _ _ _ k w2 (hK.on hb) hsz2)
 have HM:=hideR hM
 have HN:=hideR hN
 have HX:=hideR hX
 have HK:=hideR hK
 have HN2:=hideR hN2
 have HX2:=hideR hX2
 have HI:=hideR hI
 clear hM hX hI hsz hN hK hN2 hX2 hsz2
 generalize m.types.length=n0 at *
 generalize m.imports.length=n1 at *
 generalize m.funcs.length=n2 at *
 generalize m.tables.length=n3 at *
 generalize m.mems.length=n4 at *
 generalize m.globals.length=n5 at *
 generalize m.exports.length=n6 at *
 generalize m.start.length=n7 at *
 generalize m.elems.length=n8 at *
 generalize m.datas.length=n9 at *
 generalize k.types.length=l0 at *
 generalize k.imports.length=l1 at *
 generalize k.funcs.length=l2 at *
 generalize k.tables.length=l3 at *
 generalize k.mems.length=l4 at *
 generalize k.globals.length=l5 at *
 generalize k.exports.length=l6 at *
 generalize k.start.length=l7 at *
 generalize k.elems.length=l8 at *
 generalize k.datas.length=l9 at *
 go_enter Tryd.func3,Tryd.ntmps3
 go_upto_region 1 with fail
 obtain ⟨u1,hu1⟩:∃u1,u1=(w.alloc (.cells #[.slice o0 n0 k0,.slice o1 n1 k1,.slice o2 n2 k2,.slice o3 n3 k3,.slice o4 n4 k4,.slice o5 n5 k5,.slice o6 n6 k6,.slice o7 n7 k7,.slice o8 n8 k8,.slice o9 n9 k9] 32)).alloc (.cells #[.slice g0 l0 j0,.slice g1 l1 j1,.slice g2 l2 j2,.slice g3 l3 j3,.slice g4 l4 j4,.slice g5 l5 j5,.slice g6 l6 j6,.slice g7 l7 j7,.slice g8 l8 j8,.slice g9 l9 j9] 32):=⟨_,rfl⟩
 have HB1:Hid (BlkM u1 w.heap.size (.slice o0 n0 k0) (.slice o1 n1 k1) (.slice o2 n2 k2) (.slice o3 n3 k3) (.slice o4 n4 k4) (.slice o5 n5 k5) (.slice o6 n6 k6) (.slice o7 n7 k7) (.slice o8 n8 k8) (.slice o9 n9 k9)):=hideR (by rw [hu1];exact (BlkM.new rfl).on (new_on' _ _))
 have HB2:Hid (BlkM u1 (w.heap.size+1) (.slice g0 l0 j0) (.slice g1 l1 j1) (.slice g2 l2 j2) (.slice g3 l3 j3) (.slice g4 l4 j4) (.slice g5 l5 j5) (.slice g6 l6 j6) (.slice g7 l7 j7) (.slice g8 l8 j8) (.slice g9 l9 j9)):=hideR (by rw [hu1];exact BlkM.new (by simp))
 have HU:Hid (Below w.heap.size w u1):=hideR (by rw [hu1];exact below_go' (new_on' _ _) (new_on' _ _))
 rw [<- hu1]
 clear hu1
 have HP:∀w2,Below u1.heap.size u1 w2->Hid (BlkM w2 w.heap.size (.slice o0 n0 k0) (.slice o1 n1 k1) (.slice o2 n2 k2) (.slice o3 n3 k3) (.slice o4 n4 k4) (.slice o5 n5 k5) (.slice o6 n6 k6) (.slice o7 n7 k7) (.slice o8 n8 k8) (.slice o9 n9 k9)):=fun w2 hb=>hideR (HB1.out.on hb)
 have HQ:∀w2,Below u1.heap.size u1 w2->Hid (BlkM w2 (w.heap.size+1) (.slice g0 l0 j0) (.slice g1 l1 j1) (.slice g2 l2 j2) (.slice g3 l3 j3) (.slice g4 l4 j4) (.slice g5 l5 j5) (.slice g6 l6 j6) (.slice g7 l7 j7) (.slice g8 l8 j8) (.slice g9 l9 j9)):=fun w2 hb=>hideR (HB2.out.on hb)
 have HL1:=HLG u1 HU.out
 have HNX:∀(w2:World) (x:Mod 81),Below u1.heap.size u1 w2->ModAt w2 81 (.slice o0 n0 k0) (.slice o1 n1 k1) (.slice o2 n2 k2) (.slice o3 n3 k3) (.slice o4 n4 k4) (.slice o5 n5 k5) (.slice o6 n6 k6) (.slice o7 n7 k7) (.slice o8 n8 k8) (.slice o9 n9 k9) x->Hid (NRM x):=fun w2 x hb hx=>hideR (NRM_on hx (HM.out.on (below_go' HU.out hb)) HN.out)
 have HNY:∀(w2:World) (x:Mod 81),Below u1.heap.size u1 w2->ModAt w2 81 (.slice g0 l0 j0) (.slice g1 l1 j1) (.slice g2 l2 j2) (.slice g3 l3 j3) (.slice g4 l4 j4) (.slice g5 l5 j5) (.slice g6 l6 j6) (.slice g7 l7 j7) (.slice g8 l8 j8) (.slice g9 l9 j9) x->Hid (NRM x):=fun w2 x hb hx=>hideR (NRM_on hx (HK.out.on (below_go' HU.out hb)) HN2.out)
 have HLK2:∀w2,Below u1.heap.size u1 w2->Hid (Calls Tryd.prog 5 #[.agg #[.slice g0 l0 j0,.slice g1 l1 j1,.slice g2 l2 j2,.slice g3 l3 j3,.slice g4 l4 j4,.slice g5 l5 j5,.slice g6 l6 j6,.slice g7 l7 j7,.slice g8 l8 j8,.slice g9 l9 j9]] w2 (LargeSays (.slice g0 l0 j0) (.slice g1 l1 j1) (.slice g2 l2 j2) (.slice g3 l3 j3) (.slice g4 l4 j4) (.slice g5 l5 j5) (.slice g6 l6 j6) (.slice g7 l7 j7) (.slice g8 l8 j8) (.slice g9 l9 j9) k w2)):=fun w2 hb=>HLK w2 (below_go' HU.out hb)
 clear HLG HLK
 have HKI:∀w2,Below u1.heap.size u1 w2->Hid (I w2):=fun w2 hb=>hideR (C.keep (below_go' HU.out hb) HI.out)
 have HBW:∀w2,Below u1.heap.size u1 w2->Hid (Below w.heap.size w w2):=fun w2 hb=>hideR (below_go' HU.out hb)
 obtain ⟨p2,hp2⟩:∃p2,p2=w.heap.size+1:=⟨_,rfl⟩
 rw [<- hp2] at HQ ⊢
 clear hp2 HB1 HB2
 generalize hp1:w.heap.size=p1 at HP ⊢
 have c0:=(HP u1 (Below.refl _ _)).out.cell 0 _ rfl
 have c1:=(HP u1 (Below.refl _ _)).out.cell 1 _ rfl
 have c2:=(HP u1 (Below.refl _ _)).out.cell 2 _ rfl
 have c3:=(HP u1 (Below.refl _ _)).out.cell 3 _ rfl
 have c4:=(HP u1 (Below.refl _ _)).out.cell 4 _ rfl
 have c5:=(HP u1 (Below.refl _ _)).out.cell 5 _ rfl
 have c6:=(HP u1 (Below.refl _ _)).out.cell 6 _ rfl
 have c7:=(HP u1 (Below.refl _ _)).out.cell 7 _ rfl
 have c8:=(HP u1 (Below.refl _ _)).out.cell 8 _ rfl
 have c9:=(HP u1 (Below.refl _ _)).out.cell 9 _ rfl
 go_wp2_with fail
 refine HL1.out.mono ?_
 rintro e u2 ⟨hb2,hor⟩
 have HB2:=hideR hb2
 rcases hor with rfl|⟨rfl,x,hx,hs,hi1,hi2⟩
 ·clear c0 c1 c2 c3 c4 c5 c6 c7 c8 c9 hb2
  go_wp2_with fail
  refine (pWake C _ (HKI _ HB2.out).out).mono ?_
  rintro e u3 ⟨rfl,hb3⟩
  have HB3:=HBW _ (below_go' HB2.out hb3)
  clear hb3
  go_wp2
  go_ret
  exact ⟨rfl,hp1 ▸ HB3.out⟩
 have HNR:=HNX u2 x hb2 hx
 have HMX:=hideR hx
 have HSM:=hideR hs
 have HTX:Hid (Texts x):=hideR ⟨by rw [hi1];exact HX.out.imports,by rw [hi2];exact HX.out.exports⟩
 have HSZ:Hid (∀y ∈ x.datas,y.bytes.size<=300000):=hideR (fun y hy=>(HSM.out.datas y hy).2)
 have HL2:=HLK2 u2 hb2
 clear hx hs hi1 hi2 hb2 HL1 HM HX HN HNX HLK2 c0 c1 c2 c3 c4 c5 c6 c7 c8 c9
 have c0:=(HQ u2 HB2.out).out.cell 0 _ rfl
 have c1:=(HQ u2 HB2.out).out.cell 1 _ rfl
 have c2:=(HQ u2 HB2.out).out.cell 2 _ rfl
 have c3:=(HQ u2 HB2.out).out.cell 3 _ rfl
 have c4:=(HQ u2 HB2.out).out.cell 4 _ rfl
 have c5:=(HQ u2 HB2.out).out.cell 5 _ rfl
 have c6:=(HQ u2 HB2.out).out.cell 6 _ rfl
 have c7:=(HQ u2 HB2.out).out.cell 7 _ rfl
 have c8:=(HQ u2 HB2.out).out.cell 8 _ rfl
 have c9:=(HQ u2 HB2.out).out.cell 9 _ rfl
 go_wp2_with fail
 refine HL2.out.mono ?_
 rintro e u3 ⟨hb3,hor⟩
 have HB3:=hideR (below_go' HB2.out hb3)
 have HB23:=hideR hb3
 rcases hor with rfl|⟨rfl,y,hy,hs,hi1,hi2⟩
 ·clear c0 c1 c2 c3 c4 c5 c6 c7 c8 c9 hb3
  go_wp2_with fail
  refine (pWake C _ (HKI _ HB3.out).out).mono ?_
  rintro e u4 ⟨rfl,hb4⟩
  have HB4:=HBW _ (below_go' HB3.out hb4)
  clear hb4
  go_wp2
  go_ret
  exact ⟨rfl,hp1 ▸ HB4.out⟩
 have HNR2:=HNY u3 y HB3.out hy
 have HMY:=hideR hy
 have HSM2:=hideR hs
 have HTY:Hid (Texts y):=hideR ⟨by rw [hi1];exact HX2.out.imports,by rw [hi2];exact HX2.out.exports⟩
 have HSZ2:Hid (∀z ∈ y.datas,z.bytes.size<=300000):=hideR (fun z hz=>(HSM2.out.datas z hz).2)
 have HMX3:=hideR (HMX.out.on HB23.out)
 have HJ:=hideR (un_says x y)
 clear hy hs hi1 hi2 hb3 HL2 HK HX2 HN2 HNY HMX HB23 c0 c1 c2 c3 c4 c5 c6 c7 c8 c9
 have hA1:=encA_two x
 have hA2:=encA_two y
 obtain ⟨S1,hS1⟩:∃S1,S1=sM x:=⟨_,rfl⟩
 obtain ⟨S2,hS2⟩:∃S2,S2=sM y:=⟨_,rfl⟩
 obtain ⟨E1,hE1⟩:∃E1,E1=eM x:=⟨_,rfl⟩
 obtain ⟨E2,hE2⟩:∃E2,E2=eM y:=⟨_,rfl⟩
 obtain ⟨bq,hbq⟩:∃bq,bq=samM x y:=⟨_,rfl⟩
 rw [<- hS1,<- hE1] at hA1
 rw [<- hS2,<- hE2] at hA2
 rw [<- hS1,<- hS2,<- hE1,<- hE2,<- hbq] at HJ
 have HA1:=hideR hA1
 have HA2:=hideR hA2
 have HBQ:=hideR hbq
 clear hA1 hA2 hS1 hS2 hE1 hE2 hbq
 have c0:=(HP u3 HB3.out).out.cell 0 _ rfl
 have c1:=(HP u3 HB3.out).out.cell 1 _ rfl
 have c2:=(HP u3 HB3.out).out.cell 2 _ rfl
 have c3:=(HP u3 HB3.out).out.cell 3 _ rfl
 have c4:=(HP u3 HB3.out).out.cell 4 _ rfl
 have c5:=(HP u3 HB3.out).out.cell 5 _ rfl
 have c6:=(HP u3 HB3.out).out.cell 6 _ rfl
 have c7:=(HP u3 HB3.out).out.cell 7 _ rfl
 have c8:=(HP u3 HB3.out).out.cell 8 _ rfl
 have c9:=(HP u3 HB3.out).out.cell 9 _ rfl
 go_wp2_with fail
 refine (refCopy 81 _ _ _ _ _ _ _ _ _ _ x u3 HMX3.out HSM.out).mono ?_
 rintro e u4 ⟨a0,a1,a2,a3,a4,a5,a6,a7,a8,a9,rfl,hm4,hb4,hc3,hc4⟩
 clear c0 c1 c2 c3 c4 c5 c6 c7 c8 c9
 have HB4:=hideR (below_go' HB3.out hb4)
 have HMX4:=hideR (HMX3.out.on hb4)
 have HMY4:=hideR (HMY.out.on hb4)
 have HE1:=hideR (pEncode C 81 _ _ _ _ _ _ _ _ _ _ x u4 (HKI _ HB4.out).out hm4 ⟨by decide,fun z hz=>by have:=HSZ.out z hz;omega,HTX.out,hc3,hc4⟩ (fun h=>wr_of h HNR.out))
 rw [HA1.out] at HE1
 clear hm4 hb4 hc3 hc4 HMX3 HMY
 go_wp2_with fail
 refine HE1.out.mono ?_
 rintro e u5 ⟨rfl,hb5⟩
 have HB5:=hideR (below_go' HB4.out hb5)
 have HMX5:=hideR (HMX4.out.on hb5)
 have HMY5:=hideR (HMY4.out.on hb5)
 clear hb5 HE1 HMX4 HMY4 HA1 HB4
 have c0:=(HQ u5 HB5.out).out.cell 0 _ rfl
 have c1:=(HQ u5 HB5.out).out.cell 1 _ rfl
 have c2:=(HQ u5 HB5.out).out.cell 2 _ rfl
 have c3:=(HQ u5 HB5.out).out.cell 3 _ rfl
 have c4:=(HQ u5 HB5.out).out.cell 4 _ rfl
 have c5:=(HQ u5 HB5.out).out.cell 5 _ rfl
 have c6:=(HQ u5 HB5.out).out.cell 6 _ rfl
 have c7:=(HQ u5 HB5.out).out.cell 7 _ rfl
 have c8:=(HQ u5 HB5.out).out.cell 8 _ rfl
 have c9:=(HQ u5 HB5.out).out.cell 9 _ rfl
 go_wp2_with fail
 refine (refCopy 81 _ _ _ _ _ _ _ _ _ _ y u5 HMY5.out HSM2.out).mono ?_
 rintro e u6 ⟨b0,b1,b2,b3,b4,b5,b6,b7,b8,b9,rfl,hm6,hb6,hc3,hc4⟩
 clear c0 c1 c2 c3 c4 c5 c6 c7 c8 c9
 have HB6:=hideR (below_go' HB5.out hb6)
 have HMX6:=hideR (HMX5.out.on hb6)
 have HMY6:=hideR (HMY5.out.on hb6)
 have HE2:=hideR (pEncode C 81 _ _ _ _ _ _ _ _ _ _ y u6 (HKI _ HB6.out).out hm6 ⟨by decide,fun z hz=>by have:=HSZ2.out z hz;omega,HTY.out,hc3,hc4⟩ (fun h=>wr_of h HNR2.out))
 rw [HA2.out] at HE2
 clear hm6 hb6 hc3 hc4 HMX5 HMY5 HB5
 go_wp2_with fail
 refine HE2.out.mono ?_
 rintro e u7 ⟨rfl,hb7⟩
 have HB7:=hideR (below_go' HB6.out hb7)
 have HMX7:=hideR (HMX6.out.on hb7)
 have HMY7:=hideR (HMY6.out.on hb7)
 have HW7:=hideR (pWake C u7 (HKI _ HB7.out).out)
 clear hb7 HE2 HMX6 HMY6 HA2 HB6
 by_cases h0:E1=0/\E2=0
 ·obtain ⟨rfl,rfl⟩:=h0
  have hq:=HJ.out.1 rfl rfl
  have HS:=hideR (refSame 81 _ _ _ _ _ _ _ _ _ _ _ _ _ _ _ _ _ _ _ _ x y u7 HMX7.out HMY7.out)
  rw [<- HBQ.out] at HS
  clear HJ HW7 HMX7 HMY7
  have c0:=(HP u7 HB7.out).out.cell 0 _ rfl
  have c1:=(HP u7 HB7.out).out.cell 1 _ rfl
  have c2:=(HP u7 HB7.out).out.cell 2 _ rfl
  have c3:=(HP u7 HB7.out).out.cell 3 _ rfl
  have c4:=(HP u7 HB7.out).out.cell 4 _ rfl
  have c5:=(HP u7 HB7.out).out.cell 5 _ rfl
  have c6:=(HP u7 HB7.out).out.cell 6 _ rfl
  have c7:=(HP u7 HB7.out).out.cell 7 _ rfl
  have c8:=(HP u7 HB7.out).out.cell 8 _ rfl
  have c9:=(HP u7 HB7.out).out.cell 9 _ rfl
  have d0:=(HQ u7 HB7.out).out.cell 0 _ rfl
  have d1:=(HQ u7 HB7.out).out.cell 1 _ rfl
  have d2:=(HQ u7 HB7.out).out.cell 2 _ rfl
  have d3:=(HQ u7 HB7.out).out.cell 3 _ rfl
  have d4:=(HQ u7 HB7.out).out.cell 4 _ rfl
  have d5:=(HQ u7 HB7.out).out.cell 5 _ rfl
  have d6:=(HQ u7 HB7.out).out.cell 6 _ rfl
  have d7:=(HQ u7 HB7.out).out.cell 7 _ rfl
  have d8:=(HQ u7 HB7.out).out.cell 8 _ rfl
  have d9:=(HQ u7 HB7.out).out.cell 9 _ rfl
  go_wp2_with fail
  refine HS.out.mono ?_
  rintro e u8 ⟨rfl,hb8⟩
  have HB8:=hideR (below_go' HB7.out hb8)
  have HW:=hideR (pWake C u8 (HKI _ HB8.out).out)
  clear hb8 HS c0 d0 c1 d1 c2 d2 c3 d3 c4 d4 c5 d5 c6 d6 c7 d7 c8 d8 c9 d9
  go_wp2_with fail
  refine HW.out.mono ?_
  rintro e u9 ⟨rfl,hb9⟩
  have HB9:=HBW _ (below_go' HB8.out hb9)
  clear hb9 HW
  go_wp2
  go_ret
  exact ⟨rfl,hp1 ▸ HB9.out⟩
 ·clear HMX7 HMY7
  by_cases h1:E1=0
  ·have h2:E2≠0:=fun e=>h0 ⟨h1,e⟩
   have e2:=HJ.out.2.2 h2
   subst h1 e2
   have b1:(E2 != 0)=true:=by simp [h2]
   have b2:(E2 == 0)=false:=by simp [h2]
   clear HJ h0
   go_wp2_with fail
   refine HW7.out.mono ?_
   rintro e u8 ⟨rfl,hb8⟩
   have HB8:=HBW _ (below_go' HB7.out hb8)
   clear hb8 HW7
   go_wp2
   go_ret
   exact ⟨rfl,hp1 ▸ HB8.out⟩
  ·have e1:=HJ.out.2.1 h1
   subst e1
   have b1:(E1 != 0)=true:=by simp [h1]
   have b2:(E1 == 0)=false:=by simp [h1]
   by_cases h2:E2=0
   ·subst h2
    clear HJ h0
    go_wp2_with fail
    refine HW7.out.mono ?_
    rintro e u8 ⟨rfl,hb8⟩
    have HB8:=HBW _ (below_go' HB7.out hb8)
    clear hb8 HW7
    go_wp2
    go_ret
    exact ⟨rfl,hp1 ▸ HB8.out⟩
   ·have e2:=HJ.out.2.2 h2
    subst e2
    have b3:(E2 != 0)=true:=by simp [h2]
    have b4:(E2 == 0)=false:=by simp [h2]
    clear HJ h0
    go_wp2_with fail
    refine HW7.out.mono ?_
    rintro e u8 ⟨rfl,hb8⟩
    have HB8:=HBW _ (below_go' HB7.out hb8)
    clear hb8 HW7
    go_wp2
    go_ret
    exact ⟨rfl,hp1 ▸ HB8.out⟩
end Go.Proofs.YtlcpagiljfpbpaaDoor

namespace Go.Proofs.YtlcpagiljfpbpaaDoor
open Go.RowKit Rep
set_option linter.unusedVariables false
theorem preck0 (op:Int) (w:World) (h:op<=68):Calls Tryd.prog 73 #[.int .i64 op] w fun e w'=>e=.returned (.bool false)/\w'=w:=by
 have q167:(op == 167)=false:=by rw [beq_eq_false_iff_ne];omega
 have q172:(op == 172)=false:=by rw [beq_eq_false_iff_ne];omega
 have q173:(op == 173)=false:=by rw [beq_eq_false_iff_ne];omega
 have a69:decide ((69:Int)<=op)=false:=decide_eq_false (by omega)
 have a103:decide ((103:Int)<=op)=false:=decide_eq_false (by omega)
 clear h
 go_enter Tryd.func73,Tryd.ntmps73
 go_wp2
 go_ret
 exact ⟨rfl,rfl⟩
theorem preck1 (op:Int) (w:World) (h:69<=op/\op<=90):Calls Tryd.prog 73 #[.int .i64 op] w fun e w'=>e=.returned (.bool true)/\w'=w:=by
 have q167:(op == 167)=false:=by rw [beq_eq_false_iff_ne];omega
 have q172:(op == 172)=false:=by rw [beq_eq_false_iff_ne];omega
 have q173:(op == 173)=false:=by rw [beq_eq_false_iff_ne];omega
 have a69:decide ((69:Int)<=op)=true:=decide_eq_true (by omega)
 have b90:decide (op<=(90:Int))=true:=decide_eq_true (by omega)
 have a103:decide ((103:Int)<=op)=false:=decide_eq_false (by omega)
 clear h
 go_enter Tryd.func73,Tryd.ntmps73
 go_wp2
 go_ret
 exact ⟨rfl,rfl⟩
theorem preck2 (op:Int) (w:World) (h:91<=op/\op<=102):Calls Tryd.prog 73 #[.int .i64 op] w fun e w'=>e=.returned (.bool false)/\w'=w:=by
 have q167:(op == 167)=false:=by rw [beq_eq_false_iff_ne];omega
 have q172:(op == 172)=false:=by rw [beq_eq_false_iff_ne];omega
 have q173:(op == 173)=false:=by rw [beq_eq_false_iff_ne];omega
 have a69:decide ((69:Int)<=op)=true:=decide_eq_true (by omega)
 have b90:decide (op<=(90:Int))=false:=decide_eq_false (by omega)
 have a103:decide ((103:Int)<=op)=false:=decide_eq_false (by omega)
 clear h
 go_enter Tryd.func73,Tryd.ntmps73
 go_wp2
 go_ret
 exact ⟨rfl,rfl⟩
theorem preck3 (op:Int) (w:World) (h:103<=op/\op<=138):Calls Tryd.prog 73 #[.int .i64 op] w fun e w'=>e=.returned (.bool true)/\w'=w:=by
 have q167:(op == 167)=false:=by rw [beq_eq_false_iff_ne];omega
 have q172:(op == 172)=false:=by rw [beq_eq_false_iff_ne];omega
 have q173:(op == 173)=false:=by rw [beq_eq_false_iff_ne];omega
 have a69:decide ((69:Int)<=op)=true:=decide_eq_true (by omega)
 have b90:decide (op<=(90:Int))=false:=decide_eq_false (by omega)
 have a103:decide ((103:Int)<=op)=true:=decide_eq_true (by omega)
 have b138:decide (op<=(138:Int))=true:=decide_eq_true (by omega)
 clear h
 go_enter Tryd.func73,Tryd.ntmps73
 go_wp2
 go_ret
 exact ⟨rfl,rfl⟩
theorem preck4 (op:Int) (w:World) (h:139<=op/\op<=166):Calls Tryd.prog 73 #[.int .i64 op] w fun e w'=>e=.returned (.bool false)/\w'=w:=by
 have q167:(op == 167)=false:=by rw [beq_eq_false_iff_ne];omega
 have q172:(op == 172)=false:=by rw [beq_eq_false_iff_ne];omega
 have q173:(op == 173)=false:=by rw [beq_eq_false_iff_ne];omega
 have a69:decide ((69:Int)<=op)=true:=decide_eq_true (by omega)
 have b90:decide (op<=(90:Int))=false:=decide_eq_false (by omega)
 have a103:decide ((103:Int)<=op)=true:=decide_eq_true (by omega)
 have b138:decide (op<=(138:Int))=false:=decide_eq_false (by omega)
 clear h
 go_enter Tryd.func73,Tryd.ntmps73
 go_wp2
 go_ret
 exact ⟨rfl,rfl⟩
theorem preck5 (op:Int) (w:World) (h:167<=op/\op<=167):Calls Tryd.prog 73 #[.int .i64 op] w fun e w'=>e=.returned (.bool true)/\w'=w:=by
 obtain rfl:op=167:=by omega
 clear h
 go_enter Tryd.func73,Tryd.ntmps73
 go_wp2
 go_ret
 exact ⟨rfl,rfl⟩
theorem preck6 (op:Int) (w:World) (h:168<=op/\op<=171):Calls Tryd.prog 73 #[.int .i64 op] w fun e w'=>e=.returned (.bool false)/\w'=w:=by
 have q167:(op == 167)=false:=by rw [beq_eq_false_iff_ne];omega
 have q172:(op == 172)=false:=by rw [beq_eq_false_iff_ne];omega
 have q173:(op == 173)=false:=by rw [beq_eq_false_iff_ne];omega
 have a69:decide ((69:Int)<=op)=true:=decide_eq_true (by omega)
 have b90:decide (op<=(90:Int))=false:=decide_eq_false (by omega)
 have a103:decide ((103:Int)<=op)=true:=decide_eq_true (by omega)
 have b138:decide (op<=(138:Int))=false:=decide_eq_false (by omega)
 clear h
 go_enter Tryd.func73,Tryd.ntmps73
 go_wp2
 go_ret
 exact ⟨rfl,rfl⟩
theorem preck7 (op:Int) (w:World) (h:172<=op/\op<=172):Calls Tryd.prog 73 #[.int .i64 op] w fun e w'=>e=.returned (.bool true)/\w'=w:=by
 obtain rfl:op=172:=by omega
 clear h
 go_enter Tryd.func73,Tryd.ntmps73
 go_wp2
 go_ret
 exact ⟨rfl,rfl⟩
theorem preck8 (op:Int) (w:World) (h:173<=op/\op<=173):Calls Tryd.prog 73 #[.int .i64 op] w fun e w'=>e=.returned (.bool true)/\w'=w:=by
 obtain rfl:op=173:=by omega
 clear h
 go_enter Tryd.func73,Tryd.ntmps73
 go_wp2
 go_ret
 exact ⟨rfl,rfl⟩
theorem preck9 (op:Int) (w:World) (h:174<=op):Calls Tryd.prog 73 #[.int .i64 op] w fun e w'=>e=.returned (.bool false)/\w'=w:=by
 have q167:(op == 167)=false:=by rw [beq_eq_false_iff_ne];omega
 have q172:(op == 172)=false:=by rw [beq_eq_false_iff_ne];omega
 have q173:(op == 173)=false:=by rw [beq_eq_false_iff_ne];omega
 have a69:decide ((69:Int)<=op)=true:=decide_eq_true (by omega)
 have b90:decide (op<=(90:Int))=false:=decide_eq_false (by omega)
 have a103:decide ((103:Int)<=op)=true:=decide_eq_true (by omega)
 have b138:decide (op<=(138:Int))=false:=decide_eq_false (by omega)
 clear h
 go_enter Tryd.func73,Tryd.ntmps73
 go_wp2
 go_ret
 exact ⟨rfl,rfl⟩
theorem preckons (op:Int) (w:World):Calls Tryd.prog 73 #[.int .i64 op] w fun e w'=>e=.returned (.bool (rkn op))/\w'=w:=by
 by_cases c0:op<=68
 ·rw [show rkn op=false from decide_eq_false (by omega)];exact preck0 op w (by omega)
 by_cases c1:op<=90
 ·rw [show rkn op=true from decide_eq_true (by omega)];exact preck1 op w (by omega)
 by_cases c2:op<=102
 ·rw [show rkn op=false from decide_eq_false (by omega)];exact preck2 op w (by omega)
 by_cases c3:op<=138
 ·rw [show rkn op=true from decide_eq_true (by omega)];exact preck3 op w (by omega)
 by_cases c4:op<=166
 ·rw [show rkn op=false from decide_eq_false (by omega)];exact preck4 op w (by omega)
 by_cases c5:op<=167
 ·rw [show rkn op=true from decide_eq_true (by omega)];exact preck5 op w (by omega)
 by_cases c6:op<=171
 ·rw [show rkn op=false from decide_eq_false (by omega)];exact preck6 op w (by omega)
 by_cases c7:op<=172
 ·rw [show rkn op=true from decide_eq_true (by omega)];exact preck7 op w (by omega)
 by_cases c8:op<=173
 ·rw [show rkn op=true from decide_eq_true (by omega)];exact preck8 op w (by omega)
 rw [show rkn op=false from decide_eq_false (by omega)];exact preck9 op w (by omega)
theorem reckC:ReckC UtfI:=⟨utfI_on,fun op w _=>(preckons op w).mono fun e w' ⟨h1,h2⟩=>⟨h1,by rw [h2];exact Below.refl _ _⟩⟩
theorem theC:WastC UtfI:=wastC reckC fun _ h=>h
end Go.Proofs.YtlcpagiljfpbpaaDoor

namespace Go.Proofs.YtlcpagiljfpbpaaDoor
open Go.RowKit Go.Shelf Go.Lib Rep
theorem own:ownKnob Tryd.prog.godebug=none:=by kernel_rfl
theorem acceptIs:(Rows.laid_unicode_utf8_acceptRanges:DataW Unit)=Lib.acceptData:=by kernel_rfl
theorem firstIs:Rows.laid_unicode_utf8_first=Lib.firstData:=by kernel_rfl
theorem tabsOf {W : World} (hL : laidMetH Tryd.prog [("unicode/utf8.acceptRanges", Rows.laid_unicode_utf8_acceptRanges), ("unicode/utf8.first", Rows.laid_unicode_utf8_first)] W) : UtfI W := by
 rw [acceptIs,firstIs] at hL
 have hM : laidMet Tryd.prog [("unicode/utf8.acceptRanges", Lib.acceptData), ("unicode/utf8.first", Lib.firstData)] W := hL
 exact utf8Tabs_of_readsT (U8Types.of196 Tryd.laysValid) ⟨by kernel_rfl,by kernel_rfl,by kernel_rfl,by kernel_rfl,by kernel_rfl,by kernel_rfl,by kernel_rfl⟩ (Lib.laidMet.reads hM (.tail _ (.head _))) (Lib.laidMet.reads hM (.head _))
noncomputable def laidWorld (os:Os):World :=
 let w0:=World.holding Tryd.prog os ⟨#[],#[],[]⟩
 let put (h:Array Obj) (g:Nat) (cs:Array Value):Array Obj:=h.modify g fun
  | .cells _ t frozen=>.cells cs t frozen
  | o=>o
 let h1:=put w0.heap 0 (Lib.firstTab.map fun z=>Value.int .u8 z).toArray
 let h2:=put h1 1 ((List.range 16).flatMap fun i=>[Value.int .u8 (Lib.accLo i),Value.int .u8 (Lib.accHi i)]).toArray
 { w0 with heap:=h2 }
theorem laid_met (os : Os) (args : Array Value) : laidMet Tryd.prog [("unicode/utf8.acceptRanges", Rows.laid_unicode_utf8_acceptRanges), ("unicode/utf8.first", Rows.laid_unicode_utf8_first)] ((laidWorld os).forCall (fun _ _ => 0) ⟨#[], args, []⟩).memory := by
 rw [acceptIs,firstIs]
 exact (LaidIn.of_run (l := [("unicode/utf8.acceptRanges", Lib.acceptData), ("unicode/utf8.first", Lib.firstData)]) [1, 0] 8 (by kernel_rfl) (by kernel_rfl) (by kernel_rfl) (by kernel_rfl)).met
end Go.Proofs.YtlcpagiljfpbpaaDoor

